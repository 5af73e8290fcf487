import PyProof.Rows.All
import Wide.All
import OpenK.AllK
import Wide.FinOn
import HandS.ForMost
import HandS.EndBits
import HandS.WordsExc
import HandS.Wide
import HandS.WideBits
import HandS.IsInst
import KE.GoesMore
import KE.GoesEnum
import HandS.Flow
import HandS.SortKw
import KE.DataMinMax
import HandS.FltList
import KE.KDictCopyH
import HandS.Text
import PyProof.EnumMake
import HandS.SortInts
import HandS.TupLe
import HandS.ForExc
import HandS.TryMany
import HandS.TryOnly
import HandS.MakeKwOnly
import PyProof.StrLawsRepr
import HandS.Style
import HandS.Codes
import HandS.RevRange
import HandS.TupAny
import HandS.Conv
import HandS.Walk
import HandS.SetFor
import PySem.Challenge.RW_everymatch_k11_whole_documents_walked
set_option Elab.async false
set_option linter.all false
set_option maxRecDepth 100000
set_option maxHeartbeats 4000000
/-! ## Defs that run where no repr is under way, and repr of plain data -/
namespace GX
open PySem PySem.Spec PyProof.Rows L2

/-- as FnOk, for callers of whom no repr is under way -/
structure GOk (P : Program) (w : World) (K : PySem.W.Frag) (mg : Str → Option Value) (base : Heap)
    (cx : CXT) (k : Nat) (f : Addr) (fd : FuncData) (ps : List Str) (sp : Sp) : Prop where
  many : ∀ vs H Q E, sp vs H Q E → vs.length = ps.length
  goes : ∀ (A : Around) (outer : List Env) (s : Shared) (H : Hp) (args : Args) (us : List Value) (vs : List V)
    (Q : VK) (E : XK), A.guards = some [] → Room k A → Env0 P w K mg base A outer s H →
    BindsTo s fd args (ps.zip us) → Vals vs us → sp vs H Q E →
    codeAny (model P w) A (.call (.ref f) args) (CR cx outer P w H s Q E) s

section
variable {P : Program} {w : World} {K : PySem.W.Frag} {mg : Str → Option Value} {base : Heap}

theorem GOk.of {cx : CXT} {k : Nat} {f : Addr} {fd : FuncData} {ps : List Str} {sp : Sp}
    (F : FnOk P w K mg base cx k f fd ps sp) : GOk P w K mg base cx k f fd ps sp :=
  ⟨F.len, fun A outer s H args us vs Q E _ hr => F.run A outer s H args us vs Q E hr⟩

/-- the rule for a def whose body may call repr -/
theorem gok {cx : CXT} {x qual : Str} {st : Stmt} {f : Addr} {fd : FuncData} {N ps : List Str} {k : Nat} {sp : Sp}
    (F : Fun K x qual st f fd) (S : FnScope N ps (defScope st))
    (many : ∀ vs H Q E, sp vs H Q E → vs.length = ps.length)
    (body : ∀ (cdv : Value) (A : Around) (outer : List Env) (s : Shared) (H : Hp) (vs : List V) (Q : VK) (E : XK),
      (A.deeper (envOfC qual (defScope st) s.heap.objs.size f cdv)).guards = some [] →
      Room k (A.deeper (envOfC qual (defScope st) s.heap.objs.size f cdv)) → sp vs H Q E →
      ∃ t, PSs (cxOf cx P w K mg base N qual (defScope st) f cdv A outer s H E) (defBody st) t ∧
        t { nx := fun _ H' => Q .non H', rt := Q } (start N vs) H) :
    GOk P w K mg base cx (k + 1) f fd ps sp := by
  obtain ⟨oc, od, kV, doc, pm, an, cdv, ct, osl, rfl, lk, hcd⟩ := F.ex
  refine ⟨many, fun A outer s H args us vs Q E hgd room e0 bnd rel want => ?_⟩
  have n1 := many _ _ _ _ want
  have inK : K.In s.heap := e0.mod.kin.keeps fun b o q => (e0.bs b o q).1
  have free : s.heap.NoLimit := e0.mod.nolimit.keeps fun b o q => (e0.bs b o q).1
  have kinds : ∀ y ∈ ps.zip us, (defScope st).names.lookup y.1 = some .local ∨
      ((defScope st).names.lookup y.1 = some .cell ∧
        ((cellsFrom (s.heap.objs.size + 1) (defScope st).names []).lookup y.1).isSome = true) := by
    rintro ⟨n, v⟩ hy
    rcases S.par n (List.of_mem_zip hy).1 with q | q
    · exact Or.inl q
    · exact Or.inr ⟨q, PySem.W.cellsFrom_some _ _ _ (.inl q)⟩
  refine codeAny_call_function room.depth (inK _ _ lk) rfl S.co S.gen rfl
    (PySem.W.codeRec_of inK hcd) (bnd _ _ _ _ ?_)
  refine wpAny_newFunctionEnv_cells S.kind kinds fun env same s1 x => ?_
  subst same
  refine ⟨free.keeps x.toInCall.keep, codeAny_func ?_⟩
  obtain ⟨t, ht, hq⟩ := body cdv A outer s H vs Q E hgd (room.deeper _) want
  have inv := inv_start (E := E) (CX := cx) S room.hd e0 n1 rel x
  refine wpAny_mono (ht.run [] s1 (start N vs) H _ inv hq) (fun fl s' hs => ?_) fun e s' hs => hs
  cases fl with
  | ret u =>
    obtain ⟨v, σ', H', J, rv, q⟩ := hs
    exact ⟨v, H', J.os, J.bare, J.base, J.hok, rv, q⟩
  | next =>
    obtain ⟨σ', H', J, q⟩ := hs
    exact ⟨V.non, H', J.os, J.bare, J.base, J.hok, rfl, q⟩
  | brk =>
    obtain ⟨_, _, _, q⟩ := hs
    exact False.elim q
  | cont =>
    obtain ⟨_, _, _, q⟩ := hs
    exact False.elim q

/-- .. of which no exception leaves -/
theorem gok0 {x qual : Str} {st : Stmt} {f : Addr} {fd : FuncData} {N ps : List Str} {k : Nat} {sp : Sp}
    (F : Fun K x qual st f fd) (S : FnScope N ps (defScope st))
    (many : ∀ vs H Q E, sp vs H Q E → vs.length = ps.length)
    (body : ∀ (cdv : Value) (A : Around) (outer : List Env) (s : Shared) (H : Hp) (vs : List V) (Q : VK) (E : XK),
      (A.deeper (envOfC qual (defScope st) s.heap.objs.size f cdv)).guards = some [] →
      Room k (A.deeper (envOfC qual (defScope st) s.heap.objs.size f cdv)) → sp vs H Q E →
      ∃ t, PSs (cxOf CX0 P w K mg base N qual (defScope st) f cdv A outer s H E).nox (defBody st) t ∧
        t { nx := fun _ H' => Q .non H', rt := Q } (start N vs) H) :
    GOk P w K mg base CX0 (k + 1) f fd ps sp :=
  gok F S many fun cdv A outer s H vs Q E hgd room want =>
    let ⟨t, h, q⟩ := body cdv A outer s H vs Q E hgd room want
    ⟨t, h.nox, q⟩
end

section
variable {X : Cx}
/-- a call of such a def -/
theorem ge_call {cx : CXT} {k : Nat} {f : Addr} {fd : FuncData} {ps : List Str} {sp : Sp} {dvs : List V} {ds : List Value}
    {E : XK} {x : Str} {p pos : Pos} {e : Expr} {es : List Expr} {t : TA}
    (F : GOk X.prog X.w X.K X.mg X.base cx k f fd ps sp) (hgd : X.A.guards = some []) (room : Room k X.A)
    (hg : Gl X x) (hm : X.mg x = some (.ref f)) (hk : PySem.W.keepIn X.K (.ref f) = true)
    (hb : Binds X.K fd ps ds) (hd : Vals dvs ds) (hx : Passes cx X E) (ha : PA X (e :: es) t)
    (hdb : (x == ("__debug__" : Str)) = false := by decide)
    (he : starEach (e :: es) X.env = (false, eval e X.env) :: starEach es X.env := by rfl)
    (hpl : (backTo pos (starEach es X.env)).any (·.1) = false := by rfl) :
    PE X (.Call (.Name x p) (e :: es) [] pos) (tCall sp dvs E t) := by
  refine ⟨fun pins s σ H Q I h => wpAny_Call_Name_kw (ld_glob I hg hm ?_ hdb)⟩
  refine PySem.W.callWith_K (h₀ := X.base) I.ok.mod.kin hk
    (thn (ha.run pos pins s σ H _ I h) fun us s1 got => ?_) he hpl
  obtain ⟨vs, H1, I1, rel, want⟩ := got
  refine ⟨I1.kIn, ?_⟩
  have rel2 : Vals (vs ++ dvs) (us ++ ds) := rel.append hd
  have n1 : (us ++ ds).length = ps.length := by
    rw [← rel2.length]
    exact F.many _ _ _ _ want
  refine wpAny_call (codeAny_mono (F.goes X.A X.stack s1 H1 ⟨us, []⟩ (us ++ ds) (vs ++ dvs) Q E hgd room
    I1.env0 (hb s1 us I1.kIn n1) rel2 want) fun r s' hq => ?_)
  match r, hq with
  | .error e, hq => exact hx pins σ H1 s1 e s' I1 hq
  | .ok (.ret u), hq => exact I1.after hq
end

/-! ### repr -/
mutual
def most : PyData → Nat
  | .none => 4
  | .bool _ => 5
  | .int _ => 2000
  | .str x => (reprText x).length
  | .list xs => mostAll xs + 4
  | .tuple xs => mostAll xs + 4
  | .dict _ => 20000000
def mostAll : List PyData → Nat
  | [] => 0
  | x :: xs => most x + 2 + mostAll xs
end
theorem join_most (ts : List Str) : (Str.join ", " ts).length ≤ (ts.map fun t => t.length + 2).sum := by
  cases ts with
  | nil => exact Nat.zero_le _
  | cons t ts =>
    have h := join_length_add (t :: ts) (by simp)
    have e : ∀ l : List Str, (l.map fun t => t.length + 2).sum = piled l := by
      intro l
      induction l with
      | nil => rfl
      | cons a l ih => rw [List.map_cons, List.sum_cons, ih, piled_cons]
    rw [e]
    omega
mutual
theorem shown_most : ∀ d : PyData, d.showable = true → d.hasDict = false → d.shown.length ≤ most d
  | .none, _, _ => by rw [PyData.shown_none]; decide +kernel
  | .bool b, _, _ => by rw [PyData.shown_bool]; cases b <;> decide +kernel
  | .int i, h, _ => by
    rw [PyData.shown_int]
    have q : i.natAbs.log2 < 1920 := by simpa [PyData.showable] using h
    show _ ≤ 2000
    have z := int_text_length_le (k := 1920) (by decide) q
    rw [PySem.ofString_length]
    omega
  | .str x, _, _ => by rw [PyData.shown_str]; exact Nat.le_refl _
  | .list xs, h, g => by
    have q := shownAll_most xs (by simpa [PyData.showable] using h) (by simpa [PyData.hasDict] using g)
    rw [PyData.shown_list, strLen_append, strLen_append]
    have e1 : ((("[" : String) : Str)).length = 1 := rfl
    have e2 : ((("]" : String) : Str)).length = 1 := rfl
    have := join_most (PyData.shownAll xs)
    rw [e1, e2]
    show _ ≤ mostAll xs + 4
    omega
  | .tuple xs, h, g => by
    have q := shownAll_most xs (by simpa [PyData.showable] using h) (by simpa [PyData.hasDict] using g)
    rw [PyData.shown_tuple, strLen_append, strLen_append]
    have e1 : ((("(" : String) : Str)).length = 1 := rfl
    have e2 : (((if xs.length == 1 then ",)" else ")" : String) : Str)).length ≤ 2 := by split <;> decide +kernel
    have := join_most (PyData.shownAll xs)
    rw [e1]
    show _ ≤ mostAll xs + 4
    omega
  | .dict _, _, g => by simp [PyData.hasDict] at g
theorem shownAll_most : ∀ xs : List PyData, PyData.showableAll xs = true → PyData.hasDictAll xs = false →
    ((PyData.shownAll xs).map fun t => t.length + 2).sum ≤ mostAll xs
  | [], _, _ => by rw [PyData.shownAll_nil]; exact Nat.le_refl _
  | x :: xs, h, g => by
    have h' : x.showable = true ∧ PyData.showableAll xs = true := by simpa [PyData.showableAll] using h
    have g' : x.hasDict = false ∧ PyData.hasDictAll xs = false := by simpa [PyData.hasDictAll] using g
    have a := shown_most x h'.1 g'.1
    have b := shownAll_most xs h'.2 g'.2
    rw [PyData.shownAll_cons, List.map_cons, List.sum_cons]
    show _ ≤ most x + 2 + mostAll xs
    omega
end
/-- what repr asks of data -/
structure Told (K : PySem.W.Frag) (H : Hp) (v : V) (d : PyData) : Prop where
  at_ : Dp K H v d
  show_ : d.showable = true
  plain : d.hasDict = false
  deep : d.depth ≤ 20
  short : most d ≤ 16000000
def rRepr (K : PySem.W.Frag) : List V → Hp → VK → Prop := fun xs H Q => ∃ v d, xs = [v] ∧ Told K H v d ∧ Q (.str d.shown) H
theorem call_repr {X : Cx} {k : Nat} (hgd : X.A.guards = some []) (room : Room k X.A) :
    CallR X (.builtin "repr") (rRepr X.K) := by
  intro pins s σ H xs us Q I r h
  obtain ⟨v, d, rfl, T, q⟩ := h
  have big : d.shown.length ≤ sizeLine := by
    have a := shown_most d T.show_ T.plain
    have b := T.short
    rw [sizeLine_eq]
    omega
  obtain ⟨u, rfl, ru⟩ := vals1 r
  obtain ⟨as, rd⟩ := Dp.reads I d v u T.at_ ru
  have un := room.units
  have dp := T.deep
  cases v with
  | ref a =>
    obtain rfl : u = Value.ref a := ru
    refine repr_of_reads' rd T.show_ (PyData.noDict_hsm T.plain) hgd (by omega) (fun _ _ e => e) (fun h' t tk keep => ?_) big
    exact ⟨.str d.shown, H, I.kept (t' := tk) keep, ⟨t, rfl⟩, q⟩
  | non =>
    obtain rfl : u = Value.none := ru
    cases rd
    rw [PyData.shown_none] at q
    exact PySem.P.repr_of_none ⟨.str _, H, I.tok _, ⟨_, rfl⟩, q⟩
  | bl b =>
    obtain rfl : u = Value.bool b := ru
    cases rd
    rw [PyData.shown_bool] at q
    refine PySem.P.repr_of_bool ⟨.str (if b then "True" else "False" : Str), H, I.tok _, ⟨s.toks, ?_⟩, q⟩
    cases b <;> rfl
  | int i =>
    obtain ⟨t, rfl⟩ := ru
    cases rd
    have z : i.natAbs.log2 < 1920 := by simpa [PyData.showable] using T.show_
    rw [PyData.shown_int] at q
    exact PySem.P.repr_of_int z ⟨.str _, H, I.tok _, ⟨_, rfl⟩, q⟩
  | str x =>
    obtain ⟨t, rfl⟩ := ru
    cases rd
    rw [PyData.shown_str] at q big
    exact PySem.P.repr_of_str ⟨.str _, H, I.tok _, ⟨_, rfl⟩, q⟩ big
  | byt b =>
    obtain ⟨t, rfl⟩ := ru
    cases rd
  | flt b =>
    obtain ⟨t, rfl⟩ := ru
    cases rd
  | ty n =>
    obtain rfl : u = Value.type n := ru
    cases rd

/-! ### wide ints -/
structure Wd (n : Nat) (x : Int) : Prop where
  lt : x.natAbs < 2 ^ n
theorem Wd.mono {m n : Nat} {x : Int} (h : Wd m x) (le : m ≤ n) : Wd n x := ⟨Nat.lt_of_lt_of_le h.lt (Nat.pow_le_pow_right (by decide) le)⟩
theorem Wd.mul {a b : Nat} {x y : Int} (h : Wd a x) (g : Wd b y) : Wd (a + b) (x * y) := ⟨wide_lt h.lt g.lt⟩
theorem Wd.ok {a b : Nat} {x y : Int} (h : Wd a x) (g : Wd b y) (le : a + b ≤ 134217728) : CMulX x y := mulx_ok h.lt g.lt le
theorem Wd.add {a b n : Nat} {x y : Int} (h : Wd a x) (g : Wd b y) (ha : a ≤ n) (hb : b ≤ n) : Wd (n + 1) (x + y) := by
  have p := (h.mono ha).lt
  have q := (g.mono hb).lt
  refine ⟨?_⟩
  rw [Nat.pow_succ]
  omega
theorem Wd.sub {a b n : Nat} {x y : Int} (h : Wd a x) (g : Wd b y) (ha : a ≤ n) (hb : b ≤ n) : Wd (n + 1) (x - y) := by
  have p := (h.mono ha).lt
  have q := (g.mono hb).lt
  refine ⟨?_⟩
  rw [Nat.pow_succ]
  omega
theorem Wd.div {n : Nat} {x m : Int} (h : Wd n x) (h0 : 0 ≤ x) (hm : 0 < m) : Wd n (x / m) := by
  have a : 0 ≤ x / m := Int.ediv_nonneg h0 (Int.le_of_lt hm)
  have b : x / m ≤ x := Int.ediv_le_self m h0
  have c := h.lt
  exact ⟨by omega⟩
theorem Wd.within {n : Nat} {x y : Int} (h : Wd n y) (h0 : 0 ≤ x) (le : x ≤ y) : Wd n x := by
  have c := h.lt
  exact ⟨by omega⟩
theorem Wd.cdiv {n : Nat} {x m : Int} (h : Wd n m) (hm : 0 < m) (h0 : 0 < n) (le : n ≤ 9000) : CDivW x m := wide_div hm h.lt h0 le
theorem Wd.bits {n : Nat} {x : Int} (h : Builtin.Int.intBits x ≤ n) : Wd (n + 1) x := by
  refine ⟨?_⟩
  unfold Builtin.Int.intBits at h
  split at h
  · rename_i z
    have z' : x.natAbs = 0 := by
      first
        | exact of_decide_eq_true z
        | (have := eq_of_beq z; omega)
        | omega
    rw [z']
    exact Nat.two_pow_pos _
  · have q : x.natAbs < 2 ^ (x.natAbs.log2 + 1) := Nat.lt_log2_self
    exact Nat.lt_of_lt_of_le q (Nat.pow_le_pow_right (by decide) (by omega))
section
variable {X : Cx}
def rTup (K : PySem.W.Frag) : List V → Hp → VK → Prop := fun xs H Q => ∃ p ys, xs = [.ref p] ∧
  ((SqL K H p ys ∧ ∀ l, H l = none → Q (.ref l) (upd H l (.tup ys))) ∨ (SqT K H p ys ∧ Q (.ref p) H))
theorem call_tup : CallR X (.type "tuple") (rTup X.K) := call_tuple_of
/-- int of an int -/
theorem call_intI : CallR X (.type "int") (fun xs H Q => ∃ i, xs = [.int i] ∧ Q (.int i) H) := by
  intro pins s σ H xs us Q I r h
  exact call_int1 pins s σ H xs us Q I r (.inl h)
end
/-! ### defs, built-ins -/
theorem b_int : bootBuiltins "int" = some (.type "int") := PyProof.Rows.boot_int
theorem b_len : bootBuiltins "len" = some (.builtin "len") := PySem.boot_len
theorem b_sum : bootBuiltins "sum" = some (.builtin "sum") := PyProof.Rows.boot_sum
theorem b_max : bootBuiltins "max" = some (.builtin "max") := PyProof.Rows.boot_max
theorem b_min : bootBuiltins "min" = some (.builtin "min") := PyProof.Rows.boot_min
theorem b_tuple : bootBuiltins "tuple" = some (.type "tuple") := PyProof.Rows.boot_tuple
theorem b_list : bootBuiltins "list" = some (.type "list") := PyProof.Rows.boot_list
theorem b_repr : bootBuiltins "repr" = some (.builtin "repr") := PyProof.Rows.boot_repr
theorem b_isinstance : bootBuiltins "isinstance" = some (.builtin "isinstance") := PyProof.Rows.boot_isinstance
theorem b_str : bootBuiltins "str" = some (.type "str") := PyProof.Rows.boot_str
theorem b_bool : bootBuiltins "bool" = some (.type "bool") := PyProof.Rows.boot_bool
theorem b_all : bootBuiltins "all" = some (.builtin "all") := PyProof.Rows.boot_all
theorem b_set : bootBuiltins "set" = some (.type "set") := PyProof.Rows.boot_set
theorem b_sorted : bootBuiltins "sorted" = some (.builtin "sorted") := PyProof.Rows.boot_sorted
structure Bl (mg : Str → Option Value) : Prop where
  int : mg "int" = none
  len : mg "len" = none
  sum : mg "sum" = none
  max : mg "max" = none
  min : mg "min" = none
  range : mg "range" = none
  tuple : mg "tuple" = none
  list : mg "list" = none
  repr : mg "repr" = none
  isinstance : mg "isinstance" = none
  enumerate : mg "enumerate" = none
  reversed : mg "reversed" = none
  sorted : mg "sorted" = none
  str : mg "str" = none
  all : mg "all" = none
  zip : mg "zip" = none
  set : mg "set" = none
  bool : mg "bool" = none
/-- a def of the text, where it stands -/
structure Dn (K : PySem.W.Frag) (mg : Str → Option Value) (x : Str) (st : Stmt) (ps : List Str) where
  f : Addr
  fd : FuncData
  F : Fun K x x st f fd
  g : mg x = some (.ref f)
  b : Binds K fd ps []
section
variable {X : Cx} {x : Str} {st : Stmt} {ps : List Str} {p pos : Pos} {e : Expr} {es : List Expr} {t : TA} {k j : Nat} {sp : Sp}
theorem de_call (D : Dn X.K X.mg x st ps) (G : FnOk X.prog X.w X.K X.mg X.base CX0 k D.f D.fd ps sp) (room : Room j X.A)
    (ha : PA X (e :: es) t) (le : k ≤ j := by decide) (hg : Gl X x := by rfl) (hdb : (x == ("__debug__" : Str)) = false := by decide)
    (he : starEach (e :: es) X.env = (false, eval e X.env) :: starEach es X.env := by rfl)
    (hpl : (backTo pos (starEach es X.env)).any (·.1) = false := by rfl) :
    PE X (.Call (.Name x p) (e :: es) [] pos) (tCall sp [] E0 t) :=
  pe_call G (room.mono le) hg D.g D.F.kp D.b .nil pass0 ha hdb he hpl
theorem de_callG (D : Dn X.K X.mg x st ps) (G : GOk X.prog X.w X.K X.mg X.base CX0 k D.f D.fd ps sp) (hgd : X.A.guards = some []) (room : Room j X.A)
    (ha : PA X (e :: es) t) (le : k ≤ j := by decide) (hg : Gl X x := by rfl) (hdb : (x == ("__debug__" : Str)) = false := by decide)
    (he : starEach (e :: es) X.env = (false, eval e X.env) :: starEach es X.env := by rfl)
    (hpl : (backTo pos (starEach es X.env)).any (·.1) = false := by rfl) :
    PE X (.Call (.Name x p) (e :: es) [] pos) (tCall sp [] E0 t) :=
  ge_call G hgd (room.mono le) hg D.g D.F.kp D.b .nil pass0 ha hdb he hpl
end
/-! ### any plain object -/
inductive Any (K : PySem.W.Frag) (H : Hp) : V → String → Prop
  | non : Any K H .non "NoneType"
  | bl (b : Bool) : Any K H (.bl b) "bool"
  | int (i : Int) : Any K H (.int i) "int"
  | str (z : Str) : Any K H (.str z) "str"
  | lst {a : Addr} {xs : List V} (e : H a = some (.lst xs)) : Any K H (.ref a) "list"
  | tup {a : Addr} {xs : List V} (e : SqT K H a xs) : Any K H (.ref a) "tuple"
  | dct {a : Addr} {kvs : List (Key × V)} (e : H a = some (.dK kvs)) : Any K H (.ref a) "dict"
  | dctT {a : Addr} {kvs : List (List Key × V)} (e : H a = some (.dT kvs)) : Any K H (.ref a) "dict"
theorem Any.ty {K : PySem.W.Frag} {H : Hp} {x : V} {T : String} (h : Any K H x T) : TyX K H x (.type T) := by
  cases h with
  | non => exact .base .non
  | bl b => exact .base (.bl b)
  | int i => exact .base (.int i)
  | str z => exact .base (.str z)
  | lst e => exact .base (.lst e)
  | tup e =>
    rcases e with (e | ⟨o, e⟩) | ⟨o, its, n, e, c, _⟩
    · exact .base (.tup e)
    · exact .fTuple e
    · exact .kTuple e c
  | dct e => exact .base (.dK e)
  | dctT e => exact .base (.dT e)
theorem Any.kit {K : PySem.W.Frag} {H : Hp} {x : V} {T : String} (h : Any K H x T) :
    PySem.W.kitOne K (.type T) (.type "int") = some (T == "int" || T == "bool") ∧ PySem.W.kitOne K (.type T) (.type "bool") = some (T == "bool") ∧
    PySem.W.kitOne K (.type T) (.type "str") = some (T == "str") ∧ PySem.W.kitOne K (.type T) (.type "tuple") = some (T == "tuple") := by
  cases h <;> exact ⟨kit_ty (by decide +kernel), kit_ty (by decide +kernel), kit_ty (by decide +kernel), kit_ty (by decide +kernel)⟩
/-! ### cuts -/
theorem cutV_to (xs : List V) (k : Nat) : cutV xs none (some (k : Int)) = xs.take k := by
  unfold cutV
  rw [HT.sIx_none, HT.sIx_nat, List.drop_zero, Nat.sub_zero]
  by_cases h : k ≤ xs.length
  · rw [Nat.min_eq_left h]
  · rw [Nat.min_eq_right (by omega), List.take_of_length_le (Nat.le_refl _), List.take_of_length_le (by omega)]
theorem cutV_from (xs : List V) (k : Nat) : cutV xs (some (k : Int)) none = xs.drop k := by
  unfold cutV
  rw [HT.sIx_none, HT.sIx_nat]
  by_cases h : k ≤ xs.length
  · rw [Nat.min_eq_left h, List.take_of_length_le (by rw [List.length_drop]; omega)]
  · rw [Nat.min_eq_right (by omega), List.drop_of_length_le (Nat.le_refl _), List.drop_of_length_le (by omega)]
    simp
theorem cutV_mid (xs : List V) (a b : Nat) : cutV xs (some (a : Int)) (some (b : Int)) = (xs.drop a).take (b - a) := by
  unfold cutV
  rw [HT.sIx_nat, HT.sIx_nat]
  by_cases h : a ≤ xs.length
  · rw [Nat.min_eq_left h]
    by_cases g : b ≤ xs.length
    · rw [Nat.min_eq_left g]
    · rw [Nat.min_eq_right (by omega), List.take_of_length_le (by rw [List.length_drop]; omega), List.take_of_length_le (by rw [List.length_drop]; omega)]
  · rw [Nat.min_eq_right (by omega : xs.length ≤ a), List.drop_of_length_le (Nat.le_refl _), List.drop_of_length_le (by omega)]
    simp

/-! ### the end of a law's row -/
theorem call_top {P : Program} {w : World} {K : PySem.W.Frag} {mg mb : Str → Option Value} {cx : CXT} {k : Nat} {fa a : Addr}
    {fd : FuncData} {x : Str} {sp : Sp} {s1 : Shared} {us : List Value} {ns : List Int}
    (inK : K.In s1.heap) (hns : s1.heap.Ns mainGlobals mg) (hb : s1.heap.Ns builtinsNs mb)
    (hbb : ∀ x : Str, x ≠ "__name__" → mb x = bootBuiltins x) (free : s1.heap.NoLimit) (hg : s1.gens = #[])
    (ha : s1.heap.get? a = some { cls := .type "list", data := .seq us.toArray }) (hi : IntsAre us ns)
    (hl : ns.length ≤ sizeLine) (room : Room k callerA)
    (F : ∀ base : Heap, K.In base → base.Ns mainGlobals mg → GOk P w K mg base cx k fa fd [x] sp)
    (bind : ∀ (s : Shared) (u : Value), BindsTo s fd ⟨[u], []⟩ [(x, u)])
    (want : ∀ H : Hp, Only H → SqL K H a (ns.map V.int) → sp [.ref a] H (fun v _ => v = .bl true) fun _ _ _ => False)
    (quiet : ∀ H e s', cx [] H s1 (fun _ _ _ => False) e s' → False) :
    codeAny (model P w) callerA (.call (.ref fa) ⟨[.ref a], []⟩)
      (fun r s' => r = .ok (.ret (.bool true)) ∧ OldK s1.heap s'.heap ∧ s'.os = s1.os ∧ AllBare s'.gens) s1 := by
  have rv := vals_ints hi
  have lenV := hi.length
  have core : ∀ H : Hp, Only H → SqL K H a (ns.map V.int) → HOk P w H s1.heap → (∀ b, H b ≠ none → b = a) →
      (H a ≠ none → K.lookup a = none) → codeAny (model P w) callerA (.call (.ref fa) ⟨[.ref a], []⟩)
        (fun r s' => r = .ok (.ret (.bool true)) ∧ OldK s1.heap s'.heap ∧ s'.os = s1.os ∧ AllBare s'.gens) s1 := by
    intro H only sq hok one offK
    have same : ∀ {b : Addr} {u : HO}, H b = some u → b = a := fun q => one _ (by rw [q]; simp)
    have under : ∀ {b : Addr} {o : Obj}, s1.heap.get? b = some o → H b = none → (hidT s1.heap H).get? b = some o :=
      fun e n => hidT_get e n
    have dicts : ∀ {b : Addr} {o : Obj} {es : Array DictEntry} {ep : Nat}, s1.heap.get? b = some o →
        o.data = .dict es ep → H b = none := by
      intro b o es ep e d
      cases q : H b with
      | none => rfl
      | some u =>
        have z := same q
        subst z
        rw [ha] at e
        cases e
        exact nomatch d
    have spaces : ∀ {b : Addr} {m : Str → Option Value}, s1.heap.Ns b m → (hidT s1.heap H).Ns b m :=
      fun {b m} ⟨o, es, ep, e, d, r⟩ => ⟨o, es, ep, under e (dicts e d), d, r⟩
    have inB : K.In (hidT s1.heap H) := by
      intro b o e
      refine under (inK b o e) ?_
      cases q : H b with
      | none => rfl
      | some u =>
        have z := same q
        subst z
        rw [offK (by rw [q]; simp)] at e
        cases e
    have mod : Mod K mg (hidT s1.heap H) :=
      ⟨inB, spaces hns, ⟨mb, spaces hb, hbb⟩, let ⟨mc, h1, h2⟩ := free; ⟨mc, spaces h1, h2⟩⟩
    have e0 : Env0 P w K mg (hidT s1.heap H) callerA [] s1 H :=
      { frames := rfl, mod := mod, bs := fun b o e => of_hidT e, bsz := Nat.le_of_eq (hidT_size _ _), funs := trivial,
        frf := fun b hb => absurd (show b ∈ ([] : List Addr) from hb) (by simp), hok := hok, bare := .of_eq hg }
    refine codeAny_mono ((F _ inB (spaces hns)).goes callerA [] s1 H ⟨[.ref a], []⟩ [.ref a] [.ref a] _ _ rfl room e0
      (bind s1 (.ref a)) (.cons rfl .nil) (want H only sq)) fun r s' h => ?_
    match r, h with
    | .error e, h => exact (quiet H e s' h).elim
    | .ok (.ret u), h =>
      obtain ⟨v, H', os, bare, un, hok', rel, q⟩ := h
      have q' : v = .bl true := q
      subst q'
      obtain rfl : u = Value.bool true := rel
      refine ⟨rfl, OldK.of_keep fun b o e => ?_, os, bare⟩
      cases q : H b with
      | none => exact un.keep b o e q (by intro z; exact absurd (show b ∈ ([] : List Addr) from z) (by simp)) (by simp)
      | some u =>
        rcases only b with z | ⟨ob, xs, z⟩
        · rw [q] at z
          cases z
        · have z2 := un.frzs b ob _ z
          obtain ⟨e1, _⟩ := hok b _ z
          obtain ⟨e2, _⟩ := hok' b _ z2
          rw [e] at e1
          cases e1
          exact e2
  cases hk : K.lookup a with
  | some o =>
    have e := inK a o hk
    rw [ha] at e
    cases e
    refine core (fun _ => none) (fun _ => .inl rfl) (.inr ⟨_, us.toArray, _, hk, rfl, rfl, rfl, ?_, ?_⟩) ?_ ?_ fun z => absurd rfl z
    · rw [List.size_toArray, lenV]
      exact hl
    · simpa using rv
    · intro b u z
      exact nomatch (show (none : Option HO) = some u from z)
    · exact fun b z => absurd rfl z
  | none =>
    let o : Obj := { cls := .type "list", data := .seq us.toArray }
    refine core (fun b => if b = a then some (.frz o (.lst (ns.map V.int))) else none) (fun b => ?_)
      (.inl (.inr ⟨o, if_pos rfl⟩)) (fun b u z => ?_) (fun b z => ?_) fun _ => hk
    · by_cases hb : b = a
      · exact .inr ⟨_, _, if_pos hb⟩
      · exact .inl (if_neg hb)
    · by_cases hb : b = a
      · have z' := (if_pos hb).symm.trans z
        cases z'
        subst hb
        exact ⟨ha, by rw [List.length_map]; exact hl, us, _, rv, ha⟩
      · have z' := (if_neg hb).symm.trans z
        cases z'
    · by_cases hb : b = a
      · exact hb
      · exact absurd (if_neg hb) z

theorem walk_top {l : PySem.W.OpenLaw} {n k : Nat} {q : Program} {loose : List Str} {XP : (Str → Option Value) → Heap → Prop}
    {YP : World → Heap → Prop} {d : DefRec} {K : Params → PySem.W.Frag} {sp : World → Sp} {x : Str}
    (hn : l.most = some n) (hn2 : n ≤ sizeLine) (hdf : d.params.defaults = []) (room : Room k callerA)
    (hY : ∀ (w : World) (h : Heap), YP w h → (K w.params).In h)
    (F : ∀ (w : World) (mg : Str → Option Value) (fa : Addr) (h : Heap), (K w.params).In h → h.Ns mainGlobals mg →
      mg d.name = some (.ref fa) → ∃ fd : FuncData, (∀ (s : Shared) (u : Value), BindsTo s fd ⟨[u], []⟩ [(x, u)]) ∧
        ∀ base : Heap, (K w.params).In base → base.Ns mainGlobals mg →
          GOk l.prog w (K w.params) mg base CX0 k fa fd [x] (sp w))
    (want : ∀ (w : World) (H : Hp) (a : Addr) (ns : List Int), ns.length ≤ n → (∀ z ∈ ns, Builtin.Int.intBits z ≤ 1048576) →
      Only H → SqL (K w.params) H a (ns.map V.int) → sp w [.ref a] H (fun v _ => v = .bl true) fun _ _ _ => False) :
    PySem.W.WalkO q loose XP YP l.row.toRowW d [] (fun f vs => PySem.call f vs) := by
  refine Att.attach_callB hn hdf fun w s₀ s₁ mg mb fa o pm cd doc a vs ns G Y ho hd hcd hmg hobj hints hlen hbits hg => ?_
  obtain ⟨fd, bind, hF⟩ := F w mg fa _ (hY w _ Y) G.T.g hmg
  exact call_top (hY w _ Y) G.T.g G.T.b G.T.builtins G.T.nolimit hg hobj hints (Nat.le_trans hlen hn2) room hF bind
    (fun H only sq => want w H a ns hlen hbits only sq) fun H e s' h => h
end GX
/-! ## for i, x in enumerate(t), t a tuple; del xs[a:b] -/
namespace GX
open PySem PySem.Spec PyProof.Rows L2

/-! ### enumerate of a tuple -/
theorem enum_newT (t : Addr) (items : Array Value) :
    Meets (Builtin.«enumerate.__new__» ⟨[.type "enumerate", .ref t], []⟩) (fun _ R s => s.heap.IsTuple t items ∧
      R (.ok (.ret (.ref (s.heap.push { cls := .type "tuple_iterator", data := .fields #[.ref t, .int 0 0] }).objs.size)))
        { s with heap := ((s.heap.push { cls := .type "tuple_iterator", data := .fields #[.ref t, .int 0 0] }).push
            { cls := .type "enumerate", data := .fields #[.none, .bool false, .ref s.heap.objs.size, rawInt 0, .none, .none] }) }) :=
  .of_wp fun prog w A R s h => by
    obtain ⟨hp, g, d, tk, os⟩ := s
    obtain ⟨ht, h⟩ := h
    have hsub := sub_enumerate
    have hT : Heap.IsTuple (Shared.heap ⟨hp, g, d, tk, os⟩) t items := ht
    wp_walk
    refine wpAny_stack_any fun st => wpAny_pure ?_
    split
    · rename_i c _ _ _ _ _
      cases (c == Value.type "enumerate")
      · wp_walk using wpAny_pyIter_tuple hT
        exact ⟨_, rfl, h⟩
      · wp_walk using wpAny_pyIter_tuple hT
        exact ⟨_, rfl, h⟩
    · wp_walk using wpAny_pyIter_tuple hT
      exact ⟨_, rfl, h⟩

theorem call_enumT {prog : Program} {w : World} {A : Around} {E : Value → Shared → Prop} {s : Shared}
    {t : Addr} {items : Array Value} {Q : Value → Shared → Prop} (hT : s.heap.IsTuple t items)
    (h : ∀ h', IsEnum h' (s.heap.objs.size + 1) s.heap.objs.size 0 .none → h'.IsTupleIter s.heap.objs.size t 0 →
      h'.objs.size = s.heap.objs.size + 2 → (∀ b o, s.heap.get? b = some o → h'.get? b = some o) →
      Q (.ref (s.heap.objs.size + 1)) { s with heap := h' }) :
    wpAny (model prog w) A (call (.type "enumerate") [.ref t]) Q E s := by
  refine callType_new F.called_enumerate (by decide) (F.typeCall_enumerate_1 _) (F.newCall_enumerate_1 _)
    (fun obj => F.args_object_init_2 obj _) F.entry_enumerate_new (enum_newT t items) ⟨hT, ?_⟩
  let o : Obj := { cls := .type "tuple_iterator", data := .fields #[.ref t, .int 0 0] }
  let e : Obj := { cls := .type "enumerate", data := .fields #[.none, .bool false, .ref s.heap.objs.size, rawInt 0, .none, .none] }
  have size1 : (s.heap.push o).objs.size = s.heap.objs.size + 1 := Heap.size_push ..
  show _ ∧ _
  rw [size1]
  have made : IsEnum ((s.heap.push o).push e) (s.heap.objs.size + 1) s.heap.objs.size 0 .none := by
    have z := Heap.get?_push_size (s.heap.push o) (o := e) rfl
    rw [size1] at z
    exact z
  refine ⟨⟨_, made, rfl⟩, h _ made ⟨_, Heap.get?_push_of_some _ (Heap.get?_push_size _ rfl), rfl, rfl⟩ ?_ ?_⟩
  · rw [Heap.size_push, size1]
  · exact fun b o x => Heap.get?_push_of_some _ (Heap.get?_push_of_some _ x)

/-- the tuple at a as it stands at each turn, each item in a new pair -/
def ItT (K : PySem.W.Frag) (a : Addr) : It :=
  ⟨fun i H => ∃ (xs : List V) (x : V), SqT K H a xs ∧ xs[i]? = some x,
   fun i H v H' => ∃ T x, v = .ref T ∧ H T = none ∧ H' = upd H T (.tup [.int (i : Nat), x]) ∧ ∀ xs, SqT K H a xs → xs[i]? = some x,
   fun i H => ∃ xs : List V, SqT K H a xs ∧ xs.length ≤ i⟩

theorem turn_enumT {P : Program} {w : World} {K : PySem.W.Frag} {elts : List Expr} {kk : Nat} {tpos : Pos} (a e it : Addr) :
    Turn P w K (.Tuple elts kk tpos) (ItT K a) [e, it] e
      (fun i h => (∃ old, IsEnum h e it ((i : Nat) : Int) old) ∧ h.IsTupleIter it a i ∧ e ≠ it ∧ e ≠ a ∧ a ≠ it) where
  mem := by simp
  obj := fun i h st b hb => by
    obtain ⟨⟨old, he⟩, ⟨o, ho, hc, hd⟩, _⟩ := st
    rcases (show b = e ∨ b = it by simpa using hb) with z | z
    · rw [z]; exact ⟨_, he, fun v q => nomatch q⟩
    · rw [z]; exact ⟨o, ho, fun v q => by rw [hd] at q; cases q⟩
  keep := fun i h h' st k =>
    let ⟨⟨old, he⟩, hi, n1, n2, n3⟩ := st
    ⟨⟨old, k e (by simp) _ he⟩, hi.at fun o q => k it (by simp) o q, n1, n2, n3⟩
  item := by
    intro X hP hw hK hc i pins s σ H E I hf st hg
    subst hP hw hK
    obtain ⟨⟨old, he⟩, hit, n1, n2, n3⟩ := st
    obtain ⟨xs, x, hq, hx⟩ := hg
    obtain ⟨its, rv, tp, hz⟩ := I.tuple hq
    obtain ⟨u, hu, ru⟩ := rv.get hx
    have elt : e < s.heap.objs.size := Heap.lt_size he
    have ilt : it < s.heap.objs.size := by obtain ⟨_, q, _⟩ := hit; exact Heap.lt_size q
    have some_u : its.toArray[i]? = some u := by simpa using hu
    have small : i < its.toArray.size := by
      obtain ⟨q, _⟩ := Array.getElem?_eq_some_iff.mp some_u
      exact q
    have hH : X.A.in1.handled = none := I.ok.hd hc
    refine wpAny_pyNext_enum_itemD (Draws.tuple hH it a n3 its.toArray) he ⟨hit, tp⟩ small n1 ?_ fun y h' tk hy ho hst hT hsz hk => ?_
    · intro z
      rcases (show e = it ∨ e = a by simpa using z) with z | z
      · exact n1 z
      · exact n2 z
    have hy' : y = u := by
      rw [some_u] at hy
      exact (Option.some.inj hy).symm
    subst hy'
    refine ⟨_, rfl, wpAny_letOwnedTupleGo_enum (s := { s with heap := h', toks := tk + 1 }) ho fun h'' he' sb => ?_⟩
    have hT2 : h''.get? s.heap.objs.size = some { cls := .type "tuple", data := .seq #[.int i tk, y] } :=
      (sb.2 _ (Nat.ne_of_gt elt)).trans hT
    have new : ObjOk X.prog X.w (upd H s.heap.objs.size (.tup [.int (i : Nat), x])) h'' s.heap.objs.size (.tup [.int (i : Nat), x]) :=
      ⟨by show 2 ≤ sizeLine; decide, [.int i tk, y], .cons ⟨_, rfl⟩ (.cons ru .nil), ⟨_, hT2, rfl, _, rfl⟩⟩
    have I1 : Inv X pins σ (upd H s.heap.objs.size (.tup [.int (i : Nat), x])) { s with heap := h'', toks := tk + 1 } := by
      refine I.turnedNew (ch := [e, it]) (fun b ob hb q => ?_) hf (Nat.le_refl _) new
      have b1 : b ≠ e := fun z => hb (by simp [z])
      have b2 : b ≠ it := fun z => hb (by simp [z])
      exact (sb.2 b b1).trans (hk b ob b1 b2 q)
    refine ⟨.ref s.heap.objs.size, _, I1, rfl, ⟨_, x, rfl, I.hok.fresh (Nat.le_refl _), rfl, fun ys hy => ?_⟩, ⟨⟨y, ?_⟩, ?_, n1, n2, n3⟩, fun b hb => ?_⟩
    · rw [I.tuple_inj hy hq]
      exact hx
    · have e1 : ((i + 1 : Nat) : Int) = (i : Int) + 1 := by omega
      rw [e1]
      exact he'
    · exact hst.1.at fun o q => (sb.2 it (Ne.symm n1)).trans q
    · have lt : b < s.heap.objs.size := by
        rcases (show b = e ∨ b = it by simpa using hb) with z | z
        · rw [z]; exact elt
        · rw [z]; exact ilt
      rw [upd_ne (Nat.ne_of_lt lt)]
      exact (hf b hb).1
  done := by
    intro X hP hw hK hc i pins s σ H E I hf st hg
    subst hP hw hK
    obtain ⟨⟨old, he⟩, hit, n1, n2, n3⟩ := st
    obtain ⟨xs, hq, hx⟩ := hg
    obtain ⟨its, rv, tp, hz⟩ := I.tuple hq
    obtain ⟨f0, f1, f2, f3, f4, f5⟩ := hf it (by simp)
    have len := rv.length
    have hT : s.TypeIs (.ref e) "enumerate" := ⟨_, he, rfl⟩
    have hH : X.A.in1.handled = none := I.ok.hd hc
    unfold pyNext
    refine wpAny_bind (wpAny_attempt (wpAny_callSpecial?_slot (name := Str.ofString "__next__") hT F.slot_enumerate_next
      (wpAny_call_entry F.slot_enumerate_next hT F.entry_enumerate_next ?_ (F.args_enumerate_next_1 _))))
    show wpAny _ _ (field (.ref e) 2 >>= _) _ _ _
    refine wpAny_bind (wpAny_field he rfl (x := .ref it) rfl ?_)
    refine wpAny_bind (wpAny_nextOf_tuple_end hH hit tp (by simp; omega) fun h' x eb hx' => ?_)
    obtain ⟨o, ho, hcl⟩ := hx'
    refine wpAny_bind (wpAny_isInstance (T := "StopIteration") (b := true) ⟨o, ho, hcl⟩ isSubtype_stop ?_)
    exact wpAny_pure ⟨rfl, I.turned (t' := s.toks) (fun b o hb q => eb b o hb q) f0 f1 f3 f4 f5⟩
  self := fun A i s Q E st h => let ⟨⟨_, he⟩, _⟩ := st; wpAny_pyIter_enum he h

def iEnumT (K : PySem.W.Frag) (ta : TA) : TI := fun σ H R => ta σ H fun vs H1 => ∃ a xs, vs = [.ref a] ∧ SqT K H1 a xs ∧ R (ItT K a) H1
theorem pi_enumT {X : Cx} {e : Expr} {ta : TA} {p pos tpos : Pos} {elts : List Expr} {kk : Nat}
    (hg : Gl X "enumerate") (hm : X.mg "enumerate" = none) (ha : PA X [e] ta)
    (hs : starEach [e] X.env = [(false, eval e X.env)] := by rfl) :
    PI X (.Tuple elts kk tpos) (.Call (.Name "enumerate" p) [e] [] pos) (iEnumT X.K ta) := by
  refine ⟨fun pins s σ H R I h => ?_⟩
  refine Call_ (ld_blt I hg hm boot_enumerate (PyProof.Rows.callWith_type1 (thn (ha.run pos pins s σ H _ I h) fun us s1 got => ?_) hs rfl))
  obtain ⟨vs, H1, I1, r1, a, xs, ex, hq, q⟩ := got
  subst ex
  cases r1 with
  | cons r rr =>
    cases rr
    cases r
    obtain ⟨its, rv, tp, hz⟩ := I1.tuple hq
    have alt : a < s1.heap.objs.size := tp.lt
    refine call_enumT tp fun h' he hit hsz hk => wpAny_pyIter_enum he ?_
    have I2 : Inv X pins σ H1 { s1 with heap := h' } := I1.kept (t' := s1.toks) hk
    refine ⟨s1.heap.objs.size + 1, [s1.heap.objs.size + 1, s1.heap.objs.size], _, _, H1, rfl, I2,
      turn_enumT a (s1.heap.objs.size + 1) s1.heap.objs.size,
      ⟨⟨.none, he⟩, hit, Nat.succ_ne_self _, Nat.ne_of_gt (Nat.lt_succ_of_lt alt), Nat.ne_of_lt alt⟩, fun b hb => ?_, q⟩
    have le : s1.heap.objs.size ≤ b := by
      rcases (show b = s1.heap.objs.size + 1 ∨ b = s1.heap.objs.size by simpa using hb) with z | z
      · rw [z]; exact Nat.le_succ _
      · rw [z]; exact Nat.le_refl _
    exact I1.fpOk le (I1.hok.fresh le)

/-- a loop over it -/
theorem for_enumT {K : PySem.W.Frag} {a : Addr} {xs : List V} {g : TG} {tb : TS} {D : Ends} {σ : L2.St} {H : Hp}
    (Pv : Nat → L2.St → Hp → Prop) (h0 : Pv 0 σ H) (hq : ∀ i σ H, Pv i σ H → SqT K H a xs)
    (hs : ∀ (i : Nat) (x : V) (T : Addr) (σ : L2.St) (H : Hp), xs[i]? = some x → Pv i σ H → H T = none →
      g (.ref T) σ (upd H T (.tup [.int (i : Nat), x])) fun σ2 H2 => tb { D with nx := Pv (i + 1), ct := Pv (i + 1), bk := D.nx } σ2 H2)
    (hd : ∀ σ H, Pv xs.length σ H → D.nx σ H) :
    ∃ W : Nat → Nat → L2.St → Hp → Prop, (∃ m, W 0 m σ H) ∧ ∀ i m σ H, W i m σ H →
      ((ItT K a).stop i H ∧ D.nx σ H) ∨ ((ItT K a).go i H ∧ ∃ N : L2.St → Hp → Prop, (∀ σ' H', N σ' H' → ∃ m', m' < m ∧ W (i + 1) m' σ' H') ∧
        ∀ v H', (ItT K a).yld i H v H' → g v σ H' fun σ2 H2 => tb { D with nx := N, ct := N, bk := D.nx } σ2 H2) := by
  refine ⟨fun i m σ H => m = xs.length - i ∧ i ≤ xs.length ∧ Pv i σ H, ⟨_, rfl, Nat.zero_le _, h0⟩, ?_⟩
  rintro i m σ H ⟨rfl, le, p⟩
  have q := hq i σ H p
  by_cases lt : i < xs.length
  · refine .inr ⟨⟨xs, _, q, List.getElem?_eq_getElem lt⟩, Pv (i + 1), fun σ' H' p' => ⟨_, by omega, rfl, lt, p'⟩, fun v H' y => ?_⟩
    obtain ⟨T, x, rfl, hT, rfl, f⟩ := y
    exact hs i x T σ H (f xs q) p hT
  · have e : i = xs.length := by omega
    subst e
    exact .inl ⟨⟨xs, q, Nat.le_refl _⟩, hd σ H p⟩

/-! ### del xs[lo:hi] -/
def sel (start stop step : Int) (i : Nat) : Bool :=
  if step > 0 then start ≤ i && i < stop && (i - start) % step == 0
  else stop < i && i ≤ start && (start - i) % (-step) == 0
theorem sel_one (a c : Nat) (i : Nat) : sel a c 1 i = (decide (a ≤ i) && decide (i < c)) := by
  unfold sel
  rw [if_pos (by decide)]
  have e : ((i : Int) - (a : Int)) % 1 = 0 := Int.emod_one _
  rw [e]
  have e1 : decide ((a : Int) ≤ (i : Int)) = decide (a ≤ i) := by simp
  have e2 : decide ((i : Int) < (c : Int)) = decide (i < c) := by simp
  rw [e1, e2]
  simp
theorem cut_by {F : Value × Nat → Option Value} {a c : Nat} (hF : ∀ x k, F (x, k) = if decide (a ≤ k) && decide (k < c) then none else some x) :
    ∀ (l : List Value) (k : Nat), (l.zipIdx k).filterMap F = l.take (a - k) ++ l.drop (max (a - k) (c - k))
  | [], k => by simp
  | x :: l, k => by
    rw [List.zipIdx_cons, List.filterMap_cons]
    have ih := cut_by hF l (k + 1)
    rw [hF x k, ih]
    by_cases h1 : k < a
    · have f : (decide (a ≤ k) && decide (k < c)) = false := by simp; omega
      rw [f]
      have e1 : a - k = (a - (k + 1)) + 1 := by omega
      have e2 : max (a - k) (c - k) = max (a - (k + 1)) (c - (k + 1)) + 1 := by omega
      rw [e2, e1]
      simp
    · by_cases h2 : k < c
      · have f : (decide (a ≤ k) && decide (k < c)) = true := by simp; omega
        rw [f]
        have e1 : a - k = 0 := by omega
        have e3 : a - (k + 1) = 0 := by omega
        have e2 : max 0 (c - k) = max 0 (c - (k + 1)) + 1 := by omega
        rw [e1, e3, e2]
        simp
      · have f : (decide (a ≤ k) && decide (k < c)) = false := by simp; omega
        rw [f]
        have e1 : a - k = 0 := by omega
        have e3 : a - (k + 1) = 0 := by omega
        have e2 : max 0 (c - k) = 0 := by omega
        have e4 : max 0 (c - (k + 1)) = 0 := by omega
        rw [e1, e3, e2, e4]
        simp
theorem delItem_slice {prog : Program} {w : World} {A : Around} {E : Value → Shared → Prop} {s : Shared}
    {l sl : Addr} {its : List Value} {n : Nat} {vl vu : Value} {lo hi : Option Int} {Q : Unit → Shared → Prop}
    (e : s.heap.get? l = some { cls := .type "list", data := .seq its.toArray n })
    (hs : s.heap.IsSliceOf sl vl vu .none) (pl : IsPart vl lo) (pu : IsPart vu hi) (hsz : its.length ≤ sizeLine)
    (h : ∀ f : Array Value → Array Value,
      f its.toArray = (its.take (HT.sIx its.length 0 lo) ++ its.drop (max (HT.sIx its.length 0 lo) (HT.sIx its.length its.length hi))).toArray →
      Q () { s with heap := s.heap.update l (Obj.mapSeq f) }) :
    wpAny (model prog w) A (delItem (.ref l) (.ref sl)) Q E s := by
  have hl : s.heap.IsList l its.toArray := PySem.IsL.isList e
  obtain ⟨os, hos, hcs, hds⟩ := id hs
  have tySl : s.TypeIs (.ref sl) "slice" := ⟨os, hos, hcs⟩
  have noStep : ¬ ((rawPart none == rawInt 0) = true) := Bool.false_ne_true
  refine wpAny_delItem_slot hl.typeIs (by decide) F.slot_list_delitem ?_
  refine wpAny_call_entry F.slot_list_delitem hl.typeIs F.entry_list_delitem ?_ (F.args_list_delitem_2 _ _)
  show wpAny _ _ (Builtin.List.listSubscript? (.ref sl) >>= _) _ _ s
  refine wpAny_bind ?_
  unfold Builtin.List.listSubscript?
  refine wpAny_bind (wpAny_specialOf tySl slice_no_index ?_)
  simp only [Option.isNone_none, if_true]
  refine wpAny_pure ?_
  show wpAny _ _ (typeOf (.ref sl) >>= _) _ _ s
  refine wpAny_bind (wpAny_typeOf tySl ?_)
  refine PySem.W.KFB.if_not (by decide) ?_
  rw [listSliceParts_eq]
  refine wpAny_bind (wpAny_bind (wpAny_field hos hds (x := .none) rfl (wpAny_bind (wpAny_listPart .none ?_))))
  rw [if_neg noStep]
  refine wpAny_bind (wpAny_field hos hds (x := vl) rfl (wpAny_bind (wpAny_listPart pl ?_)))
  refine wpAny_bind (wpAny_field hos hds (x := vu) rfl (wpAny_bind (wpAny_listPart pu (wpAny_pure ?_))))
  unfold Builtin.List.listItems
  refine wpAny_bind (wpAny_bind (wpAny_seqItems e rfl (wpAny_pure ?_)))
  obtain ⟨b1, b2, b3⟩ := slice_bounds lo hi its.length
  have bd : sliceBounds lo hi none its.toArray.size = (((HT.sIx its.length 0 lo : Nat) : Int), ((HT.sIx its.length its.length hi : Nat) : Int), 1) := by
    rw [List.size_toArray]
    exact Prod.ext b1 (Prod.ext b2 b3)
  refine wpAny_bind (wpAny_of_eq ((sliceIndices_raw lo hi none its.toArray.size (by simp)).trans
    (congrArg (pure : Int × Int × Int → Sem (Int × Int × Int)) bd)) ?_)
  refine wpAny_bind (wpAny_rule ?_)
  have size_ok : ∀ ys : List Value, ys = its.take (HT.sIx its.length 0 lo) ++ its.drop (max (HT.sIx its.length 0 lo) (HT.sIx its.length its.length hi)) →
      ys.toArray.size ≤ sizeLine + 1 := by
    intro ys q
    rw [q, List.size_toArray, List.length_append, List.length_take, List.length_drop]
    omega
  refine wpAny_bind (wpAny_updateSeq (hz := by rw [List.size_toArray]; exact hsz) (_hz' := ?z) e rfl ?m)
  case m =>
    refine wpAny_bind (wpAny_letGo ?_)
    refine wpAny_pure ⟨.none, rfl, h _ ?_⟩
    refine congrArg List.toArray ((cut_by (a := HT.sIx its.length 0 lo) (c := HT.sIx its.length its.length hi) (fun x k => ?_) its 0))
    have one := sel_one (HT.sIx its.length 0 lo) (HT.sIx its.length its.length hi) k
    rw [← one]
    rfl
  case z =>
    refine size_ok _ ((cut_by (a := HT.sIx its.length 0 lo) (c := HT.sIx its.length its.length hi) (fun x k => ?_) its 0))
    have one := sel_one (HT.sIx its.length 0 lo) (HT.sIx its.length its.length hi) k
    rw [← one]
    rfl

section
variable {X : Cx}
/-- del xs[lo:hi] of a list -/
def tDelS (to : TE) (tl th : TO) : TS := fun D σ H => to σ H fun x H1 => tl σ H1 fun lo H2 => th σ H2 fun hi H3 =>
  ∃ (l : Addr) (xs : List V), x = .ref l ∧ H3 l = some (.lst xs) ∧
    D.nx σ (upd H3 l (.lst (xs.take (HT.sIx xs.length 0 lo) ++ xs.drop (max (HT.sIx xs.length 0 lo) (HT.sIx xs.length xs.length hi)))))
theorem ps_delS {o : Expr} {lo hi : Option Expr} {to : TE} {tl th : TO} {p2 tpos pos : Pos}
    (ho : PE X o to) (hl : PO X lo tl) (hu : PO X hi th) :
    PS X (.Delete [.Subscript o (.Slice lo hi none p2) tpos] pos) (tDelS to tl th) := by
  refine ⟨fun pins s σ H D I h => ?_⟩
  refine wpAny_Delete (wpAny_deleteEach_cons (wpAny_delete_Subscript (thn (ho.run pins s σ H _ I h) fun u s1 got => ?_)))
  obtain ⟨x, H1, I1, rx, q1⟩ := got
  refine wpAny_Slice (thn (hl.run pins s1 σ H1 _ I1 q1) fun vl s2 got2 => ?_)
  obtain ⟨l, H2, I2, pl, q2⟩ := got2
  refine thn (hu.run pins s2 σ H2 _ I2 q2) fun vu s3 got3 => ?_
  obtain ⟨r, H3, I3, pu, a, xs, ex, hH, q3⟩ := got3
  rw [evalPart_none]
  refine wpAny_pure ?_
  subst ex
  cases (show u = Value.ref a from rx)
  have I4 : Inv X pins σ H3 { s3 with heap := s3.heap.push { cls := .type "slice", data := .fields #[vl, vu, .none] } } :=
    I3.kept (t' := s3.toks) fun b ob q => Heap.get?_push_of_some _ q
  obtain ⟨z, its, n, rv, len, e⟩ := I4.lstM hH
  refine delItem_slice e (Heap.IsSliceOf.new ..) pl pu (by rw [← len]; exact z) fun f hf => ?_
  refine wpAny_deleteEach_nil ⟨σ, _, ?_, q3⟩
  rw [← len] at hf
  refine I4.lset (t' := s3.toks) hH e hf (Vals.append (rv.take _) (rv.drop _)) ?_
  rw [List.length_append, List.length_take, List.length_drop]
  omega
end

def rIxN (K : PySem.W.Frag) : V → V → Hp → VK → Prop := fun x y H Q => ∃ p xs, ∃ (j : Nat) (v : V), x = .ref p ∧ y = .int j ∧ SqL K H p xs ∧ xs[j]? = some v ∧ Q v H
section
variable {X : Cx}
/-- xs[i] op= e reads xs[i] -/
theorem get_list : PGet X (rIxN X.K) := by
  intro pins s σ H o i ov iv Q I ro ri h
  obtain ⟨p, xs, j, z, rfl, rfl, hq, he, q⟩ := h
  cases (show ov = Value.ref p from ro)
  obtain ⟨t, rfl⟩ := (show ∃ t, iv = Value.int (j : Nat) t from ri)
  obtain ⟨its, r, pl, hz⟩ := I.list hq
  obtain ⟨u, eu, ru⟩ := r.get he
  have lt : j < its.length := (List.getElem?_eq_some_iff.mp eu).1
  have line := line63
  have len := r.length
  refine wpAny_getItem_list pl.isList (by omega) (by omega) (x := u) ?_ ⟨z, H, I, ru, q⟩
  rw [Int.toNat_natCast]
  simpa using eu
end
end GX
namespace GX
open PySem PySem.Spec PyProof.Rows L2
/-! ## the greatest of a list of ints; dicts whose keys are ints and None -/
def nthI (l : List Int) (i : Nat) : Int := l.getD i 0
theorem best_lt (bt : Nat → Nat → Bool) : ∀ n, argBest bt n ≤ n
  | 0 => Nat.le_refl _
  | n + 1 => by
    unfold argBest
    split
    · exact Nat.le_refl _
    · exact Nat.le_succ_of_le (best_lt bt n)
theorem best_max (l : List Int) : ∀ n i, i ≤ n → nthI l i ≤ nthI l (argBest (fun i j => decide (nthI l i > nthI l j)) n)
  | 0, i, h => by
    have : i = 0 := Nat.le_zero.mp h
    subst this
    exact Int.le_refl _
  | n + 1, i, h => by
    unfold argBest
    by_cases c : nthI l (n + 1) > nthI l (argBest (fun i j => decide (nthI l i > nthI l j)) n)
    · rw [if_pos (decide_eq_true c)]
      by_cases e : i = n + 1
      · subst e
        exact Int.le_refl _
      · have := best_max l n i (by omega)
        omega
    · rw [if_neg (by rw [decide_eq_true_iff]; exact c)]
      by_cases e : i = n + 1
      · subst e
        omega
      · exact best_max l n i (by omega)
theorem ints_nth : ∀ {l : List Int} {its : List Value} {i : Nat} {v : Value}, Vals (l.map V.int) its → its[i]? = some v → ∃ t, v = .int (nthI l i) t
  | [], its, i, v, r, h => by
    rw [List.map_nil] at r
    cases r
    simp at h
  | x :: l, its, i, v, r, h => by
    rw [List.map_cons] at r
    cases r with
    | @cons a b as bs q t =>
      cases i with
      | zero =>
        have : b = v := by simpa using h
        subst this
        exact q
      | succ i => exact ints_nth (l := l) (i := i) t (by simpa using h)
def rMaxL (K : PySem.W.Frag) : List V → Hp → VK → Prop := fun xs H Q => ∃ (p : Addr) (l : List Int), xs = [.ref p] ∧ SqL K H p (l.map V.int) ∧ l ≠ [] ∧ ∀ m, m ∈ l → (∀ x ∈ l, x ≤ m) → Q (.int m) H
theorem nth_mem {l : List Int} {i : Nat} (h : i < l.length) : nthI l i ∈ l := by
  unfold nthI
  rw [List.getD_eq_getElem?_getD, List.getElem?_eq_getElem h]
  exact List.getElem_mem h
theorem best_is {l : List Int} (h : l ≠ []) {v : Value} {t : Tok} (e : v = .int (nthI l (argBest (fun i j => decide (nthI l i > nthI l j)) (l.length - 1))) t) : ∃ m, m ∈ l ∧ (∀ x ∈ l, x ≤ m) ∧ v = .int m t := by
  have pos : 0 < l.length := List.length_pos_iff.mpr h
  refine ⟨_, nth_mem ?_, fun x hx => ?_, e⟩
  · have := best_lt (fun i j => decide (nthI l i > nthI l j)) (l.length - 1)
    omega
  · obtain ⟨i, hi, rfl⟩ := List.getElem_of_mem hx
    have := best_max l (l.length - 1) i (by omega)
    have z : nthI l i = l[i] := by
      unfold nthI
      rw [List.getD_eq_getElem?_getD, List.getElem?_eq_getElem hi]
      rfl
    rw [z] at this
    exact this
theorem call_maxL {X : Cx} (hc : X.calm = true) : CallR X (.builtin "max") (rMaxL X.K) := by
  intro pins s σ H vs us Q I r h
  obtain ⟨p, l, rfl, hs, hn, q⟩ := h
  obtain ⟨its, rv, hl, _⟩ := I.list hs
  rw [Vals.ref1 r]
  have pos : 0 < l.length := List.length_pos_iff.mpr hn
  have len : l.length = its.length := by rw [← rv.length, List.length_map]
  refine call_max_walk (iter_anyList hl.isList fun s₂ e st hfp hlI => ?_)
  subst e
  refine ⟨_, _, _, _, _, _, _, rfl, Walks.list (A := X.A.in1) (I.ok.hd hc) _ p hlI its.toArray, st, hfp, by simpa [← len] using pos, CmpOf.ints_gt (nthI l) (fun i v hv => ints_nth rv (by simpa using hv)), fun v h' tk hP hk => ?_⟩
  have hP' : its[argBest (fun i j => decide (nthI l i > nthI l j)) (l.length - 1)]? = some v := by simpa [← len] using hP
  obtain ⟨t, e⟩ := ints_nth rv hP'
  obtain ⟨m, hm, hx, rfl⟩ := best_is hn e
  exact ⟨.int m, H, I.kept (PySem.old_kept hk), ⟨_, rfl⟩, q m hm hx⟩
def rMaxD (K : PySem.W.Frag) : List V → List V → Hp → VK → Prop := fun xs zs H Q => ∃ (p : Addr) (l : List Int) (d : V), xs = [.ref p] ∧ zs = [d] ∧ SqL K H p (l.map V.int) ∧ (l = [] → Q d H) ∧ ∀ m, m ∈ l → (∀ x ∈ l, x ≤ m) → Q (.int m) H
theorem call_maxD {X : Cx} (hc : X.calm = true) : CallRK X (.builtin "max") [Str.ofString "default"] (rMaxD X.K) := by
  intro pins s σ H vs zs us ws Q I r rz h
  obtain ⟨p, l, d, rfl, rfl, hs, q0, q⟩ := h
  obtain ⟨its, rv, hl, _⟩ := I.list hs
  rw [Vals.ref1 r]
  obtain ⟨dv, rfl, rd⟩ := vals1 rz
  have len : l.length = its.length := by rw [← rv.length, List.length_map]
  refine call_max_walkD (iter_anyList hl.isList fun s₂ e st hfp hlI => ?_)
  subst e
  refine ⟨_, _, _, _, _, _, _, s.heap, fun i j => decide (nthI l i > nthI l j), rfl, (Walks.list (A := X.A.in1) (I.ok.hd hc) _ p hlI its.toArray).toS, st, hfp, fun b o e hb => ?_, fun b o e => Heap.get?_push_of_some _ e, fun z s' mv => ?_, fun z => ⟨fun i j vi vj s Q E _ => CmpOf.ints_gt (P := fun i v => its.toArray[i]? = some v) (nthI l) (fun i v hv => ints_nth rv (by simpa using hv)) i j vi vj s Q E, fun v s' hP mv => ?_⟩⟩
  · have e1 := Heap.lt_size e
    have : b = s.heap.objs.size := by simpa using hb
    rw [this] at e1
    exact absurd e1 (Nat.lt_irrefl _)
  · have ln : l = [] := List.length_eq_zero_iff.mp (by rw [len]; simpa using z)
    have k : ∀ b u, s.heap.get? b = some u → s'.heap.get? b = some u := fun b u e => mv.heap b u (fun hb => by
      have e1 := Heap.lt_size e
      have : b = s.heap.objs.size := by simpa using hb
      rw [this] at e1
      exact absurd e1 (Nat.lt_irrefl _)) (Heap.get?_push_of_some _ e)
    obtain ⟨hp, g, dd, tk, os⟩ := s'
    have e1 : g = s.gens := mv.gens
    have e2 : dd = s.drawn := mv.drawn
    have e3 : os = s.os := mv.os
    subst e1 e2 e3
    exact ⟨d, H, I.kept k, rd, q0 ln⟩
  · have pos : 0 < its.length := by simpa using z
    have hn : l ≠ [] := fun e => by rw [e, List.length_nil] at len; omega
    have hP' : its[argBest (fun i j => decide (nthI l i > nthI l j)) (l.length - 1)]? = some v := by simpa [← len] using hP
    obtain ⟨t, e⟩ := ints_nth rv hP'
    obtain ⟨m, hm, hx, rfl⟩ := best_is hn e
    have k : ∀ b u, s.heap.get? b = some u → s'.heap.get? b = some u := fun b u e => mv.heap b u (fun hb => by
      have e1 := Heap.lt_size e
      have : b = s.heap.objs.size := by simpa using hb
      rw [this] at e1
      exact absurd e1 (Nat.lt_irrefl _)) (Heap.get?_push_of_some _ e)
    obtain ⟨hp, g, dd, tk, os⟩ := s'
    have e1 : g = s.gens := mv.gens
    have e2 : dd = s.drawn := mv.drawn
    have e3 : os = s.os := mv.os
    subst e1 e2 e3
    exact ⟨.int m, H, I.kept k, ⟨_, rfl⟩, q m hm hx⟩

/-! ### dicts by ints and None -/
def lfV : Leaf → V
  | .none => .non
  | .num i => .int i
  | .text x => .str x
theorem lf_is {k : Leaf} {u : Value} (r : RelV (lfV k) u) : Leaf.isOf k u = true := by
  cases k with
  | none => cases (show u = Value.none from r); rfl
  | num i => obtain ⟨t, rfl⟩ := r; exact decide_eq_true rfl
  | text x => obtain ⟨t, rfl⟩ := r; exact decide_eq_true rfl
def DN (P : Program) (w : World) (a : Addr) (ep : Nat) (kvs : List (Leaf × V)) : HO :=
  .ext fun h => kvs.length ≤ sizeLine ∧ (a == sysModules) = false ∧ ∃ vs, KV kvs vs ∧ h.DictAt (leafKind P w) a vs ep
section
variable {P : Program} {w : World} {a : Addr} {ep : Nat} {kvs : List (Leaf × V)}
theorem dn_new {H : Hp} {h : Heap} {vs : List (Leaf × Value)} (z : kvs.length ≤ sizeLine) (hd : (a == sysModules) = false) (rel : KV kvs vs) (dd : h.DictAt (leafKind P w) a vs ep) : ObjOk P w H h a (DN P w a ep kvs) := by
  have ⟨o, _, ho, _⟩ := dd
  refine ⟨⟨z, hd, vs, rel, dd⟩, ⟨o, ho⟩, fun h1 h2 p k => ?_⟩
  obtain ⟨z, hd, vs, rel, o, es, ho, r⟩ := p
  exact ⟨z, hd, vs, rel, o, es, k o ho, r⟩
theorem dn_get {X : Cx} {pins : List (Addr × Obj)} {σ : L2.St} {H : Hp} {s : Shared} (I : Inv X pins σ H s) (ha : H a = some (DN X.prog X.w a ep kvs)) :
    kvs.length ≤ sizeLine ∧ (a == sysModules) = false ∧ ∃ vs, KV kvs vs ∧ s.heap.DictAt (leafKind X.prog X.w) a vs ep := (I.hok a _ ha).1
end
def tDGetN (P : Program) (w : World) (td ty : TE) : TE := fun σ H Q => td σ H fun x H1 => ty σ H1 fun y H2 => ∃ (a : Addr) (ep : Nat) (kvs : List (Leaf × V)) (k : Leaf) (v : V), x = .ref a ∧ H2 a = some (DN P w a ep kvs) ∧ y = lfV k ∧ valV kvs k = some v ∧ Q v H2
def sDPutN (P : Program) (w : World) (td ty tv : TE) : TS := fun D σ H => tv σ H fun v H1 => td σ H1 fun x H2 => ty σ H2 fun y H3 => ∃ (a : Addr) (ep : Nat) (kvs : List (Leaf × V)) (k : Leaf), x = .ref a ∧ H3 a = some (DN P w a ep kvs) ∧ y = lfV k ∧ kvs.length < sizeLine ∧
  ∀ ep', D.nx σ (upd H3 a (DN P w a ep' (putK kvs k v)))
section
variable {X : Cx} {o i e value : Expr} {pos pos' tpos apos cpos : Pos} {td ty tv : TE} {tg : Expr}
theorem pe_dgetN (P : Program) (w : World) (ho : PE X o td) (hi : PE X i ty) (hs : NoSl i) (hP : X.prog = P := by rfl) (hw : X.w = w := by rfl) : PE X (.Subscript o i pos) (tDGetN P w td ty) := by
  subst hP hw
  refine ⟨fun pins s σ H Q I h => ?_⟩
  refine subD_of PySem.F.slot_dict_getitem.lookup hs (thn (ho.run pins s σ H _ I h) fun u s1 ⟨x, H1, I1, rx, q1⟩ => thn (hi.run pins s1 σ H1 _ I1 q1) fun iv s2 ⟨y, H2, I2, ry, a, ep, kvs, k, v, ex, ha, ey, l, q2⟩ => ?_)
  subst ex ey
  obtain rfl : u = Value.ref a := rx
  obtain ⟨z, hd, vs, rel, dd⟩ := dn_get I2 ha
  obtain ⟨w', hw, rw'⟩ := RelO.some_of (v := v) (o := valueAt vs k) (by rw [← l]; exact rel.val k)
  exact ⟨dd.dictOf.typeIs, wpAny_getItem_of (knd := leafKind X.prog X.w) (lf_is ry) dd.dictOf.mapOf hw ⟨v, H2, I2.tok _, rw', q2⟩⟩
theorem ps_dputN (P : Program) (w : World) (ho : PE X o td) (hi : PE X i ty) (hv : PE X value tv) (hs : swapsWith value (some (.Subscript o i pos')) pos.line X.env = pure false) (hP : X.prog = P := by rfl) (hw : X.w = w := by rfl) :
    PS X (.Assign [.Subscript o i pos'] value pos) (sDPutN P w td ty tv) := by
  subst hP hw
  refine ⟨fun pins s σ H D I h => ?_⟩
  refine wpAny_Assign_Subscript (thn (hv.run pins s σ H _ I h) fun r s1 ⟨v, H1, I1, rv, q1⟩ => thn (ho.run pins s1 σ H1 _ I1 q1) fun u s2 ⟨x, H2, I2, rx, q2⟩ => thn (hi.run pins s2 σ H2 _ I2 q2) fun iv s3 ⟨y, H3, I3, ry, a, ep, kvs, k, ex, ha, ey, l, q3⟩ => ?_) hs
  subst ex ey
  obtain rfl : u = Value.ref a := rx
  obtain ⟨z, hd, vs, rel, dd⟩ := dn_get I3 ha
  have hz : vs.length ≤ sizeLine := by rw [← rel.length]; exact z
  have hl : (putK kvs k v).length ≤ sizeLine := by have := length_putK kvs k v; omega
  refine wpAny_setItem_pairs (knd := leafKind X.prog X.w) (hsz := hz) (lf_is ry) dd.dictOf fun h' dd' hs => ?_
  obtain ⟨q, es, ep', hq, rr⟩ := dd'
  have dd2 : h'.DictAt (leafKind X.prog X.w) a (stored vs k r) ep' := ⟨q, es, hq, rr⟩
  exact ⟨σ, _, d_write I3 (by rw [ha]; exact True.intro) hs ⟨q, hq⟩ (dn_new hl hd (rel.put k rv) dd2), q3 ep'⟩
end
def mergeN (kvs more : List (Leaf × V)) : List (Leaf × V) := more.foldl (fun acc kv => putK acc kv.1 kv.2) kvs
theorem kv_merge : ∀ {more : List (Leaf × V)} {rs : List (Leaf × Value)} {kvs : List (Leaf × V)} {vs : List (Leaf × Value)}, KV more rs → KV kvs vs → KV (mergeN kvs more) (merged vs rs) := by
  intro more rs kvs vs r
  unfold KV at r
  induction r generalizing kvs vs with
  | nil => intro q; exact q
  | @cons p q ps qs h t ih =>
    intro r0
    have e : KV (putK kvs p.1 p.2) (stored vs q.1 q.2) := by
      have := r0.put p.1 h.2
      rw [← h.1]; exact this
    exact ih e
theorem mergeN_len : ∀ (more kvs : List (Leaf × V)), (mergeN kvs more).length ≤ kvs.length + more.length
  | [], kvs => by show kvs.length ≤ kvs.length + 0; omega
  | p :: r, kvs => by
    have h1 := mergeN_len r (putK kvs p.1 p.2)
    have h2 := length_putK kvs p.1 p.2
    show (mergeN (putK kvs p.1 p.2) r).length ≤ _
    rw [List.length_cons]; omega
theorem carriesN {P : Program} {w : World} : ∀ {kvs : List (Leaf × V)} {ws : List (Value × Value)}, VV (kvs.map fun kv => (lfV kv.1, kv.2)) ws → ∃ rs, Carries (leafKind P w) ws rs ∧ KV kvs rs
  | [], _, r => by rw [List.map_nil] at r; cases r; exact ⟨[], True.intro, .nil⟩
  | p :: kvs, _, r => by
    rw [List.map_cons] at r
    cases r with
    | @cons a b as bs h t =>
      obtain ⟨rs, c, q⟩ := carriesN (P := P) (w := w) t
      obtain ⟨b1, b2⟩ := b
      exact ⟨(p.1, b2) :: rs, ⟨lf_is h.1, rfl, c⟩, .cons ⟨rfl, h.2⟩ q⟩
def tDispN (P : Program) (w : World) (trs : List (TE × TE)) : TE := fun σ H Q => ∀ p ep, H p = none → tPairs trs σ (upd H p (DN P w p ep [])) fun ps H2 => H2 p = some (DN P w p ep []) ∧
  ∃ kvs : List (Leaf × V), ps = kvs.map (fun kv => (lfV kv.1, kv.2)) ∧ kvs.length ≤ 15 ∧ ∀ ep', Q (.ref p) (upd H2 p (DN P w p ep' (mergeN [] kvs)))
theorem dn_empty {P : Program} {w : World} (h : Heap) : ∃ ep, (h.push { cls := .type "dict", data := .dict #[] }).DictAt (leafKind P w) h.objs.size [] ep := by
  obtain ⟨o, es, ep, r⟩ := (Heap.DictOf.new (knd := leafKind P w) h)
  exact ⟨ep, o, es, r⟩
section
variable {X : Cx} {pos : Pos}
theorem pe_dispN (P : Program) (w : World) {keys : List (Option Expr)} {values : List Expr} {trs : List (TE × TE)} (h : PPs X pos keys values trs) (hall : keys.all (·.isSome) = true) (hl : keys.length = values.length) (h0 : keys ≠ [])
    (h15 : keys.length ≤ 15) (hP : X.prog = P := by rfl) (hw : X.w = w := by rfl) : PE X (.Dict keys values pos) (tDispN P w trs) := by
  subst hP hw
  refine ⟨fun pins s σ H Q I q => ?_⟩
  have hn := I.hok.fresh (Nat.le_refl s.heap.objs.size)
  obtain ⟨ep, d0⟩ := dn_empty (P := X.prog) (w := X.w) s.heap
  have hb : (s.heap.objs.size == sysModules) = false := beq_eq_false_iff_ne.mpr (Ne.symm (Nat.ne_of_lt I.big))
  have I1 := I.laid (a := s.heap.objs.size) (o := DN X.prog X.w s.heap.objs.size ep []) (h' := s.heap.push { cls := .type "dict", data := .dict #[] }) (t' := s.toks) (fun _ _ q => Heap.get?_push_of_some _ q) (Nat.le_refl _) (dn_new (Nat.zero_le _) hb .nil d0)
  refine wpAny_Dict_walk (knd := leafKind X.prog X.w) hall hl h0 h15 (thn (h.run pins _ σ _ _ I1 (q _ ep hn)) fun ws s2 ⟨ps, H2, I2, rel, e, kvs, eps, lk, q2⟩ => ?_)
  subst eps
  obtain ⟨rs, c, rk⟩ := carriesN (P := X.prog) (w := X.w) rel
  obtain ⟨z, hd, vs0, r0, dd⟩ := dn_get I2 e
  cases r0
  refine ⟨rs, c, dd.dictOf, fun h' dd' hs => ?_⟩
  have hz : (mergeN [] kvs).length ≤ sizeLine := by
    have h1 := mergeN_len kvs []
    rw [List.length_nil] at h1
    rw [sizeLine_eq]; omega
  obtain ⟨q', es, ep', hq, rr⟩ := dd'
  have dd2 : h'.DictAt (leafKind X.prog X.w) s.heap.objs.size (merged [] rs) ep' := ⟨q', es, hq, rr⟩
  exact ⟨.ref s.heap.objs.size, _, d_write I2 (by rw [e]; exact True.intro) hs ⟨q', hq⟩ (dn_new hz hd (kv_merge rk .nil) dd2), rfl, q2 ep'⟩
end
/-- the values of the dict at d, which stands as it is while they are walked -/
def Itn (P : Program) (w : World) (d : Addr) (ep : Nat) (kvs : List (Leaf × V)) : It :=
  ⟨fun i H => H d = some (DN P w d ep kvs) ∧ i < kvs.length, fun i H x H' => H' = H ∧ ∃ k, kvs[i]? = some (k, x), fun i H => H d = some (DN P w d ep kvs) ∧ kvs.length ≤ i⟩
theorem turn_valsN {P : Program} {w : World} {K : PySem.W.Frag} {tg : Expr} {d : Addr} {ep : Nat} {kvs : List (Leaf × V)} (it : Addr) : Turn P w K tg (Itn P w d ep kvs) [it] it (fun i h => h.IsValIter it d i kvs.length ep) where
  mem := by simp
  obj := fun i h st b hb => by
    have e : b = it := by simpa using hb
    subst e
    obtain ⟨oi, e, c, dd⟩ := st
    exact ⟨oi, e, fun v z => by rw [dd] at z; cases z⟩
  keep := fun i h h' st k => st.at fun oi e => k it (by simp) oi e
  item := by
    intro X hP hw hK hc i pins s σ H E I hf st hg
    subst hP hw hK
    obtain ⟨hd, hi⟩ := hg
    obtain ⟨f0, f1, f2, f3, f4, f5⟩ := hf it (by simp)
    obtain ⟨z, hs, vs, kv, hm⟩ := dn_get I hd
    obtain ⟨⟨k, v⟩, hkv⟩ : ∃ p, kvs[i]? = some p := ⟨kvs[i], List.getElem?_eq_getElem hi⟩
    obtain ⟨u, hu, ru⟩ := kv_get kv hkv
    have hl : kvs.length = vs.length := Paired.length kv
    rw [hl] at st
    refine wpAny_pyNext_values_item st hm hu fun h' st' sb => ?_
    have I1 : Inv X pins σ H { s with heap := h' } := I.turned (t' := s.toks) (fun b ob hb e => (sb.2 b hb).trans e) f0 f1 f3 f4 f5
    obtain ⟨oi, e, c, dd⟩ := id st'
    refine ⟨u, rfl, go_of (s := { s with heap := h' }) e c dd (by decide) ⟨v, H, I1, ru, ⟨rfl, k, hkv⟩, ?_, fun b hb => (hf b hb).1⟩⟩
    show h'.IsValIter it d (i + 1) kvs.length _
    rw [hl]
    exact st'
  done := by
    intro X hP hw hK hc i pins s σ H E I hf st hg
    subst hP hw hK
    obtain ⟨hd, hi⟩ := hg
    obtain ⟨f0, f1, f2, f3, f4, f5⟩ := hf it (by simp)
    obtain ⟨z, hs, vs, kv, hm⟩ := dn_get I hd
    have hl : kvs.length = vs.length := Paired.length kv
    rw [hl] at st
    exact wpAny_pyNext_values_end (I.ok.hd hc) st hm (List.getElem?_eq_none (by omega)) fun h' eb => ⟨rfl, I.turned (t' := s.toks) (fun b ob hb e => eb b ob hb e) f0 f1 f3 f4 f5⟩
  self := fun A i s Q E st h => wpAny_pyIter_valiter st h
def iValsN (P : Program) (w : World) (td : TE) : TI := fun σ H R => td σ H fun x H1 => ∃ d ep kvs, x = .ref d ∧ H1 d = some (DN P w d ep kvs) ∧ R (Itn P w d ep kvs) H1
theorem pi_valsN (P : Program) (w : World) {X : Cx} {tg e : Expr} {td : TE} {apos cpos : Pos} (he : PE X e td) (hbase : attributeBase e "values" X.env (eval e X.env) = eval e X.env := by rfl) (hline : (apos.endLine == cpos.line) = true := by rfl) (hP : X.prog = P := by rfl) (hw : X.w = w := by rfl) :
    PI X tg (.Call (.Attribute e "values" apos) [] [] cpos) (iValsN P w td) := by
  subst hP hw
  refine ⟨fun pins s σ H R I h => ?_⟩
  refine wpAny_Call_method (T := "dict") (id := "dict.values") hbase rfl hline F.plainAttrs_dict F.slot_dict_values F.type_dict_values (thn (he.run pins s σ H _ I h) fun u s1 ⟨x, H1, I1, rx, d, ep, kvs, ex, hd, q⟩ => ?_)
  subst ex
  obtain rfl : u = Value.ref d := rx
  obtain ⟨z, hs, vs, kv, hm⟩ := dn_get I1 hd
  have hl : kvs.length = vs.length := Paired.length kv
  refine ⟨hm.dictOf.typeIs, hm.dictOf.mapOf.noDict, ?_⟩
  have I2 : Inv X pins σ H1 { s1 with heap := s1.heap.push { cls := .type "dict_values", data := .fields #[.ref d] } } := I1.kept (t' := s1.toks) fun b ob q => Heap.get?_push_of_some _ q
  have fin : wpAny (model X.prog X.w) X.A (pyIter (.ref s1.heap.objs.size)) (PIE X pins σ tg R) X.xe { s1 with heap := s1.heap.push { cls := .type "dict_values", data := .fields #[.ref d] } } := by
    refine wpAny_pyIter_values (d := d) (knd := leafKind X.prog X.w) ⟨_, Heap.get?_push_size _ rfl, rfl, rfl⟩ (hm.push _) (pi_one (tk := s1.toks) I2 _ (turn_valsN _) ⟨_, Heap.get?_push_size _ rfl, rfl, ?_⟩ q)
    rw [hl] <;> rfl
  show wpAny _ _ (callWith cpos (.builtin "dict.values") [.ref d] [] []) _ X.xe s1
  exact method_meetsIn F.slot_dict_values F.entry_dict_values rfl (PySem.evalArgs_none ⟨rfl, hm.dictOf.typeIs, F.args_dict_values_1 _, _, meets_dict_values (leafKind X.prog X.w) d hs, ⟨vs, hm.dictOf⟩, fin⟩)
end GX
namespace GX
open PySem PySem.Spec PyProof.Rows L2
/-! ## enumerate of a text -/
/-- the signs of the text, each in a new pair -/
def ItS (z : Str) : It :=
  ⟨fun i _ => i < z.cps.size,
   fun i H v H' => ∃ T c, v = .ref T ∧ H T = none ∧ H' = upd H T (.tup [.int (i : Nat), .str ⟨#[c]⟩]) ∧ z.cps[i]? = some c,
   fun i _ => z.cps.size ≤ i⟩
theorem turn_enumS {P : Program} {w : World} {K : PySem.W.Frag} {elts : List Expr} {kk : Nat} {tpos : Pos} (z : Str) (tz : Tok) (e it : Addr) :
    Turn P w K (.Tuple elts kk tpos) (ItS z) [e, it] e
      (fun i h => (∃ old, IsEnum h e it ((i : Nat) : Int) old) ∧ h.IsStrIter it (strIterType z) z tz i ∧ e ≠ it) where
  mem := by simp
  obj := fun i h st b hb => by
    obtain ⟨⟨old, he⟩, ⟨o, ho, hc, hd⟩, _⟩ := st
    rcases (show b = e ∨ b = it by simpa using hb) with z | z
    · rw [z]; exact ⟨_, he, fun v q => nomatch q⟩
    · rw [z]; exact ⟨o, ho, fun v q => by rw [hd] at q; cases q⟩
  keep := fun i h h' st k =>
    let ⟨⟨old, he⟩, ⟨o, ho, r⟩, n1⟩ := st
    ⟨⟨old, k e (by simp) _ he⟩, ⟨o, k it (by simp) o ho, r⟩, n1⟩
  item := by
    intro X hP hw hK hc i pins s σ H E I hf st hg
    subst hP hw hK
    obtain ⟨⟨old, he⟩, hit, n1⟩ := st
    have elt : e < s.heap.objs.size := Heap.lt_size he
    have ilt : it < s.heap.objs.size := by obtain ⟨_, q, _⟩ := hit; exact Heap.lt_size q
    have hH : X.A.in1.handled = none := I.ok.hd hc
    refine wpAny_pyNext_enum_itemD (Draws.text hH it z tz) he hit hg n1 ?_ fun y h' tk hy ho hst hT hsz hk => ?_
    · intro z
      exact n1 (by simpa using z)
    obtain ⟨c, u, hcx, rfl⟩ := hy
    refine ⟨_, rfl, wpAny_letOwnedTupleGo_enum (s := { s with heap := h', toks := tk + 1 }) ho fun h'' he' sb => ?_⟩
    have hT2 : h''.get? s.heap.objs.size = some { cls := .type "tuple", data := .seq #[.int i tk, .str ⟨#[c]⟩ u] } :=
      (sb.2 _ (Nat.ne_of_gt elt)).trans hT
    have new : ObjOk X.prog X.w (upd H s.heap.objs.size (.tup [.int (i : Nat), .str ⟨#[c]⟩])) h'' s.heap.objs.size (.tup [.int (i : Nat), .str ⟨#[c]⟩]) :=
      ⟨by show 2 ≤ sizeLine; decide, [.int i tk, .str ⟨#[c]⟩ u], .cons ⟨_, rfl⟩ (.cons ⟨_, rfl⟩ .nil), ⟨_, hT2, rfl, _, rfl⟩⟩
    have I1 : Inv X pins σ (upd H s.heap.objs.size (.tup [.int (i : Nat), .str ⟨#[c]⟩])) { s with heap := h'', toks := tk + 1 } := by
      refine I.turnedNew (ch := [e, it]) (fun b ob hb q => ?_) hf (Nat.le_refl _) new
      have b1 : b ≠ e := fun z => hb (by simp [z])
      have b2 : b ≠ it := fun z => hb (by simp [z])
      exact (sb.2 b b1).trans (hk b ob b1 b2 q)
    refine ⟨.ref s.heap.objs.size, _, I1, rfl, ⟨_, c, rfl, I.hok.fresh (Nat.le_refl _), rfl, hcx⟩, ⟨⟨.str ⟨#[c]⟩ u, ?_⟩, ?_, n1⟩, fun b hb => ?_⟩
    · have e1 : ((i + 1 : Nat) : Int) = (i : Int) + 1 := by omega
      rw [e1]
      exact he'
    · obtain ⟨o, q, r⟩ := hst
      exact ⟨o, (sb.2 it (Ne.symm n1)).trans q, r⟩
    · have lt : b < s.heap.objs.size := by
        rcases (show b = e ∨ b = it by simpa using hb) with z | z
        · rw [z]; exact elt
        · rw [z]; exact ilt
      rw [upd_ne (Nat.ne_of_lt lt)]
      exact (hf b hb).1
  done := by
    intro X hP hw hK hc i pins s σ H E I hf st hg
    subst hP hw hK
    obtain ⟨⟨old, he⟩, hit, n1⟩ := st
    obtain ⟨f0, f1, f2, f3, f4, f5⟩ := hf it (by simp)
    have hT : s.TypeIs (.ref e) "enumerate" := ⟨_, he, rfl⟩
    have hH : X.A.in1.handled = none := I.ok.hd hc
    unfold pyNext
    refine wpAny_bind (wpAny_attempt (wpAny_callSpecial?_slot (name := Str.ofString "__next__") hT F.slot_enumerate_next
      (wpAny_call_entry F.slot_enumerate_next hT F.entry_enumerate_next ?_ (F.args_enumerate_next_1 _))))
    show wpAny _ _ (field (.ref e) 2 >>= _) _ _ _
    refine wpAny_bind (wpAny_field he rfl (x := .ref it) rfl ?_)
    have hn : z.cps[i]? = none := by
      have q : z.cps.size ≤ i := hg
      simp [q]
    refine wpAny_bind ?_
    cases ha : z.cps.all (· < 128)
    · have hit' : s.heap.IsStrIter it "str_iterator" z tz i := by simpa [strIterType, ha] using hit
      refine wpAny_nextOf_wide_end hH hit' hn (fun h' x eb hx' => ?_)
      obtain ⟨o, ho, hcl⟩ := hx'
      refine wpAny_bind (wpAny_isInstance (T := "StopIteration") (b := true) ⟨o, ho, hcl⟩ isSubtype_stop ?_)
      exact wpAny_pure ⟨rfl, I.turned (t' := s.toks) (fun b o hb q => eb b o hb q) f0 f1 f3 f4 f5⟩
    · have hit' : s.heap.IsStrIter it "str_ascii_iterator" z tz i := by simpa [strIterType, ha] using hit
      refine wpAny_nextOf_ascii_end hH hit' hn (fun h' x eb hx' => ?_)
      obtain ⟨o, ho, hcl⟩ := hx'
      refine wpAny_bind (wpAny_isInstance (T := "StopIteration") (b := true) ⟨o, ho, hcl⟩ isSubtype_stop ?_)
      exact wpAny_pure ⟨rfl, I.turned (t' := s.toks) (fun b o hb q => eb b o hb q) f0 f1 f3 f4 f5⟩
  self := fun A i s Q E st h => let ⟨⟨_, he⟩, _⟩ := st; wpAny_pyIter_enum he h
def iEnumS (ta : TA) : TI := fun σ H R => ta σ H fun vs H1 => ∃ z : Str, vs = [.str z] ∧ R (ItS z) H1
theorem pi_enumS {X : Cx} {e : Expr} {ta : TA} {p pos tpos : Pos} {elts : List Expr} {kk : Nat}
    (hg : Gl X "enumerate") (hm : X.mg "enumerate" = none) (ha : PA X [e] ta)
    (hs : starEach [e] X.env = [(false, eval e X.env)] := by rfl) :
    PI X (.Tuple elts kk tpos) (.Call (.Name "enumerate" p) [e] [] pos) (iEnumS ta) := by
  refine ⟨fun pins s σ H R I h => ?_⟩
  refine Call_ (ld_blt I hg hm boot_enumerate (PyProof.Rows.callWith_type1 (thn (ha.run pos pins s σ H _ I h) fun us s1 got => ?_) hs rfl))
  obtain ⟨vs, H1, I1, r1, z, ex, q⟩ := got
  subst ex
  obtain ⟨u, rfl, t, rfl⟩ := vals1 r1
  refine call_enumerate_str fun h' he hit hsz hk => wpAny_pyIter_enum he ?_
  have I2 : Inv X pins σ H1 { s1 with heap := h' } := I1.kept (t' := s1.toks) hk
  refine ⟨s1.heap.objs.size + 1, [s1.heap.objs.size + 1, s1.heap.objs.size], _, _, H1, rfl, I2,
    turn_enumS z t (s1.heap.objs.size + 1) s1.heap.objs.size, ⟨⟨.none, he⟩, hit, Nat.succ_ne_self _⟩, fun b hb => ?_, q⟩
  have le : s1.heap.objs.size ≤ b := by
    rcases (show b = s1.heap.objs.size + 1 ∨ b = s1.heap.objs.size by simpa using hb) with z | z
    · rw [z]; exact Nat.le_succ _
    · rw [z]; exact Nat.le_refl _
  exact I1.fpOk le (I1.hok.fresh le)
/-! ### c * n, c one sign -/
theorem rep_fold (c : Nat) : ∀ (n : Nat) (a : Array Nat), ((List.replicate n #[c]).foldl (· ++ ·) a).toList = a.toList ++ List.replicate n c
  | 0, a => by simp
  | n + 1, a => by
    rw [List.replicate_succ, List.foldl_cons, rep_fold c n, List.replicate_succ, Array.toList_append, List.append_assoc]
    rfl
def rRepS : R2 := fun x y H Q => ∃ (c n : Nat), x = .str ⟨#[c]⟩ ∧ y = .int (n : Nat) ∧ n ≤ 30000 ∧ Q (.str ⟨(List.replicate n c).toArray⟩) H
theorem op_repS {X : Cx} : OpR X (binaryOp .Mult) rRepS := by
  intro pins s σ H x y v u Q I rx ry h
  obtain ⟨c, n, rfl, rfl, hn, q⟩ := h
  obtain ⟨t, rfl⟩ := rx
  obtain ⟨t', rfl⟩ := ry
  have n0 : ¬ ((n : Nat) : Int) < -(2 ^ 63 : Int) := by omega
  have n1 : ¬ ((n : Nat) : Int) ≥ 2 ^ 63 := by omega
  have sl : 30000 ≤ sizeLine := by decide
  refine P.mul_str (by rw [decide_eq_false n0, decide_eq_false n1]; rfl) (fun _ _ => ?_) (fun _ _ => ?_) ?_
  · show ¬ ((1 : Int) > (2 ^ 63 - 1) / (n : Nat))
    rename_i h1 h2
    have hp : (0 : Int) < (n : Nat) := by omega
    have : (1 : Int) ≤ (2 ^ 63 - 1) / (n : Nat) := (Int.le_ediv_iff_mul_le hp).mpr (by omega)
    omega
  · show Builtin.Str.tooLong (1 * ((n : Nat) : Int).toNat) = false
    rw [Int.toNat_natCast, Nat.one_mul]
    unfold Builtin.Str.tooLong
    exact decide_eq_false (by omega)
  · by_cases z : n = 0
    · subst z
      rw [if_pos (by decide)]
      exact ⟨by decide, ⟨.str ⟨#[]⟩, H, I.tok _, ⟨_, rfl⟩, q⟩⟩
    · rw [if_neg (by omega)]
      by_cases o : n = 1
      · subst o
        rw [if_pos (by rfl)]
        exact ⟨.str ⟨#[c]⟩, H, I, ⟨_, rfl⟩, q⟩
      · have e : (((n : Nat) : Int) == 1 || (⟨#[c]⟩ : Str).length == 0) = false := by
          have a : (((n : Nat) : Int) == 1) = false := by
            rw [beq_eq_false_iff_ne]
            omega
          rw [a]
          rfl
        rw [if_neg (by rw [e]; exact Bool.false_ne_true)]
        have f : (⟨(List.replicate ((n : Nat) : Int).toNat (#[c] : Array Nat)).foldl (· ++ ·) #[]⟩ : Str) = ⟨(List.replicate n c).toArray⟩ := by
          rw [Int.toNat_natCast]
          congr 1
          apply Array.toList_inj.mp
          rw [rep_fold]
          rfl
        show Made.post (Made.str ⟨(List.replicate ((n : Nat) : Int).toNat (#[c] : Array Nat)).foldl (· ++ ·) #[]⟩) _ _
        rw [f]
        exact ⟨by show _ ≤ _; simp [Str.length]; omega, ⟨.str _, H, I.tok _, ⟨_, rfl⟩, q⟩⟩
end GX
/-! ## sorted of pairs of (tuple of ints, int) -/
namespace GX
open PySem PySem.Spec PyProof.Rows L2
def ltL : List Int → List Int → Bool
  | [], [] => false
  | [], _ :: _ => true
  | _ :: _, [] => false
  | a :: r, b :: t => if a = b then ltL r t else decide (a < b)
def ltW (p q : List Int × Int) : Bool := if p.1 = q.1 then decide (p.2 < q.2) else ltL p.1 q.1
theorem ltL_cons (a b : Int) (r t : List Int) : ltL (a :: r) (b :: t) = if a = b then ltL r t else decide (a < b) := rfl
theorem ltL_asym : ∀ {a b : List Int}, ltL a b = true → ltL b a = false
  | [], [], _ => rfl
  | [], _ :: _, _ => rfl
  | _ :: _, [], h => by cases h
  | a :: r, b :: t, h => by
    rw [ltL_cons] at h ⊢
    by_cases e : a = b
    · subst e
      rw [if_pos rfl] at h ⊢
      exact ltL_asym h
    · rw [if_neg e] at h
      rw [if_neg (fun z => e z.symm)]
      have := of_decide_eq_true h
      exact decide_eq_false (by omega)
theorem ltL_anti : ∀ {a b : List Int}, ltL a b = false → ltL b a = false → a = b
  | [], [], _, _ => rfl
  | [], _ :: _, h, _ => by cases h
  | _ :: _, [], _, h => by cases h
  | a :: r, b :: t, h, h2 => by
    rw [ltL_cons] at h h2
    by_cases e : a = b
    · subst e
      rw [if_pos rfl] at h h2
      rw [ltL_anti h h2]
    · rw [if_neg e] at h
      rw [if_neg (fun z => e z.symm)] at h2
      have := of_decide_eq_false h
      have := of_decide_eq_false h2
      omega
/-- not above, one behind the other -/
theorem ltL_tr : ∀ {a b c : List Int}, ltL b a = false → ltL c b = false → ltL c a = false
  | [], [], [], _, _ => rfl
  | [], [], _ :: _, _, _ => rfl
  | [], _ :: _, [], _, h => by cases h
  | [], _ :: _, _ :: _, _, _ => rfl
  | _ :: _, [], _, h, _ => by cases h
  | _ :: _, _ :: _, [], _, h => by cases h
  | a :: r, b :: t, c :: u, h1, h2 => by
    rw [ltL_cons] at h1 h2 ⊢
    by_cases e1 : b = a
    · subst e1
      rw [if_pos rfl] at h1
      by_cases e2 : c = b
      · subst e2
        rw [if_pos rfl] at h2 ⊢
        exact ltL_tr h1 h2
      · rw [if_neg e2] at h2 ⊢
        exact h2
    · rw [if_neg e1] at h1
      have q1 := of_decide_eq_false h1
      by_cases e2 : c = b
      · subst e2
        rw [if_neg e1]
        exact h1
      · rw [if_neg e2] at h2
        have q2 := of_decide_eq_false h2
        rw [if_neg (show ¬ c = a by omega)]
        exact decide_eq_false (by omega)
theorem ltL_irr (a : List Int) : ltL a a = false := by
  cases h : ltL a a with
  | false => rfl
  | true => have := ltL_asym h; rw [h] at this; cases this
theorem ltW_pos {p q : List Int × Int} (e : p.1 = q.1) : ltW p q = decide (p.2 < q.2) := if_pos e
theorem ltW_neg {p q : List Int × Int} (e : ¬ p.1 = q.1) : ltW p q = ltL p.1 q.1 := if_neg e
theorem swo_W {α : Type} (k : α → List Int × Int) : SrtO.Swo fun v u => ltW (k v) (k u) := by
  refine ⟨fun x y h => ?_, fun x y z h1 h2 => ?_⟩
  · by_cases e : (k x).1 = (k y).1
    · rw [ltW_pos e] at h
      rw [ltW_pos e.symm]
      have := of_decide_eq_true h
      exact decide_eq_false (by omega)
    · rw [ltW_neg e] at h
      rw [ltW_neg (fun z => e z.symm)]
      exact ltL_asym h
  · by_cases e1 : (k y).1 = (k x).1
    · rw [ltW_pos e1] at h1
      have q1 := of_decide_eq_false h1
      by_cases e2 : (k z).1 = (k y).1
      · rw [ltW_pos e2] at h2
        have q2 := of_decide_eq_false h2
        rw [ltW_pos (e2.trans e1)]
        exact decide_eq_false (by omega)
      · rw [ltW_neg e2] at h2
        rw [ltW_neg (fun q => e2 (q.trans e1.symm)), ← e1]
        exact h2
    · rw [ltW_neg e1] at h1
      by_cases e2 : (k z).1 = (k y).1
      · rw [ltW_neg (fun q => e1 (e2.symm.trans q)), e2]
        exact h1
      · rw [ltW_neg e2] at h2
        by_cases e3 : (k z).1 = (k x).1
        · rw [e3] at h2
          exact absurd (ltL_anti h1 h2) e1
        · rw [ltW_neg e3]
          exact ltL_tr h1 h2
/-! as the machine compares -/
theorem lexAt_shift (e r : Nat → Bool) (z : Bool) : ∀ (k i : Nat), Ob.lexAt (fun j => e (j + 1)) (fun j => r (j + 1)) z i k = Ob.lexAt e r z (i + 1) k
  | 0, _ => rfl
  | k + 1, i => by
    rw [Ob.lexAt_succ, Ob.lexAt_succ, lexAt_shift e r z k (i + 1)]
theorem lexAt_ltL : ∀ ns ms : List Int, Ob.lexAt (fun j => decide (ns.getD j 0 = ms.getD j 0)) (fun j => decide (ns.getD j 0 < ms.getD j 0)) (decide (ns.length < ms.length)) 0 (min ns.length ms.length) = ltL ns ms
  | [], [] => rfl
  | [], _ :: _ => by
    rw [show min ([] : List Int).length _ = 0 from Nat.zero_min _, Ob.lexAt_zero]
    exact decide_eq_true (Nat.zero_lt_succ _)
  | _ :: _, [] => by
    rw [show min _ ([] : List Int).length = 0 from Nat.min_zero _, Ob.lexAt_zero]
    rfl
  | a :: r, b :: t => by
    have e : min (a :: r).length (b :: t).length = min r.length t.length + 1 := by
      rw [List.length_cons, List.length_cons]
      omega
    rw [e, Ob.lexAt_succ, ltL_cons]
    have e2 : decide ((a :: r).length < (b :: t).length) = decide (r.length < t.length) := by
      by_cases q : r.length < t.length
      · rw [decide_eq_true q, decide_eq_true (by rw [List.length_cons, List.length_cons]; omega)]
      · rw [decide_eq_false q, decide_eq_false (by rw [List.length_cons, List.length_cons]; omega)]
    rw [e2, ← lexAt_shift]
    by_cases c : a = b
    · rw [if_pos c, if_pos (show decide ((a :: r).getD 0 0 = (b :: t).getD 0 0) = true from decide_eq_true c)]
      exact lexAt_ltL r t
    · rw [if_neg c, if_neg (show ¬ decide ((a :: r).getD 0 0 = (b :: t).getD 0 0) = true from fun z => c (of_decide_eq_true z))]
      rfl
theorem eq_all (w v : List Int) : ((List.range (min w.length v.length)).all (fun j => decide (w.getD j 0 = v.getD j 0)) && w.length == v.length) = decide (w = v) := by
  rw [Bool.eq_iff_iff]
  constructor
  · intro h
    obtain ⟨h1, h2⟩ := (Bool.and_eq_true _ _).mp h |> fun z => z
    have l := eq_of_beq h2
    refine decide_eq_true (List.ext_getElem l fun i q1 q2 => ?_)
    have := (List.all_eq_true.mp h1) i (List.mem_range.mpr (by omega))
    have := of_decide_eq_true this
    rw [List.getD_eq_getElem?_getD, List.getD_eq_getElem?_getD, List.getElem?_eq_getElem q1, List.getElem?_eq_getElem q2] at this
    exact this
  · intro h
    have e := of_decide_eq_true h
    subst e
    rw [Bool.and_eq_true]
    exact ⟨List.all_eq_true.mpr fun j _ => decide_eq_true rfl, beq_self_eq_true _⟩
/-- a pair of a tuple of ints and an int -/
def IsW (h : Heap) (v : Value) (p : List Int × Int) : Prop := ∃ (a b : Addr) (t : Tok) (its : List Value), v = .ref a ∧ h.IsTuple a #[.ref b, .int p.2 t] ∧ h.IsTuple b its.toArray ∧ IntsAre its p.1
theorem tup_keeps {h h' : Heap} {a : Addr} {xs : Array Value} (p : h.IsTuple a xs) (k : ∀ b o, h.get? b = some o → o.cls = .type "tuple" → h'.get? b = some o) : h'.IsTuple a xs := by
  obtain ⟨o, ho, hc, hd⟩ := p
  exact ⟨o, k _ _ ho hc, hc, hd⟩
theorem IsW.keeps {h h' : Heap} {v : Value} {p : List Int × Int} (q : IsW h v p) (k : ∀ b o, h.get? b = some o → o.cls = .type "tuple" → h'.get? b = some o) : IsW h' v p := by
  obtain ⟨a, b, t, its, e, h1, h2, h3⟩ := q
  exact ⟨a, b, t, its, e, tup_keeps h1 k, tup_keeps h2 k, h3⟩
theorem tup_uniq {h : Heap} {a : Addr} {xs ys : Array Value} (p : h.IsTuple a xs) (q : h.IsTuple a ys) : xs = ys := by
  obtain ⟨o, e, _, n, d⟩ := p
  obtain ⟨o', e', _, n', d'⟩ := q
  rw [e] at e'
  cases e'
  rw [d] at d'
  injection d'
theorem ways_eq {A : Around} {s : Shared} {b c : Addr} {its jts : List Value} {w v : List Int} (h1 : s.heap.IsTuple b its.toArray) (h2 : s.heap.IsTuple c jts.toArray) (i1 : IntsAre its w) (i2 : IntsAre jts v) (hu : A.units < cLine) :
    SeqAt.EqAt A s (.ref b) (.ref c) (decide (w = v)) := by
  by_cases e : b = c
  · subst e
    have q := tup_uniq h1 h2
    have q2 : its = jts := by simpa using q
    subst q2
    have : w = v := (SrtO.iv_ints i1).symm.trans (SrtO.iv_ints i2)
    rw [decide_eq_true this]
    exact SeqAt.EqAt.same _
  · have e1 : its.toArray.size = w.length := by rw [List.size_toArray]; exact i1.length
    have e2 : jts.toArray.size = v.length := by rw [List.size_toArray]; exact i2.length
    have at1 : ∀ j (q1 : j < its.toArray.size), ∃ t, its.toArray[j] = .int (w.getD j 0) t := fun j q1 => PyProof.Rows.IntsAre.int_at i1 _ _ (by simp at q1; simp [q1])
    have at2 : ∀ j (q1 : j < jts.toArray.size), ∃ t, jts.toArray[j] = .int (v.getD j 0) t := fun j q1 => PyProof.Rows.IntsAre.int_at i2 _ _ (by simp at q1; simp [q1])
    have R := SeqAt.RcAt.tuples (A := A) (s := s) (e := fun j => decide (w.getD j 0 = v.getD j 0)) h1 h2 hu (fun j q1 q2 => by
      obtain ⟨t, et⟩ := at1 j q1
      obtain ⟨t', et'⟩ := at2 j q2
      rw [et, et']
      have z : (w.getD j 0 == v.getD j 0) = decide (w.getD j 0 = v.getD j 0) := by
        by_cases q : w.getD j 0 = v.getD j 0
        · rw [decide_eq_true q]; exact beq_iff_eq.mpr q
        · rw [decide_eq_false q]; exact beq_eq_false_iff_ne.mpr q
      rw [← z]
      exact SeqAt.EqAt.int_int _ _ _ _)
    rw [e1, e2, eq_all] at R
    exact SeqAt.EqAt.of_refs e R
theorem ways_lt {A : Around} {s : Shared} {b c : Addr} {its jts : List Value} {w v : List Int} (h1 : s.heap.IsTuple b its.toArray) (h2 : s.heap.IsTuple c jts.toArray) (i1 : IntsAre its w) (i2 : IntsAre jts v) (hu : A.units < cLine) :
    Ob.RcOp .Lt A s (.ref b) (.ref c) (ltL w v) := by
  have e1 : its.toArray.size = w.length := by rw [List.size_toArray]; exact i1.length
  have e2 : jts.toArray.size = v.length := by rw [List.size_toArray]; exact i2.length
  have at1 : ∀ j (q1 : j < its.toArray.size), ∃ t, its.toArray[j] = .int (w.getD j 0) t := fun j q1 => PyProof.Rows.IntsAre.int_at i1 _ _ (by simp at q1; simp [q1])
  have at2 : ∀ j (q1 : j < jts.toArray.size), ∃ t, jts.toArray[j] = .int (v.getD j 0) t := fun j q1 => PyProof.Rows.IntsAre.int_at i2 _ _ (by simp at q1; simp [q1])
  have R := Ob.RcOp.tuples_lt (A := A) (s := s) (e := fun j => decide (w.getD j 0 = v.getD j 0)) (r := fun j => decide (w.getD j 0 < v.getD j 0)) h1 h2 hu (fun j q1 q2 => by
    obtain ⟨t, et⟩ := at1 j q1
    obtain ⟨t', et'⟩ := at2 j q2
    rw [et, et']
    have z : (w.getD j 0 == v.getD j 0) = decide (w.getD j 0 = v.getD j 0) := by
      by_cases q : w.getD j 0 = v.getD j 0
      · rw [decide_eq_true q]; exact beq_iff_eq.mpr q
      · rw [decide_eq_false q]; exact beq_eq_false_iff_ne.mpr q
    rw [← z]
    exact SeqAt.EqAt.int_int _ _ _ _) (fun j q1 q2 _ => by
    obtain ⟨t, et⟩ := at1 j q1
    obtain ⟨t', et'⟩ := at2 j q2
    rw [et, et']
    exact Ob.RcOp.lt_int _ _ _ _)
  rw [e1, e2, lexAt_ltL] at R
  exact R
section
variable {prog : Program} {w : World} {A : Around} {E : Value → Shared → Prop} {s : Shared}
open Srt SrtO
theorem ways_cmp {vs : List Value} {k : Value → List Int × Int} (hu : A.units < cLine) (hp : ∀ v ∈ vs, IsW s.heap v (k v)) : Cmp prog w A s (tuples' false) (fun p => p.1 ∈ vs) (lt2 fun v u => ltW (k v) (k u)) := by
  intro p q hm hm'
  have h1 := hp _ hm
  have h2 := hp _ hm'
  show wpAny (model prog w) A (keyLt' (tuples' false) p.1 q.1) (fun r s' => s' = s ∧ r = ltW (k p.1) (k q.1)) (fun _ _ => False) s
  generalize k p.1 = x at h1 ⊢
  generalize k q.1 = y at h2 ⊢
  obtain ⟨a, b, t, its, e, ⟨o, ho, hc, n, hd⟩, hb, ib⟩ := h1
  obtain ⟨a', b', t', its', e', ⟨o', ho', hc', n', hd'⟩, hb', ib'⟩ := h2
  rw [e, e']
  refine PySem.W.kat_lt ho hd ho' hd' ?_
  show PySem.W.KatLex prog w A false (decide (2 < 2)) _ [(.ref b, .ref b'), (.int x.2 t, .int y.2 t')] 0 s
  refine PySem.W.kat_cons (ways_eq hb hb' ib ib' hu prog w _ _ ?_)
  refine PySem.W.kat_go (fun e1 => ?_) (fun e1 => ?_)
  · have ex : x.1 = y.1 := of_decide_eq_true e1
    refine PySem.W.kat_yes (PySem.W.kat_cons (SeqAt.EqAt.int_int _ _ _ _ prog w _ _ ?_))
    refine PySem.W.kat_go (fun e2 => ?_) (fun e2 => ?_)
    · have ey : x.2 = y.2 := by simpa using e2
      have e3 : ltW x y = false := by
        rw [ltW_pos ex, ey]
        exact decide_eq_false (Int.lt_irrefl _)
      exact PySem.W.kat_yes (PySem.W.kat_nil ⟨rfl, e3.symm⟩)
    · refine PySem.W.kat_no (PySem.W.kat_one _ _ (PyProof.Rows.lt_int ?_))
      exact (show s = s ∧ decide (x.2 < y.2) = ltW x y from ⟨rfl, (ltW_pos ex).symm⟩)
  · have ex : ¬ x.1 = y.1 := of_decide_eq_false e1
    refine PySem.W.kat_no (PySem.W.kat_one _ _ ?_)
    refine ways_lt hb hb' ib ib' hu prog w _ _ ?_
    exact (show s = s ∧ ltL x.1 y.1 = ltW x y from ⟨rfl, (ltW_neg ex).symm⟩)
theorem ways_firsts {h : Heap} : ∀ {vs : List Value}, (∀ v ∈ vs, ∃ p, IsW h v p) → ∃ fs : List Value, PySem.W.KatTups h vs fs ∧ fs.length = vs.length ∧ ∀ f ∈ fs, ∃ b xs, f = Value.ref b ∧ h.IsTuple b xs
  | [], _ => ⟨[], PySem.W.KatTups.nil, rfl, fun _ hf => absurd hf (List.not_mem_nil)⟩
  | v :: vs, H => by
    obtain ⟨p, a, b, t, its, rfl, ⟨o, ho, hc, n, hd⟩, hb, _⟩ := H v List.mem_cons_self
    obtain ⟨fs, h1, h2, h3⟩ := ways_firsts (vs := vs) fun u hu => H u (List.mem_cons_of_mem _ hu)
    refine ⟨.ref b :: fs, PySem.W.KatTups.cons ho hc hd rfl h1, by rw [List.length_cons, List.length_cons, h2], fun f hf => ?_⟩
    rcases List.mem_cons.mp hf with e | hf
    · exact ⟨b, _, e, hb⟩
    · exact h3 f hf
theorem ways_sortable {a : Addr} {vs : List Value} {k : Value → List Int × Int} (hu : A.units < cLine) (h0 : 0 < vs.length) (hp : ∀ v ∈ vs, IsW s.heap v (k v)) (ha : ∀ o, s.heap.get? a = some o → o.cls ≠ .type "tuple") : SortableO prog w A s a vs fun v u => ltW (k v) (k u) := by
  intro h' keep
  have hp' : ∀ v ∈ vs, IsW h' v (k v) := fun v hm => (hp v hm).keeps fun b o e c => keep b o (fun z => by subst z; exact ha o e c) e
  obtain ⟨fs, h1, h2, h3⟩ := ways_firsts fun v hm => ⟨_, hp' v hm⟩
  refine ⟨tuples' false, fun Q E hq => ?_, ways_cmp hu hp'⟩
  refine PySem.W.kat_kind (T := .type "tuple") h1 (by omega) (fun f hm => ?_) (by rfl) ?_
  · obtain ⟨b, xs, rfl, ⟨o, ho, hc, _⟩⟩ := h3 f hm
    have this : PySem.W.Looks (model prog w) h' (typeOf (.ref b)) o.cls := (PySem.W.Looks.ld ho).andThen .now
    rw [hc] at this
    exact this
  · have e : (Value.type "tuple" != Value.type "tuple") = false := by first | decide +kernel | rfl | decide
    rw [e]
    exact hq
end
end GX
namespace L2
open PySem PySem.Spec PyProof.Rows GX
/-- sorted(xs), xs a list of pairs of a tuple of ints and an int -/
def rSortedW (K : PySem.W.Frag) : List V → Hp → VK → Prop := fun vs H Q => ∃ (a : Addr) (ys : List V) (k : V → List Int × Int), vs = [V.ref a] ∧ SqL K H a ys ∧
  (∀ y ∈ ys, ∃ t u, y = V.ref t ∧ H t = some (.tup [.ref u, .int (k y).2]) ∧ H u = some (.tup ((k y).1.map V.int))) ∧
  ∀ (zs : List V) (p : Addr), SrtO.Srtd (fun v u => ltW (k v) (k u)) zs → zs.Perm ys → H p = none → Q (.ref p) (upd H p (.lst zs))
theorem cr_sortedW {X : Cx} (hu : X.A.units + 64 < cLine) : CallR X (.builtin "sorted") (rSortedW X.K) := by
  intro pins s σ H vs us Q I r h
  obtain ⟨a, ys, k, rfl, hs, hx, q⟩ := h
  obtain ⟨its, rv, hl, hz⟩ := I.list hs
  rw [Vals.ref1 r]
  obtain ⟨e1, e2⟩ := refs_back rv fun x m => by
    obtain ⟨t, _, e, _⟩ := hx x m
    exact ⟨t, e⟩
  have hp : ∀ v ∈ its, IsW s.heap v (k (backV v)) := fun v hv => by
    obtain ⟨t, rfl⟩ := e2 v hv
    have hm : V.ref t ∈ ys := by rw [e1]; exact List.mem_map.mpr ⟨_, hv, rfl⟩
    obtain ⟨t', u, e, ht, hu2⟩ := hx _ hm
    cases e
    obtain ⟨its1, rv1, ht1, _⟩ := I.tuple (SqT.of ht)
    obtain ⟨u1, u2, rfl, ri, rj⟩ := vals2 rv1
    obtain ⟨its2, rv2, ht2, _⟩ := I.tuple (SqT.of hu2)
    obtain rfl : u1 = Value.ref u := ri
    obtain ⟨t2, rfl⟩ := rj
    exact ⟨t, u, t2, its2, rfl, ht1, ht2, Vals.ints rv2⟩
  refine SrtO.sorted_ord (swo_W fun u => k (backV u)) hl.isList (by rw [← rv.length]; exact hz) (fun h2 h₁ a' ha kk => ?_) fun out h1 h2 => ?_
  · refine ways_sortable (s := { s with heap := h₁ }) (by show X.A.units + 1 + 1 < cLine; omega) (by omega) (fun v hm => (hp v hm).keeps fun b o e _ => (kk b o e).2) fun o e => ?_
    have e' : some o = some (seqObj "list" its.toArray 0) := e.symm.trans ha
    cases e'
    intro c
    exact absurd (Value.type.inj c) (by decide)
  · have h3 : ∀ u ∈ out, ∃ a, u = Value.ref a := fun u hu => e2 u (h2.perm.mem_iff.mp hu)
    obtain ⟨ep, he'⟩ := PyProof.Rows.sortedAll_at s.heap its out.toArray
    have hpm : (out.map backV).Perm ys := by
      rw [e1]
      exact h2.perm.map backV
    have hlen : (out.map backV).length ≤ sizeLine := by
      rw [hpm.length_eq]
      exact hz
    exact ⟨.ref _, upd H (s.heap.objs.size + 1) (.lst (out.map backV)), I.laid (t' := s.toks) (fun _ _ => PyProof.Rows.sortedAll_old) (Nat.le_succ _) ⟨hlen, out, ep, vals_back h3, he'⟩, rfl, q _ _ (SrtO.srtd_map h1) hpm (I.hok.fresh (Nat.le_succ _))⟩
end L2
/-! ## errors of the package's own; repr of the empty dict -/
namespace GX
open PySem PySem.Spec PyProof.Rows L2
/-- a class of an error without an __init__ of its own -/
structure Err (K : PySem.W.Frag) (mg : Str → Option Value) (x : Str) where
  C : Addr
  g : mg x = some (.ref C)
  xi : PySem.W.excIn K C [.type "ValueError", .type "Exception", .type "BaseException", .type "object"] "ValueError.__new__" = true
  kp : PySem.W.keepIn K (.ref C) = true
  b : PySem.W.subIn K (.ref C) (.type "BaseException") = some true
  t : PySem.W.typeIn K (.ref C) = some (.type "type")
  i : PySem.W.isClsIn K C = true
  s : PySem.W.subIn K (.ref C) (.ref C) = some true
theorem exm_by {K : PySem.W.Frag} {S C : Addr} {b : Bool} (h1 : PySem.W.subIn K (.ref S) (.type "BaseException") = some true) (h2 : PySem.W.isClsIn K S = true) (h3 : PySem.W.typeIn K (.ref S) = some (.type "type")) (h4 : PySem.W.subIn K (.ref C) (.ref S) = some b) :
    PySem.W.exmOne K (.ref C) (.ref S) = some b := by
  have e1 : (PySem.W.subIn K (.ref S) (.type "BaseException") == some true) = true := by rw [h1] <;> rfl
  have e2 : ((PySem.W.clsIn K S).isSome && PySem.W.typeIn K (.ref S) == some (.type "type")) = true := by
    have h2' : (PySem.W.clsIn K S).isSome = true := h2
    rw [h2', h3] <;> rfl
  show (if (PySem.W.subIn K (.ref S) (.type "BaseException") == some true) = true then (if ((PySem.W.clsIn K S).isSome && PySem.W.typeIn K (.ref S) == some (.type "type")) = true then PySem.W.subIn K (.ref C) (.ref S) else none) else none) = some b
  rw [if_pos e1, if_pos e2]
  exact h4
theorem Err.self {K : PySem.W.Frag} {mg : Str → Option Value} {x : Str} (e : Err K mg x) : PySem.W.exmOne K (.ref e.C) (.ref e.C) = some true := exm_by e.b e.i e.t e.s
theorem Err.not {K : PySem.W.Frag} {mg : Str → Option Value} {x y : Str} (e : Err K mg x) (d : Err K mg y) (h : PySem.W.subIn K (.ref d.C) (.ref e.C) = some false) : PySem.W.exmOne K (.ref d.C) (.ref e.C) = some false := exm_by e.b e.i e.t h

section
variable {X : Cx} {x m : Str} {st : Stmt} {ps : List Str} {p p2 pos pos2 : Pos} {e : Expr} {es : List Expr} {t : TA} {k j jj : Nat} {sp : Sp} {W : WX}
/-- a call that may raise -/
theorem dx_call (D : Dn X.K X.mg x st ps) (G : FnOk X.prog X.w X.K X.mg X.base (L2.CX X.prog X.w) k D.f D.fd ps sp) (room : Room j X.A) (tk : Takes X W)
    (ha : PA X (e :: es) t) (le : k ≤ j := by decide) (hg : Gl X x := by rfl) (hdb : (x == ("__debug__" : Str)) = false := by decide)
    (he : starEach (e :: es) X.env = (false, eval e X.env) :: starEach es X.env := by rfl)
    (hpl : (backTo pos (starEach es X.env)).any (·.1) = false := by rfl) :
    PE X (.Call (.Name x p) (e :: es) [] pos) (tCallS sp (WE W) t) :=
  pe_callS G (room.mono le) hg D.g D.F.kp D.b (fun σ => passAt tk σ) ha hdb he hpl
/-- raise X("..") -/
theorem ps_err (E : Err X.K X.mg x) (tk : Takes X W) (hc : X.calm = true := by rfl) (hg : Gl X x := by rfl) (hdb : (x == ("__debug__" : Str)) = false := by decide) :
    PS X (.Raise (some (.Call (.Name x p) [.Constant (.str m) jj p2] [] pos)) none pos2) (fun _ σ H => W (.ref E.C) none σ H) :=
  ps_raise hc tk (pmk_own PySem.F.excBase_ValueError E.xi E.g E.kp (raises_own E.b E.t) hg hdb)
end
section
variable {P : Program} {w : World} {K : PySem.W.Frag} {mg : Str → Option Value} {base : Heap} {k : Nat} {f : Addr} {fd : FuncData} {ps : List Str}
/-- a def that raises nothing, where one that may raise is asked -/
theorem fn_up {sp : Sp} (F : FnOk P w K mg base CX0 k f fd ps sp) : FnOk P w K mg base (L2.CX P w) k f fd ps sp :=
  ⟨F.len, fun A outer s H args us vs Q E hr he hb hv hs => codeAny_mono (F.run A outer s H args us vs Q E hr he hb hv hs) fun r s' h => by
    cases r with
    | ok fl => cases fl <;> exact h
    | error e => exact (show False from h).elim⟩
theorem fn_or {CX : CXT} {s1 s2 : Sp} (F : FnOk P w K mg base CX k f fd ps s1) (G : FnOk P w K mg base CX k f fd ps s2) : FnOk P w K mg base CX k f fd ps (fun vs H Q E => s1 vs H Q E ∨ s2 vs H Q E) :=
  ⟨fun vs H Q E h => h.elim (F.len vs H Q E) (G.len vs H Q E), fun A outer s H args us vs Q E hr he hb hv hs =>
    hs.elim (F.run A outer s H args us vs Q E hr he hb hv) (G.run A outer s H args us vs Q E hr he hb hv)⟩
end
/-! ### repr, the empty dict too -/
inductive Tld (K : PySem.W.Frag) (H : Hp) : V → Str → Prop
  | told {v : V} {d : PyData} : Told K H v d → Tld K H v d.shown
  | dct {a : Addr} : H a = some (.dK []) → Tld K H (.ref a) (PyData.dict []).shown
def rReprT (K : PySem.W.Frag) : List V → Hp → VK → Prop := fun xs H Q => ∃ v z, xs = [v] ∧ Tld K H v z ∧ Q (.str z) H
theorem call_reprT {X : Cx} {k : Nat} (hgd : X.A.guards = some []) (room : Room k X.A) : CallR X (.builtin "repr") (rReprT X.K) := by
  intro pins s σ H xs us Q I r h
  obtain ⟨v, z, rfl, T, q⟩ := h
  cases T with
  | told T => exact call_repr hgd room pins s σ H _ us Q I r ⟨v, _, rfl, T, q⟩
  | dct ha =>
    rename_i a
    obtain ⟨u, rfl, ru⟩ := vals1 r
    obtain rfl : u = Value.ref a := ru
    have un := room.units
    obtain ⟨hz, hS, vs, rv, mm⟩ : ([] : List (Key × V)).length ≤ sizeLine ∧ (a == sysModules) = false ∧ ∃ vs, KV ([] : List (Key × V)) vs ∧ s.heap.DictOf (mixKind X.prog X.w) a vs := I.hok a _ ha
    cases rv
    obtain ⟨o, es, ep, ho, hc, hd, _, pr, _⟩ := mm
    have e0 : es.toList = [] := by
      generalize es.toList = l at pr
      cases pr
      rfl
    have rd : Reads s.heap (.ref a) (.dict []) (a :: [] ++ []) := Reads.dict ho hc.1 hd (by rw [e0]; exact ReadsAll.nil) (by rw [e0]; exact ReadsAll.nil)
    refine repr_of_reads' rd (by simp [PyData.showable, PyData.showableKv]) (fun _ hm => ?_) hgd (by
      have : (PyData.dict []).depth ≤ 1 := by simp [PyData.depth, PyData.depthKv]
      omega) (fun _ _ e => e) (fun h' t tk keep => ?_) (by decide +kernel)
    · have : sysModules = a := by simpa using hm
      rw [this] at hS
      simp at hS
    · exact ⟨.str (PyData.dict []).shown, H, I.kept (t' := tk) keep, ⟨t, rfl⟩, q⟩
end GX
/-! ## calls by keywords alone -/
namespace GX
open PySem PySem.Spec PyProof.Rows L2
def kw1 {α : Type} : List α → List α → List α
  | [], [a] => [a]
  | _, _ => []
/-- two, the second one ahead -/
def kw2 {α : Type} : List α → List α → List α
  | [], [a, b] => [b, a]
  | _, _ => []
theorem kw1_rel {vs zs : List V} {us ws : List Value} (h : Vals vs us) (g : Vals zs ws) : Vals (kw1 vs zs) (kw1 us ws) := by
  cases h with
  | nil => cases g with
    | nil => exact .nil
    | cons r t => cases t with
      | nil => exact .cons r .nil
      | cons _ _ => exact .nil
  | cons _ _ => exact .nil
theorem kw2_rel {vs zs : List V} {us ws : List Value} (h : Vals vs us) (g : Vals zs ws) : Vals (kw2 vs zs) (kw2 us ws) := by
  cases h with
  | nil => cases g with
    | nil => exact .nil
    | cons r t => cases t with
      | nil => exact .nil
      | cons r2 t2 => cases t2 with
        | nil => exact .cons r2 (.cons r .nil)
        | cons _ _ => exact .nil
  | cons _ _ => exact .nil
section
variable {K : PySem.W.Frag} {x qual : Str} {st : Stmt} {f : Addr} {fd : FuncData} {a b : Str}
theorem kb1 (F : Fun K x qual st f fd)
    (h : ∀ (kV doc pm : Value) (an : Option Addr) (cdv ct : Value) (u : Value), bindArgs (PySem.W.fnOf x qual (defArgs st) (defBody st) (defScope st) .none kV doc pm an cdv ct) ⟨[], [(a, u)]⟩ = pure [(a, u)]) : KBinds K fd [a] [a] kw1 kw1 := by
  obtain ⟨oc, od, kV, doc, pm, an, cdv, ct, osl, rfl, lk, hcd⟩ := F.ex
  refine ⟨fun s us ws _ l => ?_, kw1_rel⟩
  match us, ws, l with
  | [], [u], _ => exact .of_eq (h kV doc pm an cdv ct u)
theorem kb2 (F : Fun K x qual st f fd)
    (h : ∀ (kV doc pm : Value) (an : Option Addr) (cdv ct : Value) (u v : Value), bindArgs (PySem.W.fnOf x qual (defArgs st) (defBody st) (defScope st) .none kV doc pm an cdv ct) ⟨[], [(b, v), (a, u)]⟩ = pure [(a, u), (b, v)]) : KBinds K fd [a, b] [b, a] kw2 kw2 := by
  obtain ⟨oc, od, kV, doc, pm, an, cdv, ct, osl, rfl, lk, hcd⟩ := F.ex
  refine ⟨fun s us ws _ l => ?_, kw2_rel⟩
  match us, ws, l with
  | [], [v, u], _ => exact .of_eq (h kV doc pm an cdv ct u v)
end
section
variable {X : Cx} {x : Str} {st : Stmt} {ps ks : List Str} {p pos : Pos} {kws : List Keyword} {tk : TA} {k j : Nat} {sp : Sp} {g : List Value → List Value → List Value} {gV : List V → List V → List V}
theorem de_callK (D : Dn X.K X.mg x st ps) (G : FnOk X.prog X.w X.K X.mg X.base CX0 k D.f D.fd ps sp) (room : Room j X.A) (hb : KBinds X.K D.fd ps ks g gV) (hkw : PK X kws tk) (le : k ≤ j := by decide)
    (hall : (backToKw pos (keywordEach kws X.env)).all (·.1.isSome) = true := by rfl) (hks : (backToKw pos (keywordEach kws X.env)).filterMap (·.1) = ks := by rfl) (hg : Gl X x := by rfl) (hdb : (x == ("__debug__" : Str)) = false := by decide)
    (hpl : ((backTo pos (starEach [] X.env)).any (·.1) || (backToKw pos (keywordEach kws X.env)).any (·.1.isNone)) = false := by rfl) :
    PE X (.Call (.Name x p) [] kws pos) (tCallK sp gV E0 tNil tk) := by
  refine ⟨fun pins s σ H Q I h => ?_⟩
  refine wpAny_Call_Name_kw (ld_glob I hg D.g ?_ hdb)
  refine PySem.W.callWith_KW0 (h₀ := X.base) I.ok.mod.kin D.F.kp hall ?_ hpl
  refine thn (hkw.run pos pins s σ H _ I h) fun ws s2 ⟨zs, H2, I2, rz, q2⟩ => ⟨I2.kIn, ?_⟩
  rw [hks]
  exact run_fnk (us := []) (vs := []) G (room.mono le) hb pass0 I2 .nil rz q2
end
end GX
/-! ## how long the repr of a text is -/
namespace GX
open PySem
theorem repr_len (x : Str) (hx : ∀ c ∈ x.cps.toList, c < 16 ^ 8) : (reprText x).length ≤ 10 * x.length + 2 := StrLaws.reprText_len x hx
end GX
/-! ## lists beside the empty list; None in a list of lists -/
namespace GX
open PySem PySem.Spec PyProof.Rows L2
def rEqE (K : PySem.W.Frag) (neg : Bool) : R2 := fun x y H Q => ∃ (a b : Addr) (xs : List V), x = .ref a ∧ y = .ref b ∧ SqL K H a xs ∧ SqL K H b [] ∧ Q (.bl (xs.isEmpty != neg)) H
theorem op_eqE {X : Cx} (hu : X.A.units < cLine) : OpR X (compareOp .Eq) (rEqE X.K false) := by
  intro pins s σ H x y v u Q I rx ry h
  obtain ⟨a, b, xs, rfl, rfl, ha, hb, q⟩ := h
  cases rx
  cases ry
  obtain ⟨its, r1, p1, _⟩ := I.list ha
  obtain ⟨its2, r2, p2, _⟩ := I.list hb
  cases r2
  cases r1 with
  | nil =>
    have R := SeqAt.RcAt.lists (A := X.A) (s := s) (e := fun _ => true) p1.isList p2.isList rfl hu (fun j h1 h2 => absurd h2 (by simp))
    exact R X.prog X.w X.xe (EP X pins σ Q) ⟨.bl _, H, I, rfl, q⟩
  | cons r t =>
    have R := SeqAt.RcAt.lists_lengths (A := X.A) (s := s) p1.isList p2.isList (by simp) hu
    exact R X.prog X.w X.xe (EP X pins σ Q) ⟨.bl _, H, I, rfl, q⟩
theorem op_neE {X : Cx} (hu : X.A.units < cLine) : OpR X (compareOp .NotEq) (rEqE X.K true) := by
  intro pins s σ H x y v u Q I rx ry h
  obtain ⟨a, b, xs, rfl, rfl, ha, hb, q⟩ := h
  cases rx
  cases ry
  obtain ⟨its, r1, p1, _⟩ := I.list ha
  obtain ⟨its2, r2, p2, _⟩ := I.list hb
  cases r2
  cases r1 with
  | nil =>
    have R := SeqAt.RcNeAt.lists (A := X.A) (s := s) (e := fun _ => true) p1.isList p2.isList rfl hu (fun j h1 h2 => absurd h2 (by simp))
    exact R X.prog X.w X.xe (EP X pins σ Q) ⟨.bl _, H, I, rfl, q⟩
  | cons r t =>
    have R := SeqAt.RcNeAt.lists_lengths (A := X.A) (s := s) p1.isList p2.isList (by simp) hu
    exact R X.prog X.w X.xe (EP X pins σ Q) ⟨.bl _, H, I, rfl, q⟩
/-- None in a list of lists -/
def rInN (K : PySem.W.Frag) : R2 := fun x y H Q => ∃ (p : Addr) (as : List Addr), x = .non ∧ y = .ref p ∧ SqL K H p (as.map V.ref) ∧ (∀ a ∈ as, ∃ ys, SqL K H a ys) ∧ Q (.bl false) H
theorem op_inN {X : Cx} (hu : X.A.units + 64 < cLine) : OpR X (compareOp .In) (rInN X.K) := by
  intro pins s σ H x y v u Q I rx ry h
  obtain ⟨p, as, rfl, rfl, hp, all, q⟩ := h
  cases rx
  cases ry
  obtain ⟨its, r, pl, hz⟩ := I.list hp
  have key : ∀ {as : List Addr} {its : List Value}, (∀ a ∈ as, ∃ ys, SqL X.K H a ys) → Vals (as.map V.ref) its → ∀ y ∈ its, SeqAt.EqAt X.A.in1 s y .none false := by
    intro as
    induction as with
    | nil => intro its _ r y hy; cases r; cases hy
    | cons a as ih =>
      intro its all r y hy
      cases r with
      | cons r1 r2 =>
        rcases List.mem_cons.mp hy with rfl | hy
        · obtain ⟨ys, hy⟩ := all a List.mem_cons_self
          obtain ⟨its', _, pl', _⟩ := I.list hy
          cases r1
          exact SeqAt.EqAt.list_none pl'.isList (show X.A.units + 1 < cLine by omega)
        · exact ih (fun b hb => all b (List.mem_cons_of_mem _ hb)) r2 y hy
  refine SeqAt.in_listAt (fun _ => false) pl.isList (fun w hw => key all r w (by simpa using hw)) ⟨.bl _, H, I, rfl, ?_⟩
  rw [show its.toArray.any (fun _ => false) = false by simp]
  exact q
/-! lists of texts compared -/
theorem strs_at : ∀ {xs : List Str} {its : List Value}, Vals (xs.map V.str) its → ∀ j (h : j < its.length), ∃ (z : Str) (t : Tok), xs[j]? = some z ∧ its[j] = .str z t
  | [], _, .nil, j, h => absurd h (Nat.not_lt_zero _)
  | x :: xs, u :: us, .cons r t, 0, _ => by
    obtain ⟨tk, e⟩ : ∃ tk, u = .str x tk := r
    exact ⟨x, tk, rfl, e⟩
  | x :: xs, u :: us, .cons r t, j + 1, h => strs_at t j (Nat.lt_of_succ_lt_succ h)
theorem all_eqs {xs ys : List Str} (l : xs.length = ys.length) : ((List.range xs.length).all fun j => xs.getD j "" == ys.getD j "") = decide (xs = ys) := by
  by_cases e : xs = ys
  · subst e
    rw [decide_eq_true rfl, List.all_eq_true]
    intro j _
    exact beq_self_eq_true _
  · rw [decide_eq_false e, ← Bool.not_eq_true]
    intro z
    rw [List.all_eq_true] at z
    apply e
    apply List.ext_getElem l
    intro j h1 h2
    have := eq_of_beq (z j (List.mem_range.mpr h1))
    rw [List.getD_eq_getElem?_getD, List.getD_eq_getElem?_getD, List.getElem?_eq_getElem h1, List.getElem?_eq_getElem h2] at this
    exact this
def rStrs (K : PySem.W.Frag) (neg : Bool) : R2 := fun x y H Q => ∃ (a b : Addr) (xs ys : List Str), x = .ref a ∧ y = .ref b ∧ SqL K H a (xs.map V.str) ∧ SqL K H b (ys.map V.str) ∧ Q (.bl (decide (xs = ys) != neg)) H
theorem strs_eqAt {A : Around} {s : Shared} {xs ys : List Str} {its its2 : List Value} (r1 : Vals (xs.map V.str) its) (r2 : Vals (ys.map V.str) its2) :
    ∀ j (h1 : j < its.toArray.size) (h2 : j < its2.toArray.size), SeqAt.EqAt A s its.toArray[j] its2.toArray[j] (xs.getD j "" == ys.getD j "") := by
  intro j h1 h2
  obtain ⟨z, t, e1, e2⟩ := strs_at r1 j (by simpa using h1)
  obtain ⟨z', t', e3, e4⟩ := strs_at r2 j (by simpa using h2)
  rw [List.getD_eq_getElem?_getD, List.getD_eq_getElem?_getD, e1, e3]
  simp only [List.getElem_toArray]
  rw [e2, e4]
  exact SeqAt.EqAt.str_str z t z' t'
theorem op_eqS {X : Cx} (hu : X.A.units < cLine) : OpR X (compareOp .Eq) (rStrs X.K false) := by
  intro pins s σ H x y v u Q I rx ry h
  obtain ⟨a, b, xs, ys, rfl, rfl, ha, hb, q⟩ := h
  cases rx
  cases ry
  obtain ⟨its, r1, p1, _⟩ := I.list ha
  obtain ⟨its2, r2, p2, _⟩ := I.list hb
  have l1 : xs.length = its.length := by have := r1.length; rwa [List.length_map] at this
  have l2 : ys.length = its2.length := by have := r2.length; rwa [List.length_map] at this
  by_cases l : xs.length = ys.length
  · have R := SeqAt.RcAt.lists (A := X.A) (s := s) p1.isList p2.isList (by simp; omega) hu (strs_eqAt r1 r2)
    refine R X.prog X.w X.xe (EP X pins σ Q) ⟨.bl _, H, I, rfl, ?_⟩
    rw [show its.toArray.size = xs.length by simp; omega, all_eqs l]
    simpa using q
  · have R := SeqAt.RcAt.lists_lengths (A := X.A) (s := s) p1.isList p2.isList (by simp; omega) hu
    refine R X.prog X.w X.xe (EP X pins σ Q) ⟨.bl _, H, I, rfl, ?_⟩
    rw [decide_eq_false (fun z => l (by rw [z]))] at q
    exact q
theorem op_neS {X : Cx} (hu : X.A.units < cLine) : OpR X (compareOp .NotEq) (rStrs X.K true) := by
  intro pins s σ H x y v u Q I rx ry h
  obtain ⟨a, b, xs, ys, rfl, rfl, ha, hb, q⟩ := h
  cases rx
  cases ry
  obtain ⟨its, r1, p1, _⟩ := I.list ha
  obtain ⟨its2, r2, p2, _⟩ := I.list hb
  have l1 : xs.length = its.length := by have := r1.length; rwa [List.length_map] at this
  have l2 : ys.length = its2.length := by have := r2.length; rwa [List.length_map] at this
  by_cases l : xs.length = ys.length
  · have R := SeqAt.RcNeAt.lists (A := X.A) (s := s) p1.isList p2.isList (by simp; omega) hu (strs_eqAt r1 r2)
    refine R X.prog X.w X.xe (EP X pins σ Q) ⟨.bl _, H, I, rfl, ?_⟩
    rw [show its.toArray.size = xs.length by simp; omega, all_eqs l]
    simpa using q
  · have R := SeqAt.RcNeAt.lists_lengths (A := X.A) (s := s) p1.isList p2.isList (by simp; omega) hu
    refine R X.prog X.w X.xe (EP X pins σ Q) ⟨.bl _, H, I, rfl, ?_⟩
    rw [decide_eq_false (fun z => l (by rw [z]))] at q
    exact q
theorem call_isiC {X : Cx} {K : PySem.W.Frag} (h : X.K = K) : CallR X (.builtin "isinstance") (rIsi K) := by
  subst h
  exact call_isi
end GX
namespace W
open PySem L2 GX
def tp (i : Nat) : Stmt := PySem.Challenge.pw_everymatch_k11_whole_documents_walked.main.body.getD i (.Pass ⟨0, 0, 0, 0⟩)
abbrev sWhole : Stmt := tp 3
abbrev sNumber : Stmt := tp 4
abbrev sMark : Stmt := tp 5
abbrev sNode : Stmt := tp 6
abbrev sParents : Stmt := tp 7
abbrev sBelow : Stmt := tp 9
abbrev sFirst : Stmt := tp 10
abbrev sRow : Stmt := tp 11
abbrev sRows : Stmt := tp 8
abbrev sPlaceIn : Stmt := tp 12
abbrev sEndOf : Stmt := tp 13
abbrev sPieceIn : Stmt := tp 14
abbrev sShift : Stmt := tp 15
abbrev sIsDoc : Stmt := tp 23
abbrev sEntry : Stmt := tp 24
abbrev sChkDoc : Stmt := tp 25
abbrev sChkNode : Stmt := tp 26
abbrev sPars : Stmt := tp 27
abbrev sKids : Stmt := tp 28
abbrev sSizes : Stmt := tp 29
abbrev sPlaceOf : Stmt := tp 30
abbrev sNodeAt : Stmt := tp 31
abbrev sWrite : Stmt := tp 32
abbrev sRead : Stmt := tp 33
abbrev sPiece : Stmt := tp 34
abbrev sFlip : Stmt := tp 35
abbrev sDepthOf : Stmt := tp 36
abbrev sBreadthOf : Stmt := tp 37
abbrev sFeed : Stmt := tp 39
abbrev sDraw : Stmt := tp 40
abbrev sOne : Stmt := tp 41
abbrev sDoc : Stmt := tp 42
abbrev sGrown : Stmt := tp 43
abbrev sDrawn : Stmt := tp 44
abbrev sLaw : Stmt := tp 50
abbrev sLRow : Stmt := tp 45
abbrev sLRows : Stmt := tp 46
abbrev sLWalked : Stmt := tp 47
abbrev sLPieces : Stmt := tp 48
abbrev sLMirrored : Stmt := tp 49
/-! ### a feed of draws -/
/-- what a feed holds, with m draws left that we answer for -/
def FeedOk (m : Nat) (o : List V) : Prop := ∃ x y c : Int, o = [.int x, .int y, .int c] ∧ 0 ≤ x ∧ Wd 2000000 x ∧
  0 ≤ y ∧ Wd 200 y ∧ 0 ≤ c ∧ c + m ≤ 1000000000000
theorem FeedOk.less {m n : Nat} {o : List V} (h : FeedOk m o) (le : n ≤ m) : FeedOk n o := by
  obtain ⟨x, y, c, e, h1, h2, h3, h4, h5, h6⟩ := h
  exact ⟨x, y, c, e, h1, h2, h3, h4, h5, by omega⟩
/-- the draw: some integer from 0 to below many, the feed used -/
def spDraw : Sp := fun vs H Q _ => ∃ (p : Addr) (many : Int) (m : Nat) (o : List V), vs = [.ref p, .int many] ∧ H p = some (.lst o) ∧ FeedOk (m + 1) o ∧
  0 < many ∧ Wd 1000 many ∧ ∀ (o' : List V) (r : Int), FeedOk m o' → 0 ≤ r → r < many → Q (.int r) (upd H p (.lst o'))
abbrev pDraw : List Str := ["feed", "many"]
/-- a new feed -/
def spFeed (K : PySem.W.Frag) : Sp := fun vs H Q _ => ∃ (a : Addr) (k : Int) (ns : List Int), vs = [.ref a, .int k] ∧ SqL K H a (ns.map V.int) ∧
  ns.length ≤ 63 ∧ (∀ z ∈ ns, Builtin.Int.intBits z ≤ 1048576) ∧ 0 ≤ k ∧ k ≤ 1000 ∧
  ∀ (H' : Hp) (p : Addr) (o : List V), Same H H' → H p = none → H' p = some (.lst o) → FeedOk 900000000000 o → Q (.ref p) H'
abbrev pFeed : List Str := ["script", "k"]
/-- what one may be drawn of: the signs of a text, the items of a list -/
def Things (K : PySem.W.Frag) (p : Addr) (H : Hp) (v : V) (zs : List V) : Prop :=
  (∃ z : Str, v = .str z ∧ zs = z.cps.toList.map fun c => V.str ⟨#[c]⟩) ∨ ∃ a, v = .ref a ∧ a ≠ p ∧ SqL K H a zs
def spOne (K : PySem.W.Frag) : Sp := fun vs H Q _ => ∃ (p : Addr) (v : V) (zs : List V) (m : Nat) (o : List V), vs = [.ref p, v] ∧ H p = some (.lst o) ∧
  FeedOk (m + 1) o ∧ Things K p H v zs ∧ 0 < zs.length ∧ zs.length ≤ 1000 ∧ ∀ (o' : List V) (y : V), FeedOk m o' → y ∈ zs → Q y (upd H p (.lst o'))
abbrev pOne : List Str := ["feed", "things"]
def SameBut (p : Addr) (H H' : Hp) : Prop := ∀ b o, b ≠ p → H b = some o → H' b = some o
theorem SameBut.refl {p : Addr} {H : Hp} : SameBut p H H := fun _ _ _ e => e
theorem SameBut.trans {p : Addr} {H H1 H2 : Hp} (a : SameBut p H H1) (b : SameBut p H1 H2) : SameBut p H H2 := fun c o n e => b c o n (a c o n e)
theorem SameBut.put {p : Addr} {H H1 : Hp} {o : HO} (a : SameBut p H H1) : SameBut p H (upd H1 p o) := fun c u n e => by
  rw [upd_ne n]
  exact a c u n e
theorem SameBut.new {p q : Addr} {H H1 : Hp} {o : HO} (a : SameBut p H H1) (f : H1 q = none) : SameBut p H (upd H1 q o) := fun c u n e => by
  have z := a c u n e
  rw [upd_ne (ne_of_none z f)]
  exact z
/-- an object that came later was not there -/
theorem SameBut.free {p q : Addr} {H H1 : Hp} {u : HO} (a : SameBut p H H1) (hp : H p = some u) (hp1 : ∃ u1, H1 p = some u1) (f : H1 q = none) : H q = none := by
  cases e : H q with
  | none => rfl
  | some o =>
    by_cases n : q = p
    · subst n
      obtain ⟨u1, z⟩ := hp1
      rw [z] at f
      cases f
    · rw [a q o n e] at f
      cases f
theorem SameBut.same {p : Addr} {H H1 H2 : Hp} (a : Same H H1) (hn : H p = none) (b : SameBut p H1 H2) : Same H H2 := fun c o e =>
  b c o (ne_of_none e hn) (a c o e)

theorem sq_put {K : PySem.W.Frag} {H : Hp} {a p : Addr} {xs : List V} {o : HO} (ne : a ≠ p) (h : SqL K H a xs) : SqL K (upd H p o) a xs := by
  rcases h with (h | ⟨ob, h⟩) | h
  · exact .inl (.inl (by rw [upd_ne ne]; exact h))
  · exact .inl (.inr ⟨ob, by rw [upd_ne ne]; exact h⟩)
  · exact .inr h

/-! ### documents -/
abbrev Doc := List (Nat × Nat)
def EntAt (H : Hp) (v : V) (e : Nat × Nat) : Prop := ∃ r : Addr, v = .ref r ∧ H r = some (.tup [.str ⟨#[e.1]⟩, .int (e.2 : Nat)])
def EntsAt (H : Hp) (vs : List V) (doc : Doc) : Prop := Paired (EntAt H) vs doc
def DocAt (H : Hp) (p : Addr) (doc : Doc) : Prop := ∃ vs, H p = some (.tup vs) ∧ EntsAt H vs doc
theorem EntAt.mono {H H' : Hp} {v : V} {e : Nat × Nat} (k : ∀ b xs, H b = some (.tup xs) → H' b = some (.tup xs)) (h : EntAt H v e) : EntAt H' v e := by
  obtain ⟨r, e1, e2⟩ := h
  exact ⟨r, e1, k _ _ e2⟩
theorem EntsAt.mono {H H' : Hp} {vs : List V} {doc : Doc} (k : ∀ b xs, H b = some (.tup xs) → H' b = some (.tup xs)) (h : EntsAt H vs doc) : EntsAt H' vs doc :=
  Paired.mapP h fun _ _ q => q.mono k
theorem DocAt.mono {H H' : Hp} {p : Addr} {doc : Doc} (k : ∀ b xs, H b = some (.tup xs) → H' b = some (.tup xs)) (h : DocAt H p doc) : DocAt H' p doc := by
  obtain ⟨vs, e, q⟩ := h
  exact ⟨vs, k _ _ e, q.mono k⟩
theorem Same.tups {H H' : Hp} (s : Same H H') : ∀ b xs, H b = some (.tup xs) → H' b = some (.tup xs) := fun b xs e => s b _ e
theorem DocAt.same {H H' : Hp} {p : Addr} {doc : Doc} (h : DocAt H p doc) (s : Same H H') : DocAt H' p doc := h.mono (Same.tups s)
theorem SameBut.tups {p : Addr} {H H' : Hp} {o : List V} (s : SameBut p H H') (hp : H p = some (.lst o)) : ∀ b xs, H b = some (.tup xs) → H' b = some (.tup xs) := fun b xs e =>
  s b _ (fun z => by subst z; rw [hp] at e; cases e) e
theorem upd_tups {H : Hp} {p : Addr} {o : List V} {u : HO} (hp : H p = some (.lst o)) : ∀ b xs, H b = some (.tup xs) → upd H p u b = some (.tup xs) := fun b xs e => by
  rw [upd_ne (fun z => by subst z; rw [hp] at e; cases e)]
  exact e
theorem new_tups {H : Hp} {p : Addr} {u : HO} (hp : H p = none) : ∀ b xs, H b = some (.tup xs) → upd H p u b = some (.tup xs) := fun b xs e => by
  rw [upd_ne (ne_of_none e hp)]
  exact e
theorem Paired.snoc {α β : Type} {F : α → β → Prop} : ∀ {l₁ : List α} {l₂ : List β} {a : α} {b : β}, Paired F l₁ l₂ → F a b → Paired F (l₁ ++ [a]) (l₂ ++ [b])
  | _, _, _, _, .nil, q => .cons q .nil
  | _, _, _, _, .cons r t, q => .cons r (Paired.snoc t q)
/-- marks a to h, no depth more than one below the one ahead -/
def okFrom : Nat → Doc → Prop
  | _, [] => True
  | m, (c, d) :: r => 97 ≤ c ∧ c ≤ 104 ∧ d ≤ m ∧ okFrom (d + 1) r
def endOf : Nat → Doc → Nat
  | m, [] => m
  | _, (_, d) :: r => endOf (d + 1) r
theorem okFrom_snoc {c d : Nat} : ∀ {m : Nat} {doc : Doc}, okFrom m doc → 97 ≤ c → c ≤ 104 → d ≤ endOf m doc → okFrom m (doc ++ [(c, d)])
  | _, [], _, h1, h2, h3 => ⟨h1, h2, h3, trivial⟩
  | _, (_, _) :: _, h, h1, h2, h3 => ⟨h.1, h.2.1, h.2.2.1, okFrom_snoc h.2.2.2 h1 h2 h3⟩
theorem endOf_snoc {c d : Nat} : ∀ {m : Nat} {doc : Doc}, endOf m (doc ++ [(c, d)]) = d + 1
  | _, [] => rfl
  | _, (_, e) :: r => endOf_snoc (m := e + 1) (doc := r)
theorem endOf_le : ∀ {m : Nat} {doc : Doc}, okFrom m doc → endOf m doc ≤ m + doc.length
  | _, [], _ => Nat.le_refl _
  | m, (_, d) :: r, h => by
    have q := endOf_le h.2.2.2
    have l := h.2.2.1
    show endOf (d + 1) r ≤ m + (r.length + 1)
    omega

section
variable {P : Program} {w : World} {K : PySem.W.Frag} {mg : Str → Option Value} {base : Heap}
theorem scDraw : FnScope ["feed", "many", "rest", "got", "stir"] pDraw (defScope sDraw) := ⟨rfl, rfl, rfl, by decide +kernel, rfl, by decide +kernel, by decide +kernel⟩
theorem ok_draw (T : Bl mg) (D : Dn K mg "_law_draw" sDraw pDraw) : FnOk P w K mg base CX0 1 D.f D.fd pDraw spDraw := by
  refine D.F.ok scDraw (fun vs H Q E h => ?_) (fun cdv A outer s H vs Q E hr h => ?_)
  · obtain ⟨p, many, m, o, rfl, _⟩ := h
    rfl
  · obtain ⟨p, many, m, o, rfl, hp, ⟨x, y, c, rfl, x0, xb, y0, yb, c0, cm⟩, h0, hb, k⟩ := h
    refine ⟨_, pss_cons (ps_if (pt_cmpR op_gt (pe_ix ix_list (pv 0) pe_int (fun _ _ => rfl)) pe_int (nomark _))
      (pss_cons (ps_set (i := 2) scDraw.nd rfl (.inl rfl) (pe_op op_fdivW (pe_ix ix_list (pv 0) pe_int (fun _ _ => rfl)) (pv 1)))
      (pss_cons (ps_set (i := 3) scDraw.nd rfl (.inl rfl) (pe_op op_sub (pe_ix ix_list (pv 0) pe_int (fun _ _ => rfl)) (pe_op op_mulX (pv 2) (pv 1))))
      (pss_cons (ps_asg (pv 2) (pg_sub (pv 0) pe_int set_list))
      (pss_one (ps_ret (pv 3)))))) pss_nil)
      (pss_cons (ps_asg (pe_op op_add (pe_ix ix_list (pv 0) pe_int (fun _ _ => rfl)) pe_int) (pg_sub (pv 0) pe_int set_list))
      (pss_cons (ps_set (i := 4) scDraw.nd rfl (.inl rfl) (pe_op op_add (pe_ix ix_list (pv 0) pe_int (fun _ _ => rfl)) (pe_op op_mulX pe_int (pe_ix ix_list (pv 0) pe_int (fun _ _ => rfl)))))
      (pss_cons (ps_set (i := 4) scDraw.nd rfl (.inl rfl) (pe_op op_mod (pe_callTy call_intI (by rfl) T.int b_int (pa_cons (pe_op op_add (pe_op op_mulX (pe_op op_mulX (pv 4) (pv 4)) (pv 4)) (pe_op op_mulX pe_int (pe_ix ix_list (pv 0) pe_int (fun _ _ => rfl))))  pa_nil)) (pe_op op_add (pe_op op_pow pe_int pe_int) pe_int)))
      (pss_cons (ps_set (i := 4) scDraw.nd rfl (.inl rfl) (pe_op op_mod (pe_callTy call_intI (by rfl) T.int b_int (pa_cons (pe_op op_add (pe_op op_mulX (pv 4) (pv 4)) pe_int)  pa_nil)) (pe_op op_add (pe_op op_pow pe_int pe_int) pe_int)))
      (pss_one (ps_ret (pe_op op_mod (pe_callTy call_intI (by rfl) T.int b_int (pa_cons (pe_op op_fdivW (pv 4) (pe_op op_pow pe_int pe_int))  pa_nil)) (pv 1)))))))), ?_⟩
    have sq0 : SqL K H p [.int x, .int y, .int c] := SqL.of hp
    refine ⟨_, rfl, p, _, 0, _, rfl, rfl, sq0, rfl, _, _, rfl, rfl, _, rfl, ?_⟩
    refine ite2 (fun hx => ?_) (fun hx => ?_)
    · have rb : Wd 2000000 (x / many) := xb.div x0 h0
      refine ⟨_, rfl, p, _, 0, _, rfl, rfl, sq0, rfl, _, rfl, _, _, rfl, rfl, hb.cdiv h0 (by decide) (by decide), ?_⟩
      refine ⟨_, rfl, p, _, 0, _, rfl, rfl, sq0, rfl, _, rfl, _, rfl, _, _, rfl, rfl, rb.ok hb (by decide), _, _, rfl, rfl, ?_⟩
      refine ⟨_, rfl, _, rfl, p, _, 0, 0, rfl, rfl, hp, rfl, ?_⟩
      refine ⟨_, rfl, ?_⟩
      have r1 : x - x / many * many = x % many := by
        have := Int.mul_ediv_add_emod x many
        rw [Int.mul_comm] at this
        omega
      refine k _ _ ⟨x / many, y, c, rfl, Int.ediv_nonneg x0 (Int.le_of_lt h0), rb, y0, yb, c0, by omega⟩ ?_ ?_
      · rw [r1]; exact Int.emod_nonneg _ (by omega)
      · rw [r1]; exact Int.emod_lt_of_pos _ h0
    · have cw : Wd 41 (c + 1) := ⟨by omega⟩
      have sq1 : SqL K (upd H p (.lst [.int x, .int y, .int (c + 1)])) p [.int x, .int y, .int (c + 1)] := SqL.of upd_same
      have w1 : Wd 80 (6700417 * (c + 1)) := ⟨by omega⟩
      have w2 : Wd 201 (y + 6700417 * (c + 1)) := yb.add w1 (n := 200) (by decide) (by decide)
      have k1 : Wd 24 (6700417 : Int) := ⟨by decide⟩
      have k2 : Wd 24 (15485863 : Int) := ⟨by decide⟩
      refine ⟨_, rfl, p, _, 2, _, rfl, rfl, sq0, rfl, _, _, rfl, rfl, _, rfl, p, _, 2, 2, rfl, rfl, hp, rfl, ?_⟩
      refine ⟨_, rfl, p, _, 1, _, rfl, rfl, sq1, rfl, _, rfl, p, _, 2, _, rfl, rfl, sq1, rfl, _, _, rfl, rfl, k1.ok cw (by decide), _, _, rfl, rfl, ?_⟩
      refine ⟨_, rfl, _, rfl, _, _, rfl, rfl, w2.ok w2 (by decide), _, rfl, _, _, rfl, rfl, (w2.mul w2).ok w2 (by decide), _, rfl, p, _, 2, _, rfl, rfl, sq1, rfl, _, _, rfl, rfl, k2.ok cw (by decide), _, _, rfl, rfl, _, rfl, ?_⟩
      have m43 : (0 : Int) < 10 ^ 43 + 57 := by decide +kernel
      have m38 : (0 : Int) < 10 ^ 38 + 133 := by decide +kernel
      have b43 : Wd 200 ((10 : Int) ^ 43 + 57) := ⟨by decide +kernel⟩
      refine ⟨_, _, rfl, rfl, ⟨by decide, by decide, by decide⟩, _, _, rfl, rfl, _, _, rfl, rfl, m43, ?_⟩
      generalize hz : ((y + 6700417 * (c + 1)) * (y + 6700417 * (c + 1)) * (y + 6700417 * (c + 1)) + 15485863 * (c + 1)) = z
      have z0 : 0 ≤ z % (10 ^ 43 + 57) := Int.emod_nonneg _ (by omega)
      have zw : Wd 200 (z % (10 ^ 43 + 57)) := b43.within z0 (Int.le_of_lt (Int.emod_lt_of_pos _ m43))
      refine ⟨_, rfl, _, rfl, _, _, rfl, rfl, zw.ok zw (by decide), _, _, rfl, rfl, _, rfl, _, _, rfl, rfl, ⟨by decide, by decide, by decide⟩, _, _, rfl, rfl, _, _, rfl, rfl, m38, ?_⟩
      refine ⟨_, rfl, _, _, rfl, rfl, ⟨by decide, by decide, by decide⟩, _, _, rfl, rfl, (Wd.mk (n := 40) (by decide)).cdiv (by decide) (by decide) (by decide), _, rfl, _, rfl, _, _, rfl, rfl, h0, ?_⟩
      exact k _ _ ⟨x, y, c + 1, rfl, x0, xb, y0, yb, by omega, by omega⟩ (Int.emod_nonneg _ (by omega)) (Int.emod_lt_of_pos _ h0)

theorem scFeed : FnScope ["script", "k", "cell"] pFeed (defScope sFeed) := ⟨rfl, rfl, rfl, by decide +kernel, rfl, by decide +kernel, by decide +kernel⟩
theorem ok_feed (T : Bl mg) (D : Dn K mg "_law_feed" sFeed pFeed) : FnOk P w K mg base CX0 1 D.f D.fd pFeed (spFeed K) := by
  refine D.F.ok scFeed (fun vs H Q E h => ?_) (fun cdv A outer s H vs Q E hr h => ?_)
  · obtain ⟨a, n, ns, rfl, _⟩ := h
    rfl
  · obtain ⟨a, n, ns, rfl, hs, hl, hbits, n0, n1, k⟩ := h
    refine ⟨_, pss_cons (ps_set (i := 2) scFeed.nd rfl (.inl rfl) (pe_op op_add (pe_op op_mul pe_int (pv 1)) (pe_callB (cr_sum rfl) (by rfl) T.sum b_sum (pa_cons (pe_slice sl_list (pv 0) po_none (po_some pe_int)) pa_nil))))
      (pss_cons (ps_if (pt_cmpR op_lt (pv 1) (pe_callB call_len_seq (by rfl) T.len b_len (pa_cons (pv 0) pa_nil)) (nomark _)) (pss_one (ps_set (i := 2) scFeed.nd rfl (.inl rfl) (pe_ix ix_list (pv 0) (pv 1) (fun _ _ => rfl)))) pss_nil)
      (pss_one (ps_ret (pe_lst (pa_cons (pe_callB (call_max2 rfl) (by rfl) T.max b_max (pa_cons pe_int (pa_cons (pe_op op_sub (pv 2) (pe_op op_pow pe_int pe_int)) pa_nil)))
        (pa_cons (pe_op op_mod (pe_callTy call_intI (by rfl) T.int b_int (pa_cons (pe_op op_add (pe_op op_mulX (pv 2) pe_int) (pe_op op_mul pe_int (pv 1)))  pa_nil)) (pe_op op_add (pe_op op_pow pe_int pe_int) pe_int)) (pa_cons pe_int pa_nil))))))), ?_⟩
    have wide : ∀ z ∈ ns, Wd 1048577 z := fun z hz => Wd.bits (hbits z hz)
    have sumw : Wd 1048577 (ns.take 1).sum := by
      cases ns with
      | nil => exact ⟨by show (0 : Int).natAbs < _; exact Nat.two_pow_pos _⟩
      | cons z r =>
        have q := wide z List.mem_cons_self
        have e : ((z :: r).take 1).sum = z := by simp
        rw [e]
        exact q
    have m39 : (0 : Int) < 10 ^ 39 + 23 := by decide +kernel
    have b39 : Wd 200 ((10 : Int) ^ 39 + 23) := ⟨by decide +kernel⟩
    have k19 : Wd 5 (19 : Int) := ⟨by decide⟩
    have nw : Wd 20 (977 * n) := ⟨by omega⟩
    have w0 : Wd 1048578 (977 * n + (ns.take 1).sum) := nw.add sumw (n := 1048577) (by decide) (by decide)
    have fin : ∀ (H1 : Hp) (cell : Int), Same H H1 → Wd 1048578 cell → ∀ p, H1 p = none →
        Q (.ref p) (upd H1 p (.lst [.int (if cell - 10 ^ 18 > 0 then cell - 10 ^ 18 else 0), .int ((cell * 19 + 7 * n) % (10 ^ 39 + 23)), .int 0])) := by
      intro H1 cell s1 cw p hp
      have e18 : Wd 100 ((10 : Int) ^ 18) := ⟨by decide +kernel⟩
      have d : Wd 1048579 (cell - 10 ^ 18) := cw.sub e18 (n := 1048578) (by decide) (by decide)
      have z0 := Int.emod_nonneg (cell * 19 + 7 * n) (show (10 : Int) ^ 39 + 23 ≠ 0 by omega)
      refine k _ p _ (fun b o e => ?_) (s1.free hp) upd_same ⟨_, _, _, rfl, ?_, ?_, z0, ?_, Int.le_refl _, by omega⟩
      · rw [upd_ne (ne_of_none (s1 b o e) hp)]
        exact s1 b o e
      · split <;> omega
      · split
        · exact d.mono (by decide)
        · exact ⟨by show (0 : Int).natAbs < _; exact Nat.two_pow_pos _⟩
      · exact b39.within z0 (Int.le_of_lt (Int.emod_lt_of_pos _ m39))
    refine ⟨_, rfl, _, _, rfl, rfl, .inr ⟨by omega, by omega⟩, _, rfl, _, rfl, a, _, rfl, hs, fun q hq => ?_⟩
    have ce : cutV (ns.map V.int) none (some 1) = (ns.take 1).map V.int := by
      have := cutV_to (ns.map V.int) 1
      rw [← List.map_take] at this
      exact this
    have s1 : Same H (upd H q (.lst ((ns.take 1).map V.int))) := fun b o e => by
      rw [upd_ne (ne_of_none e hq)]
      exact e
    rw [ce]
    refine ⟨q, ns.take 1, rfl, SqL.of upd_same, _, _, rfl, rfl, ?_⟩
    refine ⟨_, rfl, _, rfl, a, _, rfl, .inl (s1.seq hs), _, _, rfl, rfl, _, rfl, ?_⟩
    refine ite2 (fun hlt => ?_) (fun hlt => ?_)
    · have lt : n < (ns.length : Int) := by
        have := of_decide_eq_true hlt
        rw [List.length_map] at this
        exact this
      obtain ⟨j, rfl⟩ := Int.eq_ofNat_of_zero_le n0
      have jl : j < ns.length := by omega
      have at_ : atI (ns.map V.int) (j : Int) = some (V.int ns[j]) := atI_nat (by rw [List.getElem?_map, List.getElem?_eq_getElem jl]; rfl)
      have cw : Wd 1048578 ns[j] := (wide _ (List.getElem_mem jl)).mono (by decide)
      refine ⟨_, rfl, _, rfl, a, _, _, _, rfl, rfl, s1.seq hs, at_, ?_⟩
      refine ⟨_, rfl, _, _, rfl, rfl, ⟨by decide, by decide, by decide⟩, _, _, rfl, rfl, _, _, rfl, ?_⟩
      refine ⟨_, rfl, _, _, rfl, rfl, cw.ok k19 (by decide), _, rfl, _, _, rfl, rfl, .inl ⟨by decide, by decide⟩, _, _, rfl, rfl, _, rfl, _, _, rfl, rfl, ⟨by decide, by decide, by decide⟩, _, _, rfl, rfl, _, _, rfl, rfl, m39, ?_⟩
      exact ⟨by show 3 ≤ sizeLine; decide, fun p hp => fin _ _ s1 cw p hp⟩
    · refine ⟨_, rfl, _, _, rfl, rfl, ⟨by decide, by decide, by decide⟩, _, _, rfl, rfl, _, _, rfl, ?_⟩
      refine ⟨_, rfl, _, _, rfl, rfl, w0.ok k19 (by decide), _, rfl, _, _, rfl, rfl, .inl ⟨by decide, by decide⟩, _, _, rfl, rfl, _, rfl, _, _, rfl, rfl, ⟨by decide, by decide, by decide⟩, _, _, rfl, rfl, _, _, rfl, rfl, m39, ?_⟩
      exact ⟨by show 3 ≤ sizeLine; decide, fun p hp => fin _ _ s1 w0 p hp⟩

theorem scOne : FnScope ["feed", "things"] pOne (defScope sOne) := ⟨rfl, rfl, rfl, by decide +kernel, rfl, by decide +kernel, by decide +kernel⟩
theorem ok_one (T : Bl mg) (Dd : Dn K mg "_law_draw" sDraw pDraw) (D : Dn K mg "_law_one" sOne pOne) : FnOk P w K mg base CX0 2 D.f D.fd pOne (spOne K) := by
  have GD : FnOk P w K mg base CX0 1 Dd.f Dd.fd pDraw spDraw := ok_draw T Dd
  refine D.F.ok scOne (fun vs H Q E h => ?_) (fun cdv A outer s H vs Q E hr h => ?_)
  · obtain ⟨p, v, zs, m, o, rfl, _⟩ := h
    rfl
  · obtain ⟨p, v, zs, m, o, rfl, hp, hf, ht, h0, h1, k⟩ := h
    refine ⟨_, pss_one (ps_ret (pe_ix ix_seq (pv 1) (de_call Dd GD hr (pa_cons (pv 0) (pa_cons (pe_callB (CallR.or call_len_seq call_len_str) (by rfl) T.len b_len (pa_cons (pv 1) pa_nil)) pa_nil))) (fun _ _ => rfl))), ?_⟩
    have room : Wd 1000 (zs.length : Int) := ⟨Nat.lt_of_le_of_lt (show ((zs.length : Int)).natAbs ≤ 1000 by omega) (by decide +kernel)⟩
    rcases ht with ⟨z, rfl, rfl⟩ | ⟨a, rfl, hne, hsq⟩
    · have zl : z.cps.toList.length = z.length := by first | rfl | exact Array.length_toList | simp [Str.length]
      have small : z.length ≤ 1000 := by rw [List.length_map, zl] at h1; exact h1
      have pos : 0 < z.length := by rw [List.length_map, zl] at h0; exact h0
      have zw : Wd 1000 ((z.length : Nat) : Int) := by rw [List.length_map, zl] at room; exact room
      refine ⟨_, rfl, _, rfl, _, rfl, .inr ⟨z, rfl, Nat.le_of_lt (small1000 small), ?_⟩⟩
      refine ⟨p, _, m, o, rfl, hp, hf, by omega, zw, fun o' r fo r0 r1 => ?_⟩
      obtain ⟨j, rfl⟩ := Int.eq_ofNat_of_zero_le r0
      have jl : j < z.cps.toList.length := by rw [zl]; omega
      refine .inr (.inr ⟨z, _, z.cps.toList[j], rfl, rfl, Nat.le_of_lt (small1000 small), atI_nat (List.getElem?_eq_getElem jl), ?_⟩)
      exact k o' _ fo (List.mem_map.mpr ⟨_, List.getElem_mem jl, rfl⟩)
    · refine ⟨_, rfl, _, rfl, _, rfl, .inl ⟨a, zs, rfl, .inl hsq, ?_⟩⟩
      refine ⟨p, _, m, o, rfl, hp, hf, by omega, room, fun o' r fo r0 r1 => ?_⟩
      obtain ⟨j, rfl⟩ := Int.eq_ofNat_of_zero_le r0
      have jl : j < zs.length := by omega
      refine .inl ⟨a, zs, _, zs[j], rfl, rfl, ?_, atI_nat (List.getElem?_eq_getElem jl), k o' _ fo (List.getElem_mem jl)⟩
      exact sq_put hne hsq
end

theorem endOf_pos : ∀ {m : Nat} {e : Nat × Nat} {r : Doc}, 1 ≤ endOf m (e :: r)
  | _, (_, d), [] => Nat.le_add_left _ _
  | _, (_, d), e :: r => endOf_pos (m := d + 1) (e := e) (r := r)
/-- texts of marks -/
def MarksOk (z : Str) : Prop := 0 < z.cps.toList.length ∧ z.cps.toList.length ≤ 8 ∧ ∀ c ∈ z.cps.toList, 97 ≤ c ∧ c ≤ 104
def spDoc : Sp := fun vs H Q _ => ∃ (p : Addr) (most : Nat) (m : Nat) (o : List V), vs = [.ref p, .int most] ∧ H p = some (.lst o) ∧ FeedOk (m + 200) o ∧ most ≤ 62 ∧
  ∀ (H' : Hp) (q : Addr) (doc : Doc) (o' : List V), SameBut p H H' → H' p = some (.lst o') → FeedOk m o' → H q = none → DocAt H' q doc → okFrom 0 doc → doc.length ≤ most → Q (.ref q) H'
abbrev pDoc : List Str := ["feed", "most"]
/-- where the loop of a drawn document stands -/
structure DocInv (H : Hp) (p : Addr) (g : Addr) (i : Nat) (m : Nat) (d : Int) (H' : Hp) : Prop where
  but : SameBut p H H'
  new : H g = none
  ex : ∃ (o : List V) (vs : List V) (doc : Doc), H' p = some (.lst o) ∧ FeedOk m o ∧ H' g = some (.lst vs) ∧ EntsAt H' vs doc ∧ okFrom 0 doc ∧ doc.length = i ∧ d + 1 = (endOf 0 doc : Nat)
section
variable {P : Program} {w : World} {K : PySem.W.Frag} {mg : Str → Option Value} {base : Heap}
theorem scDoc : FnScope ["feed", "most", "marks", "many", "way", "got", "depth", "turn", "steps"] pDoc (defScope sDoc) := ⟨rfl, rfl, rfl, by decide +kernel, rfl, by decide +kernel, by decide +kernel⟩
theorem ok_doc (T : Bl mg) (Dd : Dn K mg "_law_draw" sDraw pDraw) (D1 : Dn K mg "_law_one" sOne pOne) (D : Dn K mg "_law_document" sDoc pDoc) : FnOk P w K mg base CX0 3 D.f D.fd pDoc spDoc := by
  have GD : FnOk P w K mg base CX0 1 Dd.f Dd.fd pDraw spDraw := ok_draw T Dd
  have G1 : FnOk P w K mg base CX0 2 D1.f D1.fd pOne (spOne K) := ok_one T Dd D1
  refine D.F.ok scDoc (fun vs H Q E h => ?_) (fun cdv A outer s H vs Q E hr h => ?_)
  · obtain ⟨p, most, m, o, rfl, _⟩ := h
    rfl
  · obtain ⟨p, most, m, o, rfl, hp, hf, hm, k⟩ := h
    refine ⟨_, pss_cons (ps_par3 (i := 2) (j := 3) (l := 4) rfl scDoc.nd rfl rfl rfl (by decide) (by decide) (by decide) rfl rfl rfl
        (pa_cons (de_call D1 G1 hr (pa_cons (pv 0) (pa_cons (pe_lst (pa_cons pe_str (pa_cons pe_str (pa_cons pe_str (pa_cons pe_str (pa_cons pe_str pa_nil)))))) pa_nil)))
        (pa_cons (de_call Dd GD hr (pa_cons (pv 0) (pa_cons (pe_op op_add (pv 1) pe_int) pa_nil)))
        (pa_cons (de_call Dd GD hr (pa_cons (pv 0) (pa_cons pe_int pa_nil))) pa_nil))) rfl)
      (pss_cons (ps_par (i := 5) (j := 6) rfl scDoc.nd rfl rfl (by decide) rfl rfl (pa_cons (pe_lst pa_nil) (pa_cons (pe_un un_neg pe_int) pa_nil)) rfl)
      (pss_cons (ps_for PassesOwn.never rfl (pi_range1 (by rfl) T.range (pa_cons (pv 3) pa_nil)) (pg_name (i := 7) scDoc.nd rfl (.inl rfl))
        (C8.pss_cut (ps_if (pt_cmpR op_eq (pv 4) pe_int (nomark _))
            (pss_one (ps_set (i := 6) scDoc.nd rfl (.inl rfl) (pe_ifExp (pt_cmpR op_eq (pv 7) pe_int (nomark _)) pe_int pe_int)))
            (pss_one (ps_if (pt_cmpR op_eq (pv 4) pe_int (nomark _))
              (pss_one (ps_set (i := 6) scDoc.nd rfl (.inl rfl) (pe_ifExp (pt_cmpR op_gt (de_call Dd GD hr (pa_cons (pv 0) (pa_cons pe_int pa_nil))) pe_int (nomark _)) (pe_op op_add (pv 6) pe_int)
                 (de_call Dd GD hr (pa_cons (pv 0) (pa_cons (pe_op op_add (pv 6) pe_int) pa_nil))))))
              (pss_cons (ps_set (i := 8) scDoc.nd rfl (.inl rfl) (pe_lst (pa_cons (pe_op op_add (pv 6) pe_int) (pa_cons (pe_op op_add (pv 6) pe_int) (pa_cons (pv 6) (pa_cons (pv 6) (pa_cons (pe_op op_sub (pv 6) pe_int) (pa_cons pe_int
                  (pa_cons (de_call Dd GD hr (pa_cons (pv 0) (pa_cons (pe_op op_add (pv 6) pe_int) pa_nil))) pa_nil)))))))))
              (pss_one (ps_set (i := 6) scDoc.nd rfl (.inl rfl) (pe_callB (call_max2 rfl) (by rfl) T.max b_max (pa_cons pe_int (pa_cons (pe_callB (call_min2 rfl) (by rfl) T.min b_min (pa_cons (pe_op op_add (pv 6) pe_int) (pa_cons (de_call D1 G1 hr (pa_cons (pv 0) (pa_cons (pv 8) pa_nil))) pa_nil))) pa_nil)))))))))
        (pss_one (ps_expr (pe_bm PySem.F.plainAttrs_list PySem.F.slot_list_append PySem.F.type_list_append mt_append (pv 5) (pa_cons (pe_tup (pa_cons (de_call D1 G1 hr (pa_cons (pv 0) (pa_cons (pv 2) pa_nil))) (pa_cons (pv 6) pa_nil))) pa_nil))))))
      (pss_one (ps_ret (pe_callTy call_tuple_of (by rfl) T.tuple b_tuple (pa_cons (pv 5) pa_nil)))))), ?_⟩
    -- the draws ahead of the loop
    refine ⟨_, rfl, by show 5 ≤ sizeLine; decide, fun l0 hl0 => ?_⟩
    have n0 : l0 ≠ p := fun z => by subst z; rw [hp] at hl0; cases hl0
    have b1 : SameBut p H (upd H l0 (.lst [.str "a", .str "ab", .str "ab", .str "abc", .str "abcdefgh"])) := SameBut.refl.new hl0
    have p1 : (upd H l0 (.lst [.str "a", .str "ab", .str "ab", .str "abc", .str "abcdefgh"])) p = some (.lst o) := by rw [upd_ne n0.symm]; exact hp
    refine ⟨p, _, [.str "a", .str "ab", .str "ab", .str "abc", .str "abcdefgh"], m + 199, o, rfl, p1, hf, .inr ⟨l0, rfl, n0, SqL.of upd_same⟩, by decide, by decide, fun o1 y1 f1 m1 => ?_⟩
    obtain ⟨mk, rfl, mok⟩ : ∃ z : Str, y1 = .str z ∧ MarksOk z := by
      simp only [List.mem_cons, List.not_mem_nil, or_false] at m1
      rcases m1 with e | e | e | e | e <;> exact ⟨_, e, by decide +kernel, by decide +kernel, by decide +kernel⟩
    have mw : Wd 1000 ((most : Int) + 1) := ⟨Nat.lt_of_le_of_lt (show ((most : Int) + 1).natAbs ≤ 63 by omega) (by decide +kernel)⟩
    refine ⟨_, rfl, _, rfl, _, _, rfl, rfl, p, _, m + 198, o1, rfl, upd_same, f1, by omega, mw, fun o2 r2 f2 r20 r21 => ?_⟩
    rw [upd_upd]
    refine ⟨_, rfl, p, _, m + 197, o2, rfl, upd_same, f2, by decide, ⟨by decide +kernel⟩, fun o3 r3 f3 r30 r31 => ?_⟩
    rw [upd_upd]
    refine ⟨_, _, _, rfl, ?_⟩
    obtain ⟨many, rfl⟩ := Int.eq_ofNat_of_zero_le r20
    -- got, depth
    refine ⟨Nat.zero_le _, fun g hg => ?_⟩
    have g0 : g ≠ p := fun z => by subst z; rw [upd_same] at hg; cases hg
    have bp : SameBut p H (upd (upd H l0 (.lst [.str "a", .str "ab", .str "ab", .str "abc", .str "abcdefgh"])) p (.lst o3)) := b1.put
    have gn : H g = none := bp.free hp ⟨_, upd_same⟩ hg
    refine ⟨_, rfl, _, _, rfl, ?_⟩
    -- the loop
    refine ⟨_, rfl, _, rfl, by omega, by omega, for_range (lo := 0) (n := many) (fun i σ H' => ∃ (d : Int) (t st : Option V),
      σ = [some (.ref p), some (.int most), some (.str mk), some (.int many), some (.int r3), some (.ref g), some (.int d), t, st] ∧ DocInv H p g i (m + 3 * (many - i)) d H') ?_ ?_ ?_⟩
    · refine ⟨-1, none, none, rfl, bp.new hg, gn, o3, [], [], ?_, f3.less (by omega), upd_same, .nil, trivial, rfl, rfl⟩
      rw [upd_ne g0.symm]
      exact upd_same
    · rintro i σ H1 hi ⟨d, t, st, rfl, but, _, o4, vs, doc, hp1, hf1, hg1, ents, ok, len, hd⟩
      have up : endOf 0 doc ≤ 62 := by
        have := endOf_le ok
        omega
      -- what follows the if: depth is e
      refine ⟨fun σ' H' => ∃ (e : Nat) (st' : Option V) (o' : List V), σ' = [some (.ref p), some (.int most), some (.str mk), some (.int many), some (.int r3), some (.ref g), some (.int e), some (.int (0 + (i : Int))), st'] ∧
        e ≤ endOf 0 doc ∧ SameBut p H1 H' ∧ H' p = some (.lst o') ∧ FeedOk (m + 3 * (many - (i + 1)) + 1) o', ?_, ?_⟩
      · have fd2 : FeedOk (m + 3 * (many - (i + 1)) + 3) o4 := hf1.less (by omega)
        refine ⟨_, rfl, rfl, _, rfl, ?_⟩
        refine ite2 (fun way => ?_) (fun way => ?_)
        · refine ⟨_, rfl, rfl, _, rfl, ?_⟩
          refine ite2 (fun first => ?_) (fun first => ?_)
          · exact ⟨0, st, o4, rfl, Nat.zero_le _, SameBut.refl, hp1, fd2.less (by omega)⟩
          · refine ⟨1, st, o4, rfl, ?_, SameBut.refl, hp1, fd2.less (by omega)⟩
            have i0 : i ≠ 0 := fun z => by
              subst z
              exact first (decide_eq_true rfl)
            cases doc with
            | nil => exact absurd len.symm i0
            | cons e r => exact endOf_pos
        · refine ⟨_, rfl, rfl, _, rfl, ?_⟩
          refine ite2 (fun way => ?_) (fun way => ?_)
          · refine ⟨_, rfl, p, 9, m + 3 * (many - (i + 1)) + 2, o4, rfl, hp1, fd2, by decide, ⟨by decide +kernel⟩, fun o5 r5 f5 r50 r51 => ?_⟩
            refine ⟨_, _, rfl, rfl, _, rfl, ?_⟩
            refine ite2 (fun up1 => ?_) (fun up1 => ?_)
            · refine ⟨_, rfl, _, _, rfl, rfl, ?_⟩
              refine ⟨endOf 0 doc, st, o5, ?_, Nat.le_refl _, SameBut.refl.put, upd_same, f5.less (by omega)⟩
              rw [← hd]
              rfl
            · have dw : Wd 1000 (d + 2) := ⟨Nat.lt_of_le_of_lt (show (d + 2).natAbs ≤ 100 by omega) (by decide +kernel)⟩
              refine ⟨_, rfl, _, rfl, _, _, rfl, rfl, p, _, m + 3 * (many - (i + 1)) + 1, o5, rfl, upd_same, f5, by omega, dw, fun o6 r6 f6 r60 r61 => ?_⟩
              obtain ⟨e, rfl⟩ := Int.eq_ofNat_of_zero_le r60
              refine ⟨e, st, o6, rfl, by omega, ?_, upd_same, f6⟩
              exact SameBut.refl.put.put
          · have dw : Wd 1000 (d + 2) := ⟨Nat.lt_of_le_of_lt (show (d + 2).natAbs ≤ 100 by omega) (by decide +kernel)⟩
            refine ⟨_, rfl, _, _, rfl, rfl, _, rfl, _, _, rfl, rfl, _, rfl, _, rfl, _, rfl, _, _, rfl, rfl, ?_⟩
            refine ⟨_, rfl, _, rfl, _, _, rfl, rfl, p, _, m + 3 * (many - (i + 1)) + 2, o4, rfl, hp1, fd2, by omega, dw, fun o5 r5 f5 r50 r51 => ?_⟩
            refine ⟨by show 7 ≤ sizeLine; decide, fun l1 hl1 => ?_⟩
            have n1 : l1 ≠ p := fun z => by subst z; rw [upd_same] at hl1; cases hl1
            have b5 : SameBut p H1 (upd (upd H1 p (.lst o5)) l1 (.lst [.int (d + 1), .int (d + 1), .int d, .int d, .int (d - 1), .int 0, .int r5])) := (SameBut.refl.put).new hl1
            have p5 : (upd (upd H1 p (.lst o5)) l1 (.lst [.int (d + 1), .int (d + 1), .int d, .int d, .int (d - 1), .int 0, .int r5])) p = some (.lst o5) := by
              rw [upd_ne n1.symm]
              exact upd_same
            refine ⟨_, rfl, _, _, rfl, rfl, ?_⟩
            refine ⟨_, rfl, _, rfl, p, _, [.int (d + 1), .int (d + 1), .int d, .int d, .int (d - 1), .int 0, .int r5], m + 3 * (many - (i + 1)) + 1, o5, rfl, p5, f5, .inr ⟨l1, rfl, n1, SqL.of upd_same⟩, by show 0 < 7; decide, by show 7 ≤ 1000; decide, fun o6 y6 f6 m6 => ?_⟩
            obtain ⟨u, rfl⟩ : ∃ u : Int, y6 = .int u := by
              simp only [List.mem_cons, List.not_mem_nil, or_false] at m6
              rcases m6 with z | z | z | z | z | z | z <;> exact ⟨_, z⟩
            refine ⟨_, _, rfl, _, _, rfl, ?_⟩
            have q0 : ∃ e : Nat, (if (if u < d + 1 then u else d + 1) > 0 then (if u < d + 1 then u else d + 1) else 0) = (e : Int) ∧ e ≤ endOf 0 doc := by
              by_cases c1 : u < d + 1
              · rw [if_pos c1]
                by_cases c2 : u > 0
                · rw [if_pos c2]
                  exact ⟨u.toNat, by omega, by omega⟩
                · rw [if_neg c2]
                  exact ⟨0, rfl, Nat.zero_le _⟩
              · rw [if_neg c1]
                by_cases c2 : d + 1 > 0
                · rw [if_pos c2]
                  exact ⟨endOf 0 doc, by omega, Nat.le_refl _⟩
                · rw [if_neg c2]
                  exact ⟨0, rfl, Nat.zero_le _⟩
            obtain ⟨e, ee, el⟩ := q0
            refine ⟨e, some (.ref l1), o6, ?_, el, b5.put, upd_same, f6⟩
            show [some (V.ref p), some (V.int most), some (V.str mk), some (V.int many), some (V.int r3), some (V.ref g), some (V.int (if (if u < d + 1 then u else d + 1) > 0 then (if u < d + 1 then u else d + 1) else 0)), some (V.int (0 + (i : Int))), some (V.ref l1)] = _
            rw [ee]
      · rintro σ' H' ⟨e, st', o', rfl, el, b6, hp6, f6⟩
        have hg6 : H' g = some (.lst vs) := b6 g _ g0 hg1
        have en6 : EntsAt H' vs doc := ents.mono (b6.tups hp1)
        have vl : vs.length = i := by rw [Paired.length en6]; exact len
        refine ⟨_, rfl, .inl ⟨rfl, _, SqL.of hg6⟩, ?_⟩
        refine ⟨_, rfl, _, rfl, p, _, mk.cps.toList.map (fun c => V.str ⟨#[c]⟩), m + 3 * (many - (i + 1)), o', rfl, hp6, f6, .inl ⟨mk, rfl, rfl⟩, by rw [List.length_map]; exact mok.1, by rw [List.length_map]; exact Nat.le_trans mok.2.1 (by decide), fun o7 y7 f7 m7 => ?_⟩
        obtain ⟨c, hc, rfl⟩ := List.mem_map.mp m7
        refine ⟨_, rfl, by show 2 ≤ sizeLine; decide, fun t7 ht7 => ?_⟩
        have tp7 : t7 ≠ p := fun z => by subst z; rw [upd_same] at ht7; cases ht7
        have ht6 : H' t7 = none := by rw [upd_ne tp7] at ht7; exact ht7
        have tg : t7 ≠ g := fun z => by subst z; rw [hg6] at ht6; cases ht6
        have hg7 : (upd (upd H' p (.lst o7)) t7 (.tup [.str ⟨#[c]⟩, .int (e : Nat)])) g = some (.lst vs) := by
          rw [upd_ne tg.symm, upd_ne g0]
          exact hg6
        refine ⟨g, vs, _, rfl, rfl, hg7, by rw [vl]; exact Nat.lt_of_lt_of_le (show i < 63 by omega) (by decide), ?_⟩
        refine ⟨e, _, _, rfl, ?_, gn, o7, vs ++ [.ref t7], doc ++ [(c, e)], ?_, f7, upd_same, ?_, okFrom_snoc ok (mok.2.2 c hc).1 (mok.2.2 c hc).2 el, ?_, ?_⟩
        · intro b ob nb eb
          have z := b6 b ob nb (but b ob nb eb)
          have z1 : (upd H' p (.lst o7)) b = some ob := by rw [upd_ne nb]; exact z
          rw [upd_ne (fun q => by subst q; rw [gn] at eb; cases eb), upd_ne (ne_of_none z1 ht7)]
          exact z1
        · rw [upd_ne g0.symm, upd_ne tp7.symm]
          exact upd_same
        · have k1 : ∀ b xs, H' b = some (.tup xs) → (upd (upd (upd H' p (.lst o7)) t7 (.tup [.str ⟨#[c]⟩, .int (e : Nat)])) g (.lst (vs ++ [.ref t7]))) b = some (.tup xs) := by
            intro b xs eb
            exact upd_tups hg7 b xs (new_tups ht7 b xs (upd_tups hp6 b xs eb))
          refine Paired.snoc (en6.mono k1) ⟨t7, rfl, ?_⟩
          rw [upd_ne tg]
          exact upd_same
        · rw [List.length_append, len]
          rfl
        · rw [endOf_snoc]
          rfl
    · rintro σ H1 ⟨d, t, st, rfl, but, _, o4, vs, doc, hp1, hf1, hg1, ents, ok, len, hd⟩
      refine ⟨_, rfl, g, vs, rfl, .inl ⟨SqL.of hg1, fun q hq => ?_⟩⟩
      have qp : q ≠ p := fun z => by subst z; rw [hp1] at hq; cases hq
      refine k _ q doc o4 (but.new hq) (by rw [upd_ne qp.symm]; exact hp1) (hf1.less (by omega)) (but.free hp ⟨_, hp1⟩ hq) ⟨vs, upd_same, ents.mono (new_tups hq)⟩ ok (by omega)
end

def spGrown (K : PySem.W.Frag) : Sp := fun vs H Q _ => ∃ (a : Addr) (ns : List Int), vs = [.ref a] ∧ SqL K H a (ns.map V.int) ∧ ns.length ≤ 62 ∧
  ∀ (H' : Hp) (q : Addr) (doc : Doc), Same H H' → H q = none → DocAt H' q doc → okFrom 0 doc → doc.length ≤ 62 → Q (.ref q) H'
abbrev pGrown : List Str := ["cells"]
/-- the script, which nothing changes -/
def ScrAt (K : PySem.W.Frag) (H : Hp) (a : Addr) (ns : List Int) : Prop := (∃ o, H a = some (.frz o (.lst (ns.map V.int)))) ∨
  ∃ (o : Obj) (its : Array Value) (n : Nat), K.lookup a = some o ∧ o.cls = .type "list" ∧ o.dict = none ∧ o.data = .seq its n ∧ its.size ≤ sizeLine ∧ Vals (ns.map V.int) its.toList
theorem ScrAt.sq {K : PySem.W.Frag} {H : Hp} {a : Addr} {ns : List Int} (h : ScrAt K H a ns) : SqL K H a (ns.map V.int) := by
  rcases h with h | h
  · exact .inl (.inr h)
  · exact .inr h
theorem ScrAt.same {K : PySem.W.Frag} {H H' : Hp} {a : Addr} {ns : List Int} (h : ScrAt K H a ns) (s : Same H H') : ScrAt K H' a ns := by
  rcases h with ⟨o, h⟩ | h
  · exact .inl ⟨o, s _ _ h⟩
  · exact .inr h
theorem ScrAt.but {K : PySem.W.Frag} {H H' : Hp} {a p : Addr} {ns : List Int} {l : List V} (h : ScrAt K H a ns) (s : SameBut p H H') (hp : H p = some (.lst l)) : ScrAt K H' a ns := by
  rcases h with ⟨o, h⟩ | h
  · exact .inl ⟨o, s _ _ (fun z => by subst z; rw [hp] at h; cases h) h⟩
  · exact .inr h
theorem ScrAt.of {K : PySem.W.Frag} {H : Hp} {a : Addr} {ns : List Int} (only : Only H) (h : SqL K H a (ns.map V.int)) : ScrAt K H a ns := by
  rcases h with (h | h) | h
  · rcases only a with z | ⟨o, xs, z⟩
    · rw [z] at h; cases h
    · rw [z] at h; cases h
  · exact .inl h
  · exact .inr h
def spDrawn (K : PySem.W.Frag) : Sp := fun vs H Q _ => ∃ (p a : Addr) (most : Nat) (ns : List Int) (m : Nat) (o : List V), vs = [.ref p, .ref a, .int most] ∧ H p = some (.lst o) ∧ FeedOk (m + 1) o ∧
  ScrAt K H a ns ∧ ns.length ≤ 63 ∧ (∀ z ∈ ns, Builtin.Int.intBits z ≤ 1048576) ∧ most ≤ 62 ∧
  ∀ (H' : Hp) (q : Addr) (doc : Doc) (o' : List V), SameBut p H H' → H' p = some (.lst o') → FeedOk m o' → H q = none → DocAt H' q doc → okFrom 0 doc → doc.length ≤ 62 → Q (.ref q) H'
abbrev pDrawn : List Str := ["feed", "script", "most"]
theorem eight (j : Int) : ∃ c : Nat, atI ("abcdefgh" : Str).cps.toList (j % 8) = some c ∧ 97 ≤ c ∧ c ≤ 104 := by
  have h0 := Int.emod_nonneg j (show (8 : Int) ≠ 0 by decide)
  have h1 := Int.emod_lt_of_pos j (show (0 : Int) < 8 by decide)
  generalize j % 8 = z at h0 h1
  obtain ⟨n, rfl⟩ := Int.eq_ofNat_of_zero_le h0
  have n8 : n < 8 := by omega
  have all : ∀ k : Nat, k < 8 → ∃ c : Nat, ("abcdefgh" : Str).cps.toList[k]? = some c ∧ 97 ≤ c ∧ c ≤ 104 := by
    intro k hk
    match k, hk with
    | 0, _ => exact ⟨97, by decide +kernel, by decide, by decide⟩
    | 1, _ => exact ⟨98, by decide +kernel, by decide, by decide⟩
    | 2, _ => exact ⟨99, by decide +kernel, by decide, by decide⟩
    | 3, _ => exact ⟨100, by decide +kernel, by decide, by decide⟩
    | 4, _ => exact ⟨101, by decide +kernel, by decide, by decide⟩
    | 5, _ => exact ⟨102, by decide +kernel, by decide, by decide⟩
    | 6, _ => exact ⟨103, by decide +kernel, by decide, by decide⟩
    | 7, _ => exact ⟨104, by decide +kernel, by decide, by decide⟩
    | n + 8, h => exact absurd h (by omega)
  obtain ⟨c, e, r⟩ := all n n8
  exact ⟨c, atI_nat e, r⟩
section
variable {P : Program} {w : World} {K : PySem.W.Frag} {mg : Str → Option Value} {base : Heap}
theorem scGrown : FnScope ["cells", "got", "most", "cell", "depth"] pGrown (defScope sGrown) := ⟨rfl, rfl, rfl, by decide +kernel, rfl, by decide +kernel, by decide +kernel⟩
theorem ok_grown (T : Bl mg) (D : Dn K mg "_law_grown" sGrown pGrown) : FnOk P w K mg base CX0 1 D.f D.fd pGrown (spGrown K) := by
  refine D.F.ok scGrown (fun vs H Q E h => ?_) (fun cdv A outer s H vs Q E hr h => ?_)
  · obtain ⟨a, ns, rfl, _⟩ := h
    rfl
  · obtain ⟨a, ns, rfl, hs, hl, k⟩ := h
    refine ⟨_, pss_cons (ps_par (i := 1) (j := 2) rfl scGrown.nd rfl rfl (by decide) rfl rfl (pa_cons (pe_lst pa_nil) (pa_cons pe_int pa_nil)) rfl)
      (pss_cons (ps_for PassesOwn.never rfl (pi_list (pv 0)) (pg_name (i := 3) scGrown.nd rfl (.inl rfl))
        (pss_cons (ps_set (i := 4) scGrown.nd rfl (.inl rfl) (pe_op op_mod (pe_callTy call_intI (by rfl) T.int b_int (pa_cons (pv 3)  pa_nil)) (pe_op op_add (pv 2) pe_int)))
        (pss_cons (ps_expr (pe_bm PySem.F.plainAttrs_list PySem.F.slot_list_append PySem.F.type_list_append mt_append (pv 1) (pa_cons (pe_tup (pa_cons (pe_ix ix_str pe_str (pe_op op_mod (pe_callTy call_intI (by rfl) T.int b_int (pa_cons (pe_op op_fdivW (pv 3) (pe_op op_add (pv 2) pe_int))  pa_nil)) pe_int) (fun _ _ => rfl)) (pa_cons (pv 4) pa_nil))) pa_nil)))
        (pss_one (ps_set (i := 2) scGrown.nd rfl (.inl rfl) (pe_op op_add (pv 4) pe_int))))))
      (pss_one (ps_ret (pe_callTy call_tuple_of (by rfl) T.tuple b_tuple (pa_cons (pv 1) pa_nil))))), ?_⟩
    refine ⟨Nat.zero_le _, fun g hg => ⟨_, _, rfl, ?_⟩⟩
    have ga : ∀ b o, H b = some o → b ≠ g := fun b o e => ne_of_none e hg
    refine ⟨_, rfl, a, rfl, ⟨_, (show Same H (upd H g (.lst [])) from fun b o e => by rw [upd_ne (ga b o e)]; exact e).seq hs⟩,
      for_list (K := K) (a := a) (xs := ns.map V.int) (fun i σ H' => ∃ (vs : List V) (doc : Doc) (c d : Option V),
        σ = [some (.ref a), some (.ref g), some (.int (endOf 0 doc : Nat)), c, d] ∧ Same H H' ∧ H' g = some (.lst vs) ∧ EntsAt H' vs doc ∧ okFrom 0 doc ∧ doc.length = i) ?_ ?_ ?_ ?_⟩
    · refine ⟨[], [], none, none, rfl, fun b o e => ?_, upd_same, .nil, trivial, rfl⟩
      rw [upd_ne (ga b o e)]
      exact e
    · rintro i σ H' hi ⟨vs, doc, c, d, rfl, s1, _⟩
      exact s1.seq hs
    · rintro i x σ H' hi ⟨vs, doc, c, d, rfl, s1, hg1, ents, ok, len⟩
      have il : i < ns.length := by
        have q := (List.getElem?_eq_some_iff.mp hi).1
        rw [List.length_map] at q
        exact q
      obtain ⟨u, rfl⟩ : ∃ u, x = V.int u := by
        rw [List.getElem?_map, List.getElem?_eq_getElem il] at hi
        exact ⟨_, (Option.some.inj hi).symm⟩
      have up := endOf_le ok
      have pos : (0 : Int) < (endOf 0 doc : Nat) + 1 := by omega
      have wd : Wd 1000 ((endOf 0 doc : Nat) + 1 : Int) := ⟨Nat.lt_of_le_of_lt (show (((endOf 0 doc : Nat) : Int) + 1).natAbs ≤ 100 by omega) (by decide +kernel)⟩
      have vl : vs.length = i := by rw [Paired.length ents]; exact len
      obtain ⟨ch, ech, c0, c1⟩ := eight (u / ((endOf 0 doc : Nat) + 1))
      refine ⟨_, rfl, _, rfl, _, rfl, _, _, rfl, rfl, _, _, rfl, rfl, pos, ?_⟩
      refine ⟨_, rfl, .inl ⟨rfl, _, SqL.of hg1⟩, ?_⟩
      refine ⟨_, rfl, _, rfl, _, _, rfl, rfl, _, _, rfl, rfl, wd.cdiv pos (by decide) (by decide), _, rfl, _, _, rfl, rfl, (by show (0 : Int) < 8; decide), _, _, ch, rfl, rfl, by decide +kernel, ech, ?_⟩
      refine ⟨_, rfl, by show 2 ≤ sizeLine; decide, fun t ht => ?_⟩
      have z0 := Int.emod_nonneg u (show ((endOf 0 doc : Nat) : Int) + 1 ≠ 0 by omega)
      have z1 := Int.emod_lt_of_pos u pos
      obtain ⟨e, ee⟩ := Int.eq_ofNat_of_zero_le z0
      have tg : t ≠ g := fun z => by subst z; rw [hg1] at ht; cases ht
      refine ⟨g, vs, _, rfl, rfl, by rw [upd_ne tg.symm]; exact hg1, by rw [vl]; exact Nat.lt_of_lt_of_le (show i < 63 by omega) (by decide), ?_⟩
      refine ⟨_, rfl, _, _, rfl, rfl, ?_⟩
      refine ⟨vs ++ [.ref t], doc ++ [(ch, e)], some (.int u), some (.int e), ?_, ?_, upd_same, ?_, okFrom_snoc ok c0 c1 (by omega), ?_⟩
      · rw [endOf_snoc]
        show [some (V.ref a), some (V.ref g), some (V.int (u % ((endOf 0 doc : Nat) + 1) + 1)), some (V.int u), some (V.int (u % ((endOf 0 doc : Nat) + 1)))] = _
        rw [ee]
        rfl
      · intro b o eb
        have z := s1 b o eb
        rw [upd_ne (ga b o eb), upd_ne (ne_of_none z ht)]
        exact z
      · have k1 : ∀ b xs, H' b = some (.tup xs) → (upd (upd H' t (.tup [.str ⟨#[ch]⟩, .int (u % ((endOf 0 doc : Nat) + 1))])) g (.lst (vs ++ [.ref t]))) b = some (.tup xs) := by
          intro b xs eb
          exact upd_tups (by rw [upd_ne tg.symm]; exact hg1) b xs (new_tups ht b xs eb)
        refine Paired.snoc (ents.mono k1) ⟨t, rfl, ?_⟩
        rw [upd_ne tg, upd_same]
        show some (HO.tup [V.str ⟨#[ch]⟩, V.int (u % ((endOf 0 doc : Nat) + 1))]) = _
        rw [ee]
      · rw [List.length_append, len]
        rfl
    · rintro σ H' ⟨vs, doc, c, d, rfl, s1, hg1, ents, ok, len⟩
      refine ⟨_, rfl, g, vs, rfl, .inl ⟨SqL.of hg1, fun q hq => ?_⟩⟩
      refine k _ q doc (fun b o e => ?_) (s1.free hq) ⟨vs, upd_same, ents.mono (new_tups hq)⟩ ok (by rw [len, List.length_map]; exact hl)
      have z := s1 b o e
      rw [upd_ne (ne_of_none z hq)]
      exact z

theorem scDrawn : FnScope ["feed", "script", "most"] pDrawn (defScope sDrawn) := ⟨rfl, rfl, rfl, by decide +kernel, rfl, by decide +kernel, by decide +kernel⟩
theorem ok_drawn (T : Bl mg) (Dd : Dn K mg "_law_draw" sDraw pDraw) (D1 : Dn K mg "_law_one" sOne pOne) (Df : Dn K mg "_law_feed" sFeed pFeed) (Dg : Dn K mg "_law_grown" sGrown pGrown)
    (Dc : Dn K mg "_law_document" sDoc pDoc) (D : Dn K mg "_law_drawn" sDrawn pDrawn) : FnOk P w K mg base CX0 4 D.f D.fd pDrawn (spDrawn K) := by
  have GD : FnOk P w K mg base CX0 1 Dd.f Dd.fd pDraw spDraw := ok_draw T Dd
  have GF : FnOk P w K mg base CX0 1 Df.f Df.fd pFeed (spFeed K) := ok_feed T Df
  have GG : FnOk P w K mg base CX0 1 Dg.f Dg.fd pGrown (spGrown K) := ok_grown T Dg
  have GC : FnOk P w K mg base CX0 3 Dc.f Dc.fd pDoc spDoc := ok_doc T Dd D1 Dc
  refine D.F.ok scDrawn (fun vs H Q E h => ?_) (fun cdv A outer s H vs Q E hr h => ?_)
  · obtain ⟨p, a, most, ns, m, o, rfl, _⟩ := h
    rfl
  · obtain ⟨p, a, most, ns, m, o, rfl, hp, hf, hs, hl, hb, hm, k⟩ := h
    refine ⟨_, pss_cons (ps_if (pt_cmpR op_eq (de_call Dd GD hr (pa_cons (pv 0) (pa_cons pe_int pa_nil))) pe_int (nomark _))
        (pss_one (ps_ret (de_call Dg GG hr (pa_cons (pe_slice sl_list (pv 1) (po_some pe_int) (po_some pe_int)) pa_nil)))) pss_nil)
      (pss_one (ps_ret (de_call Dc GC hr (pa_cons (de_call Df GF hr (pa_cons (pv 1) (pa_cons pe_int pa_nil))) (pa_cons (pv 2) pa_nil))))), ?_⟩
    refine ⟨_, rfl, p, 2, m, o, rfl, hp, hf, by decide, ⟨by decide +kernel⟩, fun o1 r1 f1 r10 r11 => ?_⟩
    have b1 : SameBut p H (upd H p (.lst o1)) := SameBut.refl.put
    have hs1 : SqL K (upd H p (.lst o1)) a (ns.map V.int) := (hs.but b1 hp).sq
    refine ⟨rfl, _, rfl, ite2 (fun c => ?_) (fun c => ?_)⟩
    · refine ⟨_, rfl, _, rfl, _, rfl, a, _, rfl, hs1, fun q hq => ?_⟩
      have ce : cutV (ns.map V.int) (some 1) (some 63) = ((ns.drop 1).take 62).map V.int := by
        have := cutV_mid (ns.map V.int) 1 63
        rw [← List.map_drop, ← List.map_take] at this
        exact this
      rw [ce]
      refine ⟨q, (ns.drop 1).take 62, rfl, SqL.of upd_same, by rw [List.length_take]; omega, fun H' t doc s1 ht hd ok len => ?_⟩
      have qp : q ≠ p := fun z => by subst z; rw [upd_same] at hq; cases hq
      have b2 := b1.new (o := HO.lst (((ns.drop 1).take 62).map V.int)) hq
      have ptr : (upd (upd H p (.lst o1)) q (.lst (((ns.drop 1).take 62).map V.int))) p = some (.lst o1) := by rw [upd_ne qp.symm]; exact upd_same
      exact k H' t doc o1 (fun b ob nb e => s1 b ob (b2 b ob nb e)) (s1 _ _ ptr) f1 (b2.free hp ⟨_, ptr⟩ ht) hd ok len
    · refine ⟨_, rfl, a, 1, ns, rfl, hs1, hl, hb, by decide, by decide, fun H2 p2 o2 s2 n2 h2 f2 => ?_⟩
      have hp2 : H2 p = some (.lst o1) := s2 _ _ upd_same
      refine ⟨_, rfl, p2, most, 800000000000, o2, rfl, h2, f2.less (by omega), hm, fun H3 t doc o3 b3 h3 f3 ht hd ok len => ?_⟩
      have pp2 : p ≠ p2 := fun z => by subst z; rw [upd_same] at n2; cases n2
      have b23 : SameBut p H H3 := fun b ob nb e => b3 b ob (fun z => by subst z; have := b1 b ob nb e; rw [n2] at this; cases this) (s2 b ob (b1 b ob nb e))
      have hp3 : H3 p = some (.lst o1) := b3 p _ pp2 hp2
      refine k H3 t doc o1 b23 hp3 f1 ?_ hd ok (Nat.le_trans len hm)
      have t1 : (upd H p (.lst o1)) t = none := s2.free ht
      exact b1.free hp ⟨_, upd_same⟩ t1
end

/-! ### basics: kinds of things -/
def markTexts : List Str := ["a", "b", "c", "d", "e", "f", "g", "h"]
def MarksAt (K : PySem.W.Frag) (mg : Str → Option Value) : Prop := ∃ a : Addr, mg "MARKS" = some (.ref a) ∧ ∀ H, SqT K H a (markTexts.map V.str)
def numberV : V → Bool
  | .int i => decide (0 ≤ i)
  | _ => false
def markV : V → Bool
  | .str z => decide (z ∈ markTexts)
  | _ => false
theorem any_text (z : Str) : ∀ l : List Str, (l.map V.str).any (fun y => eqV y (.str z)) = decide (z ∈ l)
  | [] => rfl
  | y :: l => by
    rw [List.map_cons, List.any_cons, any_text z l]
    show ((y == z) || decide (z ∈ l)) = _
    by_cases e : y = z
    · subst e
      simp
    · have e' : ¬ z = y := fun q => e q.symm
      simp [e, e']
def spWhole (K : PySem.W.Frag) : Sp := fun vs H Q _ => ∃ (x : V) (T : String), vs = [x] ∧ Any K H x T ∧ Q (.bl (T == "int")) H
def spNumber (K : PySem.W.Frag) : Sp := fun vs H Q _ => ∃ (x : V) (T : String), vs = [x] ∧ Any K H x T ∧ Q (.bl (numberV x)) H
def spMark (K : PySem.W.Frag) : Sp := fun vs H Q _ => ∃ (x : V) (T : String), vs = [x] ∧ Any K H x T ∧ Q (.bl (markV x)) H
def spNode (K : PySem.W.Frag) : Sp := fun vs H Q _ => ∃ (p : Addr) (xs : List V) (x : V) (T : String), vs = [.ref p, x] ∧ SqT K H p xs ∧ Any K H x T ∧
  Q (.bl (numberV x && (match x with | .int i => decide (i < xs.length) | _ => false))) H
abbrev pThing : List Str := ["thing"]
abbrev pNode : List Str := ["document", "thing"]
section
variable {P : Program} {w : World} {K : PySem.W.Frag} {mg : Str → Option Value} {base : Heap}
theorem ok_whole (T : Bl mg) (D : Dn K mg "is_whole" sWhole pThing) : FnOk P w K mg base CX0 1 D.f D.fd pThing (spWhole K) := by
  have sc : FnScope ["thing"] pThing (defScope sWhole) := ⟨rfl, rfl, rfl, by decide +kernel, rfl, by decide +kernel, by decide +kernel⟩
  refine D.F.ok sc (fun vs H Q E h => ?_) (fun cdv A outer s H vs Q E hr h => ?_)
  · obtain ⟨x, ty, rfl, _⟩ := h
    rfl
  · obtain ⟨x, ty, rfl, any, k⟩ := h
    refine ⟨_, pss_one (ps_ret (pe_and (pe_callB call_isi (by rfl) T.isinstance b_isinstance (pa_cons (pv 0) (pa_cons (pe_bltn (v := .ty "int") rfl T.int b_int rfl) pa_nil))) (pe_one (pe_not (pe_callB call_isi (by rfl) T.isinstance b_isinstance (pa_cons (pv 0) (pa_cons (pe_bltn (v := .ty "bool") rfl T.bool b_bool rfl) pa_nil))))))), ?_⟩
    obtain ⟨k1, k2, _, _⟩ := any.kit
    refine ⟨_, rfl, _, _, _, _, _, rfl, .ty "int", any.ty, k1, _, rfl, ite2 (fun c => ?_) (fun c => ?_)⟩
    · refine ⟨_, rfl, _, _, _, _, _, rfl, .ty "bool", any.ty, k2, _, rfl, ?_⟩
      have e : (!(ty == "bool")) = (ty == "int") := by cases any <;> first | rfl | exact absurd c (by decide)
      rw [e]
      exact k
    · have e : false = (ty == "int") := by cases any <;> first | rfl | exact absurd (by decide) c
      rw [e]
      exact k
theorem ok_number (T : Bl mg) (Dw : Dn K mg "is_whole" sWhole pThing) (D : Dn K mg "is_number" sNumber pThing) : FnOk P w K mg base CX0 2 D.f D.fd pThing (spNumber K) := by
  have GW : FnOk P w K mg base CX0 1 Dw.f Dw.fd pThing (spWhole K) := ok_whole T Dw
  have sc : FnScope ["thing"] pThing (defScope sNumber) := ⟨rfl, rfl, rfl, by decide +kernel, rfl, by decide +kernel, by decide +kernel⟩
  refine D.F.ok sc (fun vs H Q E h => ?_) (fun cdv A outer s H vs Q E hr h => ?_)
  · obtain ⟨x, ty, rfl, _⟩ := h
    rfl
  · obtain ⟨x, ty, rfl, any, k⟩ := h
    refine ⟨_, pss_one (ps_ret (pe_and (de_call Dw GW hr (pa_cons (pv 0) pa_nil)) (pe_one (pe_cmpR op_ge (pv 0) pe_int (nomark _))))), ?_⟩
    refine ⟨_, rfl, x, ty, rfl, any, _, rfl, ite2 (fun c => ?_) (fun c => ?_)⟩
    · cases any with
      | int i => exact ⟨_, rfl, _, _, rfl, rfl, k⟩
      | _ => exact absurd c (by decide)
    · cases any with
      | int i => exact absurd (by decide) c
      | _ => exact k
theorem ok_mark (T : Bl mg) (hm : MarksAt K mg) (D : Dn K mg "is_mark" sMark pThing) : FnOk P w K mg base CX0 1 D.f D.fd pThing (spMark K) := by
  have sc : FnScope ["thing"] pThing (defScope sMark) := ⟨rfl, rfl, rfl, by decide +kernel, rfl, by decide +kernel, by decide +kernel⟩
  refine D.F.ok sc (fun vs H Q E h => ?_) (fun cdv A outer s H vs Q E hr h => ?_)
  · obtain ⟨x, ty, rfl, _⟩ := h
    rfl
  · obtain ⟨x, ty, rfl, any, k⟩ := h
    obtain ⟨aM, gM, sM⟩ := hm
    refine ⟨_, pss_one (ps_ret (pe_and (pe_callB call_isi (by rfl) T.isinstance b_isinstance (pa_cons (pv 0) (pa_cons (pe_bltn (v := .ty "str") rfl T.str b_str rfl) pa_nil))) (pe_one (pe_cmpR op_in_seq (pv 0) (pe_glob (v := .ref aM) rfl gM rfl) (by rfl))))), ?_⟩
    obtain ⟨_, _, k3, _⟩ := any.kit
    refine ⟨_, rfl, _, _, _, _, _, rfl, .ty "str", any.ty, k3, _, rfl, ite2 (fun c => ?_) (fun c => ?_)⟩
    · cases any with
      | str z =>
        refine ⟨_, rfl, aM, _, rfl, .inr (sM _), rfl, by decide +kernel, ?_⟩
        have e : inV (.str z) (markTexts.map V.str) = markV (.str z) := by
          exact any_text z markTexts
        show Q (.bl (if false = true then _ else inV (.str z) (markTexts.map V.str))) H
        rw [if_neg Bool.false_ne_true, e]
        exact k
      | _ => exact absurd c (by decide)
    · cases any with
      | str i => exact absurd (by decide) c
      | _ => exact k
theorem ok_node (T : Bl mg) (Dw : Dn K mg "is_whole" sWhole pThing) (Dn' : Dn K mg "is_number" sNumber pThing) (D : Dn K mg "is_node" sNode pNode) : FnOk P w K mg base CX0 3 D.f D.fd pNode (spNode K) := by
  have GN : FnOk P w K mg base CX0 2 Dn'.f Dn'.fd pThing (spNumber K) := ok_number T Dw Dn'
  have sc : FnScope ["document", "thing"] pNode (defScope sNode) := ⟨rfl, rfl, rfl, by decide +kernel, rfl, by decide +kernel, by decide +kernel⟩
  refine D.F.ok sc (fun vs H Q E h => ?_) (fun cdv A outer s H vs Q E hr h => ?_)
  · obtain ⟨p, xs, x, ty, rfl, _⟩ := h
    rfl
  · obtain ⟨p, xs, x, ty, rfl, hs, any, k⟩ := h
    refine ⟨_, pss_one (ps_ret (pe_and (de_call Dn' GN hr (pa_cons (pv 1) pa_nil)) (pe_one (pe_cmpR op_lt (pv 1) (pe_callB call_len_seq (by rfl) T.len b_len (pa_cons (pv 0) pa_nil)) (nomark _))))), ?_⟩
    refine ⟨_, rfl, x, ty, rfl, any, _, rfl, ite2 (fun c => ?_) (fun c => ?_)⟩
    · cases any with
      | int i =>
        rw [c] at k
        refine ⟨_, rfl, _, rfl, p, xs, rfl, .inr hs, _, _, rfl, rfl, ?_⟩
        rw [Bool.true_and] at k
        exact k
      | _ => exact absurd c Bool.false_ne_true
    · have e : numberV x = false := by
        cases h : numberV x with
        | false => rfl
        | true => exact absurd h c
      rw [e, Bool.false_and] at k
      exact k
end

/-! ### basics: ways through a document -/
def dep (doc : Doc) (i : Nat) : Nat := (doc.getD i (0, 0)).2
def vO : Option Nat → V
  | none => .non
  | some i => .int (i : Nat)
def belowOf (doc : Doc) : Option Nat → Nat
  | none => 0
  | some i => dep doc i + 1
def firstOf : Option Nat → Nat
  | none => 0
  | some i => i + 1
def inDoc (doc : Doc) (o : Option Nat) : Prop := ∀ i, o = some i → i < doc.length
/-- the numbers, from k on, of the entries of the depth d, until one comes that is less deep -/
def rowL (d : Nat) : Nat → Doc → List Nat
  | _, [] => []
  | k, (_, e) :: r => if e < d then [] else if e = d then k :: rowL d (k + 1) r else rowL d (k + 1) r
def rowOf (doc : Doc) (o : Option Nat) : List Nat := rowL (belowOf doc o) (firstOf o) (doc.drop (firstOf o))
def nV (l : List Nat) : List V := l.map fun n => V.int (n : Nat)
/-- the parents: the path down to each node, shortened to its depth -/
def parL : List Nat → Nat → Doc → List (Option Nat)
  | _, _, [] => []
  | path, i, (_, d) :: r => (path.take d).getLast? :: parL (path.take d ++ [i]) (i + 1) r
def parsOf (doc : Doc) : List (Option Nat) := parL [] 0 doc
theorem DocAt.ent {H : Hp} {p : Addr} {doc : Doc} (h : DocAt H p doc) {i : Nat} (hi : i < doc.length) :
    ∃ vs r c, H p = some (.tup vs) ∧ vs[i]? = some (V.ref r) ∧ H r = some (.tup [.str ⟨#[c]⟩, .int (dep doc i : Nat)]) ∧ vs.length = doc.length ∧ c = (doc.getD i (0, 0)).1 := by
  obtain ⟨vs, e, q⟩ := h
  have len := Paired.length q
  have get : ∀ {vs : List V} {doc : Doc} {i : Nat}, EntsAt H vs doc → i < doc.length → ∃ v, vs[i]? = some v ∧ EntAt H v (doc.getD i (0, 0)) := by
    intro vs doc i q
    induction q generalizing i with
    | nil => intro h; exact absurd h (Nat.not_lt_zero _)
    | cons r t ih =>
      intro h
      cases i with
      | zero => exact ⟨_, rfl, r⟩
      | succ i =>
        obtain ⟨v, e1, e2⟩ := ih (Nat.lt_of_succ_lt_succ h)
        exact ⟨v, by simpa using e1, by simpa using e2⟩
  obtain ⟨v, e1, r, rfl, e2⟩ := get q hi
  exact ⟨vs, r, _, e, e1, e2, len, rfl⟩
def spBelow : Sp := fun vs H Q _ => ∃ (p : Addr) (doc : Doc) (o : Option Nat), vs = [.ref p, vO o] ∧ DocAt H p doc ∧ inDoc doc o ∧ Q (.int (belowOf doc o : Nat)) H
def spFirst : Sp := fun vs H Q _ => ∃ o : Option Nat, vs = [vO o] ∧ Q (.int (firstOf o : Nat)) H
def spRow : Sp := fun vs H Q _ => ∃ (p : Addr) (doc : Doc) (o : Option Nat), vs = [.ref p, vO o] ∧ DocAt H p doc ∧ inDoc doc o ∧ doc.length ≤ 20000 ∧
  ∀ q, H q = none → Q (.ref q) (upd H q (.lst (nV (rowOf doc o))))
def spParents : Sp := fun vs H Q _ => ∃ (p : Addr) (doc : Doc), vs = [.ref p] ∧ DocAt H p doc ∧ doc.length ≤ 20000 ∧
  ∀ (H' : Hp) (q : Addr), Same H H' → H q = none → H' q = some (.lst ((parsOf doc).map vO)) → Q (.ref q) H'
abbrev pPar : List Str := ["document", "parent"]
abbrev pDocu : List Str := ["document"]
section
variable {P : Program} {w : World} {K : PySem.W.Frag} {mg : Str → Option Value} {base : Heap}
theorem ok_below (D : Dn K mg "depth_below" sBelow pPar) : FnOk P w K mg base CX0 1 D.f D.fd pPar spBelow := by
  have sc : FnScope ["document", "parent"] pPar (defScope sBelow) := ⟨rfl, rfl, rfl, by decide +kernel, rfl, by decide +kernel, by decide +kernel⟩
  refine D.F.ok sc (fun vs H Q E h => ?_) (fun cdv A outer s H vs Q E hr h => ?_)
  · obtain ⟨p, doc, o, rfl, _⟩ := h
    rfl
  · obtain ⟨p, doc, o, rfl, hd, ho, k⟩ := h
    refine ⟨_, pss_one (ps_ret (pe_ifExp (pt_cmp (pc_isN (pv 1))) pe_int (pe_op op_add (pe_ix ix_tup (pe_ix ix_tup (pv 0) (pv 1) (fun _ _ => rfl)) pe_int (fun _ _ => rfl)) pe_int))), ?_⟩
    cases o with
    | none => exact ⟨_, rfl, _, rfl, iteT k⟩
    | some i =>
      obtain ⟨vs, r, c, e1, e2, e3, _⟩ := hd.ent (ho i rfl)
      refine ⟨_, rfl, _, rfl, ?_⟩
      have f : decide (vO (some i) = V.non) = false := rfl
      rw [f]
      refine iteF ?_
      exact ⟨_, rfl, _, rfl, p, vs, _, _, rfl, rfl, SqT.of e1, atI_nat e2, r, _, 1, _, rfl, rfl, SqT.of e3, rfl, _, _, rfl, rfl, k⟩
theorem ok_first (D : Dn K mg "first_below" sFirst ["parent"]) : FnOk P w K mg base CX0 1 D.f D.fd ["parent"] spFirst := by
  have sc : FnScope ["parent"] ["parent"] (defScope sFirst) := ⟨rfl, rfl, rfl, by decide +kernel, rfl, by decide +kernel, by decide +kernel⟩
  refine D.F.ok sc (fun vs H Q E h => ?_) (fun cdv A outer s H vs Q E hr h => ?_)
  · obtain ⟨o, rfl, _⟩ := h
    rfl
  · obtain ⟨o, rfl, k⟩ := h
    refine ⟨_, pss_one (ps_ret (pe_ifExp (pt_cmp (pc_isN (pv 0))) pe_int (pe_op op_add (pv 0) pe_int))), ?_⟩
    cases o with
    | none => exact ⟨_, rfl, _, rfl, iteT k⟩
    | some i =>
      refine ⟨_, rfl, _, rfl, ?_⟩
      have f : decide (vO (some i) = V.non) = false := rfl
      rw [f]
      exact iteF ⟨_, rfl, _, _, rfl, rfl, k⟩
theorem rowL_cons {d k : Nat} {doc : Doc} {i : Nat} (h : i < doc.length) : rowL d k (doc.drop i) =
    if dep doc i < d then [] else if dep doc i = d then k :: rowL d (k + 1) (doc.drop (i + 1)) else rowL d (k + 1) (doc.drop (i + 1)) := by
  rw [List.drop_eq_getElem_cons h]
  have e : doc[i] = ((doc[i]).1, dep doc i) := by
    unfold dep
    rw [List.getD_eq_getElem?_getD, List.getElem?_eq_getElem h]
    rfl
  rw [e]
  rfl
theorem ok_row (T : Bl mg) (Db : Dn K mg "depth_below" sBelow pPar) (Df : Dn K mg "first_below" sFirst ["parent"]) (D : Dn K mg "row_of" sRow pPar) : FnOk P w K mg base CX0 2 D.f D.fd pPar spRow := by
  have GB : FnOk P w K mg base CX0 1 Db.f Db.fd pPar spBelow := ok_below Db
  have GF : FnOk P w K mg base CX0 1 Df.f Df.fd ["parent"] spFirst := ok_first Df
  have sc : FnScope ["document", "parent", "depth", "row", "at", "here"] pPar (defScope sRow) := ⟨rfl, rfl, rfl, by decide +kernel, rfl, by decide +kernel, by decide +kernel⟩
  refine D.F.ok sc (fun vs H Q E h => ?_) (fun cdv A outer s H vs Q E hr h => ?_)
  · obtain ⟨p, doc, o, rfl, _⟩ := h
    rfl
  · obtain ⟨p, doc, o, rfl, hd, ho, hl, k⟩ := h
    refine ⟨_, pss_cons (ps_set (i := 2) sc.nd rfl (.inl rfl) (de_call Db GB hr (pa_cons (pv 0) (pa_cons (pv 1) pa_nil))))
      (pss_cons (ps_set (i := 3) sc.nd rfl (.inl rfl) (pe_lst pa_nil))
      (pss_cons (ps_for PassesOwn.never rfl (pi_range2 (by rfl) T.range (pa_cons (de_call Df GF hr (pa_cons (pv 1) pa_nil)) (pa_cons (pe_callB call_len_seq (by rfl) T.len b_len (pa_cons (pv 0) pa_nil)) pa_nil))) (pg_name (i := 4) sc.nd rfl (.inl rfl))
        (pss_cons (ps_set (i := 5) sc.nd rfl (.inl rfl) (pe_ix ix_tup (pe_ix ix_tup (pv 0) (pv 4) (fun _ _ => rfl)) pe_int (fun _ _ => rfl)))
        (pss_cons (ps_if (pt_cmpR op_lt (pv 5) (pv 2) (nomark _)) (pss_one ps_break) pss_nil)
        (pss_one (ps_if (pt_cmpR op_eq (pv 5) (pv 2) (nomark _)) (pss_one (ps_expr (pe_bm PySem.F.plainAttrs_list PySem.F.slot_list_append PySem.F.type_list_append mt_append (pv 3) (pa_cons (pv 4) pa_nil)))) pss_nil)))))
      (pss_one (ps_ret (pv 3))))), ?_⟩
    obtain ⟨ws, ews, qws⟩ := id hd
    have len := Paired.length qws
    have f1 : firstOf o ≤ 20001 := by
      cases o with
      | none => exact Nat.zero_le _
      | some i => have := ho i rfl; show i + 1 ≤ _; omega
    refine ⟨_, rfl, _, rfl, p, doc, o, rfl, hd, ho, ?_⟩
    refine ⟨Nat.zero_le _, fun q hq => ?_⟩
    have hdq : ∀ l, DocAt (upd H q (.lst l)) p doc := fun l => hd.mono (new_tups hq)
    have pq : p ≠ q := ne_of_none ews hq
    have hsz : ∀ l, SqT K (upd H q (.lst l)) p ws := fun l => SqT.of (by rw [upd_ne pq]; exact ews)
    refine ⟨_, rfl, o, rfl, _, rfl, p, ws, rfl, .inr (hsz _), _, _, rfl, ⟨by omega, by omega, by omega, by omega⟩, ?_⟩
    have fin : ∀ (l : List Nat) (σ : L2.St), σ[3]? = some (some (.ref q)) → l = rowOf doc o → tRet (tVar 3) { nx := fun _ H' => Q .non H', rt := Q } σ (upd H q (.lst (nV l))) := by
      intro l σ h3 hl
      subst hl
      exact ⟨_, h3, k q hq⟩
    refine for_range (lo := (firstOf o : Nat)) (n := ((ws.length : Nat) - (firstOf o : Nat) : Int).toNat) (fun i σ H' => ∃ (l : List Nat) (a b : Option V),
      σ = [some (.ref p), some (vO o), some (.int (belowOf doc o : Nat)), some (.ref q), a, b] ∧ H' = upd H q (.lst (nV l)) ∧ l.length ≤ i ∧ firstOf o + i ≤ max doc.length (firstOf o) ∧
      l ++ rowL (belowOf doc o) (firstOf o + i) (doc.drop (firstOf o + i)) = rowOf doc o) ?_ ?_ ?_
    · exact ⟨[], none, none, rfl, rfl, Nat.le_refl _, Nat.le_max_right _ _, rfl⟩
    · rintro i σ H1 hi ⟨l, a, b, rfl, rfl, ll, il, eq⟩
      have lt : firstOf o + i < doc.length := by omega
      obtain ⟨vs, r, c, e1, e2, e3, _⟩ := (hdq (nV l)).ent lt
      rw [rowL_cons lt] at eq
      refine ⟨_, rfl, _, rfl, p, vs, _, _, rfl, rfl, SqT.of e1, (by have := atI_nat e2; rwa [Int.natCast_add] at this), r, _, 1, _, rfl, rfl, SqT.of e3, rfl, ?_⟩
      refine ⟨_, rfl, _, rfl, _, _, rfl, rfl, _, rfl, ite2 (fun c1 => ?_) (fun c1 => ?_)⟩
      · have c1' : dep doc (firstOf o + i) < belowOf doc o := by
          have := of_decide_eq_true c1
          omega
        rw [if_pos c1', List.append_nil] at eq
        exact fin l _ rfl eq
      · have c1' : ¬ dep doc (firstOf o + i) < belowOf doc o := fun z => c1 (decide_eq_true (by omega))
        rw [if_neg c1'] at eq
        refine ⟨_, rfl, _, rfl, rfl, _, rfl, ite2 (fun c2 => ?_) (fun c2 => ?_)⟩
        · have c2' : dep doc (firstOf o + i) = belowOf doc o := by
            have z := of_decide_eq_true c2
            injection z with z
            omega
          rw [if_pos c2'] at eq
          refine ⟨_, rfl, .inl ⟨rfl, _, SqL.of upd_same⟩, _, rfl, q, _, _, rfl, rfl, upd_same, ?_, ?_⟩
          · unfold nV
            rw [List.length_map]
            exact Nat.lt_of_lt_of_le (show l.length < 20001 by omega) (by decide)
          · refine ⟨l ++ [firstOf o + i], _, _, rfl, ?_, by rw [List.length_append]; exact Nat.succ_le_succ ll, by omega, ?_⟩
            · rw [upd_upd]
              unfold nV
              rw [List.map_append]
              show upd H q (.lst (_ ++ [V.int ((firstOf o : Int) + (i : Int))])) = upd H q (.lst (_ ++ [V.int ((firstOf o + i : Nat) : Int)]))
              rw [Int.natCast_add]
            · rw [List.append_assoc]
              exact eq
        · have c2' : ¬ dep doc (firstOf o + i) = belowOf doc o := fun z => c2 (decide_eq_true (by rw [z]))
          rw [if_neg c2'] at eq
          exact ⟨l, _, _, rfl, rfl, Nat.le_succ_of_le ll, by omega, eq⟩
    · rintro σ H1 ⟨l, a, b, rfl, rfl, ll, il, eq⟩
      refine fin l _ rfl ?_
      have z : doc.drop (firstOf o + ((ws.length : Nat) - (firstOf o : Nat) : Int).toNat) = [] := List.drop_of_length_le (by omega)
      rw [z, rowL, List.append_nil] at eq
      exact eq
theorem delV (xs : List V) (d : Nat) : xs.take (HT.sIx xs.length 0 (some (d : Int))) ++ xs.drop (max (HT.sIx xs.length 0 (some (d : Int))) (HT.sIx xs.length xs.length none)) = xs.take d := by
  rw [HT.sIx_none, HT.sIx_nat, Nat.max_eq_right (Nat.min_le_right _ _), List.drop_length, List.append_nil]
  by_cases h : d ≤ xs.length
  · rw [Nat.min_eq_left h]
  · rw [Nat.min_eq_right (by omega), List.take_of_length_le (Nat.le_refl _), List.take_of_length_le (by omega)]
theorem parL_len : ∀ {path : List Nat} {i : Nat} {doc : Doc}, (parL path i doc).length = doc.length
  | _, _, [] => rfl
  | _, _, (_, _) :: r => congrArg (· + 1) (parL_len (doc := r))
theorem ok_parents (T : Bl mg) (D : Dn K mg "parents_in" sParents pDocu) : FnOk P w K mg base CX0 1 D.f D.fd pDocu spParents := by
  have sc : FnScope ["document", "found", "path", "node", "_", "depth"] pDocu (defScope sParents) := ⟨rfl, rfl, rfl, by decide +kernel, rfl, by decide +kernel, by decide +kernel⟩
  refine D.F.ok sc (fun vs H Q E h => ?_) (fun cdv A outer s H vs Q E hr h => ?_)
  · obtain ⟨p, doc, rfl, _⟩ := h
    rfl
  · obtain ⟨p, doc, rfl, hd, hl, k⟩ := h
    refine ⟨_, pss_cons (ps_set (i := 1) sc.nd rfl (.inl rfl) (pe_lst pa_nil)) (pss_cons (ps_set (i := 2) sc.nd rfl (.inl rfl) (pe_lst pa_nil))
      (pss_cons (ps_for PassesOwn.never rfl (pi_enumT (by rfl) T.enumerate (pa_cons (pv 0) pa_nil)) (pg_tup rfl (pgs_cons (pg_name (i := 3) sc.nd rfl (.inl rfl)) (pgs_cons (pg_tup rfl (pgs_cons (pg_name (i := 4) sc.nd rfl (.inl rfl)) (pgs_cons (pg_name (i := 5) sc.nd rfl (.inl rfl)) pgs_nil))) pgs_nil)))
        (pss_cons (ps_delS (pv 2) (po_some (pv 5)) po_none)
        (pss_cons (ps_expr (pe_bm PySem.F.plainAttrs_list PySem.F.slot_list_append PySem.F.type_list_append mt_append (pv 1) (pa_cons (pe_ifExp (pt_truth (pv 2) (fun _ => rfl)) (pe_ix ix_list (pv 2) (pe_un un_neg pe_int) (fun _ _ => rfl)) pe_non) pa_nil)))
        (pss_one (ps_expr (pe_bm PySem.F.plainAttrs_list PySem.F.slot_list_append PySem.F.type_list_append mt_append (pv 2) (pa_cons (pv 3) pa_nil)))))))
      (pss_one (ps_ret (pv 1))))), ?_⟩
    obtain ⟨ws, ews, qws⟩ := id hd
    have len := Paired.length qws
    refine ⟨Nat.zero_le _, fun f hf => ⟨Nat.zero_le _, fun g hg => ?_⟩⟩
    have gf : g ≠ f := fun z => by subst z; rw [upd_same] at hg; cases hg
    have hg0 : H g = none := by rw [upd_ne gf] at hg; exact hg
    have s0 : Same H (upd (upd H f (.lst [])) g (.lst [])) := fun b o e => by
      rw [upd_ne (ne_of_none e hg0), upd_ne (ne_of_none e hf)]
      exact e
    refine ⟨_, rfl, p, ws, rfl, SqT.of (s0 _ _ ews), for_enumT (K := K) (a := p) (xs := ws) (fun i σ H' => ∃ (fo : List (Option Nat)) (path : List Nat) (a b c : Option V),
      σ = [some (.ref p), some (.ref f), some (.ref g), a, b, c] ∧ Same H H' ∧ H' f = some (.lst (fo.map vO)) ∧ H' g = some (.lst (nV path)) ∧ fo.length = i ∧ path.length ≤ i ∧ i ≤ doc.length ∧
      fo ++ parL path i (doc.drop i) = parsOf doc) ?_ ?_ ?_ ?_⟩
    · refine ⟨[], [], none, none, none, rfl, s0, ?_, upd_same, rfl, Nat.le_refl _, Nat.zero_le _, rfl⟩
      rw [upd_ne gf.symm]
      exact upd_same
    · rintro i σ H1 ⟨fo, path, a, b, c, rfl, s1, _⟩
      exact SqT.of (s1 _ _ ews)
    · rintro i x t σ H1 hx ⟨fo, path, a, b, c, rfl, s1, hf1, hg1, fl, pl, il, eq⟩ ht
      have lt : i < doc.length := by
        rw [← len]
        exact (List.getElem?_eq_some_iff.mp hx).1
      obtain ⟨vs, r, ch, e1, e2, e3, _⟩ := hd.ent lt
      have vw : vs = ws := by rw [ews] at e1; cases e1; rfl
      subst vw
      rw [hx] at e2
      cases e2
      have st : Same H (upd H1 t (.tup [.int (i : Nat), .ref r])) := fun b o e => by
        have z := s1 b o e
        rw [upd_ne (ne_of_none z ht)]
        exact z
      have tf : f ≠ t := ne_of_none hf1 ht
      have tg : g ≠ t := ne_of_none hg1 ht
      have hf2 : (upd H1 t (.tup [.int (i : Nat), .ref r])) f = some (.lst (fo.map vO)) := by rw [upd_ne tf]; exact hf1
      have hg2 : (upd H1 t (.tup [.int (i : Nat), .ref r])) g = some (.lst (nV path)) := by rw [upd_ne tg]; exact hg1
      generalize hH2 : upd H1 t (.tup [.int (i : Nat), .ref r]) = H2 at st hf2 hg2
      have ht2 : H2 t = some (.tup [.int (i : Nat), .ref r]) := by rw [← hH2]; exact upd_same
      refine ⟨t, _, rfl, SqT.of ht2, rfl, _, _, rfl, _, _, rfl, ⟨r, _, rfl, SqT.of (st _ _ e3), rfl, _, _, rfl, _, _, rfl, rfl, rfl, ?_⟩⟩
      refine ⟨_, rfl, _, rfl, _, rfl, g, _, rfl, hg2, ?_⟩
      rw [delV]
      have tk : (nV path).take (dep doc i) = nV (path.take (dep doc i)) := by unfold nV; rw [List.map_take]
      rw [tk]
      have hf3 : (upd H2 g (.lst (nV (path.take (dep doc i))))) f = some (.lst (fo.map vO)) := by rw [upd_ne gf.symm]; exact hf2
      have dr : doc.drop i = ((doc[i]).1, dep doc i) :: doc.drop (i + 1) := by
        rw [List.drop_eq_getElem_cons lt]
        have e : doc[i] = ((doc[i]).1, dep doc i) := by
          unfold dep
          rw [List.getD_eq_getElem?_getD, List.getElem?_eq_getElem lt]
          rfl
        rw [e]
      rw [dr] at eq
      have small : fo.length < 20001 := by omega
      have tail : ∀ (v : V), v = vO (path.take (dep doc i)).getLast? →
          rAppend (.ref f) [v] (upd H2 g (.lst (nV (path.take (dep doc i))))) fun _ H3 => (tDrop (tBM K "list" rAppend (tVar 2) (tCons (tVar 3) tNil)))
            { nx := fun σ H' => ∃ (fo : List (Option Nat)) (path : List Nat) (a b c : Option V),
                σ = [some (.ref p), some (.ref f), some (.ref g), a, b, c] ∧ Same H H' ∧ H' f = some (.lst (fo.map vO)) ∧ H' g = some (.lst (nV path)) ∧ fo.length = i + 1 ∧ path.length ≤ i + 1 ∧ i + 1 ≤ doc.length ∧
                fo ++ parL path (i + 1) (doc.drop (i + 1)) = parsOf doc, rt := Q }
            [some (.ref p), some (.ref f), some (.ref g), some (.int (i : Nat)), some (.str ⟨#[ch]⟩), some (.int (dep doc i : Nat))] H3 := by
        rintro v rfl
        refine ⟨f, _, _, rfl, rfl, hf3, ?_, ?_⟩
        · rw [List.length_map]
          exact Nat.lt_of_lt_of_le small (by decide)
        · have hg4 : (upd (upd H2 g (.lst (nV (path.take (dep doc i))))) f (.lst (fo.map vO ++ [vO (path.take (dep doc i)).getLast?]))) g = some (.lst (nV (path.take (dep doc i)))) := by
            rw [upd_ne gf]
            exact upd_same
          refine ⟨_, rfl, .inl ⟨rfl, _, SqL.of hg4⟩, _, rfl, g, _, _, rfl, rfl, hg4, ?_, ?_⟩
          · unfold nV
            rw [List.length_map, List.length_take]
            exact Nat.lt_of_lt_of_le (show min _ path.length < 20001 by omega) (by decide)
          · refine ⟨fo ++ [(path.take (dep doc i)).getLast?], path.take (dep doc i) ++ [i], _, _, _, rfl, ?_, ?_, ?_, by rw [List.length_append, fl]; rfl, ?_, lt, ?_⟩
            · intro b o e
              have z := st b o e
              rw [upd_ne (ne_of_none e hg0), upd_ne (ne_of_none e hf), upd_ne (ne_of_none e hg0)]
              exact z
            · rw [upd_ne gf.symm, upd_same, List.map_append]
              rfl
            · rw [upd_same]
              unfold nV
              rw [List.map_append]
              rfl
            · rw [List.length_append, List.length_take]
              show min _ path.length + 1 ≤ i + 1
              omega
            · rw [List.append_assoc]
              exact eq
      refine ⟨_, rfl, .inl ⟨rfl, _, SqL.of hf3⟩, ?_⟩
      refine ⟨_, rfl, _, .inl ⟨_, SqL.of upd_same, rfl⟩, ite2 (fun c1 => ?_) (fun c1 => ?_)⟩
      · have ne : path.take (dep doc i) ≠ [] := fun z => by
          rw [z] at c1
          exact absurd c1 (by decide)
        obtain ⟨ini, lst, e⟩ : ∃ ini lst, path.take (dep doc i) = ini ++ [lst] := ⟨_, _, (List.dropLast_concat_getLast ne).symm⟩
        have la : atI (nV (path.take (dep doc i))) (-1) = some (V.int (lst : Nat)) := by
          rw [e]
          unfold nV
          rw [List.map_append]
          exact atI_last _ _
        refine ⟨_, rfl, _, rfl, g, _, _, _, rfl, rfl, SqL.of upd_same, la, tail _ ?_⟩
        rw [e, List.getLast?_append]
        rfl
      · have ne : path.take (dep doc i) = [] := by
          cases h : path.take (dep doc i) with
          | nil => rfl
          | cons a l =>
            rw [h] at c1
            exact absurd rfl c1
        refine tail _ ?_
        rw [ne]
        rfl
    · rintro σ H1 ⟨fo, path, a, b, c, rfl, s1, hf1, hg1, fl, pl, il, eq⟩
      refine ⟨_, rfl, k H1 f s1 hf ?_⟩
      have z : doc.drop ws.length = [] := List.drop_of_length_le (by omega)
      rw [z, parL, List.append_nil] at eq
      rw [← eq]
      exact hf1
end

/-! ### documents that are right -/
abbrev pNode' : List Str := ["document", "node"]
def MostAt (mg : Str → Option Value) : Prop := ∃ t, mg "MOST_NODES" = some (.int 20000 t)
theorem mark_ok {c : Nat} (h0 : 97 ≤ c) (h1 : c ≤ 104) : markV (.str ⟨#[c]⟩) = true := by
  obtain ⟨k, rfl⟩ : ∃ k, c = 97 + k := ⟨c - 97, by omega⟩
  have hk : k < 8 := by omega
  match k, hk with
  | 0, _ => decide +kernel
  | 1, _ => decide +kernel
  | 2, _ => decide +kernel
  | 3, _ => decide +kernel
  | 4, _ => decide +kernel
  | 5, _ => decide +kernel
  | 6, _ => decide +kernel
  | 7, _ => decide +kernel
  | n + 8, h => exact absurd h (by omega)
def spEntryV : Sp := fun vs H Q _ => ∃ (v : V) (e : Nat × Nat), vs = [v] ∧ EntAt H v e ∧ 97 ≤ e.1 ∧ e.1 ≤ 104 ∧ Q (.bl true) H
def spIsDocV : Sp := fun vs H Q _ => ∃ (p : Addr) (doc : Doc), vs = [.ref p] ∧ DocAt H p doc ∧ okFrom 0 doc ∧ doc.length ≤ 20000 ∧ Q (.bl true) H
def spChkDocV : Sp := fun vs H Q _ => ∃ (p : Addr) (doc : Doc), vs = [.ref p] ∧ DocAt H p doc ∧ okFrom 0 doc ∧ doc.length ≤ 20000 ∧ Q .non H
def spChkNodeV : Sp := fun vs H Q _ => ∃ (p : Addr) (doc : Doc) (i : Nat), vs = [.ref p, .int i] ∧ DocAt H p doc ∧ i < doc.length ∧ Q .non H
def sizStep (pars : List (Option Nat)) (l : List Nat) (k : Nat) : List Nat :=
  match pars.getD k none with
  | none => l
  | some a => l.set a (l.getD a 0 + l.getD k 0)
def sizL (pars : List (Option Nat)) : Nat → List Nat → List Nat
  | 0, l => l
  | k + 1, l => sizL pars k (sizStep pars l k)
def sizesOf (doc : Doc) : List Nat := sizL (parsOf doc) doc.length (List.replicate doc.length 1)
def spPars : Sp := fun vs H Q _ => ∃ (p : Addr) (doc : Doc), vs = [.ref p] ∧ DocAt H p doc ∧ okFrom 0 doc ∧ doc.length ≤ 20000 ∧
  ∀ (H' : Hp) (q : Addr), Same H H' → H q = none → H' q = some (.tup ((parsOf doc).map vO)) → Q (.ref q) H'
def spKids : Sp := fun vs H Q _ => ∃ (p : Addr) (doc : Doc) (o : Option Nat), vs = [.ref p, vO o] ∧ DocAt H p doc ∧ okFrom 0 doc ∧ doc.length ≤ 20000 ∧ inDoc doc o ∧
  ∀ (H' : Hp) (q : Addr), Same H H' → H q = none → H' q = some (.tup (nV (rowOf doc o))) → Q (.ref q) H'
def spSizes : Sp := fun vs H Q _ => ∃ (p : Addr) (doc : Doc), vs = [.ref p] ∧ DocAt H p doc ∧ okFrom 0 doc ∧ doc.length ≤ 20000 ∧
  ∀ (H' : Hp) (q : Addr), Same H H' → H q = none → H' q = some (.tup (nV (sizesOf doc))) → Q (.ref q) H'
theorem EntsAt.get {H : Hp} {vs : List V} {doc : Doc} (q : EntsAt H vs doc) : ∀ {i : Nat} {v : V}, vs[i]? = some v → ∃ e, doc[i]? = some e ∧ EntAt H v e := by
  induction q with
  | nil => intro i v h; simp at h
  | cons r t ih =>
    intro i v h
    cases i with
    | zero =>
      have q := h
      simp at q
      subst q
      exact ⟨_, rfl, r⟩
    | succ i =>
      obtain ⟨e, e1, e2⟩ := ih (i := i) (v := v) (by simpa using h)
      exact ⟨e, by simpa using e1, e2⟩
theorem okFrom_at : ∀ {m : Nat} {doc : Doc} {i : Nat} {e : Nat × Nat}, okFrom m doc → doc[i]? = some e → 97 ≤ e.1 ∧ e.1 ≤ 104 ∧ e.2 ≤ endOf m (doc.take i)
  | _, [], _, _, _, h => by simp at h
  | m, (c, d) :: r, 0, e, h, he => by
    have : (c, d) = e := by simpa using he
    subst this
    exact ⟨h.1, h.2.1, h.2.2.1⟩
  | m, (c, d) :: r, i + 1, e, h, he => okFrom_at (m := d + 1) h.2.2.2 (by simpa using he)
theorem endOf_take {m : Nat} {doc : Doc} {i : Nat} {e : Nat × Nat} (he : doc[i]? = some e) : endOf m (doc.take (i + 1)) = e.2 + 1 := by
  obtain ⟨lt, rfl⟩ := List.getElem?_eq_some_iff.mp he
  rw [List.take_succ_eq_append_getElem lt]
  have : doc[i] = ((doc[i]).1, (doc[i]).2) := rfl
  rw [this, endOf_snoc]
section
variable {P : Program} {w : World} {K : PySem.W.Frag} {mg : Str → Option Value} {base : Heap}
theorem ok_entryV (T : Bl mg) (hm : MarksAt K mg) (Dw : Dn K mg "is_whole" sWhole pThing) (Dnu : Dn K mg "is_number" sNumber pThing) (Dm : Dn K mg "is_mark" sMark pThing)
    (D : Dn K mg "_is_entry" sEntry pThing) : FnOk P w K mg base CX0 3 D.f D.fd pThing spEntryV := by
  have GN : FnOk P w K mg base CX0 2 Dnu.f Dnu.fd pThing (spNumber K) := ok_number T Dw Dnu
  have GM : FnOk P w K mg base CX0 1 Dm.f Dm.fd pThing (spMark K) := ok_mark T hm Dm
  have sc : FnScope ["thing"] pThing (defScope sEntry) := ⟨rfl, rfl, rfl, by decide +kernel, rfl, by decide +kernel, by decide +kernel⟩
  refine D.F.ok sc (fun vs H Q E h => ?_) (fun cdv A outer s H vs Q E hr h => ?_)
  · obtain ⟨v, e, rfl, _⟩ := h
    rfl
  · obtain ⟨v, ⟨c, d⟩, rfl, ⟨r, rfl, hr1⟩, h0, h1, k⟩ := h
    refine ⟨_, pss_one (ps_ret (pe_and (pe_callB call_isi (by rfl) T.isinstance b_isinstance (pa_cons (pv 0) (pa_cons (pe_bltn (v := .ty "tuple") rfl T.tuple b_tuple rfl) pa_nil))) (pe_and (pe_cmpR op_eq (pe_callB call_len_seq (by rfl) T.len b_len (pa_cons (pv 0) pa_nil)) pe_int (nomark _))
      (pe_and (de_call Dm GM hr (pa_cons (pe_ix ix_tup (pv 0) pe_int (fun _ _ => rfl)) pa_nil)) (pe_one (de_call Dnu GN hr (pa_cons (pe_ix ix_tup (pv 0) pe_int (fun _ _ => rfl)) pa_nil))))))), ?_⟩
    have any : Any K H (.ref r) "tuple" := .tup (SqT.of hr1)
    refine ⟨_, rfl, _, _, _, _, _, rfl, .ty "tuple", any.ty, any.kit.2.2.2, _, rfl, iteT ?_⟩
    refine ⟨_, rfl, r, _, rfl, .inr (SqT.of hr1), rfl, _, rfl, iteT ?_⟩
    refine ⟨_, rfl, r, _, 0, _, rfl, rfl, SqT.of hr1, rfl, _, _, rfl, .str _, _, rfl, ?_⟩
    rw [mark_ok h0 h1]
    refine iteT ?_
    refine ⟨_, rfl, r, _, 1, _, rfl, rfl, SqT.of hr1, rfl, _, _, rfl, .int _, ?_⟩
    have z : numberV (.int (d : Nat)) = true := by
      show decide (0 ≤ ((d : Nat) : Int)) = true
      exact decide_eq_true (by omega)
    show Q (.bl (numberV (.int (d : Nat)))) H
    rw [z]
    exact k
theorem ok_isdocV (T : Bl mg) (hm : MarksAt K mg) (hM : MostAt mg) (Dw : Dn K mg "is_whole" sWhole pThing) (Dnu : Dn K mg "is_number" sNumber pThing) (Dm : Dn K mg "is_mark" sMark pThing)
    (De : Dn K mg "_is_entry" sEntry pThing) (D : Dn K mg "is_document" sIsDoc pThing) : FnOk P w K mg base CX0 4 D.f D.fd pThing spIsDocV := by
  have GE : FnOk P w K mg base CX0 3 De.f De.fd pThing spEntryV := ok_entryV T hm Dw Dnu Dm De
  obtain ⟨tM, gM⟩ := hM
  have sc : FnScope ["thing", "deepest", "entry"] pThing (defScope sIsDoc) := ⟨rfl, rfl, rfl, by decide +kernel, rfl, by decide +kernel, by decide +kernel⟩
  refine D.F.ok sc (fun vs H Q E h => ?_) (fun cdv A outer s H vs Q E hr h => ?_)
  · obtain ⟨v, e, rfl, _⟩ := h
    rfl
  · obtain ⟨p, doc, rfl, hd, ok, hl, k⟩ := h
    refine ⟨_, pss_cons (ps_if (PW.pt (pw_or (pt_not (pt_val (pe_callB call_isi (by rfl) T.isinstance b_isinstance (pa_cons (pv 0) (pa_cons (pe_bltn (v := .ty "tuple") rfl T.tuple b_tuple rfl) pa_nil))))) (pw_or1 (pt_cmpR op_gt (pe_callB call_len_seq (by rfl) T.len b_len (pa_cons (pv 0) pa_nil)) (pe_glob (v := .int 20000) rfl gM ⟨tM, rfl⟩) (nomark _))))) (pss_never) pss_nil)
      (pss_cons (ps_set (i := 1) sc.nd rfl (.inl rfl) pe_int)
      (pss_cons (ps_for PassesOwn.never rfl (pi_tup (pv 0)) (pg_name (i := 2) sc.nd rfl (.inl rfl))
        (pss_cons (ps_if (PW.pt (pw_or (pt_not (pt_val (de_call De GE hr (pa_cons (pv 2) pa_nil)))) (pw_or1 (pt_cmpR op_gt (pe_ix ix_tup (pv 2) pe_int (fun _ _ => rfl)) (pv 1) (nomark _))))) (pss_never) pss_nil)
        (pss_one (ps_set (i := 1) sc.nd rfl (.inl rfl) (pe_op op_add (pe_ix ix_tup (pv 2) pe_int (fun _ _ => rfl)) pe_int)))))
      (pss_one (ps_ret pe_bl)))), ?_⟩
    obtain ⟨ws, ews, qws⟩ := id hd
    have len := Paired.length qws
    have sq : SqT K H p ws := SqT.of ews
    have any : Any K H (.ref p) "tuple" := .tup sq
    refine ⟨_, rfl, _, _, _, _, _, rfl, .ty "tuple", any.ty, any.kit.2.2.2, _, rfl, iteF ?_⟩
    refine ⟨_, rfl, p, ws, rfl, .inr sq, _, _, rfl, rfl, _, rfl, ?_⟩
    rw [decide_eq_false (by omega)]
    refine iteF ?_
    refine ⟨_, rfl, p, rfl, ⟨ws, sq⟩, for_tup (K := K) (a := p) (xs := ws) (fun i σ H' => H' = H ∧ i ≤ doc.length ∧ ∃ b : Option V, σ = [some (.ref p), some (.int (endOf 0 (doc.take i) : Nat)), b]) ?_ ?_ ?_ ?_⟩
    · exact ⟨rfl, Nat.zero_le _, none, rfl⟩
    · rintro i σ H' hi ⟨rfl, _, _⟩
      exact sq
    · rintro i x σ H' hx ⟨rfl, il, b, rfl⟩
      obtain ⟨e, he, r, rfl, hr2⟩ := qws.get hx
      obtain ⟨m0, m1, dle⟩ := okFrom_at ok he
      refine ⟨_, rfl, .ref r, e, rfl, ⟨r, rfl, hr2⟩, m0, m1, _, rfl, iteF ?_⟩
      refine ⟨_, rfl, r, _, 1, _, rfl, rfl, SqT.of hr2, rfl, _, rfl, _, _, rfl, rfl, _, rfl, ?_⟩
      rw [decide_eq_false (by omega)]
      refine iteF ?_
      refine ⟨_, rfl, r, _, 1, _, rfl, rfl, SqT.of hr2, rfl, _, _, rfl, rfl, rfl, (List.getElem?_eq_some_iff.mp he).1, some (.ref r), ?_⟩
      rw [endOf_take he]
      rfl
    · rintro σ H' ⟨rfl, il, b, rfl⟩
      exact k
theorem ok_chkdocV (T : Bl mg) (hm : MarksAt K mg) (hM : MostAt mg) (Dw : Dn K mg "is_whole" sWhole pThing) (Dnu : Dn K mg "is_number" sNumber pThing) (Dm : Dn K mg "is_mark" sMark pThing)
    (De : Dn K mg "_is_entry" sEntry pThing) (Di : Dn K mg "is_document" sIsDoc pThing) (D : Dn K mg "check_document" sChkDoc pThing) : FnOk P w K mg base CX0 5 D.f D.fd pThing spChkDocV := by
  have GI : FnOk P w K mg base CX0 4 Di.f Di.fd pThing spIsDocV := ok_isdocV T hm hM Dw Dnu Dm De Di
  have sc : FnScope ["thing"] pThing (defScope sChkDoc) := ⟨rfl, rfl, rfl, by decide +kernel, rfl, by decide +kernel, by decide +kernel⟩
  refine D.F.ok sc (fun vs H Q E h => ?_) (fun cdv A outer s H vs Q E hr h => ?_)
  · obtain ⟨v, e, rfl, _⟩ := h
    rfl
  · obtain ⟨p, doc, rfl, hd, ok, hl, k⟩ := h
    refine ⟨_, pss_one (ps_if (pt_not (pt_val (de_call Di GI hr (pa_cons (pv 0) pa_nil)))) pss_never pss_nil), ?_⟩
    exact ⟨_, rfl, p, doc, rfl, hd, ok, hl, _, rfl, iteF k⟩
theorem ok_chknodeV (T : Bl mg) (Dw : Dn K mg "is_whole" sWhole pThing) (Dnu : Dn K mg "is_number" sNumber pThing) (Dno : Dn K mg "is_node" sNode pNode) (D : Dn K mg "check_node" sChkNode pNode) :
    FnOk P w K mg base CX0 4 D.f D.fd pNode spChkNodeV := by
  have GN : FnOk P w K mg base CX0 3 Dno.f Dno.fd pNode (spNode K) := ok_node T Dw Dnu Dno
  have sc : FnScope ["document", "thing"] pNode (defScope sChkNode) := ⟨rfl, rfl, rfl, by decide +kernel, rfl, by decide +kernel, by decide +kernel⟩
  refine D.F.ok sc (fun vs H Q E h => ?_) (fun cdv A outer s H vs Q E hr h => ?_)
  · obtain ⟨v, e, i, rfl, _⟩ := h
    rfl
  · obtain ⟨p, doc, i, rfl, hd, hi, k⟩ := h
    refine ⟨_, pss_one (ps_if (pt_not (pt_val (de_call Dno GN hr (pa_cons (pv 0) (pa_cons (pv 1) pa_nil))))) pss_never pss_nil), ?_⟩
    obtain ⟨ws, ews, qws⟩ := id hd
    have len := Paired.length qws
    refine ⟨_, rfl, _, rfl, p, ws, .int i, "int", rfl, SqT.of ews, .int _, _, rfl, ?_⟩
    have z : (numberV (.int (i : Nat)) && decide ((i : Int) < ws.length)) = true := by
      show (decide (0 ≤ (i : Int)) && decide ((i : Int) < ws.length)) = true
      rw [decide_eq_true (by omega), decide_eq_true (by omega)]
      rfl
    show (if (!(numberV (.int (i : Nat)) && decide ((i : Int) < ws.length))) = true then _ else _)
    rw [z]
    exact iteF k

/-! ### parents, children, sizes -/
structure Docs (K : PySem.W.Frag) (mg : Str → Option Value) where
  T : Bl mg
  hm : MarksAt K mg
  hM : MostAt mg
  whole : Dn K mg "is_whole" sWhole pThing
  number : Dn K mg "is_number" sNumber pThing
  mark : Dn K mg "is_mark" sMark pThing
  entry : Dn K mg "_is_entry" sEntry pThing
  isdoc : Dn K mg "is_document" sIsDoc pThing
  chk : Dn K mg "check_document" sChkDoc pThing
theorem Docs.ok (S : Docs K mg) : FnOk P w K mg base CX0 5 S.chk.f S.chk.fd pThing spChkDocV :=
  ok_chkdocV S.T S.hm S.hM S.whole S.number S.mark S.entry S.isdoc S.chk
theorem ok_pars (S : Docs K mg) (Dp : Dn K mg "parents_in" sParents pDocu) (D : Dn K mg "parents" sPars pDocu) : FnOk P w K mg base CX0 6 D.f D.fd pDocu spPars := by
  have T := S.T
  have GC : FnOk P w K mg base CX0 5 S.chk.f S.chk.fd pThing spChkDocV := S.ok
  have GP : FnOk P w K mg base CX0 1 Dp.f Dp.fd pDocu spParents := ok_parents T Dp
  have sc : FnScope ["document"] pDocu (defScope sPars) := ⟨rfl, rfl, rfl, by decide +kernel, rfl, by decide +kernel, by decide +kernel⟩
  refine D.F.ok sc (fun vs H Q E h => ?_) (fun cdv A outer s H vs Q E hr h => ?_)
  · obtain ⟨p, doc, rfl, _⟩ := h
    rfl
  · obtain ⟨p, doc, rfl, hd, ok, hl, k⟩ := h
    refine ⟨_, pss_cons (ps_expr (de_call S.chk GC hr (pa_cons (pv 0) pa_nil))) (pss_one (ps_ret (pe_callTy call_tuple_of (by rfl) T.tuple b_tuple (pa_cons (de_call Dp GP hr (pa_cons (pv 0) pa_nil)) pa_nil)))), ?_⟩
    refine ⟨_, rfl, p, doc, rfl, hd, ok, hl, ?_⟩
    refine ⟨_, rfl, p, doc, rfl, hd, hl, fun H1 q s1 hq e1 => ⟨q, _, rfl, .inl ⟨SqL.of e1, fun t ht => ?_⟩⟩⟩
    refine k _ t (fun b o e => ?_) (s1.free ht) upd_same
    have z := s1 b o e
    rw [upd_ne (ne_of_none z ht)]
    exact z
theorem ok_kids (S : Docs K mg) (Dno : Dn K mg "is_node" sNode pNode) (Dck : Dn K mg "check_node" sChkNode pNode) (Db : Dn K mg "depth_below" sBelow pPar) (Df : Dn K mg "first_below" sFirst ["parent"]) (Dr : Dn K mg "row_of" sRow pPar)
    (D : Dn K mg "children" sKids pNode') : FnOk P w K mg base CX0 6 D.f D.fd pNode' spKids := by
  have T := S.T
  have GC : FnOk P w K mg base CX0 5 S.chk.f S.chk.fd pThing spChkDocV := S.ok
  have GK : FnOk P w K mg base CX0 4 Dck.f Dck.fd pNode spChkNodeV := ok_chknodeV T S.whole S.number Dno Dck
  have GR : FnOk P w K mg base CX0 2 Dr.f Dr.fd pPar spRow := ok_row T Db Df Dr
  have sc : FnScope ["document", "node"] pNode' (defScope sKids) := ⟨rfl, rfl, rfl, by decide +kernel, rfl, by decide +kernel, by decide +kernel⟩
  refine D.F.ok sc (fun vs H Q E h => ?_) (fun cdv A outer s H vs Q E hr h => ?_)
  · obtain ⟨p, doc, o, rfl, _⟩ := h
    rfl
  · obtain ⟨p, doc, o, rfl, hd, ok, hl, ho, k⟩ := h
    refine ⟨_, pss_cons (ps_expr (de_call S.chk GC hr (pa_cons (pv 0) pa_nil)))
      (pss_cons (ps_if (pt_cmp (pc_notN (pv 1))) (pss_one (ps_expr (de_call Dck GK hr (pa_cons (pv 0) (pa_cons (pv 1) pa_nil))))) pss_nil)
      (pss_one (ps_ret (pe_callTy call_tuple_of (by rfl) T.tuple b_tuple (pa_cons (de_call Dr GR hr (pa_cons (pv 0) (pa_cons (pv 1) pa_nil))) pa_nil))))), ?_⟩
    refine ⟨_, rfl, p, doc, rfl, hd, ok, hl, ?_⟩
    have last : tRet (tCB (fun xs H Q => ∃ p ys, xs = [V.ref p] ∧ (SqL K H p ys ∧ (∀ l, H l = none → Q (.ref l) (upd H l (.tup ys))) ∨ SqT K H p ys ∧ Q (.ref p) H)) (tCons (tCall spRow [] E0 (tCons (tVar 0) (tCons (tVar 1) tNil))) tNil))
        { nx := fun _ H' => Q .non H', rt := Q } [some (.ref p), some (vO o)] H := by
      refine ⟨_, rfl, _, rfl, p, doc, o, rfl, hd, ho, hl, fun q hq => ⟨q, _, rfl, .inl ⟨SqL.of upd_same, fun t ht => ?_⟩⟩⟩
      have tq : t ≠ q := fun z => by subst z; rw [upd_same] at ht; cases ht
      have ht0 : H t = none := by rw [upd_ne tq] at ht; exact ht
      refine k _ t (fun b ob e => ?_) ht0 upd_same
      rw [upd_ne (ne_of_none e ht0), upd_ne (ne_of_none e hq)]
      exact e
    refine ⟨_, rfl, _, rfl, ?_⟩
    cases o with
    | none => exact iteF last
    | some i => exact iteT ⟨_, rfl, _, rfl, p, doc, i, rfl, hd, ho i rfl, last⟩
theorem sizStep_len {pars : List (Option Nat)} {l : List Nat} {k : Nat} : (sizStep pars l k).length = l.length := by
  unfold sizStep
  split
  · rfl
  · rw [List.length_set]
theorem parL_lt : ∀ {path : List Nat} {i : Nat} {doc : Doc}, (∀ a ∈ path, a < i) → ∀ {j a : Nat}, (parL path i doc)[j]? = some (some a) → a < i + j
  | _, _, [], _, _, _, h => by simp [parL] at h
  | path, i, (_, d) :: r, hp, 0, a, h => by
    have e : (path.take d).getLast? = some a := by simpa [parL] using h
    have m := List.mem_of_getLast? e
    exact hp a (List.mem_of_mem_take m)
  | path, i, (_, d) :: r, hp, j + 1, a, h => by
    have q := parL_lt (path := path.take d ++ [i]) (i := i + 1) (doc := r) (fun b hb => ?_) (j := j) (a := a) (by simpa [parL] using h)
    · omega
    · rcases List.mem_append.mp hb with hb | hb
      · exact Nat.lt_succ_of_lt (hp b (List.mem_of_mem_take hb))
      · rw [List.mem_singleton.mp hb]
        exact Nat.lt_succ_self _
theorem parsOf_lt {doc : Doc} {j a : Nat} (h : (parsOf doc)[j]? = some (some a)) : a < j := by
  have := parL_lt (path := []) (i := 0) (doc := doc) (fun b hb => absurd hb (List.not_mem_nil)) h
  omega
theorem ok_sizes (S : Docs K mg) (Dp : Dn K mg "parents_in" sParents pDocu) (D : Dn K mg "sizes" sSizes pDocu) : FnOk P w K mg base CX0 6 D.f D.fd pDocu spSizes := by
  have T := S.T
  have GC : FnOk P w K mg base CX0 5 S.chk.f S.chk.fd pThing spChkDocV := S.ok
  have GP : FnOk P w K mg base CX0 1 Dp.f Dp.fd pDocu spParents := ok_parents T Dp
  have sc : FnScope ["document", "above", "found", "node"] pDocu (defScope sSizes) := ⟨rfl, rfl, rfl, by decide +kernel, rfl, by decide +kernel, by decide +kernel⟩
  refine D.F.ok sc (fun vs H Q E h => ?_) (fun cdv A outer s H vs Q E hr h => ?_)
  · obtain ⟨p, doc, rfl, _⟩ := h
    rfl
  · obtain ⟨p, doc, rfl, hd, ok, hl, k⟩ := h
    refine ⟨_, pss_cons (ps_expr (de_call S.chk GC hr (pa_cons (pv 0) pa_nil)))
      (pss_cons (ps_set (i := 1) sc.nd rfl (.inl rfl) (de_call Dp GP hr (pa_cons (pv 0) pa_nil)))
      (pss_cons (ps_set (i := 2) sc.nd rfl (.inl rfl) (pe_op op_rep (pe_lst (pa_cons pe_int pa_nil)) (pe_callB call_len_seq (by rfl) T.len b_len (pa_cons (pv 0) pa_nil))))
      (pss_cons (ps_for PassesOwn.never rfl (pi_revR (by rfl) T.reversed (prg_1 (by rfl) T.range (pe_callB call_len_seq (by rfl) T.len b_len (pa_cons (pv 0) pa_nil)))) (pg_name (i := 3) sc.nd rfl (.inl rfl))
        (pss_one (ps_if (pt_cmp (pc_notN (pe_ix ix_list (pv 1) (pv 3) (fun _ _ => rfl)))) (pss_one (ps_augS (pv 2) (pe_ix ix_list (pv 1) (pv 3) (fun _ _ => rfl)) get_list (pe_ix ix_list (pv 2) (pv 3) (fun _ _ => rfl)) ip_add set_list)) pss_nil)))
      (pss_one (ps_ret (pe_callTy call_tuple_of (by rfl) T.tuple b_tuple (pa_cons (pv 2) pa_nil))))))), ?_⟩
    obtain ⟨ws, ews, qws⟩ := id hd
    have len := Paired.length qws
    refine ⟨_, rfl, p, doc, rfl, hd, ok, hl, ?_⟩
    refine ⟨_, rfl, p, doc, rfl, hd, hl, fun H1 f s1 hf e1 => ?_⟩
    refine ⟨by show 1 ≤ sizeLine; decide, fun u hu => ?_⟩
    have pu : p ≠ u := ne_of_none (s1 _ _ ews) hu
    have fu : f ≠ u := ne_of_none e1 hu
    have sz : SqT K (upd H1 u (.lst [.int 1])) p ws := SqT.of (by rw [upd_ne pu]; exact s1 _ _ ews)
    have line : (20000 : Nat) ≤ sizeLine := by decide
    refine ⟨_, rfl, p, ws, rfl, .inr sz, u, _, _, rfl, rfl, upd_same, (by show -(2 ^ 63 : Int) ≤ ((ws.length : Nat) : Int); omega), (by show ((ws.length : Nat) : Int) < 2 ^ 63; omega), ?_, fun g hg => ?_⟩
    · show [V.int 1].length * ((ws.length : Nat) : Int).toNat ≤ sizeLine
      rw [Int.toNat_natCast]
      show 1 * ws.length ≤ sizeLine
      omega
    have rep : (List.replicate ((ws.length : Nat) : Int).toNat [V.int 1]).flatten = nV (List.replicate doc.length 1) := by
      rw [Int.toNat_natCast, len]
      unfold nV
      rw [List.map_replicate]
      have : ∀ n : Nat, (List.replicate n [V.int 1]).flatten = List.replicate n (V.int ((1 : Nat) : Int)) := by
        intro n
        induction n with
        | zero => rfl
        | succ n ih => rw [List.replicate_succ, List.flatten_cons, ih, List.replicate_succ]; rfl
      exact this _
    have gu : g ≠ u := fun z => by subst z; rw [upd_same] at hg; cases hg
    have hg1 : H1 g = none := by rw [upd_ne gu] at hg; exact hg
    have fg : f ≠ g := ne_of_none e1 hg1
    have s2 : Same H (upd (upd H1 u (.lst [.int 1])) g (.lst (nV (List.replicate doc.length 1)))) := fun b o e => by
      have z := s1 b o e
      rw [upd_ne (ne_of_none z hg1), upd_ne (ne_of_none z hu)]
      exact z
    rw [rep]
    refine ⟨_, rfl, p, ws, rfl, .inr (SqT.of (s2 _ _ ews)), _, rfl, by decide, by decide, (by show -(2 ^ 62 : Int) ≤ ((ws.length : Nat) : Int); omega), (by show ((ws.length : Nat) : Int) < 2 ^ 62; omega), ?_⟩
    have hgn : H g = none := s1.free hg1
    have parlen : (parsOf doc).length = doc.length := parL_len
    refine for_rangeC (n := ((ws.length : Nat) - 0 : Int).toNat) (fun i σ H' => ∃ (l : List Nat) (b : Option V), σ = [some (.ref p), some (.ref f), some (.ref g), b] ∧ Same H H' ∧ H' f = some (.lst ((parsOf doc).map vO)) ∧ H' g = some (.lst (nV l)) ∧
      l.length = doc.length ∧ i ≤ doc.length ∧ sizL (parsOf doc) (doc.length - i) l = sizesOf doc) ?_ ?_ ?_
    · refine ⟨_, none, rfl, s2, ?_, upd_same, List.length_replicate, Nat.zero_le _, rfl⟩
      rw [upd_ne fg, upd_ne fu]
      exact e1
    · rintro i σ H2 hi ⟨l, b, rfl, s3, hf3, hg3, ll, il, eq⟩
      have lt : i < doc.length := by omega
      obtain ⟨j, hj, ej⟩ : ∃ j, j < doc.length ∧ doc.length - i = j + 1 := ⟨doc.length - i - 1, by omega, by omega⟩
      have ev : (0 + (((ws.length : Nat) - 0 : Int).toNat : Nat) - 1 + (i : Nat) * (-1) : Int) = (j : Int) := by omega
      rw [ev]
      obtain ⟨o, ho⟩ : ∃ o, (parsOf doc)[j]? = some o := ⟨_, List.getElem?_eq_getElem (by omega)⟩
      have hov : ((parsOf doc).map vO)[j]? = some (vO o) := by rw [List.getElem?_map, ho]; rfl
      have god : (parsOf doc).getD j none = o := by rw [List.getD_eq_getElem?_getD, ho]; rfl
      rw [ej] at eq
      refine ⟨_, rfl, _, rfl, f, _, _, _, rfl, rfl, SqL.of hf3, atI_nat hov, _, rfl, ?_⟩
      cases o with
      | none =>
        refine iteF ⟨l, _, rfl, s3, hf3, hg3, ll, lt, ?_⟩
        have e2 : doc.length - (i + 1) = j := by omega
        rw [e2]
        have st : sizStep (parsOf doc) l j = l := by unfold sizStep; rw [god]
        show sizL (parsOf doc) j l = _
        rw [← eq]
        show _ = sizL (parsOf doc) j (sizStep (parsOf doc) l j)
        rw [st]
      | some a =>
        have aj := parsOf_lt ho
        have la : l[a]? = some (l.getD a 0) := by rw [List.getD_eq_getElem?_getD, List.getElem?_eq_getElem (by omega)]; rfl
        have lj : l[j]? = some (l.getD j 0) := by rw [List.getD_eq_getElem?_getD, List.getElem?_eq_getElem (by omega)]; rfl
        have va : (nV l)[a]? = some (V.int (l.getD a 0 : Nat)) := by unfold nV; rw [List.getElem?_map, la]; rfl
        have vj : (nV l)[j]? = some (V.int (l.getD j 0 : Nat)) := by unfold nV; rw [List.getElem?_map, lj]; rfl
        have ixa : ixN (nV l).length (a : Int) = some a := by
          unfold ixN nV
          rw [List.length_map, if_pos (by omega), if_pos (by omega)]
          rfl
        refine iteT ⟨_, rfl, _, rfl, _, rfl, f, _, _, _, rfl, rfl, SqL.of hf3, atI_nat hov, g, _, a, _, rfl, rfl, SqL.of hg3, va, ?_⟩
        refine ⟨_, rfl, _, rfl, g, _, _, _, rfl, rfl, SqL.of hg3, atI_nat vj, _, _, rfl, rfl, g, _, a, a, rfl, rfl, hg3, ixa, ?_⟩
        refine ⟨sizStep (parsOf doc) l j, _, rfl, ?_, ?_, ?_, by rw [sizStep_len]; exact ll, lt, ?_⟩
        · intro b' o' e
          rw [upd_ne (ne_of_none e hgn)]
          exact s3 b' o' e
        · rw [upd_ne fg]
          exact hf3
        · rw [upd_same]
          unfold sizStep
          rw [god]
          unfold nV
          rw [List.map_set, Int.natCast_add]
        · have e2 : doc.length - (i + 1) = j := by omega
          rw [e2]
          exact eq
    · rintro σ H2 ⟨l, b, rfl, s3, hf3, hg3, ll, il, eq⟩
      refine ⟨_, rfl, g, _, rfl, .inl ⟨SqL.of hg3, fun t ht => ?_⟩⟩
      refine k _ t (fun b o e => ?_) (s3.free ht) ?_
      · have z := s3 b o e
        rw [upd_ne (ne_of_none z ht)]
        exact z
      · have z : doc.length - ((ws.length : Nat) - 0 : Int).toNat = 0 := by omega
        rw [z] at eq
        rw [← eq]
        exact upd_same
end

/-! ### the mathematics of parents, rows and sizes -/
/-- the last node ahead of k of the depth d -/
def lparTo (doc : Doc) (d : Int) : Nat → Option Nat
  | 0 => none
  | k + 1 => if (dep doc k : Int) = d then some k else lparTo doc d k
def lawPar (doc : Doc) (i : Nat) : Option Nat := lparTo doc ((dep doc i : Int) - 1) i
theorem dep_at {doc : Doc} {i : Nat} {e : Nat × Nat} (h : doc[i]? = some e) : dep doc i = e.2 := by
  unfold dep
  rw [List.getD_eq_getElem?_getD, h]
  rfl
theorem dep_le {doc : Doc} (ok : okFrom 0 doc) {i : Nat} (hi : i < doc.length) : dep doc i ≤ endOf 0 (doc.take i) := by
  have h := List.getElem?_eq_getElem hi
  rw [dep_at h]
  exact (okFrom_at ok h).2.2
theorem end_succ {doc : Doc} {i : Nat} (hi : i < doc.length) : endOf 0 (doc.take (i + 1)) = dep doc i + 1 := by
  have h := List.getElem?_eq_getElem hi
  rw [endOf_take h, dep_at h]
theorem dep_succ {doc : Doc} (ok : okFrom 0 doc) {i : Nat} (hi : i + 1 < doc.length) : dep doc (i + 1) ≤ dep doc i + 1 := by
  have := dep_le ok hi
  rwa [end_succ (by omega)] at this
/-- the path down to where i comes: the last nodes of the depths -/
structure PathOk (doc : Doc) (path : List Nat) (i : Nat) : Prop where
  len : path.length = endOf 0 (doc.take i)
  at_ : ∀ e, e < path.length → path[e]? = lparTo doc (e : Nat) i
theorem PathOk.next {doc : Doc} (ok : okFrom 0 doc) {path : List Nat} {i : Nat} (hi : i < doc.length) (h : PathOk doc path i) : PathOk doc (path.take (dep doc i) ++ [i]) (i + 1) := by
  have dl := dep_le ok hi
  have tl : (path.take (dep doc i)).length = dep doc i := by
    rw [List.length_take, h.len]
    omega
  refine ⟨?_, fun e he => ?_⟩
  · rw [List.length_append, tl, end_succ hi]
    rfl
  · rw [List.length_append, tl] at he
    have he' : e < dep doc i + 1 := he
    by_cases c : e < dep doc i
    · rw [List.getElem?_append_left (by rw [tl]; exact c), List.getElem?_take_of_lt c, h.at_ e (by rw [h.len]; omega)]
      show _ = if (dep doc i : Int) = (e : Nat) then some i else _
      rw [if_neg (by omega)]
    · have e1 : e = dep doc i := by omega
      subst e1
      rw [List.getElem?_append_right (by rw [tl]; exact Nat.le_refl _), tl, Nat.sub_self]
      show some i = if (dep doc i : Int) = (dep doc i : Nat) then some i else _
      rw [if_pos rfl]
theorem PathOk.par {doc : Doc} (ok : okFrom 0 doc) {path : List Nat} {i : Nat} (hi : i < doc.length) (h : PathOk doc path i) : (path.take (dep doc i)).getLast? = lawPar doc i := by
  have dl := dep_le ok hi
  unfold lawPar
  cases hd : dep doc i with
  | zero =>
    have none_of : ∀ k, lparTo doc (((0 : Nat) : Int) - 1) k = none := by
      intro k
      induction k with
      | zero => rfl
      | succ k ih =>
        show (if (dep doc k : Int) = _ then some k else _) = _
        rw [if_neg (by omega), ih]
    rw [none_of]
    rfl
  | succ d =>
    have e1 : (((d + 1 : Nat) : Int) - 1) = (d : Nat) := by omega
    rw [e1, ← h.at_ d (by rw [h.len]; omega), List.getLast?_eq_getElem?, List.length_take, h.len]
    have e2 : min (d + 1) (endOf 0 (doc.take i)) - 1 = d := by omega
    rw [e2, List.getElem?_take_of_lt (by omega)]
theorem drop_dep {doc : Doc} {i : Nat} (hi : i < doc.length) : doc.drop i = ((doc[i]).1, dep doc i) :: doc.drop (i + 1) := by
  rw [List.drop_eq_getElem_cons hi]
  have e := dep_at (List.getElem?_eq_getElem hi)
  rw [e]
theorem parL_eq {doc : Doc} (ok : okFrom 0 doc) : ∀ (m i : Nat) (path : List Nat), doc.length - i = m → i ≤ doc.length → PathOk doc path i →
    parL path i (doc.drop i) = (List.range' i m).map (lawPar doc)
  | 0, i, path, hm, hi, _ => by
    have e : doc.drop i = [] := List.drop_of_length_le (by omega)
    rw [e]
    rfl
  | m + 1, i, path, hm, hi, h => by
    have lt : i < doc.length := by omega
    rw [drop_dep lt, List.range'_succ, List.map_cons]
    show _ :: _ = _
    rw [h.par ok lt, parL_eq ok m (i + 1) _ (by omega) lt (h.next ok lt)]
theorem path0 (doc : Doc) : PathOk doc [] 0 := ⟨rfl, fun e he => absurd he (Nat.not_lt_zero _)⟩
theorem parsOf_eq {doc : Doc} (ok : okFrom 0 doc) : parsOf doc = (List.range doc.length).map (lawPar doc) := by
  rw [List.range_eq_range']
  exact parL_eq ok doc.length 0 [] (Nat.sub_zero _) (Nat.zero_le _) (path0 doc)
theorem path_to {doc : Doc} (ok : okFrom 0 doc) : ∀ i, i ≤ doc.length → ∃ path, PathOk doc path i
  | 0, _ => ⟨[], path0 doc⟩
  | i + 1, h => let ⟨p, hp⟩ := path_to ok i (by omega); ⟨_, hp.next ok h⟩
/-! what lparTo tells -/
theorem lparTo_some {doc : Doc} {d : Int} : ∀ {k j : Nat}, lparTo doc d k = some j → j < k ∧ (dep doc j : Int) = d ∧ ∀ m, j < m → m < k → (dep doc m : Int) ≠ d
  | 0, _, h => nomatch h
  | k + 1, j, h => by
    have h' : (if (dep doc k : Int) = d then some k else lparTo doc d k) = some j := h
    by_cases c : (dep doc k : Int) = d
    · rw [if_pos c] at h'
      cases h'
      exact ⟨Nat.lt_succ_self _, c, fun m h1 h2 => absurd h2 (by omega)⟩
    · rw [if_neg c] at h'
      obtain ⟨a, b, e⟩ := lparTo_some h'
      refine ⟨by omega, b, fun m h1 h2 => ?_⟩
      by_cases z : m = k
      · subst z
        exact c
      · exact e m h1 (by omega)
theorem lparTo_is {doc : Doc} {d : Int} : ∀ {k j : Nat}, j < k → (dep doc j : Int) = d → (∀ m, j < m → m < k → (dep doc m : Int) ≠ d) → lparTo doc d k = some j
  | 0, _, h, _, _ => absurd h (Nat.not_lt_zero _)
  | k + 1, j, h, hd, hn => by
    show (if (dep doc k : Int) = d then some k else lparTo doc d k) = some j
    by_cases z : j = k
    · subst z
      rw [if_pos hd]
    · rw [if_neg (hn k (by omega) (Nat.lt_succ_self _))]
      exact lparTo_is (by omega) hd fun m h1 h2 => hn m h1 (by omega)
theorem lawPar_none {doc : Doc} (ok : okFrom 0 doc) {i : Nat} (hi : i < doc.length) : lawPar doc i = none ↔ dep doc i = 0 := by
  obtain ⟨path, hp⟩ := path_to ok i (by omega)
  have dl := dep_le ok hi
  constructor
  · intro h
    cases hd : dep doc i with
    | zero => rfl
    | succ d =>
      unfold lawPar at h
      rw [hd] at h
      have e1 : (((d + 1 : Nat) : Int) - 1) = (d : Nat) := by omega
      rw [e1, ← hp.at_ d (by rw [hp.len]; omega)] at h
      have := List.getElem?_eq_none_iff.mp h
      rw [hp.len] at this
      omega
  · intro h
    cases hl : lawPar doc i with
    | none => rfl
    | some j =>
      obtain ⟨_, b, _⟩ := lparTo_some hl
      omega
/-- from a depth of at most d up to d + 1: the depth d is met on the way -/
theorem met {doc : Doc} (ok : okFrom 0 doc) {d : Nat} : ∀ (n k at_ : Nat), at_ - k = n → k < at_ → at_ < doc.length → dep doc k ≤ d → dep doc at_ = d + 1 → ∃ m, k ≤ m ∧ m < at_ ∧ dep doc m = d
  | 0, k, at_, hn, h, _, _, _ => absurd h (by omega)
  | n + 1, k, at_, hn, h, hl, hk, ha => by
    have st := dep_succ ok (i := k) (by omega)
    by_cases c : dep doc (k + 1) ≤ d
    · have ne : k + 1 ≠ at_ := fun z => by subst z; omega
      obtain ⟨m, m1, m2, m3⟩ := met ok n (k + 1) at_ (by omega) (by omega) hl c ha
      exact ⟨m, by omega, m2, m3⟩
    · exact ⟨k, Nat.le_refl _, h, by omega⟩
/-- behind the end of h's piece no node is its child -/
theorem no_child {doc : Doc} (ok : okFrom 0 doc) {h k at_ : Nat} (hk : h < k) (ka : k ≤ at_) (al : at_ < doc.length) (dk : dep doc k ≤ dep doc h) : lawPar doc at_ ≠ some h := by
  intro e
  obtain ⟨a, b, c⟩ := lparTo_some e
  have da : dep doc at_ = dep doc h + 1 := by omega
  have lt : k < at_ := by
    rcases Nat.lt_or_eq_of_le ka with z | z
    · exact z
    · subst z
      omega
  obtain ⟨m, m1, m2, m3⟩ := met ok (at_ - k) k at_ rfl lt al dk da
  exact c m (by omega) m2 (by omega)
theorem is_child {doc : Doc} {h k : Nat} (hk : h < k) (deep : ∀ m, h < m → m < k → dep doc h < dep doc m) (dk : dep doc k = dep doc h + 1) : lawPar doc k = some h :=
  lparTo_is hk (by omega) fun m m1 m2 z => by
    have := deep m m1 m2
    omega
theorem rowL_some {doc : Doc} (ok : okFrom 0 doc) {h : Nat} : ∀ (m k : Nat), doc.length - k = m → k ≤ doc.length → h < k → (∀ j, h < j → j < k → dep doc h < dep doc j) →
    rowL (dep doc h + 1) k (doc.drop k) = (List.range' k m).filter fun i => decide (lawPar doc i = some h)
  | 0, k, hm, hk, _, _ => by
    have e : doc.drop k = [] := List.drop_of_length_le (by omega)
    rw [e]
    rfl
  | m + 1, k, hm, hk, hh, deep => by
    have lt : k < doc.length := by omega
    rw [rowL_cons lt, List.range'_succ]
    by_cases c1 : dep doc k < dep doc h + 1
    · rw [if_pos c1]
      symm
      rw [← List.range'_succ, List.filter_eq_nil_iff]
      intro a ha
      obtain ⟨a1, a2⟩ := List.mem_range'_1.mp ha
      have := no_child ok hh a1 (by omega) (Nat.le_of_lt_succ c1)
      simpa using this
    · rw [if_neg c1]
      have deep' : ∀ j, h < j → j < k + 1 → dep doc h < dep doc j := fun j j1 j2 => by
        by_cases z : j = k
        · subst z
          omega
        · exact deep j j1 (by omega)
      have ih := rowL_some ok m (k + 1) (by omega) lt (by omega) deep'
      by_cases c2 : dep doc k = dep doc h + 1
      · rw [if_pos c2, ih, List.filter_cons_of_pos (by simpa using is_child hh deep c2)]
      · rw [if_neg c2, ih, List.filter_cons_of_neg]
        intro z
        obtain ⟨_, b, _⟩ := lparTo_some (of_decide_eq_true z)
        omega
theorem rowL_none {doc : Doc} (ok : okFrom 0 doc) : ∀ (m k : Nat), doc.length - k = m → k ≤ doc.length →
    rowL 0 k (doc.drop k) = (List.range' k m).filter fun i => decide (lawPar doc i = none)
  | 0, k, hm, hk => by
    have e : doc.drop k = [] := List.drop_of_length_le (by omega)
    rw [e]
    rfl
  | m + 1, k, hm, hk => by
    have lt : k < doc.length := by omega
    have ih := rowL_none ok m (k + 1) (by omega) lt
    rw [rowL_cons lt, List.range'_succ, if_neg (Nat.not_lt_zero _)]
    by_cases c : dep doc k = 0
    · rw [if_pos c, ih, List.filter_cons_of_pos (by simpa using (lawPar_none ok lt).mpr c)]
    · rw [if_neg c, ih, List.filter_cons_of_neg]
      intro z
      exact c ((lawPar_none ok lt).mp (of_decide_eq_true z))
theorem par_lt {doc : Doc} {i h : Nat} (e : lawPar doc i = some h) : h < i := (lparTo_some e).1
theorem rowOf_eq {doc : Doc} (ok : okFrom 0 doc) {o : Option Nat} (ho : inDoc doc o) : rowOf doc o = (List.range doc.length).filter fun i => decide (lawPar doc i = o) := by
  rw [List.range_eq_range']
  cases o with
  | none => exact rowL_none ok doc.length 0 (Nat.sub_zero _) (Nat.zero_le _)
  | some h =>
    have hl := ho h rfl
    have q := rowL_some ok (h := h) (doc.length - (h + 1)) (h + 1) rfl hl (Nat.lt_succ_self _) (fun j j1 j2 => absurd j2 (by omega))
    show rowL (dep doc h + 1) (h + 1) (doc.drop (h + 1)) = _
    rw [q]
    have sp : List.range' 0 doc.length = List.range' 0 (h + 1) ++ List.range' (h + 1) (doc.length - (h + 1)) := by
      have := List.range'_append_1 (s := 0) (m := h + 1) (n := doc.length - (h + 1))
      rw [Nat.zero_add] at this
      rw [this]
      congr 1
      omega
    rw [sp, List.filter_append]
    have z : (List.range' 0 (h + 1)).filter (fun i => decide (lawPar doc i = some h)) = [] := by
      rw [List.filter_eq_nil_iff]
      intro a ha
      obtain ⟨_, a2⟩ := List.mem_range'_1.mp ha
      intro e
      have := par_lt (of_decide_eq_true e)
      omega
    rw [z, List.nil_append]
/-! sizes -/
def runLen (d : Nat) : Doc → Nat
  | [] => 0
  | (_, e) :: r => if e ≤ d then 0 else 1 + runLen d r
def lawSize (doc : Doc) (i : Nat) : Nat := 1 + runLen (dep doc i) (doc.drop (i + 1))
theorem runLen_at {doc : Doc} {d k : Nat} (hk : k < doc.length) : runLen d (doc.drop k) = if dep doc k ≤ d then 0 else 1 + runLen d (doc.drop (k + 1)) := by
  rw [drop_dep hk]
  rfl
/-- the sizes of the children of h from k on -/
def kidSum (doc : Doc) (h : Nat) : Nat → Nat → Nat
  | 0, _ => 0
  | m + 1, k => (if lawPar doc k = some h then lawSize doc k else 0) + kidSum doc h m (k + 1)
theorem kidSum_zero {doc : Doc} {h : Nat} : ∀ (m k : Nat), (∀ i, k ≤ i → i < k + m → lawPar doc i ≠ some h) → kidSum doc h m k = 0
  | 0, _, _ => rfl
  | m + 1, k, H => by
    show (if lawPar doc k = some h then lawSize doc k else 0) + kidSum doc h m (k + 1) = 0
    rw [if_neg (H k (Nat.le_refl _) (by omega)), kidSum_zero m (k + 1) fun i h1 h2 => H i (by omega) (by omega)]
theorem kidSum_run {doc : Doc} (ok : okFrom 0 doc) {h : Nat} : ∀ (m k : Nat), doc.length - k = m → k ≤ doc.length → h < k → (∀ j, h < j → j < k → dep doc h < dep doc j) →
    kidSum doc h m k + runLen (dep doc h + 1) (doc.drop k) = runLen (dep doc h) (doc.drop k)
  | 0, k, hm, hk, _, _ => by
    have e : doc.drop k = [] := List.drop_of_length_le (by omega)
    rw [e]
    rfl
  | m + 1, k, hm, hk, hh, deep => by
    have lt : k < doc.length := by omega
    rw [runLen_at lt, runLen_at lt]
    show (if lawPar doc k = some h then lawSize doc k else 0) + kidSum doc h m (k + 1) + _ = _
    by_cases c1 : dep doc k ≤ dep doc h
    · rw [if_pos (Nat.le_succ_of_le c1), if_pos c1]
      have n0 := no_child ok hh (Nat.le_refl k) lt c1
      rw [if_neg n0, kidSum_zero m (k + 1) fun i h1 h2 => no_child ok hh (by omega) (by omega) c1]
    · have deep' : ∀ j, h < j → j < k + 1 → dep doc h < dep doc j := fun j j1 j2 => by
        by_cases z : j = k
        · subst z
          omega
        · exact deep j j1 (by omega)
      have ih := kidSum_run ok m (k + 1) (by omega) lt (by omega) deep'
      rw [if_neg c1]
      by_cases c2 : dep doc k = dep doc h + 1
      · rw [if_pos (is_child hh deep c2), if_pos (Nat.le_of_eq c2)]
        unfold lawSize
        rw [c2]
        omega
      · have n1 : lawPar doc k ≠ some h := fun z => by
          obtain ⟨_, b, _⟩ := lparTo_some z
          omega
        rw [if_neg n1, if_neg (by omega)]
        omega
theorem size_kids {doc : Doc} (ok : okFrom 0 doc) {h : Nat} (hl : h < doc.length) : lawSize doc h = 1 + kidSum doc h (doc.length - (h + 1)) (h + 1) := by
  have q := kidSum_run ok (h := h) (doc.length - (h + 1)) (h + 1) rfl hl (Nat.lt_succ_self _) (fun j j1 j2 => absurd j2 (by omega))
  have z : runLen (dep doc h + 1) (doc.drop (h + 1)) = 0 := by
    by_cases c : h + 1 < doc.length
    · rw [runLen_at c, if_pos (dep_succ ok c)]
    · rw [List.drop_of_length_le (by omega)]
      rfl
  unfold lawSize
  omega
theorem sizL_eq {doc : Doc} (ok : okFrom 0 doc) : ∀ (j : Nat) (l : List Nat), j ≤ doc.length → l.length = doc.length →
    (∀ i, i < doc.length → l.getD i 0 = 1 + kidSum doc i (doc.length - (max j (i + 1))) (max j (i + 1))) →
    sizL (parsOf doc) j l = (List.range doc.length).map (lawSize doc)
  | 0, l, hj, hl, H => by
    show l = _
    refine List.ext_getElem (by rw [List.length_map, List.length_range, hl]) fun i h1 h2 => ?_
    rw [List.getElem_map, List.getElem_range]
    have lt : i < doc.length := by omega
    have q := H i lt
    rw [List.getD_eq_getElem?_getD, List.getElem?_eq_getElem h1] at q
    rw [size_kids ok lt]
    have e : max 0 (i + 1) = i + 1 := by omega
    rw [e] at q
    exact q
  | j + 1, l, hj, hl, H => by
    have lt : j < doc.length := by omega
    have pj : (parsOf doc).getD j none = lawPar doc j := by
      rw [parsOf_eq ok, List.getD_eq_getElem?_getD, List.getElem?_map, List.getElem?_range lt]
      rfl
    have lj : l.getD j 0 = lawSize doc j := by
      rw [H j lt, size_kids ok lt]
      have e : max (j + 1) (j + 1) = j + 1 := by omega
      rw [e]
    show sizL (parsOf doc) j (sizStep (parsOf doc) l j) = _
    refine sizL_eq ok j _ (by omega) (by rw [sizStep_len]; exact hl) fun i hi => ?_
    have split : ∀ i, i < j → kidSum doc i (doc.length - j) j = (if lawPar doc j = some i then lawSize doc j else 0) + kidSum doc i (doc.length - (j + 1)) (j + 1) := by
      intro i _
      have e : doc.length - j = doc.length - (j + 1) + 1 := by omega
      rw [e]
      rfl
    unfold sizStep
    rw [pj]
    by_cases c : i < j
    · have e1 : max j (i + 1) = j := by omega
      have e2 : max (j + 1) (i + 1) = j + 1 := by omega
      have Hi := H i hi
      rw [e2] at Hi
      rw [e1, split i c]
      cases hp : lawPar doc j with
      | none =>
        simp only
        rw [if_neg (by simp), Hi]
        omega
      | some a =>
        simp only
        by_cases z : a = i
        · subst z
          rw [if_pos rfl, List.getD_eq_getElem?_getD, List.getElem?_set_self (by omega)]
          show l.getD a 0 + l.getD j 0 = _
          rw [Hi, lj]
          omega
        · rw [if_neg (by simpa using z), List.getD_eq_getElem?_getD, List.getElem?_set_ne z, ← List.getD_eq_getElem?_getD, Hi]
          omega
    · have e1 : max j (i + 1) = i + 1 := by omega
      have e2 : max (j + 1) (i + 1) = i + 1 := by omega
      have Hi := H i hi
      rw [e2] at Hi
      rw [e1]
      cases hp : lawPar doc j with
      | none => exact Hi
      | some a =>
        have := par_lt hp
        simp only
        rw [List.getD_eq_getElem?_getD, List.getElem?_set_ne (by omega), ← List.getD_eq_getElem?_getD, Hi]
theorem sizesOf_eq {doc : Doc} (ok : okFrom 0 doc) : sizesOf doc = (List.range doc.length).map (lawSize doc) := by
  refine sizL_eq ok doc.length _ (Nat.le_refl _) List.length_replicate fun i hi => ?_
  have e : max doc.length (i + 1) = doc.length := by omega
  rw [e, Nat.sub_self, List.getD_eq_getElem?_getD, List.getElem?_replicate, if_pos hi]
  rfl

theorem Same.new {H : Hp} {p : Addr} {o : HO} (h : H p = none) : Same H (upd H p o) := fun b u e => by
  rw [upd_ne (ne_of_none e h)]
  exact e

/-! ### plain data for repr -/
def dO : Option Nat → PyData
  | none => .none
  | some i => .int (i : Nat)
theorem log_small {n : Nat} (h : n < 1000000) : n.log2 < 1920 := by
  by_cases z : n = 0
  · subst z
    decide
  · exact (Nat.log2_lt z).mpr (Nat.lt_trans h (Nat.lt_of_lt_of_le (show 1000000 < 2 ^ 20 by decide) (Nat.pow_le_pow_right (by decide) (by decide))))
theorem vO_all {K : PySem.W.Frag} {H : Hp} : ∀ l : List (Option Nat), DpAll K H (l.map vO) (l.map dO)
  | [] => .nil
  | none :: l => .cons .non (vO_all l)
  | some i :: l => .cons (.int _) (vO_all l)
theorem dO_show : ∀ l : List (Option Nat), (∀ i, some i ∈ l → i < 1000000) → PyData.showableAll (l.map dO) = true
  | [], _ => by simp [PyData.showableAll]
  | none :: l, h => by
    have := dO_show l fun i hi => h i (List.mem_cons_of_mem _ hi)
    simp [PyData.showableAll, dO, PyData.showable, this]
  | some i :: l, h => by
    have := dO_show l fun i hi => h i (List.mem_cons_of_mem _ hi)
    have z := log_small (h i List.mem_cons_self)
    simp [PyData.showableAll, dO, PyData.showable, this, z]
theorem dO_plain : ∀ l : List (Option Nat), PyData.hasDictAll (l.map dO) = false
  | [] => by simp [PyData.hasDictAll]
  | none :: l => by simp [PyData.hasDictAll, dO, PyData.hasDict, dO_plain l]
  | some i :: l => by simp [PyData.hasDictAll, dO, PyData.hasDict, dO_plain l]
theorem dO_deep : ∀ l : List (Option Nat), PyData.depthAll (l.map dO) = 0
  | [] => by simp [PyData.depthAll]
  | none :: l => by simp [PyData.depthAll, dO, PyData.depth, dO_deep l]
  | some i :: l => by simp [PyData.depthAll, dO, PyData.depth, dO_deep l]
theorem dO_most : ∀ l : List (Option Nat), mostAll (l.map dO) ≤ 2002 * l.length
  | [] => Nat.zero_le _
  | none :: l => by
    have := dO_most l
    show 4 + 2 + mostAll (l.map dO) ≤ 2002 * (l.length + 1)
    omega
  | some i :: l => by
    have := dO_most l
    show 2000 + 2 + mostAll (l.map dO) ≤ 2002 * (l.length + 1)
    omega
theorem vO_scal (a b : Option Nat) : scal (vO a) (vO b) = true := by cases a <;> cases b <;> rfl
theorem vO_inj {a b : Option Nat} (h : vO a = vO b) : a = b := by
  cases a with
  | none =>
    cases b with
    | none => rfl
    | some j => cases h
  | some i =>
    cases b with
    | none => cases h
    | some j =>
      injection h with h
      have : i = j := by omega
      rw [this]
/-- a tuple of numbers and None -/
theorem told_tup {K : PySem.W.Frag} {H : Hp} {q : Addr} {l : List (Option Nat)} (h : SqT K H q (l.map vO)) (hl : l.length ≤ 1000) (hs : ∀ i, some i ∈ l → i < 1000000) :
    Told K H (.ref q) (.tuple (l.map dO)) where
  at_ := .tup h (vO_all l)
  show_ := by simpa [PyData.showable] using dO_show l hs
  plain := by simpa [PyData.hasDict] using dO_plain l
  deep := by
    have := dO_deep l
    show PyData.depth (.tuple (l.map dO)) ≤ 20
    simp [PyData.depth, this]
  short := by
    have := dO_most l
    show mostAll (l.map dO) + 4 ≤ 16000000
    omega
theorem nV_some (l : List Nat) : nV l = (l.map some).map vO := by
  unfold nV
  rw [List.map_map]
  rfl
theorem mem_somes {l : List Nat} {i : Nat} (h : some i ∈ l.map some) : i ∈ l := by
  obtain ⟨a, h1, h2⟩ := List.mem_map.mp h
  cases h2
  exact h1

/-! ### the law's own reckoning -/
def spLPar : Sp := fun vs H Q _ => ∃ (p : Addr) (doc : Doc) (i : Nat), vs = [.ref p, .int i] ∧ DocAt H p doc ∧ i < doc.length ∧ doc.length ≤ 20000 ∧ Q (vO (lawPar doc i)) H
def spLSize : Sp := fun vs H Q _ => ∃ (p : Addr) (doc : Doc) (i : Nat), vs = [.ref p, .int i] ∧ DocAt H p doc ∧ i < doc.length ∧ doc.length ≤ 20000 ∧
  ∀ H', Same H H' → Q (.int (lawSize doc i : Nat)) H'
section
variable {P : Program} {w : World} {K : PySem.W.Frag} {mg : Str → Option Value} {base : Heap}
section
variable {K : PySem.W.Frag} {σ : L2.St} {H : Hp} {Q : VK}
abbrev tRepr (K : PySem.W.Frag) (t : TE) : TE := tCB (rRepr K) (tCons t tNil)
abbrev tTupOf (K : PySem.W.Frag) (t : TE) : TE := tCB (rTup K) (tCons t tNil)
/-- repr(tuple(xs)), xs a list of numbers and None -/
theorem rd_tup {i : Nat} {a : Addr} {l : List (Option Nat)} (h : σ[i]? = some (some (.ref a))) (ha : H a = some (.lst (l.map vO))) (hl : l.length ≤ 1000) (hs : ∀ i, some i ∈ l → i < 1000000)
    (k : ∀ H2, Same H H2 → Q (.str (PyData.tuple (l.map dO)).shown) H2) : tRepr K (tTupOf K (tVar i)) σ H Q :=
  ⟨_, h, a, _, rfl, .inl ⟨SqL.of ha, fun t ht => ⟨_, _, rfl, told_tup (SqT.of upd_same) hl hs, k _ (Same.new ht)⟩⟩⟩
theorem rd_val {i : Nat} {a : Addr} {l : List (Option Nat)} (h : σ[i]? = some (some (.ref a))) (ha : H a = some (.tup (l.map vO))) (hl : l.length ≤ 1000) (hs : ∀ i, some i ∈ l → i < 1000000)
    (k : Q (.str (PyData.tuple (l.map dO)).shown) H) : tRepr K (tVar i) σ H Q :=
  ⟨_, h, _, _, rfl, told_tup (SqT.of ha) hl hs, k⟩
theorem rd_pars {p : Addr} {doc : Doc} (h : σ[1]? = some (some (.ref p))) (hd : DocAt H p doc) (ok : okFrom 0 doc) (hl : doc.length ≤ 1000)
    (k : ∀ H2, Same H H2 → Q (.str (PyData.tuple (((List.range doc.length).map (lawPar doc)).map dO)).shown) H2) : tRepr K (tCall spPars [] E0 (tCons (tVar 1) tNil)) σ H Q := by
  refine ⟨_, h, p, doc, rfl, hd, ok, by omega, fun H1 q s1 hq e1 => ?_⟩
  rw [parsOf_eq ok] at e1
  refine ⟨_, _, rfl, told_tup (SqT.of e1) (by rw [List.length_map, List.length_range]; exact hl) (fun i hi => ?_), k _ s1⟩
  obtain ⟨j, hj, e⟩ := List.mem_map.mp hi
  have := par_lt e
  have := List.mem_range.mp hj
  omega
theorem runLen_le (d : Nat) : ∀ r : Doc, runLen d r ≤ r.length
  | [] => Nat.le_refl _
  | (_, e) :: r => by
    have := runLen_le d r
    show (if e ≤ d then 0 else 1 + runLen d r) ≤ r.length + 1
    split <;> omega
theorem lawSize_le {doc : Doc} {i : Nat} (hi : i < doc.length) : lawSize doc i ≤ doc.length := by
  have := runLen_le (dep doc i) (doc.drop (i + 1))
  rw [List.length_drop] at this
  unfold lawSize
  omega
theorem rd_sizes {p : Addr} {doc : Doc} (h : σ[1]? = some (some (.ref p))) (hd : DocAt H p doc) (ok : okFrom 0 doc) (hl : doc.length ≤ 1000)
    (k : ∀ H2, Same H H2 → Q (.str (PyData.tuple ((((List.range doc.length).map (lawSize doc)).map some).map dO)).shown) H2) : tRepr K (tCall spSizes [] E0 (tCons (tVar 1) tNil)) σ H Q := by
  refine ⟨_, h, p, doc, rfl, hd, ok, by omega, fun H1 q s1 hq e1 => ?_⟩
  rw [sizesOf_eq ok, nV_some] at e1
  refine ⟨_, _, rfl, told_tup (SqT.of e1) (by rw [List.length_map, List.length_map, List.length_range]; exact hl) (fun i hi => ?_), k _ s1⟩
  obtain ⟨j, hj, e⟩ := List.mem_map.mp (mem_somes hi)
  have := lawSize_le (List.mem_range.mp hj)
  omega
theorem rd_kids {j : Nat} {p : Addr} {doc : Doc} {o : Option Nat} (h : σ[1]? = some (some (.ref p))) (h2 : σ[j]? = some (some (vO o))) (hd : DocAt H p doc) (ok : okFrom 0 doc) (hl : doc.length ≤ 1000) (ho : inDoc doc o)
    (k : ∀ H2, Same H H2 → Q (.str (PyData.tuple ((((List.range doc.length).filter fun i => decide (lawPar doc i = o)).map some).map dO)).shown) H2) :
    tRepr K (tCall spKids [] E0 (tCons (tVar 1) (tCons (tVar j) tNil))) σ H Q := by
  refine ⟨_, h, _, h2, p, doc, o, rfl, hd, ok, by omega, ho, fun H1 q s1 hq e1 => ?_⟩
  rw [rowOf_eq ok ho, nV_some] at e1
  refine ⟨_, _, rfl, told_tup (SqT.of e1) ?_ (fun i hi => ?_), k _ s1⟩
  · have := List.length_filter_le (fun i => decide (lawPar doc i = o)) (List.range doc.length)
    rw [List.length_range] at this
    rw [List.length_map]
    omega
  · have := List.mem_range.mp (List.mem_filter.mp (mem_somes hi)).1
    omega
end
end

/-! ### the law's own parents -/
def spLPars : Sp := fun vs H Q _ => ∃ (p : Addr) (doc : Doc), vs = [.ref p] ∧ DocAt H p doc ∧ okFrom 0 doc ∧ doc.length ≤ 20000 ∧
  ∀ (H' : Hp) (q : Addr), Same H H' → H q = none → H' q = some (.lst (((List.range doc.length).map (lawPar doc)).map vO)) → Q (.ref q) H'
theorem dp_ints {K : PySem.W.Frag} {H : Hp} : ∀ l : List Nat, DpAll K H (nV l) (l.map fun n => PyData.int (n : Nat))
  | [] => .nil
  | n :: l => .cons (.int _) (dp_ints l)
theorem ints_lay : ∀ l : List Nat, PyData.canLayAll0 (l.map fun n => PyData.int (n : Nat)) = true
  | [] => by simp [PyData.canLayAll0]
  | n :: l => by simp [PyData.canLayAll0, PyData.canLay0, ints_lay l]
theorem ints_flat : ∀ l : List Nat, PyData.depthAll (l.map fun n => PyData.int (n : Nat)) = 0
  | [] => by simp [PyData.depthAll]
  | n :: l => by simp [PyData.depthAll, PyData.depth, ints_flat l]
theorem ints_shaped (l : List Nat) : SeqAt.shaped (.list (l.map fun n => PyData.int (n : Nat))) = true := by
  unfold SeqAt.shaped
  simp [PyData.canLay0, ints_lay l, PyData.depth, ints_flat l]
theorem ints_eqv (l : List Nat) : PyData.eqv (.list (l.map fun n => PyData.int (n : Nat))) (.list []) = l.isEmpty := by
  cases l with
  | nil => simp [PyData.eqv, PyData.eqvAll]
  | cons a r => simp [PyData.eqv, PyData.eqvAll]
section
variable {P : Program} {w : World} {K : PySem.W.Frag} {mg : Str → Option Value} {base : Heap}
end

/-! ### no node deeper than its number -/
theorem okFrom_take : ∀ {m : Nat} {doc : Doc}, okFrom m doc → ∀ i, okFrom m (doc.take i)
  | _, [], _, i => by rw [List.take_nil]; trivial
  | _, _ :: _, _, 0 => trivial
  | _, (_, d) :: r, h, i + 1 => ⟨h.1, h.2.1, h.2.2.1, okFrom_take h.2.2.2 i⟩
theorem dep_lt {doc : Doc} (ok : okFrom 0 doc) {i : Nat} (hi : i < doc.length) : dep doc i ≤ i := by
  have a := dep_le ok hi
  have b := endOf_le (okFrom_take ok i)
  rw [List.length_take] at b
  omega
def rowA (doc : Doc) (t : Nat) (o : Option Nat) : List Nat := (List.range t).filter fun i => decide (lawPar doc i = o)
theorem rowA_succ (doc : Doc) (t : Nat) (o : Option Nat) : rowA doc (t + 1) o = rowA doc t o ++ if lawPar doc t = o then [t] else [] := by
  unfold rowA
  rw [List.range_succ, List.filter_append]
  congr 1
  by_cases c : lawPar doc t = o
  · rw [if_pos c, List.filter_cons_of_pos (by simpa using c)]
    rfl
  · rw [if_neg c, List.filter_cons_of_neg (by simpa using c)]
    rfl
theorem rowA_len (doc : Doc) (t : Nat) (o : Option Nat) : (rowA doc t o).length ≤ t := by
  have := List.length_filter_le (fun i => decide (lawPar doc i = o)) (List.range t)
  rwa [List.length_range] at this
theorem rowA_new (doc : Doc) (t : Nat) : rowA doc t (some t) = [] := by
  unfold rowA
  rw [List.filter_eq_nil_iff]
  intro i hi c
  have := par_lt (of_decide_eq_true c)
  have := List.mem_range.mp hi
  omega
abbrev parV (doc : Doc) : List V := ((List.range doc.length).map (lawPar doc)).map vO
theorem parV_len (doc : Doc) : (parV doc).length = doc.length := by rw [List.length_map, List.length_map, List.length_range]
theorem parV_at {doc : Doc} {i : Nat} (h : i < doc.length) : (parV doc)[i]? = some (vO (lawPar doc i)) := by
  rw [List.getElem?_map, List.getElem?_map, List.getElem?_range h]
  rfl

/-! ### the texts of documents -/
/-- what follows a mark of the depth h, down to the depth b at the end -/
def wrB (b : Nat) : Nat → Doc → List Nat
  | h, [] => List.replicate (h - b) 41
  | h, (c, e) :: r => (if h < e then [40] else List.replicate (h - e) 41 ++ [32]) ++ c :: wrB b e r
def textOf : Doc → List Nat
  | [] => []
  | (c, d) :: r => c :: wrB d d r
def sT (l : List Nat) : Str := ⟨l.toArray⟩
theorem sT_add (a b : List Nat) : sT a ++ sT b = sT (a ++ b) := by
  apply TL.ext_tl
  rw [TL.tl_append]
  rfl
theorem sT_len (a : List Nat) : (sT a).length = a.length := by
  rw [TL.len_tl]
  rfl
theorem wrB_len {b : Nat} : ∀ {h : Nat} {r : Doc}, okFrom (h + 1) r → (wrB b h r).length ≤ h + 3 * r.length
  | h, [], _ => by
    show (List.replicate (h - b) 41).length ≤ _
    rw [List.length_replicate]
    omega
  | h, (c, e) :: r, ok => by
    have ih := wrB_len (b := b) ok.2.2.2
    have le := ok.2.2.1
    show ((if h < e then [40] else List.replicate (h - e) 41 ++ [32]) ++ c :: wrB b e r).length ≤ h + 3 * (r.length + 1)
    rw [List.length_append, List.length_cons]
    by_cases q : h < e
    · rw [if_pos q]
      show 1 + _ ≤ _
      omega
    · rw [if_neg q, List.length_append, List.length_replicate]
      show h - e + 1 + _ ≤ _
      omega
/-- written down to b + 1 first, then one more -/
theorem wrB_up {b : Nat} : ∀ {h : Nat} {r : Doc}, b + 1 ≤ h → (∀ e ∈ r, b + 1 ≤ e.2) → wrB b h r = wrB (b + 1) h r ++ [41]
  | h, [], hb, _ => by
    show List.replicate (h - b) 41 = List.replicate (h - (b + 1)) 41 ++ [41]
    have e : h - b = (h - (b + 1)) + 1 := by omega
    rw [e, List.replicate_succ']
  | h, (c, e) :: r, hb, all => by
    have he : b + 1 ≤ e := all (c, e) List.mem_cons_self
    have ih := wrB_up (b := b) (h := e) (r := r) he fun x hx => all x (List.mem_cons_of_mem _ hx)
    show (if h < e then [40] else List.replicate (h - e) 41 ++ [32]) ++ c :: wrB b e r = ((if h < e then [40] else List.replicate (h - e) 41 ++ [32]) ++ c :: wrB (b + 1) e r) ++ [41]
    rw [ih, List.append_assoc]
    rfl
/-- a run of deeper ones, then one of the depth d -/
theorem wrB_app {d c : Nat} {r : Doc} : ∀ {h : Nat} {S : Doc}, d ≤ h → (∀ e ∈ S, d ≤ e.2) → wrB d h (S ++ (c, d) :: r) = wrB d h S ++ 32 :: c :: wrB d d r
  | h, [], hd, _ => by
    show (if h < d then [40] else List.replicate (h - d) 41 ++ [32]) ++ c :: wrB d d r = List.replicate (h - d) 41 ++ 32 :: c :: wrB d d r
    rw [if_neg (by omega), List.append_assoc]
    rfl
  | h, (x, e) :: S, hd, all => by
    have he : d ≤ e := all (x, e) List.mem_cons_self
    have ih := wrB_app (d := d) (c := c) (r := r) (h := e) (S := S) he fun y hy => all y (List.mem_cons_of_mem _ hy)
    show (if h < e then [40] else List.replicate (h - e) 41 ++ [32]) ++ x :: wrB d e (S ++ (c, d) :: r) = ((if h < e then [40] else List.replicate (h - e) 41 ++ [32]) ++ x :: wrB d e S) ++ 32 :: c :: wrB d d r
    rw [ih, List.append_assoc]
    rfl
/-- depths taken off -/
def less (k : Nat) (r : Doc) : Doc := r.map fun e => (e.1, e.2 - k)
theorem wrB_less {k b : Nat} (kb : k ≤ b) : ∀ {h : Nat} {r : Doc}, k ≤ h → (∀ e ∈ r, k ≤ e.2) → wrB (b - k) (h - k) (less k r) = wrB b h r
  | h, [], hk, _ => by
    show List.replicate (h - k - (b - k)) 41 = List.replicate (h - b) 41
    congr 1
    omega
  | h, (c, e) :: r, hk, all => by
    have he : k ≤ e := all (c, e) List.mem_cons_self
    have ih := wrB_less kb (h := e) (r := r) he fun y hy => all y (List.mem_cons_of_mem _ hy)
    show (if h - k < e - k then [40] else List.replicate (h - k - (e - k)) 41 ++ [32]) ++ c :: wrB (b - k) (e - k) (less k r) = (if h < e then [40] else List.replicate (h - e) 41 ++ [32]) ++ c :: wrB b e r
    rw [ih]
    by_cases q : h < e
    · rw [if_pos q, if_pos (by omega)]
    · rw [if_neg q, if_neg (by omega)]
      congr 3
      omega
/-- the deeper ones behind a node, and its text -/
def deepOf (doc : Doc) (i : Nat) : Doc := (doc.drop (i + 1)).take (runLen (dep doc i) (doc.drop (i + 1)))
def nodeText (doc : Doc) (i : Nat) : List Nat := (doc.getD i (0, 0)).1 :: wrB (dep doc i) (dep doc i) (deepOf doc i)
theorem run_deep {d : Nat} : ∀ {r : Doc} {e : Nat × Nat}, e ∈ r.take (runLen d r) → d < e.2
  | [], _, h => by simp [runLen] at h
  | (c, x) :: r, e, h => by
    by_cases q : x ≤ d
    · simp [runLen, q] at h
    · have z : runLen d ((c, x) :: r) = runLen d r + 1 := by
        show (if x ≤ d then 0 else 1 + runLen d r) = _
        rw [if_neg q]
        omega
      rw [z, List.take_succ_cons] at h
      rcases List.mem_cons.mp h with h | h
      · subst h
        show d < x
        omega
      · exact run_deep h
def joinT (ts : List (List Nat)) : List Nat := TL.joinL [32] ts
theorem joinT_cons (t : List Nat) {ts : List (List Nat)} (h : ts ≠ []) : joinT (t :: ts) = t ++ 32 :: joinT ts := by
  cases ts with
  | nil => exact absurd rfl h
  | cons u r => rfl
/-- the leading ones that are not less deep than d -/
def runN (d : Nat) : Doc → Nat
  | [] => 0
  | (_, e) :: r => if e < d then 0 else 1 + runN d r
theorem runN_succ (d : Nat) : ∀ r : Doc, runN (d + 1) r = runLen d r
  | [] => rfl
  | (_, e) :: r => by
    show (if e < d + 1 then 0 else 1 + runN (d + 1) r) = if e ≤ d then 0 else 1 + runLen d r
    rw [runN_succ d r]
    by_cases q : e ≤ d
    · rw [if_pos q, if_pos (by omega)]
    · rw [if_neg q, if_neg (by omega)]
theorem runN_zero : ∀ r : Doc, runN 0 r = r.length
  | [] => rfl
  | (_, e) :: r => by
    show (if e < 0 then 0 else 1 + runN 0 r) = r.length + 1
    rw [if_neg (Nat.not_lt_zero _), runN_zero r]
    omega
theorem runN_ge {d : Nat} : ∀ {r : Doc} {e : Nat × Nat}, e ∈ r.take (runN d r) → d ≤ e.2
  | [], _, h => by simp [runN] at h
  | (c, x) :: r, e, h => by
    by_cases q : x < d
    · simp [runN, q] at h
    · have z : runN d ((c, x) :: r) = runN d r + 1 := by
        show (if x < d then 0 else 1 + runN d r) = _
        rw [if_neg q]
        omega
      rw [z, List.take_succ_cons] at h
      rcases List.mem_cons.mp h with h | h
      · subst h
        show d ≤ x
        omega
      · exact runN_ge h
def tailT (ts : List (List Nat)) : List Nat := if ts = [] then [] else 32 :: joinT ts
theorem joinT_tail (t : List Nat) (ts : List (List Nat)) : joinT (t :: ts) = t ++ tailT ts := by
  unfold tailT
  cases ts with
  | nil => rw [if_pos rfl, List.append_nil]; rfl
  | cons u r => rw [if_neg (fun z => nomatch z)]; rfl
/-- a stretch written: its first deeper ones, then the texts of the row -/
theorem stretch {doc : Doc} {d : Nat} : ∀ (r : Doc) (k h : Nat), doc.drop k = r → d ≤ h → wrB d h (r.take (runN d r)) = wrB d h (r.take (runLen d r)) ++ tailT ((rowL d k r).map (nodeText doc))
  | [], k, h, _, _ => by
    show List.replicate (h - d) 41 = List.replicate (h - d) 41 ++ tailT []
    rw [show tailT [] = [] from rfl, List.append_nil]
  | (c, e) :: r, k, h, hk, hdh => by
    have hk1 : doc.drop (k + 1) = r := by rw [← List.drop_drop, hk]; rfl
    have hl : k < doc.length := by
      by_cases q : k < doc.length
      · exact q
      · rw [List.drop_of_length_le (by omega)] at hk; cases hk
    have hd : doc.getD k (0, 0) = (c, e) := by
      rw [List.drop_eq_getElem_cons hl] at hk
      injection hk with z _
      rw [List.getD_eq_getElem?_getD, List.getElem?_eq_getElem hl, z]
      rfl
    have dk : dep doc k = e := by unfold dep; rw [hd]
    by_cases q1 : e < d
    · have z1 : runN d ((c, e) :: r) = 0 := if_pos q1
      have z2 : runLen d ((c, e) :: r) = 0 := if_pos (Nat.le_of_lt q1)
      have z3 : rowL d k ((c, e) :: r) = [] := if_pos q1
      rw [z1, z2, z3]
      show _ = _ ++ tailT []
      rw [show tailT [] = [] from rfl, List.append_nil]
    · have z1 : runN d ((c, e) :: r) = runN d r + 1 := by
        show (if e < d then 0 else 1 + runN d r) = _
        rw [if_neg q1]
        omega
      rw [z1, List.take_succ_cons]
      by_cases q2 : e = d
      · subst q2
        have z2 : runLen e ((c, e) :: r) = 0 := if_pos (Nat.le_refl _)
        have z3 : rowL e k ((c, e) :: r) = k :: rowL e (k + 1) r := by
          show (if e < e then [] else if e = e then k :: rowL e (k + 1) r else rowL e (k + 1) r) = _
          rw [if_neg q1, if_pos rfl]
        have ih := stretch (doc := doc) (d := e) r (k + 1) e hk1 (Nat.le_refl _)
        have nt : nodeText doc k = c :: wrB e e (r.take (runLen e r)) := by
          unfold nodeText deepOf
          rw [dk, hk1, hd]
        rw [z2, z3]
        show (if h < e then [40] else List.replicate (h - e) 41 ++ [32]) ++ c :: wrB e e (r.take (runN e r)) = List.replicate (h - e) 41 ++ tailT (nodeText doc k :: (rowL e (k + 1) r).map (nodeText doc))
        have tt : tailT (nodeText doc k :: (rowL e (k + 1) r).map (nodeText doc)) = 32 :: joinT (nodeText doc k :: (rowL e (k + 1) r).map (nodeText doc)) := if_neg (fun z => nomatch z)
        rw [tt, joinT_tail, nt, ih]
        rw [if_neg (by omega), List.append_assoc]
        rfl
      · have z2 : runLen d ((c, e) :: r) = runLen d r + 1 := by
          show (if e ≤ d then 0 else 1 + runLen d r) = _
          rw [if_neg (by omega)]
          omega
        have z3 : rowL d k ((c, e) :: r) = rowL d (k + 1) r := by
          show (if e < d then [] else if e = d then k :: rowL d (k + 1) r else rowL d (k + 1) r) = _
          rw [if_neg q1, if_neg q2]
        have ih := stretch (doc := doc) (d := d) r (k + 1) e hk1 (by omega)
        rw [z2, z3, List.take_succ_cons]
        show (if h < e then [40] else List.replicate (h - e) 41 ++ [32]) ++ c :: wrB d e (r.take (runN d r)) = ((if h < e then [40] else List.replicate (h - e) 41 ++ [32]) ++ c :: wrB d e (r.take (runLen d r))) ++ tailT ((rowL d (k + 1) r).map (nodeText doc))
        rw [ih, List.append_assoc]
        rfl
theorem head_dep {doc : Doc} {k : Nat} {c e : Nat} {r : Doc} (hk : doc.drop k = (c, e) :: r) : k < doc.length ∧ doc.getD k (0, 0) = (c, e) ∧ dep doc k = e ∧ doc.drop (k + 1) = r := by
  have hl : k < doc.length := by
    by_cases q : k < doc.length
    · exact q
    · rw [List.drop_of_length_le (by omega)] at hk; cases hk
  have hd : doc.getD k (0, 0) = (c, e) := by
    rw [List.drop_eq_getElem_cons hl] at hk
    injection hk with z _
    rw [List.getD_eq_getElem?_getD, List.getElem?_eq_getElem hl, z]
    rfl
  exact ⟨hl, hd, by unfold dep; rw [hd], by rw [← List.drop_drop, hk]; rfl⟩
/-- a whole row from its first one -/
theorem row_first {doc : Doc} {k c d : Nat} {r : Doc} (hk : doc.drop k = (c, d) :: r) : joinT ((rowL d k ((c, d) :: r)).map (nodeText doc)) = c :: wrB d d (r.take (runN d r)) := by
  obtain ⟨hl, hd, dk, hk1⟩ := head_dep hk
  have z3 : rowL d k ((c, d) :: r) = k :: rowL d (k + 1) r := by
    show (if d < d then [] else if d = d then k :: rowL d (k + 1) r else rowL d (k + 1) r) = _
    rw [if_neg (Nat.lt_irrefl _), if_pos rfl]
  have nt : nodeText doc k = c :: wrB d d (r.take (runLen d r)) := by
    unfold nodeText deepOf
    rw [dk, hk1, hd]
  rw [z3, List.map_cons, joinT_tail, nt, stretch r (k + 1) d hk1 (Nat.le_refl _)]
  rfl
theorem due_text {doc : Doc} (ok : okFrom 0 doc) : joinT ((rowL 0 0 doc).map (nodeText doc)) = textOf doc := by
  match doc, ok with
  | [], _ => rfl
  | (c, d) :: r, ok =>
    have d0 : d = 0 := Nat.le_zero.mp ok.2.2.1
    subst d0
    have h := row_first (doc := (c, 0) :: r) (k := 0) (c := c) (d := 0) (r := r) rfl
    rw [h, runN_zero, List.take_length]
    rfl
/-- a node's text of its mark and its children's -/
theorem node_text {doc : Doc} (ok : okFrom 0 doc) {i : Nat} (hi : i < doc.length) :
    nodeText doc i = (doc.getD i (0, 0)).1 :: (if rowOf doc (some i) = [] then [] else 40 :: joinT ((rowOf doc (some i)).map (nodeText doc)) ++ [41]) := by
  show _ :: wrB (dep doc i) (dep doc i) (deepOf doc i) = _ :: _
  congr 1
  show _ = if rowL (dep doc i + 1) (i + 1) (doc.drop (i + 1)) = [] then [] else 40 :: joinT ((rowL (dep doc i + 1) (i + 1) (doc.drop (i + 1))).map (nodeText doc)) ++ [41]
  unfold deepOf
  cases e : doc.drop (i + 1) with
  | nil =>
    have z : rowL (dep doc i + 1) (i + 1) [] = [] := rfl
    rw [z, if_pos rfl]
    show List.replicate (dep doc i - dep doc i) 41 = []
    rw [Nat.sub_self]
    rfl
  | cons x r =>
    obtain ⟨c, d⟩ := x
    obtain ⟨hl, hd, dk, hk1⟩ := head_dep e
    have up : d ≤ dep doc i + 1 := by rw [← dk]; exact dep_succ ok hl
    by_cases q : d ≤ dep doc i
    · have z1 : runLen (dep doc i) ((c, d) :: r) = 0 := if_pos q
      have z2 : rowL (dep doc i + 1) (i + 1) ((c, d) :: r) = [] := if_pos (by omega)
      rw [z1, z2, if_pos rfl]
      show List.replicate (dep doc i - dep doc i) 41 = []
      rw [Nat.sub_self]
      rfl
    · have de : d = dep doc i + 1 := by omega
      have z1 : runLen (dep doc i) ((c, d) :: r) = runLen (dep doc i) r + 1 := by
        show (if d ≤ dep doc i then 0 else 1 + runLen (dep doc i) r) = _
        rw [if_neg q]
        omega
      have z2 : rowL d (i + 1) ((c, d) :: r) ≠ [] := by
        show (if d < d then [] else if d = d then (i + 1) :: rowL d (i + 2) r else rowL d (i + 2) r) ≠ []
        rw [if_neg (Nat.lt_irrefl _), if_pos rfl]
        exact fun z => nomatch z
      rw [z1, List.take_succ_cons, ← de, if_neg z2, row_first e]
      show (if dep doc i < d then [40] else List.replicate (dep doc i - d) 41 ++ [32]) ++ c :: wrB (dep doc i) d (r.take (runLen (dep doc i) r)) = 40 :: (c :: wrB d d (r.take (runN d r))) ++ [41]
      have z3 : runN d r = runLen (dep doc i) r := by rw [de, runN_succ]
      rw [if_pos (by omega), z3, wrB_up (by omega) fun e he => run_deep he, ← de]
      rfl
/-- the piece of a node, its depth taken off -/
def pieceOf (doc : Doc) (i : Nat) : Doc := ((doc.getD i (0, 0)).1, 0) :: less (dep doc i) (deepOf doc i)
theorem piece_text (doc : Doc) (i : Nat) : textOf (pieceOf doc i) = nodeText doc i := by
  show _ :: wrB 0 0 (less (dep doc i) (deepOf doc i)) = _ :: _
  congr 1
  have h := wrB_less (k := dep doc i) (b := dep doc i) (Nat.le_refl _) (h := dep doc i) (r := deepOf doc i) (Nat.le_refl _) fun e he => Nat.le_of_lt (run_deep he)
  rw [Nat.sub_self] at h
  exact h
theorem ok_drop : ∀ {m : Nat} {doc : Doc}, okFrom m doc → ∀ i, ∃ n, okFrom n (doc.drop i)
  | m, doc, h, 0 => ⟨m, h⟩
  | _, [], _, i + 1 => ⟨0, trivial⟩
  | _, (_, d) :: r, h, i + 1 => ok_drop h.2.2.2 i
theorem ok_less {k : Nat} : ∀ {m : Nat} {doc : Doc}, okFrom m doc → (∀ e ∈ doc, k ≤ e.2) → okFrom (m - k) (less k doc)
  | _, [], _, _ => trivial
  | m, (c, d) :: r, h, all => by
    have hd : k ≤ d := all (c, d) List.mem_cons_self
    have ih := ok_less (k := k) h.2.2.2 fun e he => all e (List.mem_cons_of_mem _ he)
    have e1 : d + 1 - k = d - k + 1 := by omega
    rw [e1] at ih
    exact ⟨h.1, h.2.1, Nat.sub_le_sub_right h.2.2.1 k, ih⟩
theorem ok_piece {doc : Doc} (ok : okFrom 0 doc) {i : Nat} (hi : i < doc.length) : okFrom 0 (pieceOf doc i) := by
  obtain ⟨n, h⟩ := ok_drop ok i
  rw [List.drop_eq_getElem_cons hi] at h
  have e : doc[i] = doc.getD i (0, 0) := by rw [List.getD_eq_getElem?_getD, List.getElem?_eq_getElem hi]; rfl
  rw [e] at h
  obtain ⟨h0, h1, h2, h3⟩ := (show okFrom n (((doc.getD i (0, 0)).1, (doc.getD i (0, 0)).2) :: doc.drop (i + 1)) from h)
  refine ⟨h0, h1, Nat.le_refl _, ?_⟩
  have z := ok_less (k := dep doc i) (okFrom_take h3 (runLen (dep doc i) (doc.drop (i + 1)))) fun e he => Nat.le_of_lt (run_deep he)
  have e2 : (doc.getD i (0, 0)).2 + 1 - dep doc i = 1 := by unfold dep; omega
  rw [e2] at z
  exact z
theorem piece_len {doc : Doc} {i : Nat} (hi : i < doc.length) : (pieceOf doc i).length ≤ doc.length := by
  show (less (dep doc i) (deepOf doc i)).length + 1 ≤ _
  unfold less deepOf
  rw [List.length_map, List.length_take, List.length_drop]
  omega

/-! ### the rows of children, by their parent -/
def keyL : Nat → Leaf
  | 0 => .none
  | j + 1 => .num (j : Nat)
def keyO : Nat → Option Nat
  | 0 => none
  | j + 1 => some j
def idx : Option Nat → Nat
  | none => 0
  | some j => j + 1
theorem keyO_idx : ∀ o, keyO (idx o) = o
  | none => rfl
  | some _ => rfl
theorem idx_keyO : ∀ j, idx (keyO j) = j
  | 0 => rfl
  | _ + 1 => rfl
theorem lfV_key : ∀ o, lfV (keyL (idx o)) = vO o
  | none => rfl
  | some _ => rfl
theorem keyL_inj : ∀ {a b : Nat}, keyL a = keyL b → a = b
  | 0, 0, _ => rfl
  | 0, b + 1, h => by cases h
  | a + 1, 0, h => by cases h
  | a + 1, b + 1, h => by
    injection h with h
    have : a = b := by omega
    rw [this]
def rowsK : Nat → List Addr → List (Leaf × V)
  | _, [] => []
  | j, a :: r => (keyL j, .ref a) :: rowsK (j + 1) r
theorem rowsK_len : ∀ {j : Nat} {as : List Addr}, (rowsK j as).length = as.length
  | _, [] => rfl
  | _, _ :: r => congrArg (· + 1) (rowsK_len (as := r))
theorem rowsK_snoc : ∀ {j : Nat} {as : List Addr} {a : Addr}, rowsK j (as ++ [a]) = rowsK j as ++ [(keyL (j + as.length), .ref a)]
  | j, [], a => rfl
  | j, b :: r, a => by
    have e : j + (b :: r).length = j + 1 + r.length := by rw [List.length_cons]; omega
    rw [e]
    show (keyL j, V.ref b) :: rowsK (j + 1) (r ++ [a]) = _
    rw [rowsK_snoc]
    rfl
theorem rowsK_val : ∀ {j i : Nat} {as : List Addr} {a : Addr}, as[i]? = some a → valV (rowsK j as) (keyL (j + i)) = some (.ref a)
  | j, 0, b :: r, a, h => by
    have : b = a := by simpa using h
    subst this
    exact valV_pos rfl
  | j, i + 1, b :: r, a, h => by
    have e : j + (i + 1) = j + 1 + i := by omega
    show valV ((keyL j, V.ref b) :: rowsK (j + 1) r) _ = _
    rw [valV_neg (show ¬ keyL j = keyL (j + (i + 1)) from fun z => by have := keyL_inj z; omega), e]
    exact rowsK_val (by simpa using h)
theorem rowsK_none : ∀ {j m : Nat} {as : List Addr}, (∀ i, i < as.length → j + i ≠ m) → valV (rowsK j as) (keyL m) = none
  | j, m, [], _ => rfl
  | j, m, b :: r, h => by
    show valV ((keyL j, V.ref b) :: rowsK (j + 1) r) _ = _
    rw [valV_neg (show ¬ keyL j = keyL m from fun z => h 0 (Nat.zero_lt_succ _) (keyL_inj z))]
    refine rowsK_none fun i hi => ?_
    have := h (i + 1) (Nat.succ_lt_succ hi)
    omega
theorem rowsK_get : ∀ {j i : Nat} {as : List Addr} {k : Leaf} {x : V}, (rowsK j as)[i]? = some (k, x) → ∃ a, as[i]? = some a ∧ x = .ref a
  | j, i, [], k, x, h => by simp [rowsK] at h
  | j, 0, b :: r, k, x, h => by
    have : (keyL j, V.ref b) = (k, x) := by simpa [rowsK] using h
    injection this with _ e
    exact ⟨b, rfl, e.symm⟩
  | j, i + 1, b :: r, k, x, h => by
    obtain ⟨a, e1, e2⟩ := rowsK_get (j := j + 1) (i := i) (as := r) (by simpa [rowsK] using h)
    exact ⟨a, by simpa using e1, e2⟩
/-- the rows stand at as, the top's first -/
def RowsAt (doc : Doc) (t : Nat) (as : List Addr) (H : Hp) : Prop := ∀ j a, as[j]? = some a → H a = some (.lst (nV (rowA doc t (keyO j))))
def spRows (P : Program) (w : World) : Sp := fun vs H Q _ => ∃ (p : Addr) (doc : Doc), vs = [.ref p] ∧ DocAt H p doc ∧ okFrom 0 doc ∧ doc.length ≤ 20000 ∧
  ∀ (H' : Hp) (d : Addr) (ep : Nat) (as : List Addr), Same H H' → H d = none → as.length = doc.length + 1 → H' d = some (DN P w d ep (rowsK 0 as)) → RowsAt doc doc.length as H' → Q (.ref d) H'
section
variable {P : Program} {w : World} {K : PySem.W.Frag} {mg : Str → Option Value} {base : Heap}
theorem ok_rows (T : Bl mg) (Dp : Dn K mg "parents_in" sParents pDocu) (D : Dn K mg "rows_in" sRows pDocu) : FnOk P w K mg base CX0 2 D.f D.fd pDocu (spRows P w) := by
  have GP : FnOk P w K mg base CX0 1 Dp.f Dp.fd pDocu spParents := ok_parents T Dp
  have sc : FnScope ["document", "rows", "node", "parent"] pDocu (defScope sRows) := ⟨rfl, rfl, rfl, by decide +kernel, rfl, by decide +kernel, by decide +kernel⟩
  refine D.F.ok sc (fun vs H Q E h => ?_) (fun cdv A outer s H vs Q E hr h => ?_)
  · obtain ⟨p, doc, rfl, _⟩ := h
    rfl
  · obtain ⟨p, doc, rfl, hd, ok, hl, k⟩ := h
    refine ⟨_, pss_cons (ps_set (i := 1) sc.nd rfl (.inl rfl) (pe_dispN P w (pps_cons pe_non (pe_lst pa_nil) pps_nil) rfl rfl (fun z => nomatch z) (by decide)))
      (pss_cons (ps_for PassesOwn.never rfl (pi_enum (by rfl) T.enumerate (pa_cons (de_call Dp GP hr (pa_cons (pv 0) pa_nil)) pa_nil)) (pg_tup rfl (pgs_cons (pg_name (i := 2) sc.nd rfl (.inl rfl)) (pgs_cons (pg_name (i := 3) sc.nd rfl (.inl rfl)) pgs_nil)))
        (pss_cons (ps_dputN P w (pv 1) (pv 2) (pe_lst pa_nil) rfl)
        (pss_one (ps_expr (pe_bm PySem.F.plainAttrs_list PySem.F.slot_list_append PySem.F.type_list_append mt_append (pe_dgetN P w (pv 1) (pv 3) (fun _ _ => rfl)) (pa_cons (pv 2) pa_nil))))))
      (pss_one (ps_ret (pv 1)))), ?_⟩
    refine fun d ep hd0 => ⟨Nat.zero_le _, fun a0 ha0 => ?_⟩
    have d0 : d ≠ a0 := fun z => by subst z; rw [upd_same] at ha0; cases ha0
    have ha00 : H a0 = none := by rw [upd_ne d0.symm] at ha0; exact ha0
    refine ⟨by rw [upd_ne d0, upd_same], [(.none, .ref a0)], rfl, by show 1 ≤ 15; decide, fun ep' => ?_⟩
    have i0 : mergeN [] [(Leaf.none, V.ref a0)] = rowsK 0 [a0] := rfl
    rw [i0]
    have s0 : Same H (upd (upd (upd H d (DN P w d ep [])) a0 (.lst [])) d (DN P w d ep' (rowsK 0 [a0]))) := fun b o e => by
      rw [upd_ne (ne_of_none e hd0), upd_ne (ne_of_none e ha00), upd_ne (ne_of_none e hd0)]
      exact e
    refine ⟨_, rfl, p, doc, rfl, hd.same s0, hl, fun H1 f s1 hf e1 => ?_⟩
    rw [parsOf_eq ok] at e1
    have z1 := s1 _ _ (show (upd (upd (upd H d (DN P w d ep [])) a0 (.lst [])) d (DN P w d ep' (rowsK 0 [a0]))) d = some _ from upd_same)
    have z2 := s1 _ _ (show (upd (upd (upd H d (DN P w d ep [])) a0 (.lst [])) d (DN P w d ep' (rowsK 0 [a0]))) a0 = some (.lst []) by rw [upd_ne d0.symm, upd_same])
    have s01 : Same H H1 := s0.trans s1
    have fd : f ≠ d := fun z => by subst z; rw [upd_same] at hf; cases hf
    have fH : H f = none := s0.free hf
    refine ⟨f, _, rfl, SqL.of e1, for_it (walk_enum (K := K) (a := f) (xs := ((List.range doc.length).map (lawPar doc)).map vO)) (fun i σ H' => ∃ (ep : Nat) (as : List Addr) (b c : Option V),
      σ = [some (.ref p), some (.ref d), b, c] ∧ Same H H' ∧ H' f = some (.lst (((List.range doc.length).map (lawPar doc)).map vO)) ∧ H' d = some (DN P w d ep (rowsK 0 as)) ∧ as.length = i + 1 ∧ as.Nodup ∧ (∀ a ∈ as, H a = none) ∧ RowsAt doc i as H' ∧ i ≤ doc.length) ?_ ?_ ?_ ?_⟩
    · refine ⟨ep', [a0], none, none, rfl, s01, e1, z1, rfl, by simp, fun a ha => by rw [List.mem_singleton.mp ha]; exact ha00, fun j a h => ?_, Nat.zero_le _⟩
      have j0 : j = 0 := by
        have := (List.getElem?_eq_some_iff.mp h).1
        simp at this
        exact this
      subst j0
      have : a0 = a := by simpa using h
      subst this
      exact z2
    · rintro i σ H' hi ⟨_, _, _, _, _, _, e, _⟩
      exact SqL.of e
    · rintro i x σ H2 H3 hi ⟨ep2, as, b, c, rfl, s2, e2, ed, al, nd, fr, rows, il⟩ ⟨t, y1, y2, rfl, ht, rfl, g1, g2⟩
      have lt : i < doc.length := by
        rw [List.length_map, List.length_map, List.length_range] at hi
        exact hi
      cases g1
      have y2e : y2 = vO (lawPar doc i) := by
        have g2' : (((List.range doc.length).map (lawPar doc)).map vO)[i]? = some y2 := g2
        rw [List.getElem?_map, List.getElem?_map, List.getElem?_range lt] at g2'
        exact (Option.some.inj g2').symm
      subst y2e
      refine ⟨t, _, rfl, SqT.of upd_same, rfl, _, _, rfl, _, _, rfl, rfl, ?_⟩
      refine ⟨Nat.zero_le _, fun a ha => ?_⟩
      have ta : t ≠ a := fun z => by subst z; rw [upd_same] at ha; cases ha
      have ha2 : H2 a = none := by rw [upd_ne ta.symm] at ha; exact ha
      have dt : d ≠ t := ne_of_none ed ht
      have da : d ≠ a := ne_of_none ed ha2
      refine ⟨_, rfl, _, rfl, d, ep2, rowsK 0 as, keyL (i + 1), rfl, by rw [upd_ne da, upd_ne dt]; exact ed, rfl, ?_, fun ep3 => ?_⟩
      · rw [rowsK_len, al]
        exact Nat.lt_of_lt_of_le (show i + 1 < 20002 by omega) (by decide)
      have pk : putK (rowsK 0 as) (keyL (i + 1)) (.ref a) = rowsK 0 (as ++ [a]) := by
        rw [putK_new _ (rowsK_none fun j hj => by omega), rowsK_snoc, al, Nat.zero_add]
      rw [pk]
      have as_ne : ∀ b ∈ as, b ≠ t ∧ b ≠ a ∧ b ≠ d := fun b hb => by
        obtain ⟨j, hj, e⟩ := List.getElem_of_mem hb
        have r := rows j b (by rw [List.getElem?_eq_getElem hj, e])
        exact ⟨ne_of_none r ht, ne_of_none r ha2, ne_of r ed (fun z => nomatch z)⟩
      generalize hH4 : upd (upd (upd H2 t (.tup [.int (i : Nat), vO (lawPar doc i)])) a (.lst [])) d (DN P w d ep3 (rowsK 0 (as ++ [a]))) = H4
      have k4 : ∀ b o, b ≠ d → H2 b = some o → H4 b = some o := fun b o nb e => by
        rw [← hH4, upd_ne nb, upd_ne (ne_of_none e ha2), upd_ne (ne_of_none e ht)]
        exact e
      have ed4 : H4 d = some (DN P w d ep3 (rowsK 0 (as ++ [a]))) := by rw [← hH4]; exact upd_same
      have ea4 : H4 a = some (.lst []) := by rw [← hH4, upd_ne da.symm]; exact upd_same
      -- the parent's row
      obtain ⟨pa, hpa⟩ : ∃ pa, (as ++ [a])[idx (lawPar doc i)]? = some pa := by
        refine ⟨_, List.getElem?_eq_getElem (?_ : idx (lawPar doc i) < _)⟩
        rw [List.length_append, al]
        cases e : lawPar doc i with
        | none => exact Nat.zero_lt_succ _
        | some h =>
          have := par_lt e
          show h + 1 < i + 1 + 1
          omega
      have ix : idx (lawPar doc i) ≤ i := by
        cases e : lawPar doc i with
        | none => exact Nat.zero_le _
        | some h =>
          have := par_lt e
          exact this
      have hpa' : as[idx (lawPar doc i)]? = some pa := by
        rw [List.getElem?_append_left (by omega)] at hpa
        exact hpa
      have mpa : pa ∈ as := List.mem_of_getElem? hpa'
      have rpa := rows _ _ hpa'
      rw [keyO_idx] at rpa
      have rpa4 := k4 _ _ (as_ne pa mpa).2.2 rpa
      have vv : valV (rowsK 0 (as ++ [a])) (keyL (idx (lawPar doc i))) = some (.ref pa) := by
        have := rowsK_val (j := 0) hpa
        rwa [Nat.zero_add] at this
      refine ⟨_, rfl, _, rfl, d, ep3, _, keyL (idx (lawPar doc i)), .ref pa, rfl, ed4, (lfV_key _).symm, vv, .inl ⟨rfl, _, SqL.of rpa4⟩, _, rfl, pa, _, _, rfl, rfl, rpa4, ?_, ?_⟩
      · have := rowA_len doc i (lawPar doc i)
        unfold nV
        rw [List.length_map]
        exact Nat.lt_of_le_of_lt this (Nat.lt_of_lt_of_le (show i < 20002 by omega) (by decide))
      have pf : pa ≠ f := fun z => by
        subst z
        rw [rpa] at e2
        have z := fr _ mpa
        have e0 : ((rowA doc i (lawPar doc i)).map fun n => V.int (n : Nat)) = ((List.range doc.length).map (lawPar doc)).map vO := by
          injection e2 with e2
          injection e2 with e2
        have l1 := congrArg List.length e0
        rw [List.length_map, List.length_map, List.length_map, List.length_range] at l1
        have := rowA_len doc i (lawPar doc i)
        omega
      have pd : pa ≠ d := (as_ne pa mpa).2.2
      refine ⟨ep3, as ++ [a], _, _, rfl, fun b o e => ?_, ?_, ?_, by rw [List.length_append, al]; rfl, ?_, ?_, ?_, lt⟩
      · rw [upd_ne (ne_of_none e (fr _ mpa))]
        exact k4 _ _ (ne_of_none e hd0) (s2 _ _ e)
      · rw [upd_ne pf.symm]
        exact k4 _ _ fd e2
      · rw [upd_ne pd.symm]
        exact ed4
      · exact List.nodup_append.mpr ⟨nd, by simp, fun b hb c hc => by
          rw [List.mem_singleton.mp hc]
          exact (as_ne b hb).2.1⟩
      · intro b hb
        rcases List.mem_append.mp hb with hb | hb
        · exact fr b hb
        · rw [List.mem_singleton.mp hb]
          exact s2.free ha2
      · intro j b hj
        by_cases c : j < as.length
        · rw [List.getElem?_append_left c] at hj
          have rj := rows j b hj
          by_cases e : j = idx (lawPar doc i)
          · subst e
            have : pa = b := by rw [hpa'] at hj; exact Option.some.inj hj
            subst this
            rw [upd_same, keyO_idx, rowA_succ, if_pos rfl]
            unfold nV
            rw [List.map_append]
            rfl
          · have nb : b ≠ pa := fun z => by
              subst z
              have c2 : idx (lawPar doc i) < as.length := (List.getElem?_eq_some_iff.mp hpa').1
              have q1 := (List.getElem?_eq_some_iff.mp hj).2
              have q2 := (List.getElem?_eq_some_iff.mp hpa').2
              exact e ((List.getElem_inj nd).mp (q1.trans q2.symm))
            have ne : ¬ lawPar doc i = keyO j := fun z => e (by rw [z, idx_keyO])
            rw [upd_ne nb, rowA_succ, if_neg ne, List.append_nil]
            exact k4 _ _ (as_ne b (List.mem_of_getElem? hj)).2.2 rj
        · have jl : j = as.length := by
            have := (List.getElem?_eq_some_iff.mp hj).1
            rw [List.length_append] at this
            simp at this
            omega
          subst jl
          rw [List.getElem?_append_right (Nat.le_refl _), Nat.sub_self] at hj
          have : a = b := by simpa using hj
          subst this
          rw [upd_ne (as_ne pa mpa).2.1.symm, al]
          show _ = some (HO.lst (nV (rowA doc (i + 1) (some i))))
          have ne : ¬ lawPar doc i = some i := fun z => by have := par_lt z; omega
          rw [rowA_succ, if_neg ne, rowA_new]
          exact ea4
    · rintro σ H2 ⟨ep2, as, b, c, rfl, s2, e2, ed, al, nd, fr, rows, il⟩
      rw [List.length_map, List.length_map, List.length_range] at al rows
      exact ⟨_, rfl, k H2 d ep2 as s2 hd0 al ed rows⟩
end

/-! ### write_document, read_document -/
def fl (ys : List Str) : List Nat := (ys.map TL.tl).flatten
theorem joinL_nil : ∀ ts : List (List Nat), TL.joinL [] ts = ts.flatten
  | [] => rfl
  | [p] => by simp [TL.joinL]
  | p :: q :: r => by
    show p ++ ([] ++ TL.joinL [] (q :: r)) = _
    rw [joinL_nil (q :: r)]
    rfl
theorem join_tl (a : Str) (ys : List Str) : Txt.join a ys = sT (TL.joinL (TL.tl a) (ys.map TL.tl)) := by
  have h : Txt.join a ys = Str.join a ys := by
    show Txt.join a ys = _
    exact StrLaws.glued_eq_join a ys
  rw [h]
  apply TL.ext_tl
  rw [TL.tl_join]
  rfl
theorem sum_fl : ∀ ys : List Str, (ys.map (·.length)).sum = (fl ys).length
  | [] => rfl
  | y :: r => by
    have ih := sum_fl r
    show y.length + (r.map (·.length)).sum = (TL.tl y ++ fl r).length
    rw [List.length_append, ih, TL.len_tl]
theorem fl_snoc (ys : List Str) (y : Str) : fl (ys ++ [y]) = fl ys ++ TL.tl y := by
  unfold fl
  rw [List.map_append, List.flatten_append]
  show _ ++ (TL.tl y ++ []) = _
  rw [List.append_nil]
theorem textOf_len {doc : Doc} (ok : okFrom 0 doc) : (textOf doc).length ≤ 3 * doc.length := by
  match doc, ok with
  | [], _ => exact Nat.zero_le _
  | (c, d) :: r, ok =>
    have d0 : d = 0 := Nat.le_zero.mp ok.2.2.1
    subst d0
    have := wrB_len (b := 0) ok.2.2.2
    show (wrB 0 0 r).length + 1 ≤ 3 * (r.length + 1)
    omega
def spWrite : Sp := fun vs H Q _ => ∃ (p : Addr) (doc : Doc), vs = [.ref p] ∧ DocAt H p doc ∧ okFrom 0 doc ∧ doc.length ≤ 20000 ∧ ∀ H', Same H H' → Q (.str (sT (textOf doc))) H'
def spReadV : Sp := fun vs H Q _ => ∃ (doc : Doc), vs = [.str (sT (textOf doc))] ∧ okFrom 0 doc ∧ doc.length ≤ 20000 ∧
  ∀ (H' : Hp) (q : Addr), Same H H' → H q = none → DocAt H' q doc → Q (.ref q) H'
abbrev pText : List Str := ["text"]
section
variable {P : Program} {w : World} {K : PySem.W.Frag} {mg : Str → Option Value} {base : Heap}
theorem ok_write (S : Docs K mg) (D : Dn K mg "write_document" sWrite pDocu) : FnOk P w K mg base CX0 6 D.f D.fd pDocu spWrite := by
  have T := S.T
  have GC : FnOk P w K mg base CX0 5 S.chk.f S.chk.fd pThing spChkDocV := S.ok
  have sc : FnScope ["document", "parts", "ahead", "node", "mark", "depth"] pDocu (defScope sWrite) := ⟨rfl, rfl, rfl, by decide +kernel, rfl, by decide +kernel, by decide +kernel⟩
  refine D.F.ok sc (fun vs H Q E h => ?_) (fun cdv A outer s H vs Q E hr h => ?_)
  · obtain ⟨p, doc, rfl, _⟩ := h
    rfl
  · obtain ⟨p, doc, rfl, hd, ok, hl, k⟩ := h
    refine ⟨_, pss_cons (ps_expr (de_call S.chk GC hr (pa_cons (pv 0) pa_nil)))
      (pss_cons (ps_set (i := 1) sc.nd rfl (.inl rfl) (pe_lst pa_nil))
      (pss_cons (ps_set (i := 2) sc.nd rfl (.inl rfl) pe_int)
      (pss_cons (ps_for PassesOwn.never rfl (pi_enumT (by rfl) T.enumerate (pa_cons (pv 0) pa_nil)) (pg_tup rfl (pgs_cons (pg_name (i := 3) sc.nd rfl (.inl rfl)) (pgs_cons (pg_tup rfl (pgs_cons (pg_name (i := 4) sc.nd rfl (.inl rfl)) (pgs_cons (pg_name (i := 5) sc.nd rfl (.inl rfl)) pgs_nil))) pgs_nil)))
        (C8.pss_cut (ps_if (pt_cmpR op_gt (pv 5) (pv 2) (nomark _)) (pss_one (ps_expr (pe_bm PySem.F.plainAttrs_list PySem.F.slot_list_append PySem.F.type_list_append mt_append (pv 1) (pa_cons pe_str pa_nil))))
            (pss_one (ps_if (pt_cmpR op_gt (pv 3) pe_int (nomark _)) (pss_one (ps_expr (pe_bm PySem.F.plainAttrs_list PySem.F.slot_list_append PySem.F.type_list_append mt_append (pv 1) (pa_cons (pe_op op_add_str (pe_op op_repS pe_str (pe_op op_sub (pv 2) (pv 5))) pe_str) pa_nil)))) pss_nil)))
        (pss_cons (ps_expr (pe_bm PySem.F.plainAttrs_list PySem.F.slot_list_append PySem.F.type_list_append mt_append (pv 1) (pa_cons (pv 4) pa_nil)))
        (pss_one (ps_set (i := 2) sc.nd rfl (.inl rfl) (pv 5))))))
      (pss_cons (ps_expr (pe_bm PySem.F.plainAttrs_list PySem.F.slot_list_append PySem.F.type_list_append mt_append (pv 1) (pa_cons (pe_op op_repS pe_str (pv 2)) pa_nil)))
      (pss_one (ps_ret (pe_join pe_str (pv 1)))))))), ?_⟩
    refine ⟨_, rfl, p, doc, rfl, hd, ok, hl, ?_⟩
    obtain ⟨ws, ews, qws⟩ := id hd
    have len := Paired.length qws
    refine ⟨Nat.zero_le _, fun f hf => ?_⟩
    have s0 : Same H (upd H f (.lst [])) := Same.new hf
    have line : 100000 ≤ sizeLine := by decide
    refine ⟨_, rfl, p, ws, rfl, SqT.of (s0 _ _ ews), for_enumT (K := K) (a := p) (xs := ws) (fun i σ H' => ∃ (ys : List Str) (h : Nat) (a b c : Option V),
      σ = [some (.ref p), some (.ref f), some (.int (h : Nat)), a, b, c] ∧ Same H H' ∧ H' f = some (.lst (ys.map V.str)) ∧ ys.length ≤ 2 * i ∧ h ≤ i ∧ i ≤ doc.length ∧
      (i = 0 → ys = [] ∧ h = 0) ∧ (0 < i → fl ys ++ wrB 0 h (doc.drop i) = textOf doc)) ?_ ?_ ?_ ?_⟩
    · exact ⟨[], 0, none, none, none, rfl, s0, upd_same, Nat.zero_le _, Nat.le_refl _, Nat.zero_le _, fun _ => ⟨rfl, rfl⟩, fun z => absurd z (Nat.lt_irrefl _)⟩
    · rintro i σ H1 ⟨ys, h, a, b, c, rfl, s1, _⟩
      exact SqT.of (s1 _ _ ews)
    · rintro i x t σ H1 hx ⟨ys, h, a, b, c, rfl, s1, hf1, yl, hi, il, i0, eq⟩ ht
      have lt : i < doc.length := by
        rw [← len]
        exact (List.getElem?_eq_some_iff.mp hx).1
      obtain ⟨vs, r, ch, e1, e2, e3, e4, e5⟩ := hd.ent lt
      have vw : vs = ws := by rw [ews] at e1; cases e1; rfl
      subst vw
      rw [hx] at e2
      cases e2
      have st : Same H1 (upd H1 t (.tup [.int (i : Nat), .ref r])) := Same.new ht
      have hf2 := st _ _ hf1
      have sH2 := s1.trans st
      generalize hH2 : upd H1 t (.tup [.int (i : Nat), .ref r]) = H2 at st hf2 sH2
      have ht2 : H2 t = some (.tup [.int (i : Nat), .ref r]) := by rw [← hH2]; exact upd_same
      refine ⟨t, _, rfl, SqT.of ht2, rfl, _, _, rfl, _, _, rfl, ⟨r, _, rfl, SqT.of (sH2 _ _ e3), rfl, _, _, rfl, _, _, rfl, rfl, rfl, ?_⟩⟩
      have dr : doc.drop i = (ch, dep doc i) :: doc.drop (i + 1) := by
        rw [drop_dep lt, e5]
        congr 2
        rw [List.getD_eq_getElem?_getD, List.getElem?_eq_getElem lt]
        rfl
      have dl := dep_lt ok lt
      -- what follows the if
      refine ⟨fun σ' H' => ∃ zs : List Str, σ' = [some (.ref p), some (.ref f), some (.int (h : Nat)), some (.int (i : Nat)), some (.str ⟨#[ch]⟩), some (.int (dep doc i : Nat))] ∧ Same H H' ∧ H' f = some (.lst (zs.map V.str)) ∧
        zs.length ≤ 2 * i + 1 ∧ fl zs ++ ch :: wrB 0 (dep doc i) (doc.drop (i + 1)) = textOf doc, ?_, ?_⟩
      · have wk : ∀ (zs : List Str), Same H (upd H2 f (.lst (zs.map V.str))) := fun zs b o e => by
          rw [upd_ne (ne_of_none e hf)]
          exact sH2 b o e
        refine ⟨_, rfl, _, rfl, _, _, rfl, rfl, _, rfl, ite2 (fun c1 => ?_) (fun c1 => ?_)⟩
        · have c1' : h < dep doc i := by
            have := of_decide_eq_true c1
            omega
          have ip : 0 < i := by omega
          refine ⟨_, rfl, .inl ⟨rfl, _, SqL.of hf2⟩, f, _, _, rfl, rfl, hf2, by rw [List.length_map]; omega, ys ++ [sT [40]], rfl, ?_, ?_, by rw [List.length_append]; show ys.length + 1 ≤ _; omega, ?_⟩
          · have := wk (ys ++ [sT [40]])
            rw [List.map_append] at this
            exact this
          · rw [upd_same, List.map_append]
            rfl
          · have := eq ip
            rw [dr] at this
            rw [fl_snoc, ← this]
            show _ = fl ys ++ ((if h < dep doc i then [40] else List.replicate (h - dep doc i) 41 ++ [32]) ++ ch :: wrB 0 (dep doc i) (doc.drop (i + 1)))
            rw [if_pos c1', List.append_assoc]
            rfl
        · have c1' : ¬ h < dep doc i := fun z => c1 (decide_eq_true (by omega))
          refine ⟨_, rfl, _, _, rfl, rfl, _, rfl, ite2 (fun c2 => ?_) (fun c2 => ?_)⟩
          · have ip : 0 < i := by
              have := of_decide_eq_true c2
              omega
            refine ⟨_, rfl, .inl ⟨rfl, _, SqL.of hf2⟩, _, rfl, _, rfl, _, _, rfl, rfl, 41, h - dep doc i, rfl, congrArg V.int (by omega), by omega, _, _, rfl, rfl, ?_, ?_⟩
            · show (sT (List.replicate (h - dep doc i) 41)).length + (sT [32]).length ≤ sizeLine
              rw [sT_len, sT_len, List.length_replicate]
              show _ + 1 ≤ _
              omega
            · refine ⟨f, _, _, rfl, rfl, hf2, by rw [List.length_map]; omega, ys ++ [sT (List.replicate (h - dep doc i) 41 ++ [32])], rfl, ?_, ?_, by rw [List.length_append]; show ys.length + 1 ≤ _; omega, ?_⟩
              · have := wk (ys ++ [sT (List.replicate (h - dep doc i) 41 ++ [32])])
                rw [List.map_append] at this
                rw [show (⟨(List.replicate (h - dep doc i) 41).toArray⟩ : Str) ++ (" " : Str) = sT (List.replicate (h - dep doc i) 41 ++ [32]) from sT_add _ [32]]
                exact this
              · rw [show (⟨(List.replicate (h - dep doc i) 41).toArray⟩ : Str) ++ (" " : Str) = sT (List.replicate (h - dep doc i) 41 ++ [32]) from sT_add _ [32], upd_same, List.map_append]
                rfl
              · have := eq ip
                rw [dr] at this
                rw [fl_snoc, ← this]
                show _ = fl ys ++ ((if h < dep doc i then [40] else List.replicate (h - dep doc i) 41 ++ [32]) ++ ch :: wrB 0 (dep doc i) (doc.drop (i + 1)))
                rw [if_neg c1', List.append_assoc]
                rfl
          · have iz : i = 0 := by
              cases i with
              | zero => rfl
              | succ n => exact absurd (decide_eq_true (by show ((n + 1 : Nat) : Int) > 0; omega)) c2
            subst iz
            obtain ⟨y0, h0⟩ := i0 rfl
            subst y0 h0
            refine ⟨[], rfl, sH2, hf2, Nat.zero_le _, ?_⟩
            have d0 : dep doc 0 = 0 := Nat.le_zero.mp dl
            rw [List.drop_zero] at dr
            rw [dr, d0]
            rfl
      · rintro σ' H' ⟨zs, rfl, s3, hf3, zl, eq3⟩
        refine ⟨_, rfl, .inl ⟨rfl, _, SqL.of hf3⟩, _, rfl, f, _, _, rfl, rfl, hf3, by rw [List.length_map]; omega, ?_⟩
        refine ⟨_, rfl, zs ++ [⟨#[ch]⟩], dep doc i, _, _, _, rfl, fun b o e => ?_, ?_, by rw [List.length_append]; show zs.length + 1 ≤ _; omega, by omega, lt, (fun z => nomatch z), fun _ => ?_⟩
        · rw [upd_ne (ne_of_none e hf)]
          exact s3 b o e
        · rw [upd_same, List.map_append]
          rfl
        · rw [fl_snoc, ← eq3, List.append_assoc]
          rfl
    · rintro σ H1 ⟨ys, h, a, b, c, rfl, s1, hf1, yl, hi, il, i0, eq⟩
      have yl' : ys.length ≤ 40000 := by omega
      refine ⟨_, rfl, .inl ⟨rfl, _, SqL.of hf1⟩, _, rfl, 41, h, rfl, rfl, by omega, f, _, _, rfl, rfl, hf1, by rw [List.length_map]; omega, ?_⟩
      have fin : fl (ys ++ [sT (List.replicate h 41)]) = textOf doc := by
        rw [fl_snoc]
        cases e : doc with
        | nil =>
          subst e
          have : ws.length = 0 := len
          obtain ⟨y0, h0⟩ := i0 this
          subst y0 h0
          rfl
        | cons x r =>
          have ip : 0 < ws.length := by rw [len, e]; exact Nat.zero_lt_succ _
          have z := eq ip
          rw [List.drop_of_length_le (by omega)] at z
          rw [← e, ← z]
          rfl
      have e1 : ys.map V.str ++ [V.str ⟨(List.replicate h 41).toArray⟩] = (ys ++ [sT (List.replicate h 41)]).map V.str := by
        rw [List.map_append]
        rfl
      rw [e1]
      have tl := textOf_len ok
      refine ⟨⟨_, rfl⟩, _, rfl, (sT []), f, ys ++ [sT (List.replicate h 41)], rfl, rfl, .inl (SqL.of upd_same), ?_, ?_⟩
      · rw [sum_fl, fin]
        show _ + _ * 0 ≤ _
        omega
      · rw [join_tl]
        show Q (.str (sT (TL.joinL [] ((ys ++ [sT (List.replicate h 41)]).map TL.tl)))) _
        rw [joinL_nil]
        show Q (.str (sT (fl (ys ++ [sT (List.replicate h 41)])))) _
        rw [fin]
        refine k _ fun b o e => ?_
        rw [upd_ne (ne_of_none e hf)]
        exact s1 b o e
end

/-! ### read_document of a document's text -/
def restA : Doc → List Nat
  | [] => []
  | (c, d) :: r => c :: wrB 0 d r
/-- a mark is awaited -/
def StA (T : List Nat) (i : Nat) (r : Doc) (dp : Nat) : Prop := T.drop i = restA r ∧ okFrom dp r ∧ (∀ e r', r = e :: r' → e.2 = dp) ∧ (r = [] → dp = 0 ∧ T = [])
/-- none is -/
def StB (T : List Nat) (i : Nat) (r : Doc) (dp : Nat) : Prop := T.drop i = wrB 0 dp r ∧ (okFrom dp r ∨ (okFrom (dp + 1) r ∧ 0 < i ∧ ∃ c, T[i - 1]? = some c ∧ 97 ≤ c))
theorem drop_at {T : List Nat} {i c : Nat} {l : List Nat} (h : T[i]? = some c) (e : T.drop i = l) : ∃ m, l = c :: m ∧ T.drop (i + 1) = m := by
  obtain ⟨lt, rfl⟩ := List.getElem?_eq_some_iff.mp h
  rw [List.drop_eq_getElem_cons lt] at e
  exact ⟨_, e.symm, rfl⟩
theorem stepA {T : List Nat} {i : Nat} {r : Doc} {dp c : Nat} (h : StA T i r dp) (hc : T[i]? = some c) : ∃ r', r = (c, dp) :: r' ∧ 97 ≤ c ∧ c ≤ 104 ∧ StB T (i + 1) r' dp := by
  obtain ⟨h1, h2, h3, h4⟩ := h
  obtain ⟨m, e1, e2⟩ := drop_at hc h1
  match r, h1, h2, h3, h4, e1 with
  | [], _, _, _, _, e1 => cases e1
  | (x, d) :: r', h1, h2, h3, h4, e1 =>
    have hd : d = dp := h3 _ _ rfl
    subst hd
    injection e1 with e3 e4
    subst e3
    exact ⟨r', rfl, h2.1, h2.2.1, by rw [e2, e4], .inr ⟨h2.2.2.2, Nat.zero_lt_succ _, x, hc, h2.1⟩⟩
theorem stepB {T : List Nat} {i : Nat} {r : Doc} {dp c : Nat} (h : StB T i r dp) (hc : T[i]? = some c) :
    (c = 41 ∧ 0 < dp ∧ StB T (i + 1) r (dp - 1)) ∨ (c = 40 ∧ (0 < i ∧ ∃ x, T[i - 1]? = some x ∧ 97 ≤ x) ∧ StA T (i + 1) r (dp + 1)) ∨ (c = 32 ∧ StA T (i + 1) r dp) := by
  obtain ⟨h1, h2⟩ := h
  obtain ⟨m, e1, e2⟩ := drop_at hc h1
  match r, h1, h2, e1 with
  | [], h1, h2, e1 =>
    cases dp with
    | zero => cases e1
    | succ n =>
      have e3 : List.replicate (n + 1) 41 = c :: m := e1
      rw [List.replicate_succ] at e3
      injection e3 with e3 e4
      exact .inl ⟨e3.symm, Nat.zero_lt_succ _, by rw [e2, ← e4]; rfl, .inl trivial⟩
  | (x, e) :: r', h1, h2, e1 =>
    have e3 : (if dp < e then [40] else List.replicate (dp - e) 41 ++ [32]) ++ x :: wrB 0 e r' = c :: m := e1
    by_cases q : dp < e
    · rw [if_pos q] at e3
      injection e3 with e3 e4
      rcases h2 with h2 | ⟨h2, h5, y, h6, h7⟩
      · have := h2.2.2.1
        omega
      · have ee : e = dp + 1 := by
          have := h2.2.2.1
          omega
        refine .inr (.inl ⟨e3.symm, ⟨h5, y, h6, h7⟩, by rw [e2, ← e4]; rfl, h2, fun a b z => ?_, fun z => nomatch z⟩)
        injection z with z _
        rw [← z]
        exact ee
    · rw [if_neg q] at e3
      have okd : okFrom dp ((x, e) :: r') := by
        rcases h2 with h2 | ⟨h2, _⟩
        · exact h2
        · exact ⟨h2.1, h2.2.1, by show e ≤ dp; omega, h2.2.2.2⟩
      cases n : dp - e with
      | zero =>
        rw [n] at e3
        injection e3 with e3 e4
        refine .inr (.inr ⟨e3.symm, by rw [e2, ← e4]; rfl, okd, fun a b z => ?_, fun z => nomatch z⟩)
        injection z with z _
        rw [← z]
        show e = dp
        omega
      | succ k =>
        rw [n, List.replicate_succ] at e3
        injection e3 with e3 e4
        refine .inl ⟨e3.symm, by omega, ?_, .inl ⟨okd.1, okd.2.1, by show e ≤ dp - 1; omega, okd.2.2.2⟩⟩
        rw [e2, ← e4]
        show _ = (if dp - 1 < e then [40] else List.replicate (dp - 1 - e) 41 ++ [32]) ++ x :: wrB 0 e r'
        have e5 : dp - 1 - e = k := by omega
        rw [if_neg (by omega), e5]
        rfl
theorem endA {T : List Nat} {r : Doc} {dp : Nat} (h : StA T T.length r dp) : r = [] ∧ dp = 0 ∧ T = [] := by
  obtain ⟨h1, _, _, h4⟩ := h
  rw [List.drop_length] at h1
  match r, h1, h4 with
  | [], _, h4 => exact ⟨rfl, h4 rfl⟩
  | (_, _) :: _, h1, _ => cases h1
theorem endB {T : List Nat} {r : Doc} {dp : Nat} (h : StB T T.length r dp) : r = [] ∧ dp = 0 := by
  obtain ⟨h1, _⟩ := h
  rw [List.drop_length] at h1
  match r, h1 with
  | [], h1 =>
    have := congrArg List.length h1
    have e : (List.replicate (dp - 0) 41).length = 0 := this.symm
    rw [List.length_replicate] at e
    exact ⟨rfl, e⟩
  | (c, e) :: r', h1 =>
    have := congrArg List.length h1
    have e2 : ((if dp < e then [40] else List.replicate (dp - e) 41 ++ [32]) ++ c :: wrB 0 e r').length = 0 := this.symm
    rw [List.length_append, List.length_cons] at e2
    omega
theorem startA {doc : Doc} (ok : okFrom 0 doc) : StA (textOf doc) 0 doc 0 := by
  match doc, ok with
  | [], _ => exact ⟨rfl, trivial, (fun _ _ z => nomatch z), fun _ => ⟨rfl, rfl⟩⟩
  | (c, d) :: r, ok =>
    have d0 : d = 0 := Nat.le_zero.mp ok.2.2.1
    subst d0
    refine ⟨rfl, ok, fun a b z => ?_, fun z => nomatch z⟩
    injection z with z _
    rw [← z]
def St2 (T : List Nat) (aw : Bool) (i : Nat) (r : Doc) (dp : Nat) : Prop := if aw = true then StA T i r dp else StB T i r dp
def blanks (c : Nat) : Bool := inV (.str ⟨#[c]⟩) [V.str "(", V.str " "]
def RdMid (H : Hp) (doc : Doc) (f : Addr) (i ch : Nat) (aw : Bool) (σ : L2.St) (H' : Hp) : Prop := ∃ (vs : List V) (pre r : Doc) (dp : Nat),
  σ = [some (.str (sT (textOf doc))), some (.ref f), some (.int (dp : Nat)), some (.bl aw), some (.int (i : Nat)), some (.str ⟨#[ch]⟩), none] ∧
  Same H H' ∧ H' f = some (.lst vs) ∧ EntsAt H' vs pre ∧ pre ++ r = doc ∧ St2 (textOf doc) (blanks ch) (i + 1) r dp
theorem blanks_mark {c : Nat} (h0 : 97 ≤ c) (h1 : c ≤ 104) : blanks c = false := by
  obtain ⟨k, rfl⟩ : ∃ k, c = 97 + k := ⟨c - 97, by omega⟩
  have hk : k < 8 := by omega
  match k, hk with
  | 0, _ => decide +kernel
  | 1, _ => decide +kernel
  | 2, _ => decide +kernel
  | 3, _ => decide +kernel
  | 4, _ => decide +kernel
  | 5, _ => decide +kernel
  | 6, _ => decide +kernel
  | 7, _ => decide +kernel
  | n + 8, h => exact absurd h (by omega)
theorem walk_enumS {z : Str} : Walk (ItS z) z.cps.size (fun _ => True) (fun i H v H' => ∃ T c, v = .ref T ∧ H T = none ∧ H' = upd H T (.tup [.int (i : Nat), .str ⟨#[c]⟩]) ∧ z.cps[i]? = some c) :=
  ⟨fun _ _ hi _ => hi, fun _ _ => Nat.le_refl _, fun _ _ _ _ _ _ y => y⟩
section
variable {P : Program} {w : World} {K : PySem.W.Frag} {mg : Str → Option Value} {base : Heap}
theorem ok_readV (T : Bl mg) (hm : MarksAt K mg) (hM : MostAt mg) (Dm : Dn K mg "is_mark" sMark pThing) (D : Dn K mg "read_document" sRead pText) : FnOk P w K mg base CX0 2 D.f D.fd pText spReadV := by
  have GM : FnOk P w K mg base CX0 1 Dm.f Dm.fd pThing (spMark K) := ok_mark T hm Dm
  obtain ⟨tM, gM⟩ := hM
  have sc : FnScope ["text", "entries", "depth", "awaited", "place", "sign", "cut_short"] pText (defScope sRead) := ⟨rfl, rfl, rfl, by decide +kernel, rfl, by decide +kernel, by decide +kernel⟩
  refine D.F.ok sc (fun vs H Q E h => ?_) (fun cdv A outer s H vs Q E hr h => ?_)
  · obtain ⟨doc, rfl, _⟩ := h
    rfl
  · obtain ⟨doc, rfl, ok, hl, k⟩ := h
    refine ⟨_, pss_cons (ps_if (pt_not (pt_val (pe_callB call_isi (by rfl) T.isinstance b_isinstance (pa_cons (pv 0) (pa_cons (pe_bltn (v := .ty "str") rfl T.str b_str rfl) pa_nil))))) pss_never pss_nil)
      (pss_cons (ps_set (i := 1) sc.nd rfl (.inl rfl) (pe_lst pa_nil)) (pss_cons (ps_set (i := 2) sc.nd rfl (.inl rfl) pe_int) (pss_cons (ps_set (i := 3) sc.nd rfl (.inl rfl) pe_bl)
      (pss_cons (ps_for PassesOwn.never rfl (pi_enumS (by rfl) T.enumerate (pa_cons (pv 0) pa_nil)) (pg_tup rfl (pgs_cons (pg_name (i := 4) sc.nd rfl (.inl rfl)) (pgs_cons (pg_name (i := 5) sc.nd rfl (.inl rfl)) pgs_nil)))
        (pss_cons (ps_if (pt_cmpR op_ne (pv 3) (de_call Dm GM hr (pa_cons (pv 5) pa_nil)) (nomark _)) pss_never pss_nil)
        (C8.pss_cut (ps_if (pt_val (pv 3)) (pss_one (ps_expr (pe_bm PySem.F.plainAttrs_list PySem.F.slot_list_append PySem.F.type_list_append mt_append (pv 1) (pa_cons (pe_tup (pa_cons (pv 5) (pa_cons (pv 2) pa_nil))) pa_nil))))
            (pss_one (ps_if (PW.pt (pw_and (pt_cmpR op_eq (pv 5) pe_str (nomark _)) (pw_and1 (pt_cmpR op_gt (pv 2) pe_int (nomark _)))))
              (pss_one (ps_aug (i := 2) sc.nd rfl (.inl rfl) pe_int ip_sub))
              (pss_one (ps_if (PW.pt (pw_and (pt_cmpR op_eq (pv 5) pe_str (nomark _)) (pw_and1 (pt_cmpR op_ne (pe_ix ix_str (pv 0) (pe_op op_sub (pv 4) pe_int) (fun _ _ => rfl)) pe_str (nomark _)))))
                (pss_one (ps_aug (i := 2) sc.nd rfl (.inl rfl) pe_int ip_add))
                (pss_one (ps_if (pt_cmpR op_ne (pv 5) pe_str (nomark _)) pss_never pss_nil)))))))
        (pss_one (ps_set (i := 3) sc.nd rfl (.inl rfl) (pe_cmpR op_in_seq (pv 5) (pe_tup (pa_cons pe_str (pa_cons pe_str pa_nil))) (by rfl)))))))
      (C8.pss_cut (ps_set (i := 6) sc.nd rfl (.inl rfl) (pe_or (pe_cmpR op_gt (pv 2) pe_int (nomark _)) (pe_one (pe_and (pv 3) (pe_one (pe_cmpR op_gt (pe_callB call_len_str (by rfl) T.len b_len (pa_cons (pv 0) pa_nil)) pe_int (nomark _)))))))
      (pss_cons (ps_if (PW.pt (pw_or (pt_val (pv 6)) (pw_or1 (pt_cmpR op_gt (pe_callB call_len_seq (by rfl) T.len b_len (pa_cons (pv 1) pa_nil)) (pe_glob (v := .int 20000) rfl gM ⟨tM, rfl⟩) (nomark _))))) pss_never pss_nil)
      (pss_one (ps_ret (pe_callTy call_tuple_of (by rfl) T.tuple b_tuple (pa_cons (pv 1) pa_nil)))))))))), ?_⟩
    have any : Any K H (.str (sT (textOf doc))) "str" := .str _
    have tl := textOf_len ok
    have line : 100000 ≤ sizeLine := by decide
    have zs : (sT (textOf doc)).cps.size = (textOf doc).length := rfl
    have zat : ∀ i : Nat, (sT (textOf doc)).cps[i]? = (textOf doc)[i]? := fun i => by
      show (textOf doc).toArray[i]? = _
      rw [List.getElem?_toArray]
    refine ⟨_, rfl, _, _, _, _, _, rfl, .ty "str", any.ty, any.kit.2.2.1, _, rfl, iteF ?_⟩
    refine ⟨Nat.zero_le _, fun f hf => ?_⟩
    have s0 : Same H (upd H f (.lst [])) := Same.new hf
    refine ⟨_, rfl, _, rfl, for_it (walk_enumS (z := sT (textOf doc))) (fun i σ H' => ∃ (vs : List V) (pre r : Doc) (dp : Nat) (aw : Bool) (a b : Option V),
      σ = [some (.str (sT (textOf doc))), some (.ref f), some (.int (dp : Nat)), some (.bl aw), a, b, none] ∧ Same H H' ∧ H' f = some (.lst vs) ∧ EntsAt H' vs pre ∧ pre ++ r = doc ∧ St2 (textOf doc) aw i r dp) ?_ ?_ ?_ ?_⟩
    · exact ⟨[], [], doc, 0, true, none, none, rfl, s0, upd_same, .nil, rfl, startA ok⟩
    · exact fun _ _ _ _ _ => trivial
    · rintro i x σ H1 H2 hi ⟨vs, pre, r, dp, aw, a, b, rfl, s1, hf1, ents, split, st⟩ ⟨t, ch, rfl, ht, rfl, hch⟩
      rw [zat] at hch
      have ln : pre.length + r.length = doc.length := by rw [← List.length_append, split]
      have vl := Paired.length ents
      have s2 : Same H1 (upd H1 t (.tup [.int (i : Nat), .str ⟨#[ch]⟩])) := Same.new ht
      have hf2 := s2 _ _ hf1
      have ents2 := ents.mono (Same.tups s2)
      have sH2 := s1.trans s2
      refine ⟨t, _, rfl, SqT.of upd_same, rfl, _, _, rfl, _, _, rfl, rfl, ?_⟩
      generalize upd H1 t (.tup [.int (i : Nat), .str ⟨#[ch]⟩]) = H2 at hf2 ents2 sH2
      refine ⟨_, rfl, _, rfl, .str ⟨#[ch]⟩, "str", rfl, .str _, ?_⟩
      have mv : ∀ t : Bool, markV (.str ⟨#[ch]⟩) = t → (!decide (V.bl aw = V.bl (markV (.str ⟨#[ch]⟩)))) = (aw != t) := fun t e => by
        rw [e]
        cases aw <;> cases t <;> rfl
      have g1 : (aw != markV (.str ⟨#[ch]⟩)) = false := by
        cases aw with
        | true =>
          obtain ⟨r', _, m0, m1, _⟩ := stepA (show StA _ _ _ _ from st) hch
          rw [mark_ok m0 m1]
          rfl
        | false =>
          rcases stepB (show StB _ _ _ _ from st) hch with ⟨rfl, _⟩ | ⟨rfl, _⟩ | ⟨rfl, _⟩ <;> decide +kernel
      refine ⟨rfl, _, rfl, ?_⟩
      rw [mv _ rfl, g1]
      refine iteF ⟨RdMid H doc f i ch aw, ?_, ?_⟩
      · cases aw with
        | true =>
          obtain ⟨r', rfl, m0, m1, stb⟩ := stepA (show StA _ _ _ _ from st) hch
          have lr : pre.length + (r'.length + 1) = doc.length := ln
          refine ⟨_, rfl, true, rfl, iteT ?_⟩
          refine ⟨_, rfl, .inl ⟨rfl, _, SqL.of hf2⟩, _, rfl, _, rfl, by show 2 ≤ sizeLine; decide, fun t2 ht2 => ?_⟩
          have tf : t2 ≠ f := fun z => by subst z; rw [hf2] at ht2; cases ht2
          refine ⟨f, vs, _, rfl, rfl, by rw [upd_ne tf.symm]; exact hf2, by omega, vs ++ [.ref t2], pre ++ [(ch, dp)], r', dp, rfl, fun b o e => ?_, upd_same, ?_, by rw [List.append_assoc]; exact split, ?_⟩
          · rw [upd_ne (ne_of_none e hf), upd_ne (ne_of_none (sH2 b o e) ht2)]
            exact sH2 b o e
          · have k1 : ∀ b xs, H2 b = some (.tup xs) → (upd (upd H2 t2 (.tup [.str ⟨#[ch]⟩, .int (dp : Nat)])) f (.lst (vs ++ [.ref t2]))) b = some (.tup xs) := fun b xs e =>
              upd_tups (by rw [upd_ne tf.symm]; exact hf2) b xs (new_tups ht2 b xs e)
            refine Paired.snoc (ents2.mono k1) ⟨t2, rfl, ?_⟩
            rw [upd_ne tf, upd_same]
          · rw [blanks_mark m0 m1]
            exact stb
        | false =>
          refine ⟨_, rfl, false, rfl, iteF ?_⟩
          rcases stepB (show StB _ _ _ _ from st) hch with ⟨rfl, dp0, stb⟩ | ⟨rfl, ⟨ip, y, hy, y97⟩, sta⟩ | ⟨rfl, sta⟩
          · refine ⟨_, rfl, rfl, _, rfl, ite2 (fun _ => ?_) (fun c => absurd (by decide +kernel) c)⟩
            refine ⟨_, rfl, _, _, rfl, rfl, _, rfl, ite2 (fun _ => ?_) (fun c => absurd (decide_eq_true (by omega)) c)⟩
            refine ⟨_, rfl, _, _, rfl, rfl, vs, pre, r, dp - 1, ?_, sH2, hf2, ents2, split, stb⟩
            have e : ((dp : Nat) : Int) - 1 = ((dp - 1 : Nat) : Int) := by omega
            rw [← e]
            rfl
          · refine ⟨_, rfl, rfl, _, rfl, ite2 (fun c => absurd c (by decide +kernel)) (fun _ => ?_)⟩
            refine ite2 (fun c => absurd c (by decide +kernel)) (fun _ => ?_)
            refine ⟨_, rfl, rfl, _, rfl, ite2 (fun _ => ?_) (fun c => absurd (by decide +kernel) c)⟩
            have e : ((i : Nat) : Int) - 1 = ((i - 1 : Nat) : Int) := by omega
            refine ⟨_, rfl, _, rfl, _, _, rfl, rfl, sT (textOf doc), _, y, rfl, rfl, by rw [sT_len]; omega, by rw [e]; exact atI_nat hy, rfl, _, rfl, ?_⟩
            have ne : (V.str ⟨#[y]⟩ = V.str ")") ↔ False := by
              refine ⟨fun z => ?_, False.elim⟩
              injection z with z
              have z2 : (⟨#[y]⟩ : Str) = ⟨#[41]⟩ := z
              injection z2 with z3
              have z4 : [y] = [41] := congrArg Array.toList z3
              injection z4 with z5
              omega
            rw [decide_eq_false (fun z => ne.mp z)]
            refine iteT ⟨_, rfl, _, _, rfl, rfl, vs, pre, r, dp + 1, ?_, sH2, hf2, ents2, split, sta⟩
            rfl
          · refine ⟨_, rfl, rfl, _, rfl, ite2 (fun c => absurd c (by decide +kernel)) (fun _ => ?_)⟩
            refine ite2 (fun c => absurd c (by decide +kernel)) (fun _ => ?_)
            refine ⟨_, rfl, rfl, _, rfl, ite2 (fun c => absurd c (by decide +kernel)) (fun _ => ?_)⟩
            refine ite2 (fun c => absurd c (by decide +kernel)) (fun _ => ?_)
            refine ⟨_, rfl, rfl, _, rfl, ite2 (fun c => absurd c (by decide +kernel)) (fun _ => ?_)⟩
            exact ⟨vs, pre, r, dp, rfl, sH2, hf2, ents2, split, sta⟩
      · rintro σ' H' ⟨vs, pre, r, dp, rfl, h2, h3, h4, h5, h6⟩
        refine ⟨_, rfl, by show 2 ≤ sizeLine; decide, fun q hq => ⟨q, _, rfl, .inr (SqT.of upd_same), rfl, by decide +kernel, ?_⟩⟩
        have sn := Same.new (o := .tup [.str "(", .str " "]) hq
        rw [if_neg Bool.false_ne_true]
        exact ⟨vs, pre, r, dp, blanks ch, _, _, rfl, h2.trans sn, sn _ _ h3, h4.mono (Same.tups sn), h5, h6⟩
    · rintro σ H1 ⟨vs, pre, r, dp, aw, a, b, rfl, s1, hf1, ents, split, st⟩
      rw [zs] at st
      have fin : r = [] ∧ dp = 0 ∧ (aw = true → textOf doc = []) := by
        cases aw with
        | true =>
          obtain ⟨h1, h2, h3⟩ := endA (show StA _ _ _ _ from st)
          exact ⟨h1, h2, fun _ => h3⟩
        | false =>
          obtain ⟨h1, h2⟩ := endB (show StB _ _ _ _ from st)
          exact ⟨h1, h2, fun z => nomatch z⟩
      obtain ⟨rfl, rfl, empty⟩ := fin
      rw [List.append_nil] at split
      subst split
      have vl := Paired.length ents
      refine ⟨fun σ' H' => σ' = [some (.str (sT (textOf pre))), some (.ref f), some (.int (0 : Nat)), some (.bl aw), a, b, some (.bl false)] ∧ H' = H1, ?_, ?_⟩
      · refine ⟨_, rfl, _, _, rfl, rfl, _, rfl, iteF ⟨_, rfl, _, rfl, ?_⟩⟩
        cases aw with
        | false => exact iteF ⟨rfl, rfl⟩
        | true =>
          refine iteT ⟨_, rfl, sT (textOf pre), rfl, by rw [sT_len]; omega, _, _, rfl, rfl, ?_⟩
          have e := empty rfl
          rw [e]
          exact ⟨rfl, rfl⟩
      · rintro σ' H' ⟨rfl, rfl⟩
        refine ⟨_, rfl, _, rfl, iteF ?_⟩
        refine ⟨_, rfl, f, vs, rfl, .inl (SqL.of hf1), _, _, rfl, rfl, _, rfl, ?_⟩
        rw [decide_eq_false (by omega)]
        refine iteF ⟨_, rfl, f, vs, rfl, .inl ⟨SqL.of hf1, fun q hq => ?_⟩⟩
        exact k _ q (s1.trans (Same.new hq)) (s1.free hq) ⟨vs, upd_same, ents.mono (new_tups hq)⟩
end

/-! ### the law's own rows of children -/
def kO (n j : Nat) : Option Nat := if j = n then none else some j
def KidsAt (doc : Doc) (t : Nat) (as : List Addr) (H : Hp) : Prop := ∀ j a, as[j]? = some a → H a = some (.lst (nV (rowA doc t (kO doc.length j))))
def spLKids : Sp := fun vs H Q _ => ∃ (p : Addr) (doc : Doc), vs = [.ref p] ∧ DocAt H p doc ∧ okFrom 0 doc ∧ doc.length ≤ 20000 ∧
  ∀ (H' : Hp) (q : Addr) (as : List Addr), Same H H' → H q = none → as.length = doc.length + 1 → H' q = some (.lst (as.map V.ref)) → KidsAt doc doc.length as H' → Q (.ref q) H'
def ixO (n : Nat) : Option Nat → Nat
  | none => n
  | some j => j
theorem kO_at {n i : Nat} {o : Option Nat} (h : ∀ j, o = some j → j < n) (e : i = ixO n o) : kO n i = o := by
  subst e
  unfold kO
  cases o with
  | none => exact if_pos rfl
  | some j =>
    have := h j rfl
    exact if_neg (by show ¬ j = n; omega)
section
variable {P : Program} {w : World} {K : PySem.W.Frag} {mg : Str → Option Value} {base : Heap}
end

/-! ### the law's own texts -/
theorem ix_listK {X : Cx} {K : PySem.W.Frag} (h : X.K = K) : IxR X (rIxL K) := by
  subst h
  exact ix_list
def txtV (doc : Doc) (b : Nat) : List V := (List.range doc.length).map fun j => V.str (if doc.length ≤ j + b then sT (nodeText doc j) else sT [])
theorem txtV_len (doc : Doc) (b : Nat) : (txtV doc b).length = doc.length := by unfold txtV; rw [List.length_map, List.length_range]
theorem txtV_at {doc : Doc} {b j : Nat} (h : j < doc.length) : (txtV doc b)[j]? = some (V.str (if doc.length ≤ j + b then sT (nodeText doc j) else sT [])) := by
  unfold txtV
  rw [List.getElem?_map, List.getElem?_range h]
  rfl
def textV (doc : Doc) : List V := (List.range doc.length).map fun j => V.str (sT (nodeText doc j))
theorem txtV_all (doc : Doc) : txtV doc doc.length = textV doc := by
  unfold txtV textV
  refine List.map_congr_left fun j _ => ?_
  rw [if_pos (by omega)]
theorem textV_at {doc : Doc} {j : Nat} (h : j < doc.length) : (textV doc)[j]? = some (V.str (sT (nodeText doc j))) := by
  unfold textV
  rw [List.getElem?_map, List.getElem?_range h]
  rfl
theorem txtV_set {doc : Doc} {b m : Nat} (hm : m < doc.length) (e : m + b + 1 = doc.length) : (txtV doc b).set m (V.str (sT (nodeText doc m))) = txtV doc (b + 1) := by
  apply List.ext_getElem?
  intro j
  by_cases jl : j < doc.length
  · by_cases q : j = m
    · subst q
      rw [List.getElem?_set_self (by rw [txtV_len]; exact jl), txtV_at jl, if_pos (by omega)]
    · rw [List.getElem?_set_ne (fun z => q z.symm), txtV_at jl, txtV_at jl]
      by_cases q2 : doc.length ≤ j + b
      · rw [if_pos q2, if_pos (by omega)]
      · rw [if_neg q2, if_neg (by omega)]
  · rw [List.getElem?_eq_none (by rw [List.length_set, txtV_len]; omega), List.getElem?_eq_none (by rw [txtV_len]; omega)]
theorem nodeText_len {doc : Doc} (ok : okFrom 0 doc) {i : Nat} (hi : i < doc.length) : (nodeText doc i).length ≤ 3 * doc.length := by
  rw [← piece_text]
  have a := textOf_len (ok_piece ok hi)
  have b := piece_len hi
  omega
theorem sum_le {α : Type} (f : α → Nat) (m : Nat) : ∀ l : List α, (∀ x ∈ l, f x ≤ m) → (l.map f).sum ≤ l.length * m
  | [], _ => Nat.zero_le _
  | x :: r, h => by
    have ih := sum_le f m r fun y hy => h y (List.mem_cons_of_mem _ hy)
    have h1 := h x List.mem_cons_self
    rw [List.map_cons, List.sum_cons, List.length_cons, Nat.add_mul]
    omega
/-- a row's texts are joined -/
theorem row_join {doc : Doc} (ok : okFrom 0 doc) (small : doc.length ≤ 1000) {row : List Nat} (all : ∀ i ∈ row, i < doc.length) (rl : row.length ≤ doc.length) :
    ((row.map fun i => sT (nodeText doc i)).map (·.length)).sum + (row.map fun i => sT (nodeText doc i)).length * (" " : Str).length ≤ 16777216 ∧
    Txt.join (" " : Str) (row.map fun i => sT (nodeText doc i)) = sT (joinT (row.map (nodeText doc))) := by
  constructor
  · rw [List.map_map, List.length_map]
    have h := sum_le (fun i => (sT (nodeText doc i)).length) 3000 row fun i hi => by
      have := nodeText_len ok (all i hi)
      show (sT (nodeText doc i)).length ≤ 3000
      rw [sT_len]
      omega
    have e : (" " : Str).length = 1 := by rfl
    rw [e]
    have : (row.map ((fun x : Str => x.length) ∘ fun i => sT (nodeText doc i))).sum ≤ row.length * 3000 := h
    omega
  · rw [join_tl, List.map_map]
    rfl
def spLTexts : Sp := fun vs H Q _ => ∃ (p r : Addr) (doc : Doc) (as : List Addr), vs = [.ref p, .ref r] ∧ DocAt H p doc ∧ okFrom 0 doc ∧ doc.length ≤ 1000 ∧
  H r = some (.lst (as.map V.ref)) ∧ as.length = doc.length + 1 ∧ KidsAt doc doc.length as H ∧
  ∀ (H' : Hp) (q : Addr), Same H H' → H q = none → H' q = some (.lst (textV doc)) → Q (.ref q) H'
abbrev pTexts : List Str := ["document", "rows"]
theorem rowA_mem {doc : Doc} {t i : Nat} {o : Option Nat} (h : i ∈ rowA doc t o) : i < t ∧ lawPar doc i = o := by
  obtain ⟨a, b⟩ := List.mem_filter.mp h
  exact ⟨List.mem_range.mp a, of_decide_eq_true b⟩
section
variable {P : Program} {w : World} {K : PySem.W.Frag} {mg : Str → Option Value} {base : Heap}
end

/-! ### depth and breadth -/
def maxN (l : List Nat) : Nat := l.foldr max 0
theorem maxN_ge : ∀ {l : List Nat} {x : Nat}, x ∈ l → x ≤ maxN l
  | y :: l, x, h => by
    show x ≤ max y (maxN l)
    rcases List.mem_cons.mp h with h | h
    · omega
    · have := maxN_ge h
      omega
theorem maxN_le : ∀ {l : List Nat} {m : Nat}, (∀ x ∈ l, x ≤ m) → maxN l ≤ m
  | [], _, _ => Nat.zero_le _
  | y :: l, m, h => by
    show max y (maxN l) ≤ m
    have h1 := h y List.mem_cons_self
    have h2 := maxN_le (l := l) fun x hx => h x (List.mem_cons_of_mem _ hx)
    omega
theorem maxN_snoc (l : List Nat) (x : Nat) : maxN (l ++ [x]) = max (maxN l) x := by
  induction l with
  | nil => show max x 0 = max 0 x; omega
  | cons y l ih =>
    show max y (maxN (l ++ [x])) = max (max y (maxN l)) x
    rw [ih]
    omega
abbrev zL (l : List Nat) : List Int := l.map (fun n : Nat => (n : Int))
theorem nV_z (l : List Nat) : nV l = (zL l).map V.int := by
  unfold nV zL
  rw [List.map_map]
  rfl
theorem maxN_eq {l : List Nat} {m : Int} (h1 : m ∈ zL l) (h2 : ∀ x ∈ zL l, x ≤ m) : m = (maxN l : Nat) := by
  obtain ⟨n, hn, rfl⟩ := List.mem_map.mp h1
  have a := maxN_ge hn
  have b := maxN_le (l := l) (m := n) fun x hx => by
    have := h2 _ (List.mem_map.mpr ⟨x, hx, rfl⟩)
    omega
  omega
def depthM (doc : Doc) : Nat := maxN (doc.map fun e => e.2 + 1)
def breadthM (doc : Doc) : Nat := maxN ((List.range (doc.length + 1)).map fun j => (rowA doc doc.length (keyO j)).length)
def breadthL (doc : Doc) : Nat := maxN ((List.range doc.length).map fun i => (rowA doc doc.length (lawPar doc i)).length)
theorem breadth_eq (doc : Doc) : breadthM doc = breadthL doc := by
  refine Nat.le_antisymm (maxN_le fun x hx => ?_) (maxN_le fun x hx => ?_)
  · obtain ⟨j, _, rfl⟩ := List.mem_map.mp hx
    cases e : rowA doc doc.length (keyO j) with
    | nil => exact Nat.zero_le _
    | cons i r =>
      have m : i ∈ rowA doc doc.length (keyO j) := by rw [e]; exact List.mem_cons_self
      obtain ⟨m1, m2⟩ := List.mem_filter.mp m
      have q := of_decide_eq_true m2
      rw [← e, ← q]
      exact maxN_ge (List.mem_map.mpr ⟨i, m1, rfl⟩)
  · obtain ⟨i, hi, rfl⟩ := List.mem_map.mp hx
    have il := List.mem_range.mp hi
    refine maxN_ge (List.mem_map.mpr ⟨idx (lawPar doc i), List.mem_range.mpr ?_, by rw [keyO_idx]⟩)
    cases e : lawPar doc i with
    | none => exact Nat.zero_lt_succ _
    | some h =>
      have := par_lt e
      show h + 1 < doc.length + 1
      omega
def spDepthOf : Sp := fun vs H Q _ => ∃ (p : Addr) (doc : Doc), vs = [.ref p] ∧ DocAt H p doc ∧ okFrom 0 doc ∧ doc.length ≤ 20000 ∧ ∀ H', Same H H' → Q (.int (depthM doc : Nat)) H'
def spBreadthOf : Sp := fun vs H Q _ => ∃ (p : Addr) (doc : Doc), vs = [.ref p] ∧ DocAt H p doc ∧ okFrom 0 doc ∧ doc.length ≤ 20000 ∧ ∀ H', Same H H' → Q (.int (breadthM doc : Nat)) H'
def spLDepth (K : PySem.W.Frag) : Sp := fun vs H Q _ => ∃ (a : Addr) (doc : Doc), vs = [.ref a] ∧ SqL K H a (parV doc) ∧ okFrom 0 doc ∧ doc.length ≤ 20000 ∧ Q (.int (depthM doc : Nat)) H
def spLBreadth (K : PySem.W.Frag) : Sp := fun vs H Q _ => ∃ (a : Addr) (doc : Doc), vs = [.ref a] ∧ H a = some (.lst (parV doc)) ∧ doc.length ≤ 20000 ∧ ∀ H', Same H H' → Q (.int (breadthL doc : Nat)) H'
theorem walk_valsN {P : Program} {w : World} {d : Addr} {ep : Nat} {kvs : List (Leaf × V)} : Walk (Itn P w d ep kvs) kvs.length (fun H => H d = some (DN P w d ep kvs)) (fun i H x H' => H' = H ∧ ∃ k, kvs[i]? = some (k, x)) :=
  ⟨fun _ _ hi q => ⟨q, hi⟩, fun _ q => ⟨q, Nat.le_refl _⟩, fun _ _ _ _ _ _ y => y⟩
def rLen (K : PySem.W.Frag) : List V → Hp → VK → Prop := fun xs H Q => ∃ p ys, xs = [V.ref p] ∧ (SqL K H p ys ∨ SqT K H p ys) ∧ Q (.int (ys.length : Nat)) H
theorem call_lenK {X : Cx} {K : PySem.W.Frag} (h : X.K = K) : CallR X (.builtin "len") (rLen K) := by
  subst h
  exact call_len_seq
abbrev pAbove : List Str := ["above"]
section
variable {P : Program} {w : World} {K : PySem.W.Frag} {mg : Str → Option Value} {base : Heap}
theorem ok_depthof (S : Docs K mg) (D : Dn K mg "depth_of" sDepthOf pDocu) : FnOk P w K mg base CX0 6 D.f D.fd pDocu spDepthOf := by
  have T := S.T
  have GC : FnOk P w K mg base CX0 5 S.chk.f S.chk.fd pThing spChkDocV := S.ok
  have sc : FnScope ["document", "_", "depth"] pDocu (defScope sDepthOf) := ⟨rfl, rfl, rfl, by decide +kernel, rfl, by decide +kernel, by decide +kernel⟩
  refine D.F.ok sc (fun vs H Q E h => ?_) (fun cdv A outer s H vs Q E hr h => ?_)
  · obtain ⟨p, doc, rfl, _⟩ := h
    rfl
  · obtain ⟨p, doc, rfl, hd, ok, hl, k⟩ := h
    refine ⟨_, pss_cons (ps_expr (de_call S.chk GC hr (pa_cons (pv 0) pa_nil)))
      (pss_one (ps_ret (pe_callBK (call_maxD (by rfl)) (by rfl) T.max b_max (pa_cons (pe_lc (own := [("_", 1), ("depth", 2)]) (g := gTup K 2 (gCons (gName 1) (gCons (gName 2) gNil))) (tt := tYes) rfl sc.nd (pi_tup (pv 0))
        (blkOk_by (N := ["document", "_", "depth"]) (sc := defScope sDepthOf) (by decide +kernel)) (fun _ _ _ _ _ => pg_tup rfl (pgs_cons (pg_name (i := 1) sc.nd rfl (.inl rfl)) (pgs_cons (pg_name (i := 2) sc.nd rfl (.inl rfl)) pgs_nil))) (fun _ _ _ _ _ => pts_nil) (fun _ _ _ _ _ => pe_op op_add (pv 2) pe_int)) pa_nil) (pk_cons pe_int pk_nil)))), ?_⟩
    refine ⟨_, rfl, p, doc, rfl, hd, ok, hl, ?_⟩
    obtain ⟨ws, ews, qws⟩ := id hd
    have len := Paired.length qws
    refine ⟨_, rfl, p, rfl, ⟨ws, SqT.of ews⟩, fun D1 hD1 => ?_⟩
    refine lc_it (walk_tup (K := K) (a := p) (xs := ws)) (fun j H2 => j ≤ doc.length ∧ Same H H2 ∧ H2 D1 = some (.lst (nV ((doc.take j).map fun e => e.2 + 1)))) ?_ ?_ ?_ ?_
    · exact ⟨Nat.zero_le _, Same.new hD1, upd_same⟩
    · rintro j H2 hj ⟨_, s2, _⟩
      exact SqT.of (s2 _ _ ews)
    · rintro j y H2 H2' hj ⟨jl, s2, ed⟩ ⟨rfl, hy⟩
      have lt : j < doc.length := by omega
      obtain ⟨vs, r, c, e1, e2, e3, _⟩ := hd.ent lt
      have vw : vs = ws := by rw [ews] at e1; cases e1; rfl
      subst vw
      rw [hy] at e2
      cases e2
      refine ⟨r, _, rfl, SqT.of (s2 _ _ e3), rfl, _, _, rfl, _, _, rfl, rfl, rfl, ?_⟩
      refine ⟨_, rfl, _, _, rfl, rfl, _, ed, ?_, lt, fun b o e => ?_, ?_⟩
      · unfold nV
        rw [List.length_map, List.length_map, List.length_take]
        exact Nat.lt_of_lt_of_le (show min j doc.length < 20001 by omega) (by decide)
      · rw [upd_ne (ne_of_none e hD1)]
        exact s2 b o e
      · rw [upd_same, List.take_succ_eq_append_getElem lt, List.map_append]
        unfold nV
        rw [List.map_append]
        have q : (doc[j]).2 = dep doc j := (dep_at (List.getElem?_eq_getElem lt)).symm
        show _ = some (HO.lst (_ ++ [V.int (((doc[j]).2 + 1 : Nat) : Int)]))
        rw [q, Int.natCast_add]
        rfl
    · rintro H2 ⟨_, s2, ed⟩
      rw [len, List.take_length] at ed
      refine ⟨D1, zL (doc.map fun e => e.2 + 1), _, rfl, rfl, SqL.of (by rw [← nV_z]; exact ed), fun z => ?_, fun m h1 h2 => ?_⟩
      · have e : doc = [] := by
          have := congrArg List.length z
          rw [List.length_map, List.length_map] at this
          exact List.length_eq_zero_iff.mp this
        subst e
        exact k _ s2
      · rw [maxN_eq h1 h2]
        exact k _ s2
theorem ok_breadthof (S : Docs K mg) (Dp : Dn K mg "parents_in" sParents pDocu) (Drs : Dn K mg "rows_in" sRows pDocu) (D : Dn K mg "breadth_of" sBreadthOf pDocu) : FnOk P w K mg base CX0 6 D.f D.fd pDocu spBreadthOf := by
  have T := S.T
  have GC : FnOk P w K mg base CX0 5 S.chk.f S.chk.fd pThing spChkDocV := S.ok
  have GR : FnOk P w K mg base CX0 2 Drs.f Drs.fd pDocu (spRows P w) := ok_rows T Dp Drs
  have sc : FnScope ["document", "row"] pDocu (defScope sBreadthOf) := ⟨rfl, rfl, rfl, by decide +kernel, rfl, by decide +kernel, by decide +kernel⟩
  refine D.F.ok sc (fun vs H Q E h => ?_) (fun cdv A outer s H vs Q E hr h => ?_)
  · obtain ⟨p, doc, rfl, _⟩ := h
    rfl
  · obtain ⟨p, doc, rfl, hd, ok, hl, k⟩ := h
    refine ⟨_, pss_cons (ps_expr (de_call S.chk GC hr (pa_cons (pv 0) pa_nil)))
      (pss_one (ps_ret (pe_callB (call_maxL (by rfl)) (by rfl) T.max b_max (pa_cons (pe_lc (own := [("row", 1)]) (g := gName 1) (tt := tYes) rfl sc.nd (pi_valsN P w (de_call Drs GR hr (pa_cons (pv 0) pa_nil)))
        (blkOk_by (N := ["document", "row"]) (sc := defScope sBreadthOf) (by decide +kernel)) (fun _ _ _ _ _ => (pg_name (i := 1) sc.nd rfl (.inl rfl))) (fun _ _ _ _ _ => pts_nil) (fun _ _ _ _ _ => pe_callB (call_lenK (K := K) rfl) (by rfl) T.len b_len (pa_cons (pv 1) pa_nil))) pa_nil)))), ?_⟩
    refine ⟨_, rfl, p, doc, rfl, hd, ok, hl, ?_⟩
    refine ⟨_, rfl, p, doc, rfl, hd, ok, hl, fun H1 d ep as s1 hd0 al ed rows => ⟨d, ep, _, rfl, ed, fun D1 hD1 => ?_⟩⟩
    have kl : (rowsK 0 as).length = doc.length + 1 := by rw [rowsK_len, al]
    refine lc_it (walk_valsN (P := P) (w := w) (d := d) (ep := ep) (kvs := rowsK 0 as)) (fun j H2 => j ≤ doc.length + 1 ∧ Same H1 H2 ∧ H2 D1 = some (.lst (nV ((List.range j).map fun j => (rowA doc doc.length (keyO j)).length)))) ?_ ?_ ?_ ?_
    · exact ⟨Nat.zero_le _, Same.new hD1, upd_same⟩
    · rintro j H2 hj ⟨_, s2, _⟩
      exact s2 _ _ ed
    · rintro j y H2 H2' hj ⟨jl, s2, el⟩ ⟨rfl, kk, hy⟩
      have lt : j < doc.length + 1 := by omega
      obtain ⟨a, ha, rfl⟩ := rowsK_get hy
      refine ⟨rfl, _, rfl, a, _, rfl, .inl (SqL.of (s2 _ _ (rows j a ha))), _, el, ?_, lt, fun b o e => ?_, ?_⟩
      · unfold nV
        rw [List.length_map, List.length_map, List.length_range]
        exact Nat.lt_of_lt_of_le (show j < 20002 by omega) (by decide)
      · rw [upd_ne (ne_of_none e hD1)]
        exact s2 b o e
      · rw [upd_same, List.range_succ, List.map_append]
        unfold nV
        rw [List.map_append, List.length_map]
        rfl
    · rintro H2 ⟨_, s2, el⟩
      rw [kl] at el
      refine ⟨D1, zL ((List.range (doc.length + 1)).map fun j => (rowA doc doc.length (keyO j)).length), rfl, SqL.of (by rw [← nV_z]; exact el), fun z => ?_, fun m h1 h2 => ?_⟩
      · have := congrArg List.length z
        rw [List.length_map, List.length_map, List.length_range] at this
        cases this
      · rw [maxN_eq h1 h2]
        exact k _ (s1.trans s2)
end

/-! ### a document for repr -/
def docD (doc : Doc) : PyData := .tuple (doc.map fun e => .tuple [.str ⟨#[e.1]⟩, .int (e.2 : Nat)])
theorem one_mark {c : Nat} (h0 : 97 ≤ c) (h1 : c ≤ 104) : (reprText ⟨#[c]⟩).length ≤ 10 := by
  obtain ⟨k, rfl⟩ : ∃ k, c = 97 + k := ⟨c - 97, by omega⟩
  have hk : k < 8 := by omega
  match k, hk with
  | 0, _ => decide +kernel
  | 1, _ => decide +kernel
  | 2, _ => decide +kernel
  | 3, _ => decide +kernel
  | 4, _ => decide +kernel
  | 5, _ => decide +kernel
  | 6, _ => decide +kernel
  | 7, _ => decide +kernel
  | n + 8, h => exact absurd h (by omega)
def entD (e : Nat × Nat) : PyData := .tuple [.str ⟨#[e.1]⟩, .int (e.2 : Nat)]
theorem ents_dp {K : PySem.W.Frag} {H : Hp} : ∀ {vs : List V} {doc : Doc}, EntsAt H vs doc → DpAll K H vs (doc.map entD)
  | _, _, .nil => .nil
  | _, _, .cons h t => by
    obtain ⟨r, rfl, e⟩ := h
    exact .cons (.tup (SqT.of e) (.cons (.str _) (.cons (.int _) .nil))) (ents_dp t)
theorem docs_show : ∀ {m : Nat} {doc : Doc}, okFrom m doc → m + doc.length < 1000000 → PyData.showableAll (doc.map entD) = true
  | _, [], _, _ => by simp [PyData.showableAll]
  | m, (c, d) :: r, h, l => by
    have hd := h.2.2.1
    have l2 : m + (r.length + 1) < 1000000 := l
    have ih := docs_show h.2.2.2 (by omega)
    have z := log_small (show d < 1000000 by omega)
    simp [PyData.showableAll, entD, PyData.showable, ih, z]
theorem docs_plain : ∀ doc : Doc, PyData.hasDictAll (doc.map entD) = false
  | [] => by simp [PyData.hasDictAll]
  | e :: r => by simp [PyData.hasDictAll, entD, PyData.hasDict, docs_plain r]
theorem docs_deep : ∀ doc : Doc, PyData.depthAll (doc.map entD) ≤ 1
  | [] => by simp [PyData.depthAll]
  | e :: r => by
    have := docs_deep r
    simp [PyData.depthAll, entD, PyData.depth]
    omega
theorem docs_most : ∀ {m : Nat} {doc : Doc}, okFrom m doc → mostAll (doc.map entD) ≤ 2030 * doc.length
  | _, [], _ => Nat.zero_le _
  | m, (c, d) :: r, h => by
    have ih := docs_most h.2.2.2
    have y := one_mark h.1 h.2.1
    show (((reprText ⟨#[c]⟩).length + 2 + (2000 + 2 + 0)) + 4) + 2 + mostAll (r.map entD) ≤ 2030 * (r.length + 1)
    omega
theorem told_doc {K : PySem.W.Frag} {H : Hp} {p : Addr} {doc : Doc} (h : DocAt H p doc) (ok : okFrom 0 doc) (hl : doc.length ≤ 1000) : Told K H (.ref p) (docD doc) := by
  obtain ⟨vs, e, q⟩ := h
  exact {
    at_ := .tup (SqT.of e) (ents_dp q)
    show_ := by
      have := docs_show ok (by omega)
      show PyData.showable (.tuple (doc.map entD)) = true
      simpa [PyData.showable] using this
    plain := by
      show PyData.hasDict (.tuple (doc.map entD)) = false
      simpa [PyData.hasDict] using docs_plain doc
    deep := by
      have := docs_deep doc
      show PyData.depth (.tuple (doc.map entD)) ≤ 20
      simp [PyData.depth]
      omega
    short := by
      have := docs_most ok
      show mostAll (doc.map entD) + 4 ≤ 16000000
      omega }

/-! ### pieces -/
def spEndOf : Sp := fun vs H Q _ => ∃ (p : Addr) (doc : Doc) (i : Nat), vs = [.ref p, .int (i : Nat)] ∧ DocAt H p doc ∧ i < doc.length ∧ doc.length ≤ 20000 ∧ Q (.int ((i + lawSize doc i : Nat) : Int)) H
def spShift : Sp := fun vs H Q _ => ∃ (p : Addr) (doc : Doc) (k : Nat), vs = [.ref p, .int (-(k : Int))] ∧ DocAt H p doc ∧ (∀ e ∈ doc, k ≤ e.2) ∧ doc.length ≤ 20000 ∧
  ∀ (H' : Hp) (q : Addr), Same H H' → H q = none → DocAt H' q (less k doc) → Q (.ref q) H'
section
variable {P : Program} {w : World} {K : PySem.W.Frag} {mg : Str → Option Value} {base : Heap}
theorem ok_endof (T : Bl mg) (D : Dn K mg "end_of" sEndOf pNode') : FnOk P w K mg base CX0 1 D.f D.fd pNode' spEndOf := by
  have sc : FnScope ["document", "node", "depth", "end"] pNode' (defScope sEndOf) := ⟨rfl, rfl, rfl, by decide +kernel, rfl, by decide +kernel, by decide +kernel⟩
  refine D.F.ok sc (fun vs H Q E h => ?_) (fun cdv A outer s H vs Q E hr h => ?_)
  · obtain ⟨p, doc, i, rfl, _⟩ := h
    rfl
  · obtain ⟨p, doc, i, rfl, hd, hi, hl, k⟩ := h
    refine ⟨_, pss_cons (ps_set (i := 2) sc.nd rfl (.inl rfl) (pe_ix ix_tup (pe_ix ix_tup (pv 0) (pv 1) (fun _ _ => rfl)) pe_int (fun _ _ => rfl)))
      (pss_cons (ps_set (i := 3) sc.nd rfl (.inl rfl) (pe_op op_add (pv 1) pe_int))
      (pss_cons (ps_while PassesOwn.never (PW.pt (pw_and (pt_cmpR op_lt (pv 3) (pe_callB call_len_seq (by rfl) T.len b_len (pa_cons (pv 0) pa_nil)) (nomark _)) (pw_and1 (pt_cmpR op_gt (pe_ix ix_tup (pe_ix ix_tup (pv 0) (pv 3) (fun _ _ => rfl)) pe_int (fun _ _ => rfl)) (pv 2) (nomark _)))))
        (pss_one (ps_aug (i := 3) sc.nd rfl (.inl rfl) pe_int ip_add)))
      (pss_one (ps_ret (pv 3))))), ?_⟩
    obtain ⟨ws, ews, qws⟩ := id hd
    have len := Paired.length qws
    obtain ⟨vs, r, c, e1, e2, e3, _⟩ := hd.ent hi
    refine ⟨_, rfl, _, rfl, p, vs, _, _, rfl, rfl, SqT.of e1, atI_nat e2, r, _, 1, _, rfl, rfl, SqT.of e3, rfl, ?_⟩
    refine ⟨_, rfl, _, _, rfl, rfl, ?_⟩
    refine while_by (fun σ H' => H' = H ∧ ∃ (j : Nat), σ = [some (.ref p), some (.int (i : Nat)), some (.int (dep doc i : Nat)), some (.int ((i : Int) + 1 + (j : Int)))] ∧ i + 1 + j ≤ doc.length ∧ j + runLen (dep doc i) (doc.drop (i + 1 + j)) = runLen (dep doc i) (doc.drop (i + 1)))
      (fun (σ : L2.St) _ => match σ[3]? with | some (some (V.int z)) => ((doc.length : Int) - z).toNat | _ => 0) ?_ ?_ ?_
    · exact ⟨rfl, 0, by show [_, _, _, some (V.int ((i : Int) + 1))] = _; rw [show ((i : Int) + 1 + ((0 : Nat) : Int)) = (i : Int) + 1 by omega], by omega, by rw [Nat.zero_add, Nat.add_zero]⟩
    · rintro σ H' ⟨rfl, j, rfl, jl, eq⟩
      have jz : ((i : Int) + 1 + (j : Int)) = ((i + 1 + j : Nat) : Int) := by omega
      refine ⟨_, rfl, _, rfl, p, ws, rfl, .inr (SqT.of ews), _, _, rfl, rfl, _, rfl, ?_⟩
      have out : runLen (dep doc i) (doc.drop (i + 1)) = j → tRet (tVar 3) { nx := fun _ H' => Q .non H', rt := Q } [some (.ref p), some (.int (i : Nat)), some (.int (dep doc i : Nat)), some (.int ((i : Int) + 1 + (j : Int)))] H' := fun e => by
        refine ⟨_, rfl, ?_⟩
        have z : ((i + lawSize doc i : Nat) : Int) = (i : Int) + 1 + (j : Int) := by
          unfold lawSize
          omega
        rw [← z]
        exact k
      refine ite2 (fun c1 => ?_) (fun c1 => ?_)
      · have lt : i + 1 + j < doc.length := by have := of_decide_eq_true c1; omega
        obtain ⟨vs2, r2, c2, g1, g2, g3, _⟩ := hd.ent lt
        rw [runLen_at lt] at eq
        refine ⟨_, rfl, _, rfl, p, vs2, _, _, rfl, rfl, SqT.of g1, by rw [jz]; exact atI_nat g2, r2, _, 1, _, rfl, rfl, SqT.of g3, rfl, _, rfl, _, _, rfl, rfl, _, rfl, ?_⟩
        refine ite2 (fun c2 => ?_) (fun c2 => ?_)
        · have q : ¬ dep doc (i + 1 + j) ≤ dep doc i := by have := of_decide_eq_true c2; omega
          rw [if_neg q] at eq
          refine ⟨_, rfl, _, _, rfl, rfl, ⟨rfl, j + 1, ?_, by omega, ?_⟩, ?_⟩
          · have e : ((i : Int) + 1 + ((j + 1 : Nat) : Int)) = (i : Int) + 1 + (j : Int) + 1 := by omega
            rw [e]
            rfl
          · rw [← eq]
            show j + 1 + runLen _ (doc.drop (i + 1 + j + 1)) = _
            omega
          · show ((doc.length : Int) - ((i : Int) + 1 + (j : Int) + 1)).toNat < ((doc.length : Int) - ((i : Int) + 1 + (j : Int))).toNat
            omega
        · have q : dep doc (i + 1 + j) ≤ dep doc i := by
            by_cases q : dep doc (i + 1 + j) ≤ dep doc i
            · exact q
            · exact absurd (decide_eq_true (by omega)) c2
          rw [if_pos q] at eq
          exact out (by omega)
      · have z : doc.drop (i + 1 + j) = [] := List.drop_of_length_le (by
          by_cases q : i + 1 + j < doc.length
          · exact absurd (decide_eq_true (by omega)) c1
          · omega)
        rw [z] at eq
        exact iteF (out (by have e : runLen (dep doc i) [] = 0 := rfl; omega))
    · intro σ H' Q1 Q2 f q
      obtain ⟨x, hx, y, hy, p1, xs1, h1, h2, a, b, h3, h4, t, h5, q⟩ := q
      refine ⟨x, hx, y, hy, p1, xs1, h1, h2, a, b, h3, h4, t, h5, ?_⟩
      cases t with
      | false => exact f _ _ q
      | true =>
        obtain ⟨y1, h1, y2, h2, p1, xs1, i1, v1, h3, h4, h5, h6, p2, xs2, i2, v2, h7, h8, h9, h10, y3, h11, a2, b2, h12, h13, t2, h14, q⟩ := q
        exact ⟨y1, h1, y2, h2, p1, xs1, i1, v1, h3, h4, h5, h6, p2, xs2, i2, v2, h7, h8, h9, h10, y3, h11, a2, b2, h12, h13, t2, h14, f _ _ q⟩
theorem ents_cut {H : Hp} : ∀ {vs : List V} {doc : Doc} (a b : Nat), EntsAt H vs doc → EntsAt H ((vs.drop a).take b) ((doc.drop a).take b)
  | _, _, 0, 0, _ => .nil
  | _, _, 0, b + 1, .nil => .nil
  | _, _, 0, b + 1, .cons r t => .cons r (ents_cut 0 b t)
  | _, _, a + 1, b, .nil => by rw [List.drop_nil, List.drop_nil, List.take_nil, List.take_nil]; exact .nil
  | _, _, a + 1, b, .cons r t => ents_cut a b t
theorem slice_ofD {K : PySem.W.Frag} {H : Hp} {a : Addr} {xs : List V} {lo hi : Option Int} {Q : VK} (h : H a = some (.tup xs)) (k : ∀ (H' : Hp) (q : Addr), Same H H' → H' q = some (.tup (cutV xs lo hi)) → Q (.ref q) H') :
    rSlA K (.ref a) lo hi H Q := by
  refine ⟨a, xs, rfl, SqT.of h, fun z => ?_, fun _ p hp => k _ p (Same.new hp) upd_same⟩
  refine k H a (fun _ _ e => e) ?_
  rw [h]
  unfold cutV
  rw [z.1, z.2, List.drop_zero, Nat.sub_zero, List.take_length]
theorem raw_cut {doc : Doc} {i : Nat} (hi : i < doc.length) : (doc.drop i).take (lawSize doc i) = doc.getD i (0, 0) :: deepOf doc i := by
  rw [List.drop_eq_getElem_cons hi]
  have e : lawSize doc i = runLen (dep doc i) (doc.drop (i + 1)) + 1 := by unfold lawSize; omega
  rw [e, List.take_succ_cons]
  congr 1
  rw [List.getD_eq_getElem?_getD, List.getElem?_eq_getElem hi]
  rfl
def spPieceIn : Sp := fun vs H Q _ => ∃ (p : Addr) (doc : Doc) (i : Nat), vs = [.ref p, .int (i : Nat)] ∧ DocAt H p doc ∧ i < doc.length ∧ doc.length ≤ 20000 ∧
  ∀ (H' : Hp) (q : Addr), Same H H' → H q = none → DocAt H' q (pieceOf doc i) → Q (.ref q) H'
def spPieceOf : Sp := fun vs H Q _ => ∃ (p : Addr) (doc : Doc) (i : Nat), vs = [.ref p, .int (i : Nat)] ∧ DocAt H p doc ∧ okFrom 0 doc ∧ i < doc.length ∧ doc.length ≤ 20000 ∧
  ∀ (H' : Hp) (q : Addr), Same H H' → H q = none → DocAt H' q (pieceOf doc i) → Q (.ref q) H'
theorem ok_shift (T : Bl mg) (D : Dn K mg "shifted" sShift ["entries", "by"]) : FnOk P w K mg base CX0 1 D.f D.fd ["entries", "by"] spShift := by
  have sc : FnScope ["entries", "by", "mark", "depth"] ["entries", "by"] (defScope sShift) := ⟨rfl, rfl, rfl, by decide +kernel, rfl, by decide +kernel, by decide +kernel⟩
  refine D.F.ok sc (fun vs H Q E h => ?_) (fun cdv A outer s H vs Q E hr h => ?_)
  · obtain ⟨p, doc, i, rfl, _⟩ := h
    rfl
  · obtain ⟨p, doc, n, rfl, hd, ge, hl, k⟩ := h
    refine ⟨_, pss_one (ps_ret (pe_callTy call_tuple_of (by rfl) T.tuple b_tuple (pa_cons (pe_lc (own := [("mark", 2), ("depth", 3)]) (g := gTup K 2 (gCons (gName 2) (gCons (gName 3) gNil))) (tt := tYes) rfl sc.nd (pi_tup (pv 0))
      (blkOk_by (N := ["entries", "by", "mark", "depth"]) (sc := defScope sShift) (by decide +kernel)) (fun _ _ _ _ _ => pg_tup rfl (pgs_cons (pg_name (i := 2) sc.nd rfl (.inl rfl)) (pgs_cons (pg_name (i := 3) sc.nd rfl (.inl rfl)) pgs_nil))) (fun _ _ _ _ _ => pts_nil) (fun _ _ _ _ _ => pe_tup (pa_cons (pv 2) (pa_cons (pe_op op_add (pv 3) (pv 1)) pa_nil)))) pa_nil))), ?_⟩
    obtain ⟨ws, ews, qws⟩ := id hd
    have len := Paired.length qws
    have line : 100000 ≤ sizeLine := by decide
    refine ⟨_, rfl, p, rfl, ⟨ws, SqT.of ews⟩, fun B hB => ?_⟩
    refine lc_it (walk_tup (K := K) (a := p) (xs := ws)) (fun j H' => j ≤ doc.length ∧ Same H H' ∧ ∃ vs, H' B = some (.lst vs) ∧ vs.length = j ∧ EntsAt H' vs (less n (doc.take j))) ?_ ?_ ?_ ?_
    · exact ⟨Nat.zero_le _, Same.new hB, [], upd_same, rfl, .nil⟩
    · rintro j H' hj ⟨_, s7, _⟩
      exact SqT.of (s7 _ _ ews)
    · rintro j y H' H'' hj ⟨jl, s7, vs, eB, vl, ents⟩ ⟨rfl, hy⟩
      obtain ⟨e, he, r, rfl, hr2⟩ := qws.get hy
      obtain ⟨cc, dd⟩ := e
      have lt := (List.getElem?_eq_some_iff.mp he).1
      have nd : n ≤ dd := ge _ (List.mem_of_getElem? he)
      refine ⟨r, _, rfl, SqT.of (s7 _ _ hr2), rfl, _, _, rfl, _, _, rfl, rfl, rfl, ?_⟩
      refine ⟨_, rfl, _, rfl, _, rfl, _, _, rfl, rfl, by show 2 ≤ sizeLine; decide, fun t ht => ?_⟩
      have tB : t ≠ B := fun z => by subst z; rw [eB] at ht; cases ht
      refine ⟨vs, by rw [upd_ne tB.symm]; exact eB, by omega, lt, fun b o e => ?_, vs ++ [.ref t], upd_same, by rw [List.length_append, vl]; rfl, ?_⟩
      · have z := s7 b o e
        rw [upd_ne (ne_of_none e hB), upd_ne (ne_of_none z ht)]
        exact z
      · have k1 : ∀ b xs, H'' b = some (.tup xs) → (upd (upd H'' t (.tup [.str ⟨#[cc]⟩, .int ((dd : Nat) + -(n : Int))])) B (.lst (vs ++ [.ref t]))) b = some (.tup xs) := fun b xs e =>
          upd_tups (by rw [upd_ne tB.symm]; exact eB) b xs (new_tups ht b xs e)
        have e : less n (doc.take (j + 1)) = less n (doc.take j) ++ [(cc, dd - n)] := by
          rw [List.take_succ_eq_append_getElem lt]
          unfold less
          rw [List.map_append, (List.getElem?_eq_some_iff.mp he).2]
          rfl
        rw [e]
        refine Paired.snoc (ents.mono k1) ⟨t, rfl, ?_⟩
        rw [upd_ne tB, upd_same]
        have e5 : ((dd - n : Nat) : Int) = (dd : Int) + -(n : Int) := by omega
        rw [e5]
    · rintro HD ⟨_, sD, vs, eB, vl, ents⟩
      rw [len, List.take_length] at ents
      refine ⟨B, vs, rfl, .inl ⟨SqL.of eB, fun q hq => ?_⟩⟩
      exact k _ q (sD.trans (Same.new hq)) (sD.free hq) ⟨vs, upd_same, ents.mono (new_tups hq)⟩
theorem ok_piecein (T : Bl mg) (Deo : Dn K mg "end_of" sEndOf pNode') (Dsh : Dn K mg "shifted" sShift ["entries", "by"]) (D : Dn K mg "piece_in" sPieceIn pNode') : FnOk P w K mg base CX0 2 D.f D.fd pNode' spPieceIn := by
  have GE : FnOk P w K mg base CX0 1 Deo.f Deo.fd pNode' spEndOf := ok_endof T Deo
  have GS : FnOk P w K mg base CX0 1 Dsh.f Dsh.fd ["entries", "by"] spShift := ok_shift T Dsh
  have sc : FnScope ["document", "node"] pNode' (defScope sPieceIn) := ⟨rfl, rfl, rfl, by decide +kernel, rfl, by decide +kernel, by decide +kernel⟩
  refine D.F.ok sc (fun vs H Q E h => ?_) (fun cdv A outer s H vs Q E hr h => ?_)
  · obtain ⟨p, doc, i, rfl, _⟩ := h
    rfl
  · obtain ⟨p, doc, i, rfl, hd, hi, hl, k⟩ := h
    refine ⟨_, pss_one (ps_ret (de_call Dsh GS hr (pa_cons (pe_slice sl_tupA (pv 0) (po_some (pv 1)) (po_some (de_call Deo GE hr (pa_cons (pv 0) (pa_cons (pv 1) pa_nil))))) (pa_cons (pe_un un_neg (pe_ix ix_tup (pe_ix ix_tup (pv 0) (pv 1) (fun _ _ => rfl)) pe_int (fun _ _ => rfl))) pa_nil)))), ?_⟩
    obtain ⟨ws, ews, qws⟩ := id hd
    refine ⟨_, rfl, _, rfl, _, rfl, _, rfl, _, rfl, p, doc, i, rfl, hd, hi, hl, _, rfl, slice_ofD ews fun H1 q s1 eq1 => ?_⟩
    rw [cutV_mid] at eq1
    have e0 : i + lawSize doc i - i = lawSize doc i := by omega
    rw [e0] at eq1
    obtain ⟨vs, r, c, e1, e2, e3, _⟩ := (hd.same s1).ent hi
    refine ⟨_, rfl, _, rfl, p, vs, _, _, rfl, rfl, SqT.of e1, atI_nat e2, r, _, 1, _, rfl, rfl, SqT.of e3, rfl, _, rfl, ?_⟩
    have cut : EntsAt H1 ((ws.drop i).take (lawSize doc i)) (doc.getD i (0, 0) :: deepOf doc i) := by
      rw [← raw_cut hi]
      exact (ents_cut i _ qws).mono (Same.tups s1)
    have ll : (doc.getD i (0, 0) :: deepOf doc i).length ≤ 20000 := by
      have := piece_len hi
      have e : (pieceOf doc i).length = (doc.getD i (0, 0) :: deepOf doc i).length := by
        show (less (dep doc i) (deepOf doc i)).length + 1 = (deepOf doc i).length + 1
        unfold less
        rw [List.length_map]
      omega
    refine ⟨q, _, dep doc i, rfl, ⟨_, eq1, cut⟩, fun e he => ?_, ll, fun H2 t s2 ht hdt => k H2 t (s1.trans s2) (s1.free ht) ?_⟩
    · rcases List.mem_cons.mp he with z | z
      · subst z; exact Nat.le_refl _
      · exact Nat.le_of_lt (run_deep z)
    · have e : less (dep doc i) (doc.getD i (0, 0) :: deepOf doc i) = pieceOf doc i := by
        show ((doc.getD i (0, 0)).1, (doc.getD i (0, 0)).2 - dep doc i) :: less (dep doc i) (deepOf doc i) = _
        unfold pieceOf
        congr 2
        show dep doc i - dep doc i = 0
        omega
      rw [← e]
      exact hdt
theorem ok_pieceof (S : Docs K mg) (Dno : Dn K mg "is_node" sNode pNode) (Dck : Dn K mg "check_node" sChkNode pNode) (Deo : Dn K mg "end_of" sEndOf pNode') (Dsh : Dn K mg "shifted" sShift ["entries", "by"]) (Dpi : Dn K mg "piece_in" sPieceIn pNode') (D : Dn K mg "piece_of" sPiece pNode') :
    FnOk P w K mg base CX0 6 D.f D.fd pNode' spPieceOf := by
  have GC : FnOk P w K mg base CX0 5 S.chk.f S.chk.fd pThing spChkDocV := S.ok
  have GK : FnOk P w K mg base CX0 4 Dck.f Dck.fd pNode spChkNodeV := ok_chknodeV S.T S.whole S.number Dno Dck
  have GP : FnOk P w K mg base CX0 2 Dpi.f Dpi.fd pNode' spPieceIn := ok_piecein S.T Deo Dsh Dpi
  have sc : FnScope ["document", "node"] pNode' (defScope sPiece) := ⟨rfl, rfl, rfl, by decide +kernel, rfl, by decide +kernel, by decide +kernel⟩
  refine D.F.ok sc (fun vs H Q E h => ?_) (fun cdv A outer s H vs Q E hr h => ?_)
  · obtain ⟨p, doc, i, rfl, _⟩ := h
    rfl
  · obtain ⟨p, doc, i, rfl, hd, ok, hi, hl, k⟩ := h
    refine ⟨_, pss_cons (ps_expr (de_call S.chk GC hr (pa_cons (pv 0) pa_nil)))
      (pss_cons (ps_expr (de_call Dck GK hr (pa_cons (pv 0) (pa_cons (pv 1) pa_nil))))
      (pss_one (ps_ret (de_call Dpi GP hr (pa_cons (pv 0) (pa_cons (pv 1) pa_nil)))))), ?_⟩
    refine ⟨_, rfl, p, doc, rfl, hd, ok, hl, ?_⟩
    refine ⟨_, rfl, _, rfl, p, doc, i, rfl, hd, hi, ?_⟩
    exact ⟨_, rfl, _, rfl, p, doc, i, rfl, hd, hi, hl, k⟩
end

/-! ### the place of a node -/
/-- going back from k: the nearest one less deep than d, and how many of the depth d are passed -/
def backTo' (doc : Doc) (d : Nat) : Nat → Nat → Option Nat × Nat
  | 0, n => (none, n)
  | k + 1, n => if dep doc k < d then (some k, n) else backTo' doc d k (if dep doc k = d then n + 1 else n)
def placeOf (doc : Doc) (i : Nat) : Option Nat × Nat := backTo' doc (dep doc i) i 0
def spPlaceIn : Sp := fun vs H Q _ => ∃ (p : Addr) (doc : Doc) (i : Nat), vs = [.ref p, .int (i : Nat)] ∧ DocAt H p doc ∧ i < doc.length ∧ doc.length ≤ 20000 ∧
  ∀ q, H q = none → Q (.ref q) (upd H q (.tup [vO (placeOf doc i).1, .int ((placeOf doc i).2 : Nat)]))
def spPlaceOf : Sp := fun vs H Q _ => ∃ (p : Addr) (doc : Doc) (i : Nat), vs = [.ref p, .int (i : Nat)] ∧ DocAt H p doc ∧ okFrom 0 doc ∧ i < doc.length ∧ doc.length ≤ 20000 ∧
  ∀ (H' : Hp) (q : Addr), Same H H' → H q = none → H' q = some (.tup [vO (placeOf doc i).1, .int ((placeOf doc i).2 : Nat)]) → Q (.ref q) H'
section
variable {P : Program} {w : World} {K : PySem.W.Frag} {mg : Str → Option Value} {base : Heap}
/-- one step of the look at what stands ahead -/
theorem backTo_step {doc : Doc} {d k n : Nat} : backTo' doc d (k + 1) n = if dep doc k < d then (some k, n) else backTo' doc d k (if dep doc k = d then n + 1 else n) := rfl
end
section
variable {P : Program} {w : World} {K : PySem.W.Frag} {mg : Str → Option Value} {base : Heap}
theorem ok_placein (D : Dn K mg "place_in" sPlaceIn pNode') : FnOk P w K mg base CX0 1 D.f D.fd pNode' spPlaceIn := by
  have sc : FnScope ["document", "node", "depth", "above", "which"] pNode' (defScope sPlaceIn) := ⟨rfl, rfl, rfl, by decide +kernel, rfl, by decide +kernel, by decide +kernel⟩
  refine D.F.ok sc (fun vs H Q E h => ?_) (fun cdv A outer s H vs Q E hr h => ?_)
  · obtain ⟨p, doc, i, rfl, _⟩ := h
    rfl
  · obtain ⟨p, doc, i, rfl, hd, hi, hl, k⟩ := h
    refine ⟨_, pss_cons (ps_set (i := 2) sc.nd rfl (.inl rfl) (pe_ix ix_tup (pe_ix ix_tup (pv 0) (pv 1) (fun _ _ => rfl)) pe_int (fun _ _ => rfl)))
      (pss_cons (ps_set (i := 3) sc.nd rfl (.inl rfl) (pe_op op_sub (pv 1) pe_int))
      (pss_cons (ps_set (i := 4) sc.nd rfl (.inl rfl) pe_int)
      (pss_cons (ps_while PassesOwn.never (PW.pt (pw_and (pt_cmpR op_ge (pv 3) pe_int (nomark _)) (pw_and1 (pt_cmpR op_ge (pe_ix ix_tup (pe_ix ix_tup (pv 0) (pv 3) (fun _ _ => rfl)) pe_int (fun _ _ => rfl)) (pv 2) (nomark _)))))
        (pss_cons (ps_if (pt_cmpR op_eq (pe_ix ix_tup (pe_ix ix_tup (pv 0) (pv 3) (fun _ _ => rfl)) pe_int (fun _ _ => rfl)) (pv 2) (nomark _)) (pss_one (ps_aug (i := 4) sc.nd rfl (.inl rfl) pe_int ip_add)) pss_nil)
        (pss_one (ps_aug (i := 3) sc.nd rfl (.inl rfl) pe_int ip_sub))))
      (pss_one (ps_ret (pe_tup (pa_cons (pe_ifExp (pt_cmpR op_lt (pv 3) pe_int (nomark _)) pe_non (pv 3)) (pa_cons (pv 4) pa_nil)))))))), ?_⟩
    obtain ⟨vs, r, c, e1, e2, e3, _⟩ := hd.ent hi
    refine ⟨_, rfl, _, rfl, p, vs, _, _, rfl, rfl, SqT.of e1, atI_nat e2, r, _, 1, _, rfl, rfl, SqT.of e3, rfl, ?_⟩
    refine ⟨_, rfl, _, _, rfl, rfl, ?_⟩
    have fin : ∀ (o : Option Nat) (n : Nat) (z : Int), (o, n) = placeOf doc i → (match o with | none => z < 0 | some j => z = (j : Nat)) → tRet (tTup (tCons (tIf (tTest (tOp (rI0 fun i j => V.bl (decide (i < j))) (tVar 3) (tC (V.int 0)))) (tC .non) (tVar 3)) (tCons (tVar 4) tNil)))
        { nx := fun _ H' => Q .non H', rt := Q } [some (.ref p), some (.int (i : Nat)), some (.int (dep doc i : Nat)), some (.int z), some (.int (n : Nat))] H := by
      rintro o n z e hz
      refine ⟨_, rfl, _, _, rfl, rfl, _, rfl, ?_⟩
      have e1 : (placeOf doc i).1 = o := by rw [← e]
      have e2 : (placeOf doc i).2 = n := by rw [← e]
      cases o with
      | none =>
        have hz' : z < 0 := hz
        rw [decide_eq_true hz']
        refine iteT ⟨_, rfl, by show 2 ≤ sizeLine; decide, fun q hq => ?_⟩
        have := k q hq
        rw [e1, e2] at this
        exact this
      | some j =>
        have hz' : z = (j : Nat) := hz
        subst hz'
        rw [decide_eq_false (by omega)]
        refine iteF ⟨_, rfl, _, rfl, by show 2 ≤ sizeLine; decide, fun q hq => ?_⟩
        have := k q hq
        rw [e1, e2] at this
        exact this
    refine while_by (fun σ H' => H' = H ∧ ∃ (m n : Nat), σ = [some (.ref p), some (.int (i : Nat)), some (.int (dep doc i : Nat)), some (.int ((m : Int) - 1)), some (.int (n : Nat))] ∧ m ≤ i ∧ backTo' doc (dep doc i) m n = placeOf doc i)
      (fun (σ : L2.St) _ => match σ[3]? with | some (some (V.int z)) => (z + 1).toNat | _ => 0) ?_ ?_ ?_
    · exact ⟨rfl, i, 0, rfl, Nat.le_refl _, rfl⟩
    · rintro σ H' ⟨rfl, m, n, rfl, mi, eq⟩
      refine ⟨_, rfl, _, _, rfl, rfl, _, rfl, ?_⟩
      cases m with
      | zero =>
        refine ite2 (fun c => absurd (of_decide_eq_true c) (by omega)) (fun _ => ?_)
        exact iteF (fin none n _ eq (by show ((0 : Nat) : Int) - 1 < 0; omega))
      | succ m =>
        refine ite2 (fun _ => ?_) (fun c => absurd (decide_eq_true (by omega)) c)
        have ml : m < doc.length := by omega
        obtain ⟨vs2, r2, c2, g1, g2, g3, _⟩ := hd.ent ml
        have mz : (((m + 1 : Nat) : Int) - 1) = (m : Nat) := by omega
        rw [backTo_step] at eq
        refine ⟨_, rfl, _, rfl, p, vs2, _, _, rfl, rfl, SqT.of g1, by rw [mz]; exact atI_nat g2, r2, _, 1, _, rfl, rfl, SqT.of g3, rfl, _, rfl, _, _, rfl, rfl, _, rfl, ?_⟩
        refine ite2 (fun c1 => ?_) (fun c1 => ?_)
        · have q1 : ¬ dep doc m < dep doc i := by have := of_decide_eq_true c1; omega
          rw [if_neg q1] at eq
          refine ⟨_, rfl, _, rfl, p, vs2, _, _, rfl, rfl, SqT.of g1, by rw [mz]; exact atI_nat g2, r2, _, 1, _, rfl, rfl, SqT.of g3, rfl, _, rfl, rfl, _, rfl, ?_⟩
          refine ite2 (fun c3 => ?_) (fun c3 => ?_)
          · have q3 : dep doc m = dep doc i := by
              have := of_decide_eq_true c3
              injection this with this
              omega
            rw [if_pos q3] at eq
            refine ⟨_, rfl, _, _, rfl, rfl, _, rfl, _, _, rfl, rfl, ⟨rfl, m, n + 1, ?_, by omega, eq⟩, ?_⟩
            · rw [mz]; rfl
            · show ((((m + 1 : Nat) : Int) - 1 - 1) + 1).toNat < ((((m + 1 : Nat) : Int) - 1) + 1).toNat
              omega
          · have q3 : ¬ dep doc m = dep doc i := fun q => c3 (decide_eq_true (by rw [q]))
            rw [if_neg q3] at eq
            refine ⟨_, rfl, _, _, rfl, rfl, ⟨rfl, m, n, ?_, by omega, eq⟩, ?_⟩
            · rw [mz]; rfl
            · show ((((m + 1 : Nat) : Int) - 1 - 1) + 1).toNat < ((((m + 1 : Nat) : Int) - 1) + 1).toNat
              omega
        · have q1 : dep doc m < dep doc i := by
            by_cases q : dep doc m < dep doc i
            · exact q
            · exact absurd (decide_eq_true (by omega)) c1
          rw [if_pos q1] at eq
          exact fin (some m) n _ eq mz
    · intro σ H' Q1 Q2 f q
      obtain ⟨x, hx, a, b, e1, e2, t, e3, q⟩ := q
      refine ⟨x, hx, a, b, e1, e2, t, e3, ?_⟩
      cases t with
      | false => exact f _ _ q
      | true =>
        obtain ⟨y1, h1, y2, h2, p1, xs1, i1, v1, h3, h4, h5, h6, p2, xs2, i2, v2, h7, h8, h9, h10, y3, h11, a2, b2, h12, h13, t2, h14, q⟩ := q
        exact ⟨y1, h1, y2, h2, p1, xs1, i1, v1, h3, h4, h5, h6, p2, xs2, i2, v2, h7, h8, h9, h10, y3, h11, a2, b2, h12, h13, t2, h14, f _ _ q⟩
theorem ok_placeof (S : Docs K mg) (Dno : Dn K mg "is_node" sNode pNode) (Dck : Dn K mg "check_node" sChkNode pNode) (Dpl : Dn K mg "place_in" sPlaceIn pNode') (D : Dn K mg "place_of" sPlaceOf pNode') :
    FnOk P w K mg base CX0 6 D.f D.fd pNode' spPlaceOf := by
  have GC : FnOk P w K mg base CX0 5 S.chk.f S.chk.fd pThing spChkDocV := S.ok
  have GK : FnOk P w K mg base CX0 4 Dck.f Dck.fd pNode spChkNodeV := ok_chknodeV S.T S.whole S.number Dno Dck
  have GP : FnOk P w K mg base CX0 1 Dpl.f Dpl.fd pNode' spPlaceIn := ok_placein Dpl
  have sc : FnScope ["document", "node"] pNode' (defScope sPlaceOf) := ⟨rfl, rfl, rfl, by decide +kernel, rfl, by decide +kernel, by decide +kernel⟩
  refine D.F.ok sc (fun vs H Q E h => ?_) (fun cdv A outer s H vs Q E hr h => ?_)
  · obtain ⟨p, doc, i, rfl, _⟩ := h
    rfl
  · obtain ⟨p, doc, i, rfl, hd, ok, hi, hl, k⟩ := h
    refine ⟨_, pss_cons (ps_expr (de_call S.chk GC hr (pa_cons (pv 0) pa_nil)))
      (pss_cons (ps_expr (de_call Dck GK hr (pa_cons (pv 0) (pa_cons (pv 1) pa_nil))))
      (pss_one (ps_ret (de_call Dpl GP hr (pa_cons (pv 0) (pa_cons (pv 1) pa_nil)))))), ?_⟩
    refine ⟨_, rfl, p, doc, rfl, hd, ok, hl, ?_⟩
    refine ⟨_, rfl, _, rfl, p, doc, i, rfl, hd, hi, ?_⟩
    exact ⟨_, rfl, _, rfl, p, doc, i, rfl, hd, hi, hl, fun q hq => k _ q (Same.new hq) hq upd_same⟩
end

/-! ### any object, as far as documents and edits look at it -/
inductive PD where
  | non | bl (b : Bool) | int (i : Int) | str (z : Str) | tup (ds : List PD) | oth
mutual
inductive Rep (K : PySem.W.Frag) (H : Hp) : V → PD → Prop
  | non : Rep K H .non .non
  | bl (b : Bool) : Rep K H (.bl b) (.bl b)
  | int (i : Int) : Rep K H (.int i) (.int i)
  | str (z : Str) (hz : z.length ≤ 1000) : Rep K H (.str z) (.str z)
  | tup {a : Addr} {xs : List V} {ds : List PD} : H a = some (.tup xs) → Reps K H xs ds → Rep K H (.ref a) (.tup ds)
  | oth {a : Addr} {T : String} : Any K H (.ref a) T → (T == "tuple") = false → (∀ xs, H a ≠ some (.tup xs)) → Rep K H (.ref a) .oth
inductive Reps (K : PySem.W.Frag) (H : Hp) : List V → List PD → Prop
  | nil : Reps K H [] []
  | cons {v : V} {vs : List V} {d : PD} {ds : List PD} : Rep K H v d → Reps K H vs ds → Reps K H (v :: vs) (d :: ds)
end
def tyP : PD → String
  | .non => "NoneType" | .bl _ => "bool" | .int _ => "int" | .str _ => "str" | .tup _ => "tuple" | .oth => "list"
theorem Rep.any {K : PySem.W.Frag} {H : Hp} {v : V} {d : PD} (h : Rep K H v d) : ∃ T, Any K H v T ∧ (T == "tuple") = (match d with | .tup _ => true | _ => false) ∧ (T == "str") = (match d with | .str _ => true | _ => false) := by
  cases h with
  | non => exact ⟨_, .non, rfl, rfl⟩
  | bl b => exact ⟨_, .bl b, rfl, rfl⟩
  | int i => exact ⟨_, .int i, rfl, rfl⟩
  | str z _ => exact ⟨_, .str z, rfl, rfl⟩
  | tup e _ => exact ⟨_, .tup (SqT.of e), rfl, rfl⟩
  | oth a n _ =>
    refine ⟨_, a, n, ?_⟩
    cases a <;> rfl
def numP : PD → Bool
  | .int i => decide (0 ≤ i)
  | _ => false
def markP : PD → Bool
  | .str z => decide (z ∈ markTexts)
  | _ => false
theorem Rep.num {K : PySem.W.Frag} {H : Hp} {v : V} {d : PD} (h : Rep K H v d) : numberV v = numP d := by cases h <;> rfl
theorem Rep.mark {K : PySem.W.Frag} {H : Hp} {v : V} {d : PD} (h : Rep K H v d) : markV v = markP d := by cases h <;> rfl
theorem Reps.len {K : PySem.W.Frag} {H : Hp} : ∀ {vs : List V} {ds : List PD}, Reps K H vs ds → vs.length = ds.length
  | _, _, .nil => rfl
  | _, _, .cons _ t => congrArg (· + 1) t.len
theorem Reps.at_ {K : PySem.W.Frag} {H : Hp} : ∀ {vs : List V} {ds : List PD} {i : Nat} {v : V}, Reps K H vs ds → vs[i]? = some v → ∃ d, ds[i]? = some d ∧ Rep K H v d
  | _, _, _, _, .nil, e => by simp at e
  | _, _, 0, _, .cons r _, e => by simp at e; subst e; exact ⟨_, rfl, r⟩
  | _, _, i + 1, v, .cons _ t, e => by
    obtain ⟨d, h1, h2⟩ := t.at_ (i := i) (v := v) (by simpa using e)
    exact ⟨d, by simpa using h1, h2⟩
/-- what is said of an entry of a document: its depth, if it is one -/
def entP : PD → Option Int
  | .tup [m, n] => if markP m = true then (match n with | .int i => if 0 ≤ i then some i else none | _ => none) else none
  | _ => none
def docFrom : Int → List PD → Bool
  | _, [] => true
  | m, e :: r => match entP e with
    | none => false
    | some i => if m < i then false else docFrom (i + 1) r
def docP : PD → Bool
  | .tup ds => decide (ds.length ≤ 20000) && docFrom 0 ds
  | _ => false
def spEntryG (K : PySem.W.Frag) : Sp := fun vs H Q _ => ∃ (v : V) (d : PD), vs = [v] ∧ Rep K H v d ∧ Q (.bl (entP d).isSome) H
def spIsDocG (K : PySem.W.Frag) : Sp := fun vs H Q _ => ∃ (v : V) (d : PD), vs = [v] ∧ Rep K H v d ∧ Q (.bl (docP d)) H
theorem Rep.tupOf {K : PySem.W.Frag} {H : Hp} {v : V} {ds : List PD} (h : Rep K H v (.tup ds)) : ∃ a xs, v = .ref a ∧ H a = some (.tup xs) ∧ Reps K H xs ds := by
  cases h with
  | tup e q => exact ⟨_, _, rfl, e, q⟩
theorem reps2 {K : PySem.W.Frag} {H : Hp} {xs : List V} {a b : PD} (h : Reps K H xs [a, b]) : ∃ x y, xs = [x, y] ∧ Rep K H x a ∧ Rep K H y b := by
  cases h with
  | cons h1 t => cases t with
    | cons h2 t2 => cases t2; exact ⟨_, _, rfl, h1, h2⟩
section
variable {P : Program} {w : World} {K : PySem.W.Frag} {mg : Str → Option Value} {base : Heap}
theorem ok_entryG (T : Bl mg) (hm : MarksAt K mg) (Dw : Dn K mg "is_whole" sWhole pThing) (Dnu : Dn K mg "is_number" sNumber pThing) (Dm : Dn K mg "is_mark" sMark pThing)
    (D : Dn K mg "_is_entry" sEntry pThing) : FnOk P w K mg base CX0 3 D.f D.fd pThing (spEntryG K) := by
  have GN : FnOk P w K mg base CX0 2 Dnu.f Dnu.fd pThing (spNumber K) := ok_number T Dw Dnu
  have GM : FnOk P w K mg base CX0 1 Dm.f Dm.fd pThing (spMark K) := ok_mark T hm Dm
  have sc : FnScope ["thing"] pThing (defScope sEntry) := ⟨rfl, rfl, rfl, by decide +kernel, rfl, by decide +kernel, by decide +kernel⟩
  refine D.F.ok sc (fun vs H Q E h => ?_) (fun cdv A outer s H vs Q E hr h => ?_)
  · obtain ⟨v, e, rfl, _⟩ := h
    rfl
  · obtain ⟨v, d, rfl, rep, k⟩ := h
    refine ⟨_, pss_one (ps_ret (pe_and (pe_callB call_isi (by rfl) T.isinstance b_isinstance (pa_cons (pv 0) (pa_cons (pe_bltn (v := .ty "tuple") rfl T.tuple b_tuple rfl) pa_nil))) (pe_and (pe_cmpR op_eq (pe_callB call_len_seq (by rfl) T.len b_len (pa_cons (pv 0) pa_nil)) pe_int (nomark _))
      (pe_and (de_call Dm GM hr (pa_cons (pe_ix ix_tup (pv 0) pe_int (fun _ _ => rfl)) pa_nil)) (pe_one (de_call Dnu GN hr (pa_cons (pe_ix ix_tup (pv 0) pe_int (fun _ _ => rfl)) pa_nil))))))), ?_⟩
    obtain ⟨ty, any, t1, _⟩ := rep.any
    refine ⟨_, rfl, _, _, _, _, _, rfl, .ty "tuple", any.ty, any.kit.2.2.2, _, rfl, ?_⟩
    rw [t1]
    have no : ∀ e, entP e = none → Q (.bl (entP e).isSome) H = Q (.bl false) H := fun e z => by rw [z]; rfl
    match d, rep, k with
    | .non, _, k => exact iteF k
    | .bl _, _, k => exact iteF k
    | .int _, _, k => exact iteF k
    | .str _, _, k => exact iteF k
    | .oth, _, k => exact iteF k
    | .tup ds, rep, k =>
      obtain ⟨a, xs, rfl, e, reps⟩ := rep.tupOf
      have len := reps.len
      refine iteT ⟨_, rfl, a, xs, rfl, .inr (SqT.of e), rfl, _, rfl, ?_⟩
      match ds, reps, k, len with
      | [], _, k, len =>
        refine ite2 (fun c => ?_) (fun _ => k)
        have := of_decide_eq_true c
        injection this with this
        rw [List.length_nil] at len
        omega
      | [x], _, k, len =>
        refine ite2 (fun c => ?_) (fun _ => k)
        have := of_decide_eq_true c
        injection this with this
        rw [List.length_singleton] at len
        omega
      | x :: y :: z :: r, _, k, len =>
        refine ite2 (fun c => ?_) (fun _ => k)
        have := of_decide_eq_true c
        injection this with this
        rw [List.length_cons, List.length_cons, List.length_cons] at len
        omega
      | [m, n], reps, k, len =>
        obtain ⟨x, y, rfl, rx, ry⟩ := reps2 reps
        refine ite2 (fun _ => ?_) (fun c => absurd rfl c)
        obtain ⟨tx, anx, _⟩ := rx.any
        obtain ⟨ty', any', _⟩ := ry.any
        refine ⟨_, rfl, a, _, 0, _, rfl, rfl, SqT.of e, rfl, x, tx, rfl, anx, _, rfl, ?_⟩
        rw [rx.mark]
        refine ite2 (fun c => ?_) (fun c => ?_)
        · refine ⟨_, rfl, a, _, 1, _, rfl, rfl, SqT.of e, rfl, y, ty', rfl, any', ?_⟩
          rw [ry.num]
          have z : (entP (.tup [m, n])).isSome = numP n := by
            show (if markP m = true then (match n with | .int i => if 0 ≤ i then some i else none | _ => none) else none).isSome = _
            rw [if_pos c]
            cases n with
            | int i =>
              show (if 0 ≤ i then some i else none).isSome = decide (0 ≤ i)
              by_cases q : 0 ≤ i
              · rw [if_pos q, decide_eq_true q]; rfl
              · rw [if_neg q, decide_eq_false q]; rfl
            | _ => rfl
          rw [z] at k
          exact k
        · have z : (entP (.tup [m, n])).isSome = false := by
            show (if markP m = true then (match n with | .int i => if 0 ≤ i then some i else none | _ => none) else none).isSome = _
            rw [if_neg c]
            rfl
          rw [z] at k
          exact k
theorem ent_shape {d : PD} {i : Int} (h : entP d = some i) : ∃ m, d = .tup [m, .int i] ∧ markP m = true ∧ 0 ≤ i := by
  match d, h with
  | .tup [m, n], h =>
    have h' : (if markP m = true then (match n with | .int i => if 0 ≤ i then some i else none | _ => none) else none) = some i := h
    by_cases c : markP m = true
    · rw [if_pos c] at h'
      cases n with
      | int j =>
        have h2 : (if 0 ≤ j then some j else none) = some i := h'
        by_cases q : 0 ≤ j
        · rw [if_pos q] at h2
          cases h2
          exact ⟨m, rfl, c, q⟩
        · rw [if_neg q] at h2
          cases h2
      | _ => cases h'
    · rw [if_neg c] at h'
      cases h'
theorem docFrom_drop {m : Int} {ds : List PD} {i : Nat} {d : PD} (h : ds[i]? = some d) : docFrom m (ds.drop i) = match entP d with | none => false | some x => if m < x then false else docFrom (x + 1) (ds.drop (i + 1)) := by
  obtain ⟨lt, rfl⟩ := List.getElem?_eq_some_iff.mp h
  rw [List.drop_eq_getElem_cons lt]
  rfl
theorem ok_isdocG (T : Bl mg) (hm : MarksAt K mg) (hM : MostAt mg) (Dw : Dn K mg "is_whole" sWhole pThing) (Dnu : Dn K mg "is_number" sNumber pThing) (Dm : Dn K mg "is_mark" sMark pThing)
    (De : Dn K mg "_is_entry" sEntry pThing) (D : Dn K mg "is_document" sIsDoc pThing) : FnOk P w K mg base CX0 4 D.f D.fd pThing (spIsDocG K) := by
  have GE : FnOk P w K mg base CX0 3 De.f De.fd pThing (spEntryG K) := ok_entryG T hm Dw Dnu Dm De
  obtain ⟨tM, gM⟩ := hM
  have sc : FnScope ["thing", "deepest", "entry"] pThing (defScope sIsDoc) := ⟨rfl, rfl, rfl, by decide +kernel, rfl, by decide +kernel, by decide +kernel⟩
  refine D.F.ok sc (fun vs H Q E h => ?_) (fun cdv A outer s H vs Q E hr h => ?_)
  · obtain ⟨v, e, rfl, _⟩ := h
    rfl
  · obtain ⟨v, d, rfl, rep, k⟩ := h
    refine ⟨_, pss_cons (ps_if (PW.pt (pw_or (pt_not (pt_val (pe_callB call_isi (by rfl) T.isinstance b_isinstance (pa_cons (pv 0) (pa_cons (pe_bltn (v := .ty "tuple") rfl T.tuple b_tuple rfl) pa_nil))))) (pw_or1 (pt_cmpR op_gt (pe_callB call_len_seq (by rfl) T.len b_len (pa_cons (pv 0) pa_nil)) (pe_glob (v := .int 20000) rfl gM ⟨tM, rfl⟩) (nomark _))))) (pss_one (ps_ret pe_bl)) pss_nil)
      (pss_cons (ps_set (i := 1) sc.nd rfl (.inl rfl) pe_int)
      (pss_cons (ps_for PassesOwn.never rfl (pi_tup (pv 0)) (pg_name (i := 2) sc.nd rfl (.inl rfl))
        (pss_cons (ps_if (PW.pt (pw_or (pt_not (pt_val (de_call De GE hr (pa_cons (pv 2) pa_nil)))) (pw_or1 (pt_cmpR op_gt (pe_ix ix_tup (pv 2) pe_int (fun _ _ => rfl)) (pv 1) (nomark _))))) (pss_one (ps_ret pe_bl)) pss_nil)
        (pss_one (ps_set (i := 1) sc.nd rfl (.inl rfl) (pe_op op_add (pe_ix ix_tup (pv 2) pe_int (fun _ _ => rfl)) pe_int)))))
      (pss_one (ps_ret pe_bl)))), ?_⟩
    obtain ⟨ty, any, t1, _⟩ := rep.any
    refine ⟨_, rfl, _, _, _, _, _, rfl, .ty "tuple", any.ty, any.kit.2.2.2, _, rfl, ?_⟩
    rw [t1]
    match d, rep, k with
    | .non, _, k => exact iteT (iteT k)
    | .bl _, _, k => exact iteT (iteT k)
    | .int _, _, k => exact iteT (iteT k)
    | .str _, _, k => exact iteT (iteT k)
    | .oth, _, k => exact iteT (iteT k)
    | .tup ds, rep, k =>
      obtain ⟨p, ws, rfl, ews, reps⟩ := rep.tupOf
      have len := reps.len
      have sq : SqT K H p ws := SqT.of ews
      refine iteF ⟨_, rfl, p, ws, rfl, .inr sq, _, _, rfl, rfl, _, rfl, ?_⟩
      have kk : docP (.tup ds) = (decide (ds.length ≤ 20000) && docFrom 0 ds) := rfl
      rw [kk] at k
      refine ite2 (fun c => ?_) (fun c => ?_)
      · have := of_decide_eq_true c
        rw [decide_eq_false (by omega)] at k
        exact k
      have small : ds.length ≤ 20000 := by
        by_cases q : ds.length ≤ 20000
        · exact q
        · exact absurd (decide_eq_true (by omega)) c
      rw [decide_eq_true small, Bool.true_and] at k
      refine ⟨_, rfl, p, rfl, ⟨ws, sq⟩, for_tup (K := K) (a := p) (xs := ws) (fun i σ H' => H' = H ∧ i ≤ ds.length ∧ ∃ (m : Int) (b : Option V), σ = [some (.ref p), some (.int m), b] ∧ docFrom m (ds.drop i) = docFrom 0 ds) ?_ ?_ ?_ ?_⟩
      · exact ⟨rfl, Nat.zero_le _, 0, none, rfl, rfl⟩
      · rintro i σ H' hi ⟨rfl, _, _⟩
        exact sq
      · rintro i x σ H' hx ⟨rfl, il, m, b, rfl, eq⟩
        obtain ⟨d, hd, rd⟩ := reps.at_ hx
        rw [docFrom_drop hd] at eq
        refine ⟨_, rfl, x, d, rfl, rd, _, rfl, ?_⟩
        cases he : entP d with
        | none =>
          rw [he] at eq
          have eq' : false = docFrom 0 ds := eq
          rw [← eq'] at k
          exact iteT (iteT k)
        | some y =>
          rw [he] at eq
          have eq' : (if m < y then false else docFrom (y + 1) (ds.drop (i + 1))) = docFrom 0 ds := eq
          obtain ⟨mm, rfl, _, _⟩ := ent_shape he
          obtain ⟨r, ys, rfl, er, rys⟩ := rd.tupOf
          obtain ⟨y0, y1, rfl, _, r1⟩ := reps2 rys
          cases r1
          refine iteF ⟨_, rfl, r, _, 1, _, rfl, rfl, SqT.of er, rfl, _, rfl, _, _, rfl, rfl, _, rfl, ?_⟩
          refine ite2 (fun c => ?_) (fun c => ?_)
          · rw [if_pos (by have := of_decide_eq_true c; omega)] at eq'
            rw [← eq'] at k
            exact k
          · rw [if_neg (fun z => c (decide_eq_true (by omega)))] at eq'
            exact ⟨_, rfl, r, _, 1, _, rfl, rfl, SqT.of er, rfl, _, _, rfl, rfl, rfl, (List.getElem?_eq_some_iff.mp hd).1, _, _, rfl, eq'⟩
      · rintro σ H' ⟨rfl, il, m, b, rfl, eq⟩
        have z : ds.drop ws.length = [] := List.drop_of_length_le (by omega)
        rw [z] at eq
        have e2 : true = docFrom 0 ds := eq
        rw [← e2] at k
        exact k
end

/-! ### the form of edits -/
def isNone : PD → Bool
  | .non => true
  | _ => false
theorem Rep.isNon {K : PySem.W.Frag} {H : Hp} {v : V} {d : PD} (h : Rep K H v d) : decide (v = V.non) = isNone d := by
  cases h <;> rfl
def placeP : PD → Bool
  | .tup [a, b] => (isNone a || numP a) && numP b
  | _ => false
def zerosP : List PD → Nat
  | [] => 0
  | e :: r => (if entP e = some 0 then 1 else 0) + zerosP r
def oneP : PD → Bool
  | .tup ds => decide (zerosP ds = 1)
  | _ => false
def pieceP (d : PD) : Bool := docP d && oneP d
def edit3 (z : Str) (x : PD) : List PD → Bool
  | [y] => if z = ("mark" : Str) then numP x && markP y else if z = ("put" : Str) then placeP x && pieceP y else decide (z = ("move" : Str)) && (numP x && placeP y)
  | _ => false
def editP : PD → Bool
  | .tup (.str z :: x :: r) => if z = ("take" : Str) then r.isEmpty && numP x else edit3 z x r
  | _ => false
theorem reps_cons {K : PySem.W.Frag} {H : Hp} {xs : List V} {a : PD} {r : List PD} (h : Reps K H xs (a :: r)) : ∃ x ys, xs = x :: ys ∧ Rep K H x a ∧ Reps K H ys r := by
  cases h with
  | cons h1 t => exact ⟨_, _, rfl, h1, t⟩
theorem docFrom_all : ∀ {m : Int} {ds : List PD}, docFrom m ds = true → ∀ {i : Nat} {d : PD}, ds[i]? = some d → ∃ x, entP d = some x
  | _, [], _, i, d, h => by simp at h
  | m, e :: r, hd, i, d, h => by
    have hd' : (match entP e with | none => false | some x => if m < x then false else docFrom (x + 1) r) = true := hd
    cases he : entP e with
    | none => rw [he] at hd'; cases hd'
    | some x =>
      rw [he] at hd'
      cases i with
      | zero =>
        have : e = d := by simpa using h
        subst this
        exact ⟨x, he⟩
      | succ i =>
        by_cases q : m < x
        · have : (if m < x then false else docFrom (x + 1) r) = true := hd'
          rw [if_pos q] at this
          cases this
        · have : (if m < x then false else docFrom (x + 1) r) = true := hd'
          rw [if_neg q] at this
          exact docFrom_all this (i := i) (by simpa using h)
theorem zerosP_take {ds : List PD} {i : Nat} {d : PD} (h : ds[i]? = some d) : zerosP (ds.take (i + 1)) = zerosP (ds.take i) + (if entP d = some 0 then 1 else 0) := by
  obtain ⟨lt, rfl⟩ := List.getElem?_eq_some_iff.mp h
  rw [List.take_succ_eq_append_getElem lt]
  generalize ds.take i = l
  induction l with
  | nil => show _ + 0 = 0 + _; omega
  | cons e r ih =>
    show _ + zerosP (r ++ [ds[i]]) = _ + zerosP r + _
    rw [ih]
    omega
def spPlaceG (K : PySem.W.Frag) : Sp := fun vs H Q _ => ∃ (v : V) (d : PD), vs = [v] ∧ Rep K H v d ∧ Q (.bl (placeP d)) H
def spPieceG (K : PySem.W.Frag) : Sp := fun vs H Q _ => ∃ (v : V) (d : PD), vs = [v] ∧ Rep K H v d ∧ ∀ H', Same H H' → Q (.bl (pieceP d)) H'
def spEditG (K : PySem.W.Frag) : Sp := fun vs H Q _ => ∃ (v : V) (d : PD), vs = [v] ∧ Rep K H v d ∧ ∀ H', Same H H' → Q (.bl (editP d)) H'
mutual
theorem Rep.same {K : PySem.W.Frag} {H H' : Hp} (s : Same H H') : ∀ {v : V} {d : PD}, Rep K H v d → Rep K H' v d
  | _, _, .non => .non
  | _, _, .bl b => .bl b
  | _, _, .int i => .int i
  | _, _, .str z hz => .str z hz
  | _, _, .tup e q => .tup (s _ _ e) (Reps.same s q)
  | _, _, .oth a n ne => by
    cases a with
    | lst e => exact .oth (.lst (s _ _ e)) n fun xs z => by rw [s _ _ e] at z; cases z
    | tup e => exact absurd n (by decide)
    | dct e => exact .oth (.dct (s _ _ e)) n fun xs z => by rw [s _ _ e] at z; cases z
    | dctT e => exact .oth (.dctT (s _ _ e)) n fun xs z => by rw [s _ _ e] at z; cases z
theorem Reps.same {K : PySem.W.Frag} {H H' : Hp} (s : Same H H') : ∀ {vs : List V} {ds : List PD}, Reps K H vs ds → Reps K H' vs ds
  | _, _, .nil => .nil
  | _, _, .cons r t => .cons (Rep.same s r) (Reps.same s t)
end
section
variable {P : Program} {w : World} {K : PySem.W.Frag} {mg : Str → Option Value} {base : Heap}
end

/-! ### forests -/
inductive Fo where
  | nil : Fo
  | cons (c : Nat) (k r : Fo) : Fo
def Fo.size : Fo → Nat
  | .nil => 0
  | .cons _ k r => 1 + k.size + r.size
def Fo.flat : Nat → Fo → Doc
  | _, .nil => []
  | d, .cons c k r => (c, d) :: (Fo.flat (d + 1) k ++ Fo.flat d r)
def Fo.app : Fo → Fo → Fo
  | .nil, g => g
  | .cons c k r, g => .cons c k (Fo.app r g)
def Fo.flip : Fo → Fo
  | .nil => .nil
  | .cons c k r => Fo.app (Fo.flip r) (.cons c (Fo.flip k) .nil)
theorem Fo.app_nil : ∀ f : Fo, f.app .nil = f
  | .nil => rfl
  | .cons c k r => by
    show Fo.cons c k (r.app .nil) = _
    rw [Fo.app_nil r]
theorem Fo.app_app : ∀ f g h : Fo, (f.app g).app h = f.app (g.app h)
  | .nil, _, _ => rfl
  | .cons c k r, g, h => by
    show Fo.cons c k ((r.app g).app h) = Fo.cons c k (r.app (g.app h))
    rw [Fo.app_app r g h]
theorem Fo.flip_app : ∀ f g : Fo, (f.app g).flip = g.flip.app f.flip
  | .nil, g => by
    show g.flip = g.flip.app .nil
    rw [Fo.app_nil]
  | .cons c k r, g => by
    show ((r.app g).flip).app _ = g.flip.app (r.flip.app _)
    rw [Fo.flip_app r g, Fo.app_app]
theorem Fo.flip_flip : ∀ f : Fo, f.flip.flip = f
  | .nil => rfl
  | .cons c k r => by
    show (r.flip.app (.cons c k.flip .nil)).flip = _
    rw [Fo.flip_app, Fo.flip_flip r]
    show (Fo.app .nil (.cons c k.flip.flip .nil)).app r = _
    rw [Fo.flip_flip k]
    rfl
theorem Fo.flat_app : ∀ (f g : Fo) (d : Nat), (f.app g).flat d = f.flat d ++ g.flat d
  | .nil, _, _ => rfl
  | .cons c k r, g, d => by
    show (c, d) :: (k.flat (d + 1) ++ (r.app g).flat d) = (c, d) :: (k.flat (d + 1) ++ r.flat d) ++ g.flat d
    rw [Fo.flat_app r g d, List.cons_append, List.append_assoc]
theorem Fo.flat_len : ∀ (f : Fo) (d : Nat), (f.flat d).length = f.size
  | .nil, _ => rfl
  | .cons c k r, d => by
    show (k.flat (d + 1) ++ r.flat d).length + 1 = 1 + k.size + r.size
    rw [List.length_append, Fo.flat_len k, Fo.flat_len r]
    omega
theorem Fo.flat_ge : ∀ (f : Fo) (d : Nat) (e : Nat × Nat), e ∈ f.flat d → d ≤ e.2
  | .nil, _, _, h => nomatch h
  | .cons c k r, d, e, h => by
    rcases List.mem_cons.mp (show e ∈ (c, d) :: (k.flat (d + 1) ++ r.flat d) from h) with h | h
    · subst h; exact Nat.le_refl _
    · rcases List.mem_append.mp h with h | h
      · exact Nat.le_of_succ_le (Fo.flat_ge k _ _ h)
      · exact Fo.flat_ge r _ _ h
theorem Fo.flat_marks : ∀ (f : Fo) (d : Nat), (f.flat d).map Prod.fst = (f.flat 0).map Prod.fst
  | .nil, _ => rfl
  | .cons c k r, d => by
    show c :: ((k.flat (d + 1) ++ r.flat d).map Prod.fst) = c :: ((k.flat 1 ++ r.flat 0).map Prod.fst)
    rw [List.map_append, List.map_append, Fo.flat_marks k (d + 1), Fo.flat_marks k 1, Fo.flat_marks r d]
theorem okFrom_up {m n : Nat} {r : Doc} (h : okFrom m r) (le : ∀ e r', r = e :: r' → e.2 ≤ n) : okFrom n r := by
  cases r with
  | nil => trivial
  | cons e r' =>
    obtain ⟨c, d⟩ := e
    exact ⟨h.1, h.2.1, le _ _ rfl, h.2.2.2⟩
theorem okFrom_app : ∀ {m : Nat} {a b : Doc}, okFrom m (a ++ b) → okFrom (endOf m a) b
  | _, [], _, h => h
  | _, (_, d) :: r, _, h => okFrom_app (m := d + 1) (a := r) h.2.2.2
/-- what is read as far as the depth d -/
theorem fo_of : ∀ (n : Nat) (r : Doc) (d : Nat), r.length ≤ n → okFrom d r → ∃ (f : Fo) (rest : Doc), r = f.flat d ++ rest ∧ ∀ e r', rest = e :: r' → e.2 < d
  | _, [], d, _, _ => ⟨.nil, [], rfl, fun _ _ h => nomatch h⟩
  | 0, _ :: _, _, h, _ => absurd h (by simp)
  | n + 1, (c, e) :: t, d, hn, ok => by
    by_cases lt : e < d
    · exact ⟨.nil, (c, e) :: t, rfl, fun _ _ h => by injection h with h _; subst h; exact lt⟩
    · have ed : e = d := by have := ok.2.2.1; omega
      subst ed
      obtain ⟨k, r1, e1, h1⟩ := fo_of n t (e + 1) (by simpa using hn) ok.2.2.2
      have ok1 : okFrom e r1 := by
        have z := ok.2.2.2
        rw [e1] at z
        exact okFrom_up (okFrom_app z) fun x r' hx => Nat.le_of_lt_succ (h1 x r' hx)
      have l1 : r1.length ≤ n := by
        have := congrArg List.length e1
        rw [List.length_append] at this
        have hn' : t.length + 1 ≤ n + 1 := by simpa using hn
        omega
      obtain ⟨r, r2, e2, h2⟩ := fo_of n r1 e l1 ok1
      refine ⟨.cons c k r, r2, ?_, h2⟩
      rw [e1, e2]
      show _ = (c, e) :: (k.flat (e + 1) ++ r.flat e) ++ r2
      rw [List.cons_append, List.append_assoc]
theorem fo_ex {doc : Doc} (ok : okFrom 0 doc) : ∃ f : Fo, doc = f.flat 0 := by
  obtain ⟨f, rest, e, h⟩ := fo_of doc.length doc 0 (Nat.le_refl _) ok
  cases rest with
  | nil => exact ⟨f, by rw [e, List.append_nil]⟩
  | cons x r => exact absurd (h x r rfl) (Nat.not_lt_zero _)
def Fo.good : Fo → Prop
  | .nil => True
  | .cons c k r => 97 ≤ c ∧ c ≤ 104 ∧ k.good ∧ r.good
theorem fo_good : ∀ (f : Fo) (d m : Nat) (b : Doc), okFrom m (f.flat d ++ b) → f.good
  | .nil, _, _, _, _ => trivial
  | .cons c k r, d, m, b, h => by
    have h' : okFrom m ((c, d) :: (k.flat (d + 1) ++ r.flat d) ++ b) := h
    rw [List.cons_append, List.append_assoc] at h'
    exact ⟨h'.1, h'.2.1, fo_good k _ _ _ h'.2.2.2, fo_good r d _ b (okFrom_app h'.2.2.2)⟩
theorem good_fo : ∀ (f : Fo) (d : Nat), f.good → ∀ b : Doc, (∀ n, d ≤ n → okFrom n b) → ∀ m, d ≤ m → okFrom m (f.flat d ++ b)
  | .nil, d, _, b, hb, m, hm => hb m hm
  | .cons c k r, d, g, b, hb, m, hm => by
    show okFrom m ((c, d) :: (k.flat (d + 1) ++ r.flat d) ++ b)
    rw [List.cons_append, List.append_assoc]
    exact ⟨g.1, g.2.1, hm, good_fo k (d + 1) g.2.2.1 _ (fun n hn => good_fo r d g.2.2.2 b hb n (by omega)) (d + 1) (Nat.le_refl _)⟩
theorem fo_ok {f : Fo} (g : f.good) : okFrom 0 (f.flat 0) := by
  have := good_fo f 0 g [] (fun _ _ => trivial) 0 (Nat.le_refl _)
  rwa [List.append_nil] at this
theorem app_good : ∀ {f g : Fo}, f.good → g.good → (f.app g).good
  | .nil, _, _, h => h
  | .cons _ _ _, _, h, h2 => ⟨h.1, h.2.1, h.2.2.1, app_good h.2.2.2 h2⟩
theorem flip_good : ∀ {f : Fo}, f.good → f.flip.good
  | .nil, _ => trivial
  | .cons _ _ _, h => app_good (flip_good h.2.2.2) ⟨h.1, h.2.1, flip_good h.2.2.1, trivial⟩
theorem app_size : ∀ f g : Fo, (f.app g).size = f.size + g.size
  | .nil, g => (Nat.zero_add _).symm
  | .cons c k r, g => by
    show 1 + k.size + (r.app g).size = 1 + k.size + r.size + g.size
    rw [app_size r g]
    omega
theorem flip_size : ∀ f : Fo, f.flip.size = f.size
  | .nil => rfl
  | .cons c k r => by
    show (r.flip.app (.cons c k.flip .nil)).size = 1 + k.size + r.size
    rw [app_size, flip_size r]
    show r.size + (1 + k.flip.size + 0) = _
    rw [flip_size k]
    omega
/-! where the trees begin -/
def Fo.starts : Nat → Fo → List Nat
  | _, .nil => []
  | s, .cons _ k r => s :: Fo.starts (s + 1 + k.size) r
/-- less deep than d, or none -/
def Low (d : Nat) (r : Doc) : Prop := ∀ e r', r = e :: r' → e.2 < d
theorem row_deep {d : Nat} : ∀ (a : Doc) (s : Nat) (b : Doc), (∀ e ∈ a, d < e.2) → rowL d s (a ++ b) = rowL d (s + a.length) b
  | [], _, _, _ => rfl
  | (c, e) :: r, s, b, h => by
    have q : d < e := h (c, e) List.mem_cons_self
    show (if e < d then [] else if e = d then s :: rowL d (s + 1) (r ++ b) else rowL d (s + 1) (r ++ b)) = _
    rw [if_neg (by omega), if_neg (by omega), row_deep r (s + 1) b fun x hx => h x (List.mem_cons_of_mem _ hx)]
    congr 1
    rw [List.length_cons]
    omega
theorem row_low {d s : Nat} {b : Doc} (h : Low d b) : rowL d s b = [] := by
  cases b with
  | nil => rfl
  | cons e r =>
    obtain ⟨c, x⟩ := e
    show (if x < d then [] else _) = _
    rw [if_pos (h _ _ rfl)]
theorem row_fo : ∀ (f : Fo) (d s : Nat) (b : Doc), Low d b → rowL d s (f.flat d ++ b) = f.starts s
  | .nil, _, _, _, h => row_low h
  | .cons c k r, d, s, b, h => by
    show rowL d s ((c, d) :: (k.flat (d + 1) ++ r.flat d) ++ b) = s :: r.starts (s + 1 + k.size)
    rw [List.cons_append, List.append_assoc]
    show (if d < d then [] else if d = d then s :: rowL d (s + 1) (k.flat (d + 1) ++ (r.flat d ++ b)) else _) = _
    rw [if_neg (Nat.lt_irrefl _), if_pos rfl, row_deep _ _ _ fun e he => Fo.flat_ge k (d + 1) e he, Fo.flat_len, row_fo r d _ b h]
theorem row_top (f : Fo) : rowOf (f.flat 0) none = f.starts 0 := by
  have := row_fo f 0 0 [] (fun _ _ h => nomatch h)
  rwa [List.append_nil] at this
/-- a node and what stands below it -/
def NodeAt (doc : Doc) (v c d : Nat) (k : Fo) : Prop := ∃ b : Doc, doc.drop v = (c, d) :: (k.flat (d + 1) ++ b) ∧ Low (d + 1) b
theorem NodeAt.lt {doc : Doc} {v c d : Nat} {k : Fo} (h : NodeAt doc v c d k) : v < doc.length := by
  obtain ⟨b, e, _⟩ := h
  by_cases q : v < doc.length
  · exact q
  · rw [List.drop_of_length_le (by omega)] at e
    cases e
theorem NodeAt.get {doc : Doc} {v c d : Nat} {k : Fo} (h : NodeAt doc v c d k) : doc.getD v (0, 0) = (c, d) := by
  obtain ⟨b, e, _⟩ := h
  have q := congrArg (fun l : Doc => l[0]?) e
  simp only [List.getElem?_drop, Nat.add_zero, List.getElem?_cons_zero] at q
  rw [List.getD_eq_getElem?_getD, q]
  rfl
theorem NodeAt.next {doc : Doc} {v c d : Nat} {k : Fo} (h : NodeAt doc v c d k) : ∃ b, doc.drop (v + 1) = k.flat (d + 1) ++ b ∧ Low (d + 1) b := by
  obtain ⟨b, e, l⟩ := h
  refine ⟨b, ?_, l⟩
  have q := congrArg (List.drop 1) e
  rw [List.drop_drop] at q
  exact q
theorem NodeAt.row {doc : Doc} {v c d : Nat} {k : Fo} (h : NodeAt doc v c d k) : rowOf doc (some v) = k.starts (v + 1) := by
  obtain ⟨b, e, l⟩ := h.next
  show rowL (dep doc v + 1) (v + 1) (doc.drop (v + 1)) = _
  have ed : dep doc v = d := by
    show (doc.getD v (0, 0)).2 = d
    rw [h.get]
  rw [ed, e, row_fo k (d + 1) (v + 1) b l]
/-- the trees of a forest, where they stand -/
def Fo.trees : Nat → Nat → Fo → List (Nat × Nat × Nat × Fo)
  | _, _, .nil => []
  | s, d, .cons c k r => (s, c, d, k) :: Fo.trees (s + 1 + k.size) d r
theorem trees_starts : ∀ (f : Fo) (s d : Nat), (f.trees s d).map Prod.fst = f.starts s
  | .nil, _, _ => rfl
  | .cons c k r, s, d => by
    show s :: (r.trees (s + 1 + k.size) d).map Prod.fst = s :: _
    rw [trees_starts r]
theorem low_app {f : Fo} {d : Nat} {b : Doc} (h : Low d b) : Low (d + 1) (f.flat d ++ b) := by
  cases f with
  | nil => exact fun e r q => Nat.lt_succ_of_lt (h e r q)
  | cons c k r =>
    intro e r' q
    have q' : (c, d) :: (k.flat (d + 1) ++ r.flat d ++ b) = e :: r' := q
    injection q' with q1 _
    subst q1
    exact Nat.lt_succ_self _
theorem trees_at {doc : Doc} : ∀ (f : Fo) (s d : Nat) (b : Doc), doc.drop s = f.flat d ++ b → Low d b → ∀ t ∈ f.trees s d, NodeAt doc t.1 t.2.1 t.2.2.1 t.2.2.2
  | .nil, _, _, _, _, _, t, ht => nomatch ht
  | .cons c k r, s, d, b, e, l, t, ht => by
    have e' : doc.drop s = (c, d) :: (k.flat (d + 1) ++ (r.flat d ++ b)) := by
      rw [e]
      show (c, d) :: (k.flat (d + 1) ++ r.flat d) ++ b = _
      rw [List.cons_append, List.append_assoc]
    rcases List.mem_cons.mp (show t ∈ (s, c, d, k) :: r.trees (s + 1 + k.size) d from ht) with q | q
    · subst q
      exact ⟨_, e', low_app l⟩
    · refine trees_at r _ d b ?_ l t q
      have z := congrArg (List.drop (1 + k.size)) e'
      rw [List.drop_drop] at z
      rw [show s + 1 + k.size = s + (1 + k.size) by omega, z, Nat.add_comm 1 k.size]
      show (k.flat (d + 1) ++ (r.flat d ++ b)).drop k.size = _
      rw [← Fo.flat_len k (d + 1)]
      exact List.drop_left
/-! the sequence of the flipped document, by the nodes' numbers -/
def Fo.ord : Nat → Fo → List Nat
  | _, .nil => []
  | s, .cons _ k r => Fo.ord (s + 1 + k.size) r ++ s :: Fo.ord (s + 1) k
theorem ord_len : ∀ (f : Fo) (s : Nat), (f.ord s).length = f.size
  | .nil, _ => rfl
  | .cons c k r, s => by
    show (r.ord (s + 1 + k.size) ++ s :: k.ord (s + 1)).length = 1 + k.size + r.size
    rw [List.length_append, List.length_cons, ord_len r, ord_len k]
    omega
theorem ord_perm : ∀ (f : Fo) (s : Nat), (f.ord s).Perm (List.range' s f.size)
  | .nil, _ => List.Perm.nil
  | .cons c k r, s => by
    have e : List.range' s (1 + k.size + r.size) = s :: (List.range' (s + 1) k.size ++ List.range' (s + 1 + k.size) r.size) := by
      rw [show 1 + k.size + r.size = (k.size + r.size) + 1 by omega, List.range'_succ, List.range'_append_1]
    show (r.ord (s + 1 + k.size) ++ s :: k.ord (s + 1)).Perm (List.range' s (1 + k.size + r.size))
    rw [e]
    refine List.perm_append_comm.trans ?_
    rw [List.cons_append]
    exact List.Perm.cons _ ((ord_perm k (s + 1)).append (ord_perm r (s + 1 + k.size)))
theorem ord_flat {doc : Doc} : ∀ (f : Fo) (s d : Nat) (b : Doc), doc.drop s = f.flat d ++ b → (f.ord s).map (fun i => doc.getD i (0, 0)) = f.flip.flat d
  | .nil, _, _, _, _ => rfl
  | .cons c k r, s, d, b, e => by
    have e' : doc.drop s = (c, d) :: (k.flat (d + 1) ++ (r.flat d ++ b)) := by
      rw [e]
      show (c, d) :: (k.flat (d + 1) ++ r.flat d) ++ b = _
      rw [List.cons_append, List.append_assoc]
    have g : doc.getD s (0, 0) = (c, d) := by
      have q := congrArg (fun l : Doc => l[0]?) e'
      simp only [List.getElem?_drop, Nat.add_zero, List.getElem?_cons_zero] at q
      rw [List.getD_eq_getElem?_getD, q]
      rfl
    have e1 : doc.drop (s + 1) = k.flat (d + 1) ++ (r.flat d ++ b) := by
      have q := congrArg (List.drop 1) e'
      rw [List.drop_drop] at q
      exact q
    have e2 : doc.drop (s + 1 + k.size) = r.flat d ++ b := by
      have z := congrArg (List.drop k.size) e1
      rw [List.drop_drop] at z
      rw [z, ← Fo.flat_len k (d + 1)]
      exact List.drop_left
    show (r.ord (s + 1 + k.size) ++ s :: k.ord (s + 1)).map _ = (r.flip.app (.cons c k.flip .nil)).flat d
    rw [List.map_append, List.map_cons, ord_flat r _ d b e2, ord_flat k _ (d + 1) _ e1, g, Fo.flat_app]
    show _ = r.flip.flat d ++ ((c, d) :: (k.flip.flat (d + 1) ++ []))
    rw [List.append_nil]
theorem ord_top {f : Fo} : (f.ord 0).map (fun i => (f.flat 0).getD i (0, 0)) = f.flip.flat 0 := ord_flat f 0 0 [] (by rw [List.drop_zero, List.append_nil])
/-- what is still to be read when these wait, the last one first -/
def todo (L : List (Nat × Nat × Nat × Fo)) : List Nat := (L.reverse.map fun t => t.1 :: t.2.2.2.ord (t.1 + 1)).flatten
theorem todo_app (A B : List (Nat × Nat × Nat × Fo)) : todo (A ++ B) = todo B ++ todo A := by
  unfold todo
  rw [List.reverse_append, List.map_append, List.flatten_append]
theorem todo_one (t : Nat × Nat × Nat × Fo) : todo [t] = t.1 :: t.2.2.2.ord (t.1 + 1) := by
  unfold todo
  simp
theorem todo_ge : ∀ L : List (Nat × Nat × Nat × Fo), L.length ≤ (todo L).length
  | [] => Nat.zero_le _
  | x :: l => by
    have z : todo (x :: l) = todo l ++ todo [x] := todo_app [x] l
    rw [z, todo_one, List.length_append, List.length_cons]
    have := todo_ge l
    show l.length + 1 ≤ (todo l).length + ((x.2.2.2.ord (x.1 + 1)).length + 1)
    omega
theorem todo_trees : ∀ (f : Fo) (s d : Nat), todo (f.trees s d) = f.ord s
  | .nil, _, _ => rfl
  | .cons c k r, s, d => by
    show todo ([(s, c, d, k)] ++ r.trees (s + 1 + k.size) d) = _
    rw [todo_app, todo_trees r, todo_one]
    rfl

/-! ### the ways from the top -/
def ixIn (i : Nat) : List Nat → Nat
  | [] => 0
  | a :: r => if a = i then 0 else ixIn i r + 1
theorem ixIn_app {i : Nat} : ∀ {p t : List Nat}, i ∉ p → ixIn i (p ++ i :: t) = p.length
  | [], _, _ => if_pos rfl
  | a :: r, t, h => by
    show (if a = i then 0 else ixIn i (r ++ i :: t) + 1) = r.length + 1
    rw [if_neg (fun z : a = i => h (by rw [z]; exact List.mem_cons_self)), ixIn_app fun z => h (List.mem_cons_of_mem _ z)]
theorem ixIn_at {i : Nat} : ∀ {l : List Nat}, i ∈ l → l[ixIn i l]? = some i ∧ ∀ m, m < ixIn i l → l[m]? ≠ some i
  | a :: r, h => by
    show (a :: r)[if a = i then 0 else ixIn i r + 1]? = some i ∧ ∀ m, m < (if a = i then 0 else ixIn i r + 1) → (a :: r)[m]? ≠ some i
    by_cases e : a = i
    · subst e
      rw [if_pos rfl]
      exact ⟨rfl, fun m hm => absurd hm (Nat.not_lt_zero _)⟩
    · rw [if_neg e]
      have m' : i ∈ r := by
        rcases List.mem_cons.mp h with q | q
        · exact absurd q.symm e
        · exact q
      obtain ⟨h1, h2⟩ := ixIn_at m'
      refine ⟨by rw [List.getElem?_cons_succ]; exact h1, fun m hm => ?_⟩
      cases m with
      | zero => intro q; exact e (by simpa using q)
      | succ m => rw [List.getElem?_cons_succ]; exact h2 m (by omega)
def wayN (doc : Doc) : Nat → Nat → List Int
  | 0, _ => []
  | n + 1, i => (match lawPar doc i with | none => [] | some h => wayN doc n h) ++ [-((ixIn i (rowA doc doc.length (lawPar doc i)) : Nat) : Int)]
theorem wayN_len (doc : Doc) : ∀ (n i : Nat), (wayN doc n i).length ≤ n
  | 0, _ => Nat.zero_le _
  | n + 1, i => by
    show ((match lawPar doc i with | none => [] | some h => wayN doc n h) ++ _).length ≤ n + 1
    rw [List.length_append]
    cases lawPar doc i with
    | none => exact Nat.succ_le_succ (Nat.zero_le _)
    | some h => exact Nat.succ_le_succ (wayN_len doc n h)
def wayOf (doc : Doc) (i : Nat) : List Int := wayN doc (i + 1) i
theorem wayN_eq (doc : Doc) : ∀ (n m i : Nat), i < n → i < m → wayN doc n i = wayN doc m i
  | 0, _, _, h, _ => absurd h (Nat.not_lt_zero _)
  | _, 0, _, _, h => absurd h (Nat.not_lt_zero _)
  | n + 1, m + 1, i, h1, h2 => by
    show (match lawPar doc i with | none => [] | some h => wayN doc n h) ++ _ = (match lawPar doc i with | none => [] | some h => wayN doc m h) ++ _
    cases e : lawPar doc i with
    | none => rfl
    | some h =>
      have := par_lt e
      show wayN doc n h ++ _ = wayN doc m h ++ _
      rw [wayN_eq doc n m h (by omega) (by omega)]
def preOf (doc : Doc) : Option Nat → List Int
  | none => []
  | some h => wayOf doc h
theorem wayOf_eq (doc : Doc) (i : Nat) : wayOf doc i = preOf doc (lawPar doc i) ++ [-((ixIn i (rowA doc doc.length (lawPar doc i)) : Nat) : Int)] := by
  show (match lawPar doc i with | none => [] | some h => wayN doc i h) ++ _ = _
  cases e : lawPar doc i with
  | none => rfl
  | some h =>
    have := par_lt e
    show wayN doc i h ++ _ = wayN doc (h + 1) h ++ _
    rw [wayN_eq doc i (h + 1) h this (Nat.lt_succ_self _)]
/-! the sequence of ways -/
def ltZ : List Int → List Int → Bool
  | [], [] => false
  | [], _ :: _ => true
  | _ :: _, [] => false
  | a :: r, b :: t => if a = b then ltZ r t else decide (a < b)
theorem ltZ_pre : ∀ (p a b : List Int), ltZ (p ++ a) (p ++ b) = ltZ a b
  | [], _, _ => rfl
  | x :: p, a, b => by
    show (if x = x then ltZ (p ++ a) (p ++ b) else _) = _
    rw [if_pos rfl, ltZ_pre p a b]
theorem starts_ge : ∀ (f : Fo) (s : Nat), ∀ x ∈ f.starts s, s ≤ x
  | .nil, _, _, h => nomatch h
  | .cons c k r, s, x, h => by
    rcases List.mem_cons.mp (show x ∈ s :: r.starts (s + 1 + k.size) from h) with q | q
    · omega
    · have := starts_ge r _ x q
      omega
/-- the ways of a forest whose row goes on with it -/
theorem ways_ord {doc : Doc} (ok : okFrom 0 doc) : ∀ (f : Fo) (s d : Nat) (b : Doc) (o : Option Nat) (pre : List Nat), doc.drop s = f.flat d ++ b → Low d b →
    rowA doc doc.length o = pre ++ f.starts s → (∀ x ∈ pre, x < s) →
    (∀ x ∈ f.ord s, ∃ (j : Nat) (t : List Int), pre.length ≤ j ∧ wayOf doc x = preOf doc o ++ (-(j : Int)) :: t) ∧
    (f.ord s).Pairwise fun x y => ltZ (wayOf doc x) (wayOf doc y) = true
  | .nil, _, _, _, _, _, _, _, _, _ => ⟨fun _ h => (nomatch h), List.Pairwise.nil⟩
  | .cons c k r, s, d, b, o, pre, e, l, row, low => by
    have tr := trees_at (.cons c k r) s d b e l
    have n0 : NodeAt doc s c d k := tr (s, c, d, k) List.mem_cons_self
    have e' : doc.drop s = (c, d) :: (k.flat (d + 1) ++ (r.flat d ++ b)) := by
      rw [e]
      show (c, d) :: (k.flat (d + 1) ++ r.flat d) ++ b = _
      rw [List.cons_append, List.append_assoc]
    have e1 : doc.drop (s + 1) = k.flat (d + 1) ++ (r.flat d ++ b) := by
      have q := congrArg (List.drop 1) e'
      rw [List.drop_drop] at q
      exact q
    have e2 : doc.drop (s + 1 + k.size) = r.flat d ++ b := by
      have z := congrArg (List.drop k.size) e1
      rw [List.drop_drop] at z
      rw [z, ← Fo.flat_len k (d + 1)]
      exact List.drop_left
    have row' : rowA doc doc.length o = pre ++ s :: r.starts (s + 1 + k.size) := row
    have sm : s ∈ rowA doc doc.length o := by
      rw [row']
      exact List.mem_append_right _ List.mem_cons_self
    have ps : lawPar doc s = o := by
      have := (List.mem_filter.mp sm).2
      exact of_decide_eq_true this
    have snp : s ∉ pre := fun z => absurd (low s z) (Nat.lt_irrefl _)
    have ws : wayOf doc s = preOf doc o ++ [-(pre.length : Int)] := by
      rw [wayOf_eq, ps, row', ixIn_app snp]
    have rowk : rowA doc doc.length (some s) = [] ++ k.starts (s + 1) := by
      rw [List.nil_append, ← n0.row, rowOf_eq ok fun i hi => by cases hi; exact n0.lt]
      rfl
    obtain ⟨k1, k2⟩ := ways_ord ok k (s + 1) (d + 1) _ (some s) [] e1 (low_app l) rowk (fun _ h => nomatch h)
    have rowr : rowA doc doc.length o = (pre ++ [s]) ++ r.starts (s + 1 + k.size) := by
      rw [row', List.append_assoc]
      rfl
    obtain ⟨r1, r2⟩ := ways_ord ok r _ d b o (pre ++ [s]) e2 l rowr (fun x hx => by
      rcases List.mem_append.mp hx with q | q
      · have := low x q; omega
      · rw [List.mem_singleton.mp q]; omega)
    have kw : ∀ x ∈ k.ord (s + 1), ∃ (t : List Int), t ≠ [] ∧ wayOf doc x = preOf doc o ++ (-(pre.length : Int)) :: t := fun x hx => by
      obtain ⟨j, t, _, hw⟩ := k1 x hx
      refine ⟨(-(j : Int)) :: t, List.cons_ne_nil _ _, ?_⟩
      rw [hw]
      show wayOf doc s ++ _ = _
      rw [ws, List.append_assoc]
      rfl
    have here : ∀ x ∈ s :: k.ord (s + 1), ∃ (t : List Int), wayOf doc x = preOf doc o ++ (-(pre.length : Int)) :: t := fun x hx => by
      rcases List.mem_cons.mp hx with q | q
      · subst q; exact ⟨[], ws⟩
      · obtain ⟨t, _, h⟩ := kw x q
        exact ⟨t, h⟩
    refine ⟨fun x hx => ?_, ?_⟩
    · rcases List.mem_append.mp (show x ∈ r.ord (s + 1 + k.size) ++ s :: k.ord (s + 1) from hx) with q | q
      · obtain ⟨j, t, h1, h2⟩ := r1 x q
        rw [List.length_append] at h1
        exact ⟨j, t, Nat.le_of_succ_le h1, h2⟩
      · obtain ⟨t, h⟩ := here x q
        exact ⟨_, t, Nat.le_refl _, h⟩
    · show (r.ord (s + 1 + k.size) ++ s :: k.ord (s + 1)).Pairwise _
      refine List.pairwise_append.mpr ⟨r2, List.pairwise_cons.mpr ⟨fun y hy => ?_, k2⟩, fun x hx y hy => ?_⟩
      · obtain ⟨t, tn, h⟩ := kw y hy
        rw [ws, h, ltZ_pre]
        show (if _ = _ then ltZ [] t else _) = true
        rw [if_pos rfl]
        cases t with
        | nil => exact absurd rfl tn
        | cons _ _ => rfl
      · obtain ⟨j, t, h1, h2⟩ := r1 x hx
        obtain ⟨u, h3⟩ := here y hy
        rw [List.length_append] at h1
        have h1' : pre.length + 1 ≤ j := h1
        rw [h2, h3, ltZ_pre]
        show (if (-(j : Int)) = -(pre.length : Int) then _ else decide ((-(j : Int)) < -(pre.length : Int))) = true
        rw [if_neg (by omega)]
        exact decide_eq_true (by omega)
theorem ways_top {f : Fo} (ok : okFrom 0 (f.flat 0)) : (f.ord 0).Pairwise fun x y => ltZ (wayOf (f.flat 0) x) (wayOf (f.flat 0) y) = true := by
  refine (ways_ord ok f 0 0 [] none [] (by rw [List.drop_zero, List.append_nil]) (fun _ _ h => nomatch h) ?_ (fun _ h => nomatch h)).2
  rw [List.nil_append, ← row_top, rowOf_eq ok fun i hi => by cases hi]
  rfl
/-- two rows of the same things, both in sequence, are one -/
theorem row_uniq {α : Type} {le : α → α → Prop} (anti : ∀ a b, le a b → le b a → a = b) : ∀ {l m : List α}, l.Pairwise le → m.Pairwise le → l.Perm m → l = m
  | [], m, _, _, p => (List.nil_perm.mp p).symm
  | a :: l, [], _, _, p => absurd (List.perm_nil.mp p) (List.cons_ne_nil _ _)
  | a :: l, b :: m, h1, h2, p => by
    have e : a = b := by
      have ha : a ∈ b :: m := p.mem_iff.mp List.mem_cons_self
      have hb : b ∈ a :: l := p.mem_iff.mpr List.mem_cons_self
      rcases List.mem_cons.mp ha with q | q
      · exact q
      · rcases List.mem_cons.mp hb with z | z
        · exact z.symm
        · exact anti a b ((List.pairwise_cons.mp h1).1 b z) ((List.pairwise_cons.mp h2).1 a q)
    subst e
    rw [row_uniq anti (List.pairwise_cons.mp h1).2 (List.pairwise_cons.mp h2).2 ((List.perm_cons a).mp p)]

/-! ### flipped -/
theorem nil_or_snoc {α : Type} : ∀ l : List α, l = [] ∨ ∃ a x, l = a ++ [x]
  | [] => .inl rfl
  | x :: l => .inr (match nil_or_snoc l with
    | .inl h => ⟨[], x, by rw [h]; rfl⟩
    | .inr ⟨a, y, h⟩ => ⟨x :: a, y, by rw [h]; rfl⟩)
theorem last_snoc {α : Type} (a : List α) (x : α) : (a ++ [x])[(a ++ [x]).length - 1]? = some x := by
  rw [List.length_append, List.length_singleton, Nat.add_sub_cancel, List.getElem?_append_right (Nat.le_refl _), Nat.sub_self]
  rfl
def spFlip : Sp := fun vs H Q _ => ∃ (p : Addr) (f : Fo), vs = [.ref p] ∧ DocAt H p (f.flat 0) ∧ okFrom 0 (f.flat 0) ∧ (f.flat 0).length ≤ 20000 ∧
  ∀ (H' : Hp) (q : Addr), Same H H' → H q = none → DocAt H' q (f.flip.flat 0) → Q (.ref q) H'
theorem rowA_top (f : Fo) (ok : okFrom 0 (f.flat 0)) : rowA (f.flat 0) (f.flat 0).length none = (f.trees 0 0).map Prod.fst := by
  rw [trees_starts, ← row_top, rowOf_eq ok fun i hi => by cases hi]
  rfl
theorem rowA_node {doc : Doc} (ok : okFrom 0 doc) {v c d : Nat} {k : Fo} (h : NodeAt doc v c d k) : rowA doc doc.length (some v) = (k.trees (v + 1) (d + 1)).map Prod.fst := by
  rw [trees_starts, ← h.row, rowOf_eq ok fun i hi => by cases hi; exact h.lt]
  rfl
section
variable {P : Program} {w : World} {K : PySem.W.Frag} {mg : Str → Option Value} {base : Heap}
theorem ok_flip (S : Docs K mg) (Dp : Dn K mg "parents_in" sParents pDocu) (Drs : Dn K mg "rows_in" sRows pDocu) (D : Dn K mg "flipped" sFlip pDocu) : FnOk P w K mg base CX0 6 D.f D.fd pDocu spFlip := by
  have T := S.T
  have GC : FnOk P w K mg base CX0 5 S.chk.f S.chk.fd pThing spChkDocV := S.ok
  have GR : FnOk P w K mg base CX0 2 Drs.f Drs.fd pDocu (spRows P w) := ok_rows T Dp Drs
  have sc : FnScope ["document", "rows", "waiting", "entries", "node"] pDocu (defScope sFlip) := ⟨rfl, rfl, rfl, by decide +kernel, rfl, by decide +kernel, by decide +kernel⟩
  refine D.F.ok sc (fun vs H Q E h => ?_) (fun cdv A outer s H vs Q E hr h => ?_)
  · obtain ⟨p, doc, rfl, _⟩ := h
    rfl
  · obtain ⟨p, f, rfl, hd, ok, hl, k⟩ := h
    refine ⟨_, pss_cons (ps_expr (de_call S.chk GC hr (pa_cons (pv 0) pa_nil)))
      (pss_cons (ps_set (i := 1) sc.nd rfl (.inl rfl) (de_call Drs GR hr (pa_cons (pv 0) pa_nil)))
      (pss_cons (ps_set (i := 2) sc.nd rfl (.inl rfl) (pe_callTy call_list_of (by rfl) T.list b_list (pa_cons (pe_dgetN P w (pv 1) pe_non (fun _ _ => rfl)) pa_nil)))
      (pss_cons (ps_set (i := 3) sc.nd rfl (.inl rfl) (pe_lst pa_nil))
      (pss_cons (ps_while PassesOwn.never (pt_truth (pv 2) (fun _ => rfl))
        (pss_cons (ps_set (i := 4) sc.nd rfl (.inl rfl) (pe_bm0 PySem.F.plainAttrs_list PySem.F.slot_list_pop PySem.F.type_list_pop mt_pop (pv 2)))
        (pss_cons (ps_expr (pe_bm PySem.F.plainAttrs_list PySem.F.slot_list_append PySem.F.type_list_append mt_append (pv 3) (pa_cons (pe_ix ix_tup (pv 0) (pv 4) (fun _ _ => rfl)) pa_nil)))
        (pss_one (ps_expr (pe_bm PySem.F.plainAttrs_list PySem.F.slot_list_extend PySem.F.type_list_extend mt_extend (pv 2) (pa_cons (pe_dgetN P w (pv 1) (pv 4) (fun _ _ => rfl)) pa_nil)))))))
      (pss_one (ps_ret (pe_callTy call_tuple_of (by rfl) T.tuple b_tuple (pa_cons (pv 3) pa_nil)))))))), ?_⟩
    have line : 100000 ≤ sizeLine := by decide
    refine ⟨_, rfl, p, _, rfl, hd, ok, hl, ?_⟩
    refine ⟨_, rfl, p, _, rfl, hd, ok, hl, fun H1 d ep as s1 hd0 al ed rows => ?_⟩
    have row_at : ∀ (H' : Hp), Same H1 H' → ∀ o : Option Nat, (∀ j, o = some j → j < (f.flat 0).length) → ∃ a, valV (rowsK 0 as) (keyL (idx o)) = some (.ref a) ∧ H' a = some (.lst (nV (rowA (f.flat 0) (f.flat 0).length o))) ∧ H1 a = some (.lst (nV (rowA (f.flat 0) (f.flat 0).length o))) := by
      intro H' sm o ho
      have il : idx o < as.length := by
        rw [al]
        cases o with
        | none => exact Nat.zero_lt_succ _
        | some j => exact Nat.succ_lt_succ (ho j rfl)
      have q := rows _ _ (List.getElem?_eq_getElem il)
      rw [keyO_idx] at q
      have v := rowsK_val (j := 0) (List.getElem?_eq_getElem il)
      rw [Nat.zero_add] at v
      exact ⟨_, v, sm _ _ q, q⟩
    obtain ⟨a0, v0, r0, _⟩ := row_at H1 (fun _ _ e => e) none (fun _ h => nomatch h)
    refine ⟨_, rfl, d, ep, _, keyL (idx none), .ref a0, rfl, ed, rfl, v0, a0, _, rfl, .inl (SqL.of r0), fun wq hw => ?_⟩
    refine ⟨Nat.zero_le _, fun e he => ?_⟩
    have we : wq ≠ e := fun z => by subst z; rw [upd_same] at he; cases he
    have he1 : H1 e = none := by rw [upd_ne we.symm] at he; exact he
    have wH : H wq = none := s1.free hw
    have eH : H e = none := s1.free he1
    dsimp only [gName, tSeq]
    refine while_by (fun σ H' => ∃ (L : List (Nat × Nat × Nat × Fo)) (out : List Nat) (vs : List V) (b : Option V), σ = [some (.ref p), some (.ref d), some (.ref wq), some (.ref e), b] ∧ Same H1 H' ∧
        H' wq = some (.lst (nV (L.map Prod.fst))) ∧ H' e = some (.lst vs) ∧ EntsAt H' vs (out.map fun i => (f.flat 0).getD i (0, 0)) ∧ (∀ t ∈ L, NodeAt (f.flat 0) t.1 t.2.1 t.2.2.1 t.2.2.2) ∧ out ++ todo L = f.ord 0)
      (fun (σ : L2.St) H' => match H' e with | some (.lst vs) => (f.flat 0).length - vs.length | _ => 0) ?_ ?_ ?_
    · refine ⟨f.trees 0 0, [], [], none, rfl, fun b o q => ?_, ?_, upd_same, .nil, trees_at f 0 0 [] (by rw [List.drop_zero, List.append_nil]) (fun _ _ h => nomatch h), todo_trees f 0 0⟩
      · rw [upd_ne (ne_of_none q he1), upd_ne (ne_of_none q hw)]
        exact q
      · rw [upd_ne we, upd_same, rowA_top f ok]
    · rintro σ H2 ⟨L, out, vs, b, rfl, s2, ew, ee, ents, nodes, eq⟩
      have vl : vs.length = out.length := by rw [Paired.length ents, List.length_map]
      have ol : out.length + (todo L).length = (f.flat 0).length := by
        have := congrArg List.length eq
        rw [List.length_append, ord_len] at this
        rw [this, Fo.flat_len]
      rcases nil_or_snoc L with rfl | ⟨L', t, rfl⟩
      · refine ⟨_, rfl, _, .inl ⟨_, SqL.of ew, rfl⟩, ?_⟩
        refine iteF ?_
        have oe : out = f.ord 0 := by
          rw [← eq]
          exact (List.append_nil _).symm
        rw [oe, ord_top] at ents
        refine ⟨_, rfl, e, vs, rfl, .inl ⟨SqL.of ee, fun q hq => ?_⟩⟩
        exact k _ q ((s1.trans s2).trans (Same.new hq)) ((s1.trans s2).free hq) ⟨vs, upd_same, ents.mono (new_tups hq)⟩
      · have nt := nodes t (List.mem_append_right _ List.mem_cons_self)
        have e1 : nV ((L' ++ [t]).map Prod.fst) = nV (L'.map Prod.fst) ++ [.int (t.1 : Nat)] := by
          unfold nV
          rw [List.map_append, List.map_append]
          rfl
        rw [e1] at ew
        have e2 : (!(nV (L'.map Prod.fst) ++ [V.int (t.1 : Nat)]).isEmpty) = true := by
          cases nV (L'.map Prod.fst) <;> rfl
        refine ⟨_, rfl, _, .inl ⟨_, SqL.of ew, rfl⟩, ?_⟩
        rw [e2]
        refine iteT ?_
        -- the node is taken
        refine ⟨_, rfl, .inl ⟨rfl, _, SqL.of ew⟩, wq, _, _, rfl, rfl, ew, last_snoc _ _, ?_⟩
        rw [List.dropLast_concat]
        have wo : ∀ b o, b ≠ wq → H2 b = some o → (upd H2 wq (.lst (nV (L'.map Prod.fst)))) b = some o := fun b o n q => by rw [upd_ne n]; exact q
        have s3 : Same H1 (upd H2 wq (.lst (nV (L'.map Prod.fst)))) := fun b o q => wo b o (ne_of_none q hw) (s2 b o q)
        have ew3 : (upd H2 wq (.lst (nV (L'.map Prod.fst)))) wq = some (.lst (nV (L'.map Prod.fst))) := upd_same
        have ee3 := wo e _ we.symm ee
        have ents3 : EntsAt (upd H2 wq (.lst (nV (L'.map Prod.fst)))) vs (out.map fun i => (f.flat 0).getD i (0, 0)) := ents.mono (upd_tups ew)
        generalize upd H2 wq (.lst (nV (L'.map Prod.fst))) = H3 at s3 ew3 ee3 ents3
        have td : todo (L' ++ [t]) = t.1 :: (t.2.2.2.ord (t.1 + 1) ++ todo L') := by
          rw [todo_app, todo_one]
          rfl
        rw [td] at ol eq
        have ol' : out.length + ((t.2.2.2.ord (t.1 + 1) ++ todo L').length + 1) = (f.flat 0).length := ol
        obtain ⟨ws, r, c, g1, g2, g3, _, g5⟩ := ((hd.same s1).same s3).ent nt.lt
        refine ⟨_, rfl, .inl ⟨rfl, _, SqL.of ee3⟩, _, rfl, _, rfl, p, ws, _, _, rfl, rfl, SqT.of g1, atI_nat g2, e, _, _, rfl, rfl, ee3, by omega, ?_⟩
        have eo : ∀ b o, b ≠ e → H3 b = some o → (upd H3 e (.lst (vs ++ [.ref r]))) b = some o := fun b o n q => by rw [upd_ne n]; exact q
        have s4 : Same H1 (upd H3 e (.lst (vs ++ [.ref r]))) := fun b o q => eo b o (ne_of_none q he1) (s3 b o q)
        have ew4 := eo wq _ we ew3
        have ee4 : (upd H3 e (.lst (vs ++ [.ref r]))) e = some (.lst (vs ++ [.ref r])) := upd_same
        have ents4 : EntsAt (upd H3 e (.lst (vs ++ [.ref r]))) (vs ++ [.ref r]) ((out ++ [t.1]).map fun i => (f.flat 0).getD i (0, 0)) := by
          rw [List.map_append]
          refine Paired.snoc (ents3.mono (upd_tups ee3)) ⟨r, rfl, ?_⟩
          rw [eo r _ (ne_of g3 ee3 (fun z => nomatch z)) g3, g5]
          rfl
        generalize upd H3 e (.lst (vs ++ [.ref r])) = H4 at s4 ew4 ee4 ents4
        obtain ⟨a, va, ra, ra1⟩ := row_at H4 s4 (some t.1) (fun j hj => by cases hj; exact nt.lt)
        have rk := rowA_node ok nt
        have rl := rowA_len (f.flat 0) (f.flat 0).length (some t.1)
        refine ⟨_, rfl, .inl ⟨rfl, _, SqL.of ew4⟩, _, rfl, _, rfl, d, ep, _, keyL (idx (some t.1)), .ref a, rfl, s4 _ _ ed, rfl, va, wq, a, _, _, rfl, rfl, ew4, ra, ?_, ?_, ?_⟩
        · have l1 := todo_ge L'
          rw [List.length_append] at ol'
          have l2 : (rowA (f.flat 0) (f.flat 0).length (some t.1)).length ≤ (f.flat 0).length := rl
          unfold nV
          rw [List.length_map, List.length_map, List.length_map]
          omega
        · have wo4 : ∀ b o, b ≠ wq → H4 b = some o → (upd H4 wq (.lst (nV (L'.map Prod.fst) ++ nV (rowA (f.flat 0) (f.flat 0).length (some t.1))))) b = some o := fun b o n q => by rw [upd_ne n]; exact q
          refine ⟨L' ++ t.2.2.2.trees (t.1 + 1) (t.2.2.1 + 1), out ++ [t.1], _, _, rfl, fun b o q => wo4 b o (ne_of_none q hw) (s4 b o q), ?_, wo4 e _ we.symm ee4, ents4.mono (upd_tups ew4), fun u hu => ?_, ?_⟩
          · rw [upd_same, rk]
            unfold nV
            rw [List.map_append, List.map_append]
          · rcases List.mem_append.mp hu with q | q
            · exact nodes u (List.mem_append_left _ q)
            · obtain ⟨bb, e5, low⟩ := nt.next
              exact trees_at _ _ _ bb e5 low u q
          · rw [todo_app, todo_trees, List.append_assoc, ← eq]
            rfl
        · rw [upd_ne we.symm, ee4, ee]
          show (f.flat 0).length - (vs ++ [V.ref r]).length < (f.flat 0).length - vs.length
          rw [List.length_append, List.length_singleton]
          omega
    · intro σ H' Q1 Q2 fq q
      obtain ⟨x, hx, b, hb, q⟩ := q
      exact ⟨x, hx, b, hb, fq _ _ q⟩
end

/-! ### nodes, one by one: sizes, depths, breadths -/
def Fo.cnt : Fo → Nat
  | .nil => 0
  | .cons _ _ r => 1 + r.cnt
def Fo.deep : Fo → Nat
  | .nil => 0
  | .cons _ k r => max (1 + k.deep) r.deep
/-- the longest row below a node -/
def Fo.br : Fo → Nat
  | .nil => 0
  | .cons _ k r => max (max k.cnt k.br) r.br
/-- all nodes, where they stand -/
def Fo.nodes : Nat → Nat → Fo → List (Nat × Nat × Nat × Fo)
  | _, _, .nil => []
  | s, d, .cons c k r => (s, c, d, k) :: (Fo.nodes (s + 1) (d + 1) k ++ Fo.nodes (s + 1 + k.size) d r)
theorem nodes_fst : ∀ (f : Fo) (s d : Nat), (f.nodes s d).map Prod.fst = List.range' s f.size
  | .nil, _, _ => rfl
  | .cons c k r, s, d => by
    show s :: ((k.nodes (s + 1) (d + 1) ++ r.nodes (s + 1 + k.size) d).map Prod.fst) = _
    rw [List.map_append, nodes_fst k, nodes_fst r]
    show _ = List.range' s (1 + k.size + r.size)
    rw [show 1 + k.size + r.size = (k.size + r.size) + 1 by omega, List.range'_succ, List.range'_append_1]
theorem nodes_at {doc : Doc} : ∀ (f : Fo) (s d : Nat) (b : Doc), doc.drop s = f.flat d ++ b → Low d b → ∀ t ∈ f.nodes s d, NodeAt doc t.1 t.2.1 t.2.2.1 t.2.2.2
  | .nil, _, _, _, _, _, t, ht => nomatch ht
  | .cons c k r, s, d, b, e, l, t, ht => by
    have e' : doc.drop s = (c, d) :: (k.flat (d + 1) ++ (r.flat d ++ b)) := by
      rw [e]
      show (c, d) :: (k.flat (d + 1) ++ r.flat d) ++ b = _
      rw [List.cons_append, List.append_assoc]
    have e1 : doc.drop (s + 1) = k.flat (d + 1) ++ (r.flat d ++ b) := by
      have z := congrArg (List.drop 1) e'
      rw [List.drop_drop] at z
      exact z
    rcases List.mem_cons.mp (show t ∈ (s, c, d, k) :: (k.nodes (s + 1) (d + 1) ++ r.nodes (s + 1 + k.size) d) from ht) with q | q
    · subst q
      exact ⟨_, e', low_app l⟩
    · rcases List.mem_append.mp q with q | q
      · exact nodes_at k _ _ _ e1 (low_app l) t q
      · refine nodes_at r _ d b ?_ l t q
        have z := congrArg (List.drop k.size) e1
        rw [List.drop_drop, List.drop_left' (Fo.flat_len k (d + 1))] at z
        exact z
/-- each node has what stands below it -/
theorem node_ex {doc : Doc} (ok : okFrom 0 doc) {v : Nat} (hv : v < doc.length) : ∃ c d k, NodeAt doc v c d k := by
  obtain ⟨f, rfl⟩ := fo_ex ok
  rw [Fo.flat_len] at hv
  have m : v ∈ (f.nodes 0 0).map Prod.fst := by
    rw [nodes_fst]
    exact List.mem_range'_1.mpr ⟨Nat.zero_le _, by omega⟩
  obtain ⟨t, ht, rfl⟩ := List.mem_map.mp m
  exact ⟨_, _, _, nodes_at f 0 0 [] (by rw [List.drop_zero, List.append_nil]) (fun _ _ h => nomatch h) t ht⟩
theorem run_fo {d : Nat} : ∀ (a : Doc) (b : Doc), (∀ e ∈ a, d < e.2) → Low (d + 1) b → runLen d (a ++ b) = a.length
  | [], b, _, l => by
    cases b with
    | nil => rfl
    | cons e r =>
      obtain ⟨c, x⟩ := e
      have := l _ _ rfl
      show (if x ≤ d then 0 else _) = 0
      rw [if_pos (by omega)]
  | (c, x) :: a, b, h, l => by
    have hx : d < x := h _ List.mem_cons_self
    show (if x ≤ d then 0 else 1 + runLen d (a ++ b)) = a.length + 1
    rw [if_neg (by omega), run_fo a b (fun e he => h e (List.mem_cons_of_mem _ he)) l]
    omega
theorem NodeAt.run {doc : Doc} {v c d : Nat} {k : Fo} (h : NodeAt doc v c d k) : dep doc v = d ∧ runLen (dep doc v) (doc.drop (v + 1)) = k.size := by
  have ed : dep doc v = d := by
    show (doc.getD v (0, 0)).2 = d
    rw [h.get]
  obtain ⟨b, e, l⟩ := h.next
  refine ⟨ed, ?_⟩
  rw [ed, e, run_fo _ _ (fun x hx => Fo.flat_ge k (d + 1) x hx) l, Fo.flat_len]
theorem less_flat : ∀ (k : Fo) (d e : Nat), less d (k.flat (d + e)) = k.flat e
  | .nil, _, _ => rfl
  | .cons c k r, d, e => by
    show (c, d + e - d) :: less d (k.flat (d + e + 1) ++ r.flat (d + e)) = (c, e) :: (k.flat (e + 1) ++ r.flat e)
    unfold less
    rw [List.map_append]
    have h1 := less_flat k d (e + 1)
    have h2 := less_flat r d e
    unfold less at h1 h2
    rw [show d + e + 1 = d + (e + 1) by omega, h1, h2, show d + e - d = e by omega]
theorem NodeAt.piece {doc : Doc} {v c d : Nat} {k : Fo} (h : NodeAt doc v c d k) : pieceOf doc v = (Fo.cons c k .nil).flat 0 := by
  obtain ⟨ed, er⟩ := h.run
  obtain ⟨b, e, l⟩ := h.next
  unfold pieceOf deepOf
  rw [er, h.get, ed, e, List.take_append_of_le_length (by rw [Fo.flat_len]; exact Nat.le_refl _), List.take_of_length_le (by rw [Fo.flat_len]; exact Nat.le_refl _), less_flat k d 1]
  show (c, 0) :: k.flat 1 = (c, 0) :: (k.flat 1 ++ [])
  rw [List.append_nil]
theorem NodeAt.size {doc : Doc} {v c d : Nat} {k : Fo} (h : NodeAt doc v c d k) : lawSize doc v = 1 + k.size := by
  unfold lawSize
  rw [h.run.2]
theorem NodeAt.kids {doc : Doc} {v c d : Nat} {k : Fo} (h : NodeAt doc v c d k) : ∀ t ∈ k.trees (v + 1) (d + 1), NodeAt doc t.1 t.2.1 t.2.2.1 t.2.2.2 := by
  obtain ⟨b, e, l⟩ := h.next
  exact trees_at k _ _ b e l
theorem deep_flat : ∀ (f : Fo) (d : Nat), maxN ((f.flat d).map fun e => e.2 + 1) = if f.cnt = 0 then 0 else d + f.deep
  | .nil, _ => rfl
  | .cons c k r, d => by
    show max (d + 1) (maxN ((k.flat (d + 1) ++ r.flat d).map fun e => e.2 + 1)) = _
    have app : ∀ a b : List Nat, maxN (a ++ b) = max (maxN a) (maxN b) := by
      intro a b
      induction a with
      | nil => show maxN b = max 0 (maxN b); omega
      | cons x a ih =>
        show max x (maxN (a ++ b)) = max (max x (maxN a)) (maxN b)
        rw [ih]
        omega
    rw [List.map_append, app, deep_flat k, deep_flat r]
    show _ = if 1 + r.cnt = 0 then 0 else d + max (1 + k.deep) r.deep
    rw [if_neg (show ¬ (1 + r.cnt = 0) by omega)]
    have kd : k.cnt = 0 → k.deep = 0 := by cases k with | nil => exact fun _ => rfl | cons _ _ r => exact fun z => absurd (show 1 + r.cnt = 0 from z) (by omega)
    have rd : r.cnt = 0 → r.deep = 0 := by cases r with | nil => exact fun _ => rfl | cons _ _ r => exact fun z => absurd (show 1 + r.cnt = 0 from z) (by omega)
    by_cases q1 : k.cnt = 0 <;> by_cases q2 : r.cnt = 0
    · rw [if_pos q1, if_pos q2, kd q1, rd q2]; omega
    · rw [if_pos q1, if_neg q2, kd q1]; omega
    · rw [if_neg q1, if_pos q2, rd q2]; omega
    · rw [if_neg q1, if_neg q2]; omega
theorem depth_fo (f : Fo) : depthM (f.flat 0) = f.deep := by
  unfold depthM
  rw [deep_flat]
  by_cases q : f.cnt = 0
  · rw [if_pos q]
    cases f with
    | nil => rfl
    | cons c k r => exact absurd (show 1 + r.cnt = 0 from q) (by omega)
  · rw [if_neg q, Nat.zero_add]
theorem trees_len : ∀ (f : Fo) (s d : Nat), (f.trees s d).length = f.cnt
  | .nil, _, _ => rfl
  | .cons c k r, s, d => by
    show (r.trees _ d).length + 1 = 1 + r.cnt
    rw [trees_len r]
    omega
theorem br_nodes : ∀ (f : Fo) (s d : Nat), f.br = maxN ((f.nodes s d).map fun t => t.2.2.2.cnt)
  | .nil, _, _ => rfl
  | .cons c k r, s, d => by
    have app : ∀ a b : List Nat, maxN (a ++ b) = max (maxN a) (maxN b) := by
      intro a b
      induction a with
      | nil => show maxN b = max 0 (maxN b); omega
      | cons x a ih =>
        show max x (maxN (a ++ b)) = max (max x (maxN a)) (maxN b)
        rw [ih]
        omega
    show max (max k.cnt k.br) r.br = max k.cnt (maxN ((k.nodes (s + 1) (d + 1) ++ r.nodes (s + 1 + k.size) d).map fun t => t.2.2.2.cnt))
    rw [List.map_append, app, ← br_nodes k, ← br_nodes r]
    omega
theorem breadth_fo {f : Fo} (ok : okFrom 0 (f.flat 0)) : breadthM (f.flat 0) = max f.cnt f.br := by
  have rowt : (rowA (f.flat 0) (f.flat 0).length none).length = f.cnt := by
    rw [rowA_top f ok, List.length_map, trees_len]
  have at_ : ∀ t ∈ f.nodes 0 0, (rowA (f.flat 0) (f.flat 0).length (some t.1)).length = t.2.2.2.cnt := fun t ht => by
    have := nodes_at (doc := f.flat 0) f 0 0 [] (by rw [List.drop_zero, List.append_nil]) (fun _ _ h => nomatch h) t ht
    rw [rowA_node ok this, List.length_map, trees_len]
  have all : ∀ v, v < (f.flat 0).length → ∃ t ∈ f.nodes 0 0, t.1 = v := fun v hv => by
    have m : v ∈ (f.nodes 0 0).map Prod.fst := by
      rw [nodes_fst]
      rw [Fo.flat_len] at hv
      exact List.mem_range'_1.mpr ⟨Nat.zero_le _, by omega⟩
    obtain ⟨t, ht, e⟩ := List.mem_map.mp m
    exact ⟨t, ht, e⟩
  apply Nat.le_antisymm
  · refine maxN_le fun x hx => ?_
    obtain ⟨j, hj, rfl⟩ := List.mem_map.mp hx
    have jl := List.mem_range.mp hj
    cases j with
    | zero =>
      show (rowA _ _ none).length ≤ _
      rw [rowt]
      omega
    | succ v =>
      obtain ⟨t, ht, rfl⟩ := all v (by omega)
      show (rowA _ _ (some t.1)).length ≤ _
      rw [at_ t ht, br_nodes f 0 0]
      have := maxN_ge (List.mem_map.mpr ⟨t, ht, rfl⟩ : t.2.2.2.cnt ∈ (f.nodes 0 0).map fun t => t.2.2.2.cnt)
      omega
  · refine Nat.max_le.mpr ⟨?_, ?_⟩
    · rw [← rowt]
      exact maxN_ge (List.mem_map.mpr ⟨0, List.mem_range.mpr (Nat.succ_pos _), rfl⟩)
    · rw [br_nodes f 0 0]
      refine maxN_le fun x hx => ?_
      obtain ⟨t, ht, rfl⟩ := List.mem_map.mp hx
      rw [← at_ t ht]
      have m : t.1 ∈ (f.nodes 0 0).map Prod.fst := List.mem_map.mpr ⟨t, ht, rfl⟩
      rw [nodes_fst] at m
      have := (List.mem_range'_1.mp m).2
      refine maxN_ge (List.mem_map.mpr ⟨t.1 + 1, List.mem_range.mpr ?_, rfl⟩)
      rw [Fo.flat_len]
      omega
theorem trees_size : ∀ (f : Fo) (s d : Nat), f.size = ((f.trees s d).map fun t => 1 + t.2.2.2.size).sum
  | .nil, _, _ => rfl
  | .cons c k r, s, d => by
    show 1 + k.size + r.size = ((1 + k.size) :: (r.trees (s + 1 + k.size) d).map fun t => 1 + t.2.2.2.size).sum
    rw [List.sum_cons, ← trees_size r]
theorem trees_deep : ∀ (f : Fo) (s d : Nat), f.deep = maxN ((f.trees s d).map fun t => 1 + t.2.2.2.deep)
  | .nil, _, _ => rfl
  | .cons c k r, s, d => by
    show max (1 + k.deep) r.deep = max (1 + k.deep) (maxN _)
    rw [← trees_deep r]
theorem trees_br : ∀ (f : Fo) (s d : Nat), f.br = maxN ((f.trees s d).map fun t => max t.2.2.2.cnt t.2.2.2.br)
  | .nil, _, _ => rfl
  | .cons c k r, s, d => by
    show max (max k.cnt k.br) r.br = max (max k.cnt k.br) (maxN _)
    rw [← trees_br r]
/-- one size, depth, breadth after the other -/
theorem size_row {doc : Doc} (ok : okFrom 0 doc) {v : Nat} (hv : v < doc.length) : lawSize doc v = 1 + ((rowA doc doc.length (some v)).map (lawSize doc)).sum := by
  obtain ⟨c, d, k, h⟩ := node_ex ok hv
  rw [h.size, rowA_node ok h, List.map_map, trees_size k (v + 1) (d + 1)]
  congr 2
  refine List.map_congr_left fun t ht => ?_
  exact ((h.kids t ht).size).symm
def deepP (doc : Doc) (v : Nat) : Nat := depthM (pieceOf doc v)
def broadP (doc : Doc) (v : Nat) : Nat := breadthM (pieceOf doc v)
theorem NodeAt.deepP {doc : Doc} {v c d : Nat} {k : Fo} (h : NodeAt doc v c d k) : deepP doc v = 1 + k.deep := by
  unfold W.deepP
  rw [h.piece, depth_fo]
  show max (1 + k.deep) 0 = _
  omega
theorem NodeAt.broadP {doc : Doc} (ok : okFrom 0 doc) {v c d : Nat} {k : Fo} (h : NodeAt doc v c d k) : broadP doc v = max 1 (max k.cnt k.br) := by
  have o := ok_piece ok h.lt
  unfold W.broadP
  rw [h.piece] at o ⊢
  rw [breadth_fo o]
  show max (1 + 0) (max (max k.cnt k.br) 0) = _
  omega
theorem deep_row {doc : Doc} (ok : okFrom 0 doc) {v : Nat} (hv : v < doc.length) : deepP doc v = 1 + maxN (0 :: (rowA doc doc.length (some v)).map (deepP doc)) := by
  obtain ⟨c, d, k, h⟩ := node_ex ok hv
  rw [h.deepP, rowA_node ok h, List.map_map]
  have e : (k.trees (v + 1) (d + 1)).map (deepP doc ∘ Prod.fst) = (k.trees (v + 1) (d + 1)).map fun t => 1 + t.2.2.2.deep :=
    List.map_congr_left fun t ht => (h.kids t ht).deepP
  rw [e]
  show 1 + k.deep = 1 + max 0 (maxN _)
  rw [← trees_deep k]
  omega
theorem broad_row {doc : Doc} (ok : okFrom 0 doc) {v : Nat} (hv : v < doc.length) : broadP doc v = maxN (1 :: (rowA doc doc.length (some v)).length :: (rowA doc doc.length (some v)).map (broadP doc)) := by
  obtain ⟨c, d, k, h⟩ := node_ex ok hv
  rw [h.broadP ok, rowA_node ok h, List.map_map, List.length_map, trees_len]
  have e : (k.trees (v + 1) (d + 1)).map (broadP doc ∘ Prod.fst) = (k.trees (v + 1) (d + 1)).map fun t => max 1 (max t.2.2.2.cnt t.2.2.2.br) :=
    List.map_congr_left fun t ht => (h.kids t ht).broadP ok
  rw [e]
  show max 1 (max k.cnt k.br) = max 1 (max k.cnt (maxN _))
  have b := trees_br k (v + 1) (d + 1)
  generalize k.trees (v + 1) (d + 1) = l at b
  rw [b]
  apply Nat.le_antisymm
  · have : maxN (l.map fun t => max t.2.2.2.cnt t.2.2.2.br) ≤ maxN (l.map fun t => max 1 (max t.2.2.2.cnt t.2.2.2.br)) := maxN_le fun x hx => by
      obtain ⟨t, ht, rfl⟩ := List.mem_map.mp hx
      have := maxN_ge (List.mem_map.mpr ⟨t, ht, rfl⟩ : (max 1 (max t.2.2.2.cnt t.2.2.2.br)) ∈ l.map fun t => max 1 (max t.2.2.2.cnt t.2.2.2.br))
      omega
    omega
  · have : maxN (l.map fun t => max 1 (max t.2.2.2.cnt t.2.2.2.br)) ≤ max 1 (maxN (l.map fun t => max t.2.2.2.cnt t.2.2.2.br)) := maxN_le fun x hx => by
      obtain ⟨t, ht, rfl⟩ := List.mem_map.mp hx
      have := maxN_ge (List.mem_map.mpr ⟨t, ht, rfl⟩ : (max t.2.2.2.cnt t.2.2.2.br) ∈ l.map fun t => max t.2.2.2.cnt t.2.2.2.br)
      omega
    omega
theorem deep_all {doc : Doc} (ok : okFrom 0 doc) : depthM doc = maxN (0 :: (List.range doc.length).map (deepP doc)) := by
  apply Nat.le_antisymm
  · refine maxN_le fun x hx => ?_
    obtain ⟨e, he, rfl⟩ := List.mem_map.mp hx
    obtain ⟨f, rfl⟩ := fo_ex ok
    rcases Nat.eq_zero_or_pos f.cnt with z | z
    · cases f with
      | nil => cases he
      | cons c k r => exact absurd (show 1 + r.cnt = 0 from z) (by omega)
    · have q : e.2 + 1 ≤ f.deep := by
        have := maxN_ge (List.mem_map.mpr ⟨e, he, rfl⟩ : e.2 + 1 ∈ (f.flat 0).map fun e => e.2 + 1)
        rw [← depth_fo]
        exact this
      have : f.deep ≤ maxN (0 :: (List.range (f.flat 0).length).map (deepP (f.flat 0))) := by
        rw [trees_deep f 0 0]
        refine maxN_le fun x hx => ?_
        obtain ⟨t, ht, rfl⟩ := List.mem_map.mp hx
        have n := trees_at (doc := f.flat 0) f 0 0 [] (by rw [List.drop_zero, List.append_nil]) (fun _ _ h => nomatch h) t ht
        rw [← n.deepP]
        exact maxN_ge (List.mem_cons_of_mem _ (List.mem_map.mpr ⟨t.1, List.mem_range.mpr n.lt, rfl⟩))
      omega
  · refine maxN_le fun x hx => ?_
    rcases List.mem_cons.mp hx with rfl | hx
    · exact Nat.zero_le _
    obtain ⟨v, hv, rfl⟩ := List.mem_map.mp hx
    have vl := List.mem_range.mp hv
    obtain ⟨c, d, k, h⟩ := node_ex ok vl
    obtain ⟨b, e, l⟩ := h
    have h : NodeAt doc v c d k := ⟨b, e, l⟩
    rw [h.deepP]
    have m : (1 + k.deep) ≤ maxN (((c, d) :: k.flat (d + 1)).map fun e => e.2 + 1) := by
      show _ ≤ max (d + 1) (maxN ((k.flat (d + 1)).map fun e => e.2 + 1))
      rw [deep_flat]
      by_cases q : k.cnt = 0
      · have : k.deep = 0 := by cases k with | nil => rfl | cons _ _ r => exact absurd (show 1 + r.cnt = 0 from q) (by omega)
        rw [if_pos q]
        omega
      · rw [if_neg q]
        omega
    refine Nat.le_trans m (maxN_le fun y hy => ?_)
    obtain ⟨z, hz, rfl⟩ := List.mem_map.mp hy
    refine maxN_ge (List.mem_map.mpr ⟨z, List.mem_of_mem_drop (i := v) ?_, rfl⟩)
    rw [e]
    rcases List.mem_cons.mp hz with q | q
    · rw [q]; exact List.mem_cons_self
    · exact List.mem_cons_of_mem _ (List.mem_append_left _ q)
theorem broad_all {doc : Doc} (ok : okFrom 0 doc) (pos : 0 < doc.length) : breadthM doc = maxN ((rowA doc doc.length none).length :: (List.range doc.length).map (broadP doc)) := by
  obtain ⟨f, rfl⟩ := fo_ex ok
  rw [breadth_fo ok, rowA_top f ok, List.length_map, trees_len]
  have c1 : 1 ≤ f.cnt := by
    cases f with
    | nil => exact absurd pos (by decide)
    | cons c k r => show 1 ≤ 1 + r.cnt; omega
  show max f.cnt f.br = max f.cnt (maxN _)
  apply Nat.le_antisymm
  · have : f.br ≤ maxN ((List.range (f.flat 0).length).map (broadP (f.flat 0))) := by
      rw [trees_br f 0 0]
      refine maxN_le fun x hx => ?_
      obtain ⟨t, ht, rfl⟩ := List.mem_map.mp hx
      have n := trees_at (doc := f.flat 0) f 0 0 [] (by rw [List.drop_zero, List.append_nil]) (fun _ _ h => nomatch h) t ht
      have := n.broadP ok
      have m := maxN_ge (List.mem_map.mpr ⟨t.1, List.mem_range.mpr n.lt, rfl⟩ : broadP (f.flat 0) t.1 ∈ (List.range (f.flat 0).length).map (broadP (f.flat 0)))
      omega
    omega
  · have : maxN ((List.range (f.flat 0).length).map (broadP (f.flat 0))) ≤ max 1 f.br := by
      refine maxN_le fun x hx => ?_
      obtain ⟨v, hv, rfl⟩ := List.mem_map.mp hx
      have vl := List.mem_range.mp hv
      have m : v ∈ (f.nodes 0 0).map Prod.fst := by
        rw [nodes_fst]
        rw [Fo.flat_len] at vl
        exact List.mem_range'_1.mpr ⟨Nat.zero_le _, by omega⟩
      obtain ⟨t, ht, rfl⟩ := List.mem_map.mp m
      have n := nodes_at (doc := f.flat 0) f 0 0 [] (by rw [List.drop_zero, List.append_nil]) (fun _ _ h => nomatch h) t ht
      rw [n.broadP ok]
      have b1 := maxN_ge (List.mem_map.mpr ⟨t, ht, rfl⟩ : t.2.2.2.cnt ∈ (f.nodes 0 0).map fun t => t.2.2.2.cnt)
      rw [← br_nodes f 0 0] at b1
      have b2 : t.2.2.2.br ≤ f.br := by
        -- all nodes below a node are nodes
        have sub : ∀ (g : Fo) (s d : Nat), ∀ t ∈ g.nodes s d, t.2.2.2.br ≤ g.br := by
          intro g
          induction g with
          | nil => intro s d t ht; cases ht
          | cons c k r ihk ihr =>
            intro s d t ht
            rcases List.mem_cons.mp (show t ∈ (s, c, d, k) :: (k.nodes (s + 1) (d + 1) ++ r.nodes (s + 1 + k.size) d) from ht) with q | q
            · subst q
              show k.br ≤ max (max k.cnt k.br) r.br
              omega
            · rcases List.mem_append.mp q with q | q
              · have := ihk _ _ t q
                show _ ≤ max (max k.cnt k.br) r.br
                omega
              · have := ihr _ _ t q
                show _ ≤ max (max k.cnt k.br) r.br
                omega
        exact sub f 0 0 t ht
      omega
    omega
theorem broad_none {doc : Doc} (e : doc.length = 0) : breadthM doc = 0 := by
  cases doc with
  | nil => rfl
  | cons _ _ => cases e
/-! ### the walk -/
/-- the nodes that are still to come, the next one first -/
def comes (M : List (Nat × Nat × Nat × Fo)) : List Nat := (M.map fun t => List.range' t.1 (1 + t.2.2.2.size)).flatten
theorem comes_trees : ∀ (f : Fo) (s d : Nat), comes (f.trees s d) = List.range' s f.size
  | .nil, _, _ => rfl
  | .cons c k r, s, d => by
    show List.range' s (1 + k.size) ++ comes (r.trees (s + 1 + k.size) d) = List.range' s (1 + k.size + r.size)
    rw [comes_trees r, show s + 1 + k.size = s + (1 + k.size) by omega, List.range'_append_1]
theorem comes_next {t : Nat × Nat × Nat × Fo} {M : List (Nat × Nat × Nat × Fo)} {n m : Nat} (h : comes (t :: M) = List.range' n (m + 1)) (d : Nat) : t.1 = n ∧ comes (t.2.2.2.trees (t.1 + 1) d ++ M) = List.range' (n + 1) m := by
  have h' : List.range' t.1 (1 + t.2.2.2.size) ++ comes M = List.range' n (m + 1) := h
  rw [Nat.add_comm 1, List.range'_succ, List.range'_succ, List.cons_append] at h'
  injection h' with h1 h2
  refine ⟨h1, ?_⟩
  rw [← h2]
  unfold comes
  rw [List.map_append, List.flatten_append]
  congr 1
  exact comes_trees _ _ _
theorem comes_none {M : List (Nat × Nat × Nat × Fo)} (h : comes M = []) : M = [] := by
  cases M with
  | nil => rfl
  | cons t M =>
    have h' : List.range' t.1 (1 + t.2.2.2.size) ++ comes M = [] := h
    rw [Nat.add_comm 1, List.range'_succ] at h'
    cases h'
theorem trees_cnt_size : ∀ f : Fo, f.cnt ≤ f.size
  | .nil => Nat.le_refl _
  | .cons c k r => by
    have := trees_cnt_size r
    show 1 + r.cnt ≤ 1 + k.size + r.size
    omega
/-! ### the trees of a flipped forest -/
theorem trees_app : ∀ (f g : Fo) (s d : Nat), (f.app g).trees s d = f.trees s d ++ g.trees (s + f.size) d
  | .nil, g, s, d => rfl
  | .cons c k r, g, s, d => by
    show (s, c, d, k) :: (r.app g).trees (s + 1 + k.size) d = (s, c, d, k) :: (r.trees (s + 1 + k.size) d ++ g.trees (s + (1 + k.size + r.size)) d)
    rw [trees_app r g]
    congr 3
    omega
theorem trees_flip : ∀ (f : Fo) (s e d d' : Nat), (f.flip.trees e d').reverse.map (fun t => (t.2.1, t.2.2.2)) = (f.trees s d).map fun t => (t.2.1, t.2.2.2.flip)
  | .nil, _, _, _, _ => rfl
  | .cons c k r, s, e, d, d' => by
    show ((r.flip.app (.cons c k.flip .nil)).trees e d').reverse.map (fun t => (t.2.1, t.2.2.2)) = (c, k.flip) :: (r.trees (s + 1 + k.size) d).map fun t => (t.2.1, t.2.2.2.flip)
    rw [trees_app, List.reverse_append, List.map_append, trees_flip r (s + 1 + k.size)]
    rfl

/-! ### documents and things that are none, nodes and things that are none -/
theorem mark_char : ∀ z ∈ markTexts, ∃ c : Nat, z = ⟨#[c]⟩ ∧ 97 ≤ c ∧ c ≤ 104 := by
  intro z hz
  simp only [markTexts, List.mem_cons, List.not_mem_nil, or_false] at hz
  rcases hz with e | e | e | e | e | e | e | e <;> subst e
  · exact ⟨97, by decide +kernel, by decide, by decide⟩
  · exact ⟨98, by decide +kernel, by decide, by decide⟩
  · exact ⟨99, by decide +kernel, by decide, by decide⟩
  · exact ⟨100, by decide +kernel, by decide, by decide⟩
  · exact ⟨101, by decide +kernel, by decide, by decide⟩
  · exact ⟨102, by decide +kernel, by decide, by decide⟩
  · exact ⟨103, by decide +kernel, by decide, by decide⟩
  · exact ⟨104, by decide +kernel, by decide, by decide⟩
theorem rep_ent {K : PySem.W.Frag} {H : Hp} {v : V} {d : PD} {i : Int} (r : Rep K H v d) (h : entP d = some i) : ∃ (c n : Nat), EntAt H v (c, n) ∧ 97 ≤ c ∧ c ≤ 104 ∧ i = (n : Int) := by
  obtain ⟨m, rfl, hm, h0⟩ := ent_shape h
  obtain ⟨a, xs, rfl, ea, reps⟩ := r.tupOf
  obtain ⟨x, y, rfl, rx, ry⟩ := reps2 reps
  cases m with
  | str z =>
    have hz : z ∈ markTexts := of_decide_eq_true hm
    obtain ⟨c, rfl, c0, c1⟩ := mark_char z hz
    obtain ⟨n, rfl⟩ := Int.eq_ofNat_of_zero_le h0
    cases rx
    cases ry
    exact ⟨c, n, ⟨a, rfl, ea⟩, c0, c1, rfl⟩
  | _ => cases hm
theorem rep_ents {K : PySem.W.Frag} {H : Hp} : ∀ {vs : List V} {ds : List PD} {m : Nat}, Reps K H vs ds → docFrom (m : Int) ds = true → ∃ doc : Doc, EntsAt H vs doc ∧ okFrom m doc
  | _, _, _, .nil, _ => ⟨[], .nil, trivial⟩
  | _, _, m, .cons (d := d) (ds := ds) r t, h => by
    have h' : (match entP d with | none => false | some i => if (m : Int) < i then false else docFrom (i + 1) ds) = true := h
    cases e : entP d with
    | none => rw [e] at h'; cases h'
    | some i =>
      rw [e] at h'
      have h'' : (if (m : Int) < i then false else docFrom (i + 1) ds) = true := h'
      by_cases c : (m : Int) < i
      · rw [if_pos c] at h''; cases h''
      · rw [if_neg c] at h''
        obtain ⟨ch, n, ea, c0, c1, rfl⟩ := rep_ent r e
        obtain ⟨doc, es, ok⟩ := rep_ents (m := n + 1) t (by rw [Int.natCast_add]; exact h'')
        exact ⟨(ch, n) :: doc, .cons ea es, c0, c1, by omega, ok⟩
theorem rep_doc {K : PySem.W.Frag} {H : Hp} {v : V} {d : PD} (r : Rep K H v d) (h : docP d = true) : ∃ (p : Addr) (doc : Doc), v = .ref p ∧ DocAt H p doc ∧ okFrom 0 doc ∧ doc.length ≤ 20000 := by
  cases d with
  | tup ds =>
    obtain ⟨h1, h2⟩ := (Bool.and_eq_true _ _).mp (show (decide (ds.length ≤ 20000) && docFrom 0 ds) = true from h) |> fun z => z
    obtain ⟨a, xs, rfl, ea, reps⟩ := r.tupOf
    obtain ⟨doc, es, ok⟩ := rep_ents (m := 0) reps h2
    have l1 := Paired.length es
    have l2 := reps.len
    have := of_decide_eq_true h1
    exact ⟨a, doc, rfl, ⟨xs, ea, es⟩, ok, by omega⟩
  | _ => cases h
/-- the node that a thing is -/
def nodeP (n : Nat) : PD → Option Nat
  | .int i => if 0 ≤ i ∧ i < n then some i.toNat else none
  | _ => none
theorem nodeP_some {n : Nat} {d : PD} {i : Nat} (h : nodeP n d = some i) : d = .int (i : Nat) ∧ i < n := by
  cases d with
  | int j =>
    have h' : (if 0 ≤ j ∧ j < n then some j.toNat else none) = some i := h
    by_cases c : 0 ≤ j ∧ j < (n : Int)
    · rw [if_pos c] at h'
      have := Option.some.inj h'
      subst this
      exact ⟨by rw [Int.toNat_of_nonneg c.1], by omega⟩
    · rw [if_neg c] at h'; cases h'
  | _ => cases h
theorem nodeP_is {n i : Nat} (h : i < n) : nodeP n (.int (i : Nat)) = some i := by
  show (if 0 ≤ (i : Int) ∧ (i : Int) < n then some ((i : Int)).toNat else none) = some i
  rw [if_pos ⟨by omega, by omega⟩, Int.toNat_natCast]
theorem Rep.node {K : PySem.W.Frag} {H : Hp} {v : V} {d : PD} (r : Rep K H v d) (n : Nat) : (numberV v && (match v with | .int i => decide (i < (n : Int)) | _ => false)) = (nodeP n d).isSome := by
  cases r with
  | int i =>
    show (decide (0 ≤ i) && decide (i < (n : Int))) = (if 0 ≤ i ∧ i < (n : Int) then some i.toNat else none).isSome
    by_cases c1 : 0 ≤ i
    · by_cases c2 : i < (n : Int)
      · rw [decide_eq_true c1, decide_eq_true c2, if_pos ⟨c1, c2⟩]
        rfl
      · rw [decide_eq_false c2, if_neg (fun z => c2 z.2), Bool.and_false]
        rfl
    · rw [decide_eq_false c1, if_neg (fun z => c1 z.1), Bool.false_and]
      rfl
  | _ => rfl
def spChkX (K : PySem.W.Frag) (C : Addr) : Sp := fun vs H _ E => ∃ (v : V) (d : PD), vs = [v] ∧ Rep K H v d ∧ docP d = false ∧ E (.ref C) none H
def spChkNX (K : PySem.W.Frag) (C : Addr) : Sp := fun vs H _ E => ∃ (p : Addr) (doc : Doc) (v : V) (d : PD), vs = [.ref p, v] ∧ DocAt H p doc ∧ Rep K H v d ∧ nodeP doc.length d = none ∧ E (.ref C) none H
/-- the first argument is no document -/
def spBad (K : PySem.W.Frag) (C : Addr) (n : Nat) : Sp := fun vs H _ E => ∃ (v : V) (d : PD) (us : List V), vs = v :: us ∧ us.length = n ∧ Rep K H v d ∧ docP d = false ∧ E (.ref C) none H
/-- the second one is no node -/
def spBadN (K : PySem.W.Frag) (C : Addr) : Sp := fun vs H _ E => ∃ (p : Addr) (doc : Doc) (v : V) (d : PD), vs = [.ref p, v] ∧ DocAt H p doc ∧ okFrom 0 doc ∧ doc.length ≤ 20000 ∧ Rep K H v d ∧ nodeP doc.length d = none ∧ E (.ref C) none H
section
variable {P : Program} {w : World} {K : PySem.W.Frag} {mg : Str → Option Value} {base : Heap}
theorem ok_isdocS (S : Docs K mg) : FnOk P w K mg base CX0 4 S.isdoc.f S.isdoc.fd pThing (spIsDocG K) := ok_isdocG S.T S.hm S.hM S.whole S.number S.mark S.entry S.isdoc
theorem ok_chkX (S : Docs K mg) (e : Err K mg "BadDocument") : FnOk P w K mg base (L2.CX P w) 5 S.chk.f S.chk.fd pThing (spChkX K e.C) := by
  have GI : FnOk P w K mg base CX0 4 S.isdoc.f S.isdoc.fd pThing (spIsDocG K) := ok_isdocS S
  have sc : FnScope ["thing"] pThing (defScope sChkDoc) := ⟨rfl, rfl, rfl, by decide +kernel, rfl, by decide +kernel, by decide +kernel⟩
  refine S.chk.F.okX sc (fun vs H Q E h => ?_) (fun cdv A outer s H vs Q E hr h => ?_)
  · obtain ⟨v, d, rfl, _⟩ := h
    rfl
  · obtain ⟨v, d, rfl, rep, hd, he⟩ := h
    refine ⟨_, pss_one (ps_if (pt_not (pt_val (de_call S.isdoc GI hr (pa_cons (pv 0) pa_nil)))) (pss_one (ps_err e (takes_of rfl rfl rfl rfl))) pss_nil), ?_⟩
    refine ⟨_, rfl, v, d, rfl, rep, _, rfl, ?_⟩
    rw [hd]
    exact iteT he
theorem ok_chknX (S : Docs K mg) (Dno : Dn K mg "is_node" sNode pNode) (e : Err K mg "BadNode") (D : Dn K mg "check_node" sChkNode pNode) : FnOk P w K mg base (L2.CX P w) 4 D.f D.fd pNode (spChkNX K e.C) := by
  have GN : FnOk P w K mg base CX0 3 Dno.f Dno.fd pNode (spNode K) := ok_node S.T S.whole S.number Dno
  have sc : FnScope ["document", "thing"] pNode (defScope sChkNode) := ⟨rfl, rfl, rfl, by decide +kernel, rfl, by decide +kernel, by decide +kernel⟩
  refine D.F.okX sc (fun vs H Q E h => ?_) (fun cdv A outer s H vs Q E hr h => ?_)
  · obtain ⟨p, doc, v, d, rfl, _⟩ := h
    rfl
  · obtain ⟨p, doc, v, d, rfl, hd, rep, hn, he⟩ := h
    refine ⟨_, pss_one (ps_if (pt_not (pt_val (de_call Dno GN hr (pa_cons (pv 0) (pa_cons (pv 1) pa_nil))))) (pss_one (ps_err e (takes_of rfl rfl rfl rfl))) pss_nil), ?_⟩
    obtain ⟨ws, ews, qws⟩ := id hd
    have len := Paired.length qws
    obtain ⟨ty, any, _⟩ := rep.any
    refine ⟨_, rfl, _, rfl, p, ws, v, ty, rfl, SqT.of ews, any, _, rfl, ?_⟩
    cases rep with
    | int i =>
      have z : (decide (0 ≤ i) && decide (i < (ws.length : Int))) = false := by
        have hn' : (if 0 ≤ i ∧ i < (doc.length : Int) then some i.toNat else none) = none := hn
        by_cases c : 0 ≤ i ∧ i < (doc.length : Int)
        · rw [if_pos c] at hn'; cases hn'
        · by_cases c1 : 0 ≤ i
          · rw [decide_eq_false (p := i < (ws.length : Int)) (fun z => c ⟨c1, by omega⟩), Bool.and_false]
          · rw [decide_eq_false c1, Bool.false_and]
      show (if (!(decide (0 ≤ i) && decide (i < (ws.length : Int)))) = true then _ else _)
      rw [z]
      exact iteT he
    | _ => exact iteT he
theorem ok_bad_kids (S : Docs K mg) (e : Err K mg "BadDocument") (D : Dn K mg "children" sKids pNode') : FnOk P w K mg base (L2.CX P w) 6 D.f D.fd pNode' (spBad K e.C 1) := by
  have GX : FnOk P w K mg base (L2.CX P w) 5 S.chk.f S.chk.fd pThing (spChkX K e.C) := ok_chkX S e
  have sc : FnScope ["document", "node"] pNode' (defScope sKids) := ⟨rfl, rfl, rfl, by decide +kernel, rfl, by decide +kernel, by decide +kernel⟩
  refine D.F.okX sc (fun vs H Q E h => ?_) (fun cdv A outer s H vs Q E hr h => ?_)
  · obtain ⟨v, d, us, rfl, hl, _⟩ := h
    rw [List.length_cons, hl]
    rfl
  · obtain ⟨v, d, us, rfl, hl, rep, hd, he⟩ := h
    refine ⟨_, pss_cons (ps_expr (dx_call S.chk GX hr (takes_of rfl rfl rfl rfl) (pa_cons (pv 0) pa_nil))) pss_never, ?_⟩
    exact ⟨_, rfl, v, d, rfl, rep, hd, he⟩
theorem ok_bad_plo (S : Docs K mg) (e : Err K mg "BadDocument") (D : Dn K mg "place_of" sPlaceOf pNode') : FnOk P w K mg base (L2.CX P w) 6 D.f D.fd pNode' (spBad K e.C 1) := by
  have GX : FnOk P w K mg base (L2.CX P w) 5 S.chk.f S.chk.fd pThing (spChkX K e.C) := ok_chkX S e
  have sc : FnScope ["document", "node"] pNode' (defScope sPlaceOf) := ⟨rfl, rfl, rfl, by decide +kernel, rfl, by decide +kernel, by decide +kernel⟩
  refine D.F.okX sc (fun vs H Q E h => ?_) (fun cdv A outer s H vs Q E hr h => ?_)
  · obtain ⟨v, d, us, rfl, hl, _⟩ := h
    rw [List.length_cons, hl]
    rfl
  · obtain ⟨v, d, us, rfl, hl, rep, hd, he⟩ := h
    refine ⟨_, pss_cons (ps_expr (dx_call S.chk GX hr (takes_of rfl rfl rfl rfl) (pa_cons (pv 0) pa_nil))) pss_never, ?_⟩
    exact ⟨_, rfl, v, d, rfl, rep, hd, he⟩
theorem ok_bad_pie (S : Docs K mg) (e : Err K mg "BadDocument") (D : Dn K mg "piece_of" sPiece pNode') : FnOk P w K mg base (L2.CX P w) 6 D.f D.fd pNode' (spBad K e.C 1) := by
  have GX : FnOk P w K mg base (L2.CX P w) 5 S.chk.f S.chk.fd pThing (spChkX K e.C) := ok_chkX S e
  have sc : FnScope ["document", "node"] pNode' (defScope sPiece) := ⟨rfl, rfl, rfl, by decide +kernel, rfl, by decide +kernel, by decide +kernel⟩
  refine D.F.okX sc (fun vs H Q E h => ?_) (fun cdv A outer s H vs Q E hr h => ?_)
  · obtain ⟨v, d, us, rfl, hl, _⟩ := h
    rw [List.length_cons, hl]
    rfl
  · obtain ⟨v, d, us, rfl, hl, rep, hd, he⟩ := h
    refine ⟨_, pss_cons (ps_expr (dx_call S.chk GX hr (takes_of rfl rfl rfl rfl) (pa_cons (pv 0) pa_nil))) pss_never, ?_⟩
    exact ⟨_, rfl, v, d, rfl, rep, hd, he⟩
theorem ok_bad_nat (S : Docs K mg) (e : Err K mg "BadDocument") (D : Dn K mg "node_at" sNodeAt ["document", "place"]) : FnOk P w K mg base (L2.CX P w) 6 D.f D.fd ["document", "place"] (spBad K e.C 1) := by
  have GX : FnOk P w K mg base (L2.CX P w) 5 S.chk.f S.chk.fd pThing (spChkX K e.C) := ok_chkX S e
  have sc : FnScope ["document", "place", "parent", "which", "row"] ["document", "place"] (defScope sNodeAt) := ⟨rfl, rfl, rfl, by decide +kernel, rfl, by decide +kernel, by decide +kernel⟩
  refine D.F.okX sc (fun vs H Q E h => ?_) (fun cdv A outer s H vs Q E hr h => ?_)
  · obtain ⟨v, d, us, rfl, hl, _⟩ := h
    rw [List.length_cons, hl]
    rfl
  · obtain ⟨v, d, us, rfl, hl, rep, hd, he⟩ := h
    refine ⟨_, pss_cons (ps_expr (dx_call S.chk GX hr (takes_of rfl rfl rfl rfl) (pa_cons (pv 0) pa_nil))) pss_never, ?_⟩
    exact ⟨_, rfl, v, d, rfl, rep, hd, he⟩
theorem ok_bad_pars (S : Docs K mg) (e : Err K mg "BadDocument") (D : Dn K mg "parents" sPars pDocu) : FnOk P w K mg base (L2.CX P w) 6 D.f D.fd pDocu (spBad K e.C 0) := by
  have GX : FnOk P w K mg base (L2.CX P w) 5 S.chk.f S.chk.fd pThing (spChkX K e.C) := ok_chkX S e
  have sc : FnScope ["document"] pDocu (defScope sPars) := ⟨rfl, rfl, rfl, by decide +kernel, rfl, by decide +kernel, by decide +kernel⟩
  refine D.F.okX sc (fun vs H Q E h => ?_) (fun cdv A outer s H vs Q E hr h => ?_)
  · obtain ⟨v, d, us, rfl, hl, _⟩ := h
    rw [List.length_cons, hl]
    rfl
  · obtain ⟨v, d, us, rfl, hl, rep, hd, he⟩ := h
    refine ⟨_, pss_cons (ps_expr (dx_call S.chk GX hr (takes_of rfl rfl rfl rfl) (pa_cons (pv 0) pa_nil))) pss_never, ?_⟩
    exact ⟨_, rfl, v, d, rfl, rep, hd, he⟩
theorem ok_bad_siz (S : Docs K mg) (e : Err K mg "BadDocument") (D : Dn K mg "sizes" sSizes pDocu) : FnOk P w K mg base (L2.CX P w) 6 D.f D.fd pDocu (spBad K e.C 0) := by
  have GX : FnOk P w K mg base (L2.CX P w) 5 S.chk.f S.chk.fd pThing (spChkX K e.C) := ok_chkX S e
  have sc : FnScope ["document", "above", "found", "node"] pDocu (defScope sSizes) := ⟨rfl, rfl, rfl, by decide +kernel, rfl, by decide +kernel, by decide +kernel⟩
  refine D.F.okX sc (fun vs H Q E h => ?_) (fun cdv A outer s H vs Q E hr h => ?_)
  · obtain ⟨v, d, us, rfl, hl, _⟩ := h
    rw [List.length_cons, hl]
    rfl
  · obtain ⟨v, d, us, rfl, hl, rep, hd, he⟩ := h
    refine ⟨_, pss_cons (ps_expr (dx_call S.chk GX hr (takes_of rfl rfl rfl rfl) (pa_cons (pv 0) pa_nil))) pss_never, ?_⟩
    exact ⟨_, rfl, v, d, rfl, rep, hd, he⟩
theorem ok_bad_wri (S : Docs K mg) (e : Err K mg "BadDocument") (D : Dn K mg "write_document" sWrite pDocu) : FnOk P w K mg base (L2.CX P w) 6 D.f D.fd pDocu (spBad K e.C 0) := by
  have GX : FnOk P w K mg base (L2.CX P w) 5 S.chk.f S.chk.fd pThing (spChkX K e.C) := ok_chkX S e
  have sc : FnScope ["document", "parts", "ahead", "node", "mark", "depth"] pDocu (defScope sWrite) := ⟨rfl, rfl, rfl, by decide +kernel, rfl, by decide +kernel, by decide +kernel⟩
  refine D.F.okX sc (fun vs H Q E h => ?_) (fun cdv A outer s H vs Q E hr h => ?_)
  · obtain ⟨v, d, us, rfl, hl, _⟩ := h
    rw [List.length_cons, hl]
    rfl
  · obtain ⟨v, d, us, rfl, hl, rep, hd, he⟩ := h
    refine ⟨_, pss_cons (ps_expr (dx_call S.chk GX hr (takes_of rfl rfl rfl rfl) (pa_cons (pv 0) pa_nil))) pss_never, ?_⟩
    exact ⟨_, rfl, v, d, rfl, rep, hd, he⟩
theorem ok_bad_fli (S : Docs K mg) (e : Err K mg "BadDocument") (D : Dn K mg "flipped" sFlip pDocu) : FnOk P w K mg base (L2.CX P w) 6 D.f D.fd pDocu (spBad K e.C 0) := by
  have GX : FnOk P w K mg base (L2.CX P w) 5 S.chk.f S.chk.fd pThing (spChkX K e.C) := ok_chkX S e
  have sc : FnScope ["document", "rows", "waiting", "entries", "node"] pDocu (defScope sFlip) := ⟨rfl, rfl, rfl, by decide +kernel, rfl, by decide +kernel, by decide +kernel⟩
  refine D.F.okX sc (fun vs H Q E h => ?_) (fun cdv A outer s H vs Q E hr h => ?_)
  · obtain ⟨v, d, us, rfl, hl, _⟩ := h
    rw [List.length_cons, hl]
    rfl
  · obtain ⟨v, d, us, rfl, hl, rep, hd, he⟩ := h
    refine ⟨_, pss_cons (ps_expr (dx_call S.chk GX hr (takes_of rfl rfl rfl rfl) (pa_cons (pv 0) pa_nil))) pss_never, ?_⟩
    exact ⟨_, rfl, v, d, rfl, rep, hd, he⟩
theorem ok_bad_dep (S : Docs K mg) (e : Err K mg "BadDocument") (D : Dn K mg "depth_of" sDepthOf pDocu) : FnOk P w K mg base (L2.CX P w) 6 D.f D.fd pDocu (spBad K e.C 0) := by
  have GX : FnOk P w K mg base (L2.CX P w) 5 S.chk.f S.chk.fd pThing (spChkX K e.C) := ok_chkX S e
  have sc : FnScope ["document", "_", "depth"] pDocu (defScope sDepthOf) := ⟨rfl, rfl, rfl, by decide +kernel, rfl, by decide +kernel, by decide +kernel⟩
  refine D.F.okX sc (fun vs H Q E h => ?_) (fun cdv A outer s H vs Q E hr h => ?_)
  · obtain ⟨v, d, us, rfl, hl, _⟩ := h
    rw [List.length_cons, hl]
    rfl
  · obtain ⟨v, d, us, rfl, hl, rep, hd, he⟩ := h
    refine ⟨_, pss_cons (ps_expr (dx_call S.chk GX hr (takes_of rfl rfl rfl rfl) (pa_cons (pv 0) pa_nil))) pss_never, ?_⟩
    exact ⟨_, rfl, v, d, rfl, rep, hd, he⟩
theorem ok_bad_bre (S : Docs K mg) (e : Err K mg "BadDocument") (D : Dn K mg "breadth_of" sBreadthOf pDocu) : FnOk P w K mg base (L2.CX P w) 6 D.f D.fd pDocu (spBad K e.C 0) := by
  have GX : FnOk P w K mg base (L2.CX P w) 5 S.chk.f S.chk.fd pThing (spChkX K e.C) := ok_chkX S e
  have sc : FnScope ["document", "row"] pDocu (defScope sBreadthOf) := ⟨rfl, rfl, rfl, by decide +kernel, rfl, by decide +kernel, by decide +kernel⟩
  refine D.F.okX sc (fun vs H Q E h => ?_) (fun cdv A outer s H vs Q E hr h => ?_)
  · obtain ⟨v, d, us, rfl, hl, _⟩ := h
    rw [List.length_cons, hl]
    rfl
  · obtain ⟨v, d, us, rfl, hl, rep, hd, he⟩ := h
    refine ⟨_, pss_cons (ps_expr (dx_call S.chk GX hr (takes_of rfl rfl rfl rfl) (pa_cons (pv 0) pa_nil))) pss_never, ?_⟩
    exact ⟨_, rfl, v, d, rfl, rep, hd, he⟩
theorem ok_badn_plo (S : Docs K mg) (Dno : Dn K mg "is_node" sNode pNode) (Dck : Dn K mg "check_node" sChkNode pNode) (e : Err K mg "BadNode") (D : Dn K mg "place_of" sPlaceOf pNode') : FnOk P w K mg base (L2.CX P w) 6 D.f D.fd pNode' (spBadN K e.C) := by
  have GC : FnOk P w K mg base CX0 5 S.chk.f S.chk.fd pThing spChkDocV := S.ok
  have GN : FnOk P w K mg base (L2.CX P w) 4 Dck.f Dck.fd pNode (spChkNX K e.C) := ok_chknX S Dno e Dck
  have sc : FnScope ["document", "node"] pNode' (defScope sPlaceOf) := ⟨rfl, rfl, rfl, by decide +kernel, rfl, by decide +kernel, by decide +kernel⟩
  refine D.F.okX sc (fun vs H Q E h => ?_) (fun cdv A outer s H vs Q E hr h => ?_)
  · obtain ⟨p, doc, v, d, rfl, _⟩ := h
    rfl
  · obtain ⟨p, doc, v, d, rfl, hd, ok, hl, rep, hn, he⟩ := h
    refine ⟨_, pss_cons (ps_expr (de_call S.chk GC hr (pa_cons (pv 0) pa_nil))) (pss_cons (ps_expr (dx_call Dck GN hr (takes_of rfl rfl rfl rfl) (pa_cons (pv 0) (pa_cons (pv 1) pa_nil)))) pss_never), ?_⟩
    exact ⟨_, rfl, p, doc, rfl, hd, ok, hl, _, rfl, _, rfl, p, doc, v, d, rfl, hd, rep, hn, he⟩
theorem ok_badn_pie (S : Docs K mg) (Dno : Dn K mg "is_node" sNode pNode) (Dck : Dn K mg "check_node" sChkNode pNode) (e : Err K mg "BadNode") (D : Dn K mg "piece_of" sPiece pNode') : FnOk P w K mg base (L2.CX P w) 6 D.f D.fd pNode' (spBadN K e.C) := by
  have GC : FnOk P w K mg base CX0 5 S.chk.f S.chk.fd pThing spChkDocV := S.ok
  have GN : FnOk P w K mg base (L2.CX P w) 4 Dck.f Dck.fd pNode (spChkNX K e.C) := ok_chknX S Dno e Dck
  have sc : FnScope ["document", "node"] pNode' (defScope sPiece) := ⟨rfl, rfl, rfl, by decide +kernel, rfl, by decide +kernel, by decide +kernel⟩
  refine D.F.okX sc (fun vs H Q E h => ?_) (fun cdv A outer s H vs Q E hr h => ?_)
  · obtain ⟨p, doc, v, d, rfl, _⟩ := h
    rfl
  · obtain ⟨p, doc, v, d, rfl, hd, ok, hl, rep, hn, he⟩ := h
    refine ⟨_, pss_cons (ps_expr (de_call S.chk GC hr (pa_cons (pv 0) pa_nil))) (pss_cons (ps_expr (dx_call Dck GN hr (takes_of rfl rfl rfl rfl) (pa_cons (pv 0) (pa_cons (pv 1) pa_nil)))) pss_never), ?_⟩
    exact ⟨_, rfl, p, doc, rfl, hd, ok, hl, _, rfl, _, rfl, p, doc, v, d, rfl, hd, rep, hn, he⟩
/-- children of what is no node, and not None -/
theorem ok_badn_kids (S : Docs K mg) (Dno : Dn K mg "is_node" sNode pNode) (Dck : Dn K mg "check_node" sChkNode pNode) (e : Err K mg "BadNode") (D : Dn K mg "children" sKids pNode') :
    FnOk P w K mg base (L2.CX P w) 6 D.f D.fd pNode' (fun vs H Q E => spBadN K e.C vs H Q E ∧ vs[1]? ≠ some .non) := by
  have GC : FnOk P w K mg base CX0 5 S.chk.f S.chk.fd pThing spChkDocV := S.ok
  have GN : FnOk P w K mg base (L2.CX P w) 4 Dck.f Dck.fd pNode (spChkNX K e.C) := ok_chknX S Dno e Dck
  have sc : FnScope ["document", "node"] pNode' (defScope sKids) := ⟨rfl, rfl, rfl, by decide +kernel, rfl, by decide +kernel, by decide +kernel⟩
  refine D.F.okX sc (fun vs H Q E h => ?_) (fun cdv A outer s H vs Q E hr h => ?_)
  · obtain ⟨⟨p, doc, v, d, rfl, _⟩, _⟩ := h
    rfl
  · obtain ⟨⟨p, doc, v, d, rfl, hd, ok, hl, rep, hn, he⟩, nn⟩ := h
    refine ⟨_, pss_cons (ps_expr (de_call S.chk GC hr (pa_cons (pv 0) pa_nil)))
      (pss_cons (ps_if (pt_cmp (pc_notN (pv 1))) (pss_one (ps_expr (dx_call Dck GN hr (takes_of rfl rfl rfl rfl) (pa_cons (pv 0) (pa_cons (pv 1) pa_nil))))) pss_nil) pss_never), ?_⟩
    refine ⟨_, rfl, p, doc, rfl, hd, ok, hl, _, rfl, _, rfl, ?_⟩
    have z : decide (v = V.non) = false := decide_eq_false fun z => nn (by rw [z]; rfl)
    rw [z]
    exact iteT ⟨_, rfl, _, rfl, p, doc, v, d, rfl, hd, rep, hn, he⟩
/-! a place -/
def parP (n : Nat) : PD → Option (Option Nat)
  | .non => some none
  | d => (nodeP n d).map some
def spotIn (doc : Doc) : Option (Option Nat) → PD → Option Nat
  | some o, .int j => if 0 ≤ j then (rowOf doc o)[j.toNat]? else none
  | _, _ => none
def spotP (doc : Doc) : PD → Option Nat
  | .tup [x, y] => spotIn doc (parP doc.length x) y
  | _ => none
def spNodeAtG (K : PySem.W.Frag) (C : Addr) : Sp := fun vs H Q E => ∃ (p : Addr) (doc : Doc) (v : V) (d : PD), vs = [.ref p, v] ∧ DocAt H p doc ∧ okFrom 0 doc ∧ doc.length ≤ 20000 ∧ Rep K H v d ∧
  ∀ H', Same H H' → (∀ n, spotP doc d = some n → Q (.int (n : Nat)) H') ∧ (spotP doc d = none → E (.ref C) none H')
theorem ok_nodeat (S : Docs K mg) (Dno : Dn K mg "is_node" sNode pNode) (Db : Dn K mg "depth_below" sBelow pPar) (Df : Dn K mg "first_below" sFirst ["parent"]) (Dr : Dn K mg "row_of" sRow pPar) (e : Err K mg "BadPlace")
    (D : Dn K mg "node_at" sNodeAt ["document", "place"]) : FnOk P w K mg base (L2.CX P w) 6 D.f D.fd ["document", "place"] (spNodeAtG K e.C) := by
  have T := S.T
  have GC : FnOk P w K mg base CX0 5 S.chk.f S.chk.fd pThing spChkDocV := S.ok
  have GN : FnOk P w K mg base CX0 3 Dno.f Dno.fd pNode (spNode K) := ok_node T S.whole S.number Dno
  have GU : FnOk P w K mg base CX0 2 S.number.f S.number.fd pThing (spNumber K) := ok_number T S.whole S.number
  have GR : FnOk P w K mg base CX0 2 Dr.f Dr.fd pPar spRow := ok_row T Db Df Dr
  have sc : FnScope ["document", "place", "parent", "which", "row"] ["document", "place"] (defScope sNodeAt) := ⟨rfl, rfl, rfl, by decide +kernel, rfl, by decide +kernel, by decide +kernel⟩
  refine D.F.okX sc (fun vs H Q E h => ?_) (fun cdv A outer s H vs Q E hr h => ?_)
  · obtain ⟨p, doc, v, d, rfl, _⟩ := h
    rfl
  · obtain ⟨p, doc, v, d, rfl, hd, ok, hl, rep, k⟩ := h
    refine ⟨_, pss_cons (ps_expr (de_call S.chk GC hr (pa_cons (pv 0) pa_nil)))
      (pss_cons (ps_if (PW.pt (pw_or (pt_not (pt_val (pe_callB call_isi (by rfl) T.isinstance b_isinstance (pa_cons (pv 1) (pa_cons (pe_bltn (v := .ty "tuple") rfl T.tuple b_tuple rfl) pa_nil))))) (pw_or1 (pt_cmpR op_ne (pe_callB call_len_seq (by rfl) T.len b_len (pa_cons (pv 1) pa_nil)) pe_int (nomark _))))) (pss_one (ps_err e (takes_of rfl rfl rfl rfl))) pss_nil)
      (pss_cons (ps_asg (pv 1) (pg_tup rfl (pgs_cons (pg_name (i := 2) sc.nd rfl (.inl rfl)) (pgs_cons (pg_name (i := 3) sc.nd rfl (.inl rfl)) pgs_nil))))
      (pss_cons (ps_if (PW.pt (pw_and (pt_cmp (pc_notN (pv 2))) (pw_and1 (pt_not (pt_val (de_call Dno GN hr (pa_cons (pv 0) (pa_cons (pv 2) pa_nil)))))))) (pss_one (ps_err e (takes_of rfl rfl rfl rfl))) pss_nil)
      (pss_cons (ps_set (i := 4) sc.nd rfl (.inl rfl) (de_call Dr GR hr (pa_cons (pv 0) (pa_cons (pv 2) pa_nil))))
      (pss_cons (ps_if (PW.pt (pw_or (pt_not (pt_val (de_call S.number GU hr (pa_cons (pv 3) pa_nil)))) (pw_or1 (pt_cmpR op_ge (pv 3) (pe_callB call_len_seq (by rfl) T.len b_len (pa_cons (pv 4) pa_nil)) (nomark _))))) (pss_one (ps_err e (takes_of rfl rfl rfl rfl))) pss_nil)
      (pss_one (ps_ret (pe_ix ix_list (pv 4) (pv 3) (fun _ _ => rfl))))))))), ?_⟩
    obtain ⟨ws, ews, qws⟩ := id hd
    have len := Paired.length qws
    have bad : ∀ H', Same H H' → spotP doc d = none → E (.ref e.C) none H' := fun H' s => (k H' s).2
    have s0 : Same H H := fun _ _ q => q
    obtain ⟨ty, any, t1, _⟩ := rep.any
    refine ⟨_, rfl, p, doc, rfl, hd, ok, hl, ?_⟩
    refine ⟨_, rfl, _, _, _, _, _, rfl, .ty "tuple", any.ty, any.kit.2.2.2, _, rfl, ?_⟩
    rw [t1]
    match d, rep, k, bad with
    | .non, _, _, bad => exact iteT (iteT (bad H s0 rfl))
    | .bl _, _, _, bad => exact iteT (iteT (bad H s0 rfl))
    | .int _, _, _, bad => exact iteT (iteT (bad H s0 rfl))
    | .str _, _, _, bad => exact iteT (iteT (bad H s0 rfl))
    | .oth, _, _, bad => exact iteT (iteT (bad H s0 rfl))
    | .tup ds, rep, k, bad =>
      obtain ⟨a, xs, rfl, ea, reps⟩ := rep.tupOf
      have lx := reps.len
      refine iteF ⟨_, rfl, a, xs, rfl, .inr (SqT.of ea), rfl, _, rfl, ?_⟩
      match ds, reps, k, bad, lx with
      | [], _, _, bad, lx =>
        refine ite2 (fun _ => bad H s0 rfl) (fun c => absurd ?_ c)
        rw [lx]; rfl
      | [x], _, _, bad, lx =>
        refine ite2 (fun _ => bad H s0 rfl) (fun c => absurd ?_ c)
        rw [lx]; rfl
      | x :: y :: z :: r, _, _, bad, lx =>
        refine ite2 (fun _ => bad H s0 rfl) (fun c => absurd ?_ c)
        have ne : ¬ V.int ((xs.length : Nat) : Int) = V.int 2 := fun q => by
          injection q with q
          rw [lx, List.length_cons, List.length_cons, List.length_cons] at q
          omega
        rw [decide_eq_false ne]
        rfl
      | [m, n], reps, k, bad, lx =>
        obtain ⟨x, y, rfl, rx, ry⟩ := reps2 reps
        refine iteNS rfl ?_
        refine ⟨_, rfl, a, _, rfl, SqT.of ea, rfl, _, _, rfl, _, _, rfl, rfl, ?_⟩
        obtain ⟨tx, anx, _⟩ := rx.any
        obtain ⟨ty', any', _⟩ := ry.any
        -- behind the look at the parent
        have tail : ∀ (o : Option Nat), parP doc.length m = some o → inDoc doc o → x = vO o →
            tSeq (tAsg (tCall spRow [] E0 (tCons (tVar 0) (tCons (tVar 2) tNil))) (gName 4)) (tSeq (tIfS (tOr (tNot (tB (tCall (spNumber K) [] E0 (tCons (tVar 3) tNil)))) (tTest (tOp (rI0 fun i j => V.bl (decide (j ≤ i))) (tVar 3) (tCB (fun xs H Q => ∃ p ys, xs = [V.ref p] ∧ (SqL K H p ys ∨ SqT K H p ys) ∧ Q (.int (ys.length : Nat)) H) (tCons (tVar 4) tNil))))) (fun _ σ H => E (.ref e.C) none H) tNext)
              (tRet (tOp (rIxL K) (tVar 4) (tVar 3)))) { nx := fun _ H' => Q .non H', rt := Q } [some (.ref p), some (.ref a), some x, some y, none] H := by
          rintro o ho hin rfl
          refine ⟨_, rfl, _, rfl, p, doc, o, rfl, hd, hin, hl, fun q hq => ?_⟩
          have s1 : Same H (upd H q (.lst (nV (rowOf doc o)))) := Same.new hq
          have eq1 : (upd H q (.lst (nV (rowOf doc o)))) q = some (.lst (nV (rowOf doc o))) := upd_same
          obtain ⟨ty2, any2, _⟩ := (ry.same s1).any
          refine ⟨_, rfl, y, ty2, rfl, any2, _, rfl, ?_⟩
          have sp : spotP doc (.tup [m, n]) = spotIn doc (some o) n := by
            show spotIn doc (parP doc.length m) n = _
            rw [ho]
          cases ry with
          | int j =>
            have sp' : spotP doc (.tup [m, .int j]) = if 0 ≤ j then (rowOf doc o)[j.toNat]? else none := sp
            show (if (!decide (0 ≤ j)) = true then _ else _)
            by_cases c : 0 ≤ j
            · rw [if_pos c] at sp'
              rw [decide_eq_true c]
              refine iteF ⟨_, rfl, _, rfl, q, _, rfl, .inl (SqL.of eq1), _, _, rfl, rfl, _, rfl, ?_⟩
              have ln : (nV (rowOf doc o)).length = (rowOf doc o).length := by unfold nV; rw [List.length_map]
              refine ite2 (fun c2 => ?_) (fun c2 => ?_)
              · have c2' := of_decide_eq_true c2
                refine bad _ s1 ?_
                rw [sp', List.getElem?_eq_none (by omega)]
              · have c2' : ¬ ((nV (rowOf doc o)).length : Int) ≤ j := fun z => c2 (decide_eq_true z)
                obtain ⟨j', hj'⟩ := Int.eq_ofNat_of_zero_le c
                have jl : j' < (rowOf doc o).length := by omega
                refine ⟨_, rfl, _, rfl, q, _, _, .int (((rowOf doc o)[j'] : Nat) : Int), rfl, rfl, SqL.of eq1, ?_, (k _ s1).1 _ (sp'.trans ?_)⟩
                · rw [hj']
                  refine atI_nat ?_
                  unfold nV
                  rw [List.getElem?_map, List.getElem?_eq_getElem jl]
                  rfl
                · rw [hj', Int.toNat_natCast]
                  exact List.getElem?_eq_getElem jl
            · rw [if_neg c] at sp'
              rw [decide_eq_false c]
              exact iteT (iteT (bad _ s1 sp'))
          | _ => exact iteT (iteT (bad _ s1 sp))
        refine ⟨_, rfl, _, rfl, ?_⟩
        cases rx with
        | non => exact iteF (iteF (tail none rfl (fun _ h => nomatch h) rfl))
        | int i =>
          refine iteT ⟨_, rfl, _, rfl, p, ws, _, tx, rfl, SqT.of ews, anx, _, rfl, ?_⟩
          show (if (!(decide (0 ≤ i) && decide (i < (ws.length : Int)))) = true then _ else _)
          by_cases c : 0 ≤ i ∧ i < (doc.length : Int)
          · rw [decide_eq_true c.1, decide_eq_true (show i < (ws.length : Int) by omega)]
            obtain ⟨i', rfl⟩ := Int.eq_ofNat_of_zero_le c.1
            exact iteF (tail (some i') (by show (nodeP doc.length (.int (i' : Nat))).map some = _; rw [nodeP_is (by omega)]; rfl) (fun j hj => by cases hj; omega) rfl)
          · have z : (decide (0 ≤ i) && decide (i < (ws.length : Int))) = false := by
              by_cases c1 : 0 ≤ i
              · rw [decide_eq_false (p := i < (ws.length : Int)) (fun z => c ⟨c1, by omega⟩), Bool.and_false]
              · rw [decide_eq_false c1, Bool.false_and]
            rw [z]
            refine iteT (bad H s0 ?_)
            have pn : parP doc.length (.int i) = none := by
              show (if 0 ≤ i ∧ i < (doc.length : Int) then some i.toNat else none).map some = none
              rw [if_neg c]
              rfl
            show spotIn doc (parP doc.length (.int i)) n = none
            rw [pn]
            rfl
        | _ => exact iteT ⟨_, rfl, _, rfl, p, ws, _, tx, rfl, SqT.of ews, anx, _, rfl, iteT (bad H s0 rfl)⟩
end

/-! ### what repr tells apart -/
/-- small things -/
inductive AtK : PyData → PD → Prop
  | non : AtK .none .non
  | bl (b : Bool) : AtK (.bool b) (.bl b)
  | int (i : Int) : AtK (.int i) (.int i)
  | s0 : AtK (.str "0") (.str "0")
  | se : AtK (.str "") (.str "")
  | sa : AtK (.str "a0") (.str "a0")
  | t0 : AtK (.tuple []) (.tup [])
  | l0 : AtK (.list [.int 0]) .oth
  | t1 : AtK (.tuple [.int 0]) (.tup [.int 0])
/-- things near to places -/
inductive ThK : Str → PD → Prop
  | at {d : PyData} {pd : PD} : AtK d pd → ThK d.shown pd
  | dct : ThK (PyData.dict []).shown .oth
  | l2 {a b : PyData} {pa pb : PD} : AtK a pa → AtK b pb → ThK (PyData.list [a, b]).shown .oth
  | t1 {a : PyData} {pa : PD} : AtK a pa → ThK (PyData.tuple [a]).shown (.tup [pa])
  | t2 {a b : PyData} {pa pb : PD} : AtK a pa → AtK b pb → ThK (PyData.tuple [a, b]).shown (.tup [pa, pb])
  | t3 {a b : PyData} {pa pb : PD} : AtK a pa → AtK b pb → ThK (PyData.tuple [a, b, .int 0]).shown (.tup [pa, pb, .int 0])
def oPD : Option Nat → PD
  | none => .non
  | some i => .int (i : Nat)
theorem run_eq {P : Nat → Prop} : ∀ {s t : List Nat} {x y : Nat} {r q : List Nat}, (∀ c ∈ s, P c) → (∀ c ∈ t, P c) → ¬ P x → ¬ P y → s ++ x :: r = t ++ y :: q → s = t ∧ x = y ∧ r = q
  | [], [], _, _, _, _, _, _, _, _, h => by
    injection h with h1 h2
    exact ⟨rfl, h1, h2⟩
  | [], b :: t, x, y, r, q, _, ht, hx, _, h => by
    injection h with h1 h2
    exact absurd (h1 ▸ ht b List.mem_cons_self) hx
  | a :: s, [], x, y, r, q, hs, _, _, hy, h => by
    injection h with h1 h2
    exact absurd (h1 ▸ hs a List.mem_cons_self) hy
  | a :: s, b :: t, x, y, r, q, hs, ht, hx, hy, h => by
    injection h with h1 h2
    obtain ⟨e1, e2, e3⟩ := run_eq (fun c hc => hs c (List.mem_cons_of_mem _ hc)) (fun c hc => ht c (List.mem_cons_of_mem _ hc)) hx hy h2
    exact ⟨by rw [h1, e1], e2, e3⟩
theorem tl_nat (n : Nat) : TL.tl (PyData.int (n : Nat)).shown = TL.numL n := by
  rw [PyData.shown_int]
  exact TL.tl_num n
theorem tl_neg (n : Nat) : ∃ r, TL.tl (PyData.int (Int.negSucc n)).shown = 45 :: r ∧ ∀ c ∈ r, 48 ≤ c ∧ c ≤ 57 := by
  rw [PyData.shown_int, TL.tl_ofString]
  refine ⟨TL.numL (n + 1), ?_, TL.numL_digits _⟩
  have e : (toString (Int.negSucc n)) = "-" ++ Nat.repr (n + 1) := rfl
  rw [e, String.toList_append, List.map_append]
  unfold TL.numL
  rw [Nat.toList_repr]
  rfl
theorem tl_none : TL.tl (PyData.none).shown = [78, 111, 110, 101] := by rw [PyData.shown_none]; decide +kernel
theorem tl_bool (b : Bool) : TL.tl (PyData.bool b).shown = if b then [84, 114, 117, 101] else [70, 97, 108, 115, 101] := by
  rw [PyData.shown_bool]
  cases b <;> decide +kernel
theorem tl_s0 : TL.tl (PyData.str "0").shown = [39, 48, 39] := by rw [PyData.shown_str]; decide +kernel
theorem tl_se : TL.tl (PyData.str "").shown = [39, 39] := by rw [PyData.shown_str]; decide +kernel
theorem tl_sa : TL.tl (PyData.str "a0").shown = [39, 97, 48, 39] := by rw [PyData.shown_str]; decide +kernel
theorem tl_t0 : TL.tl (PyData.tuple []).shown = [40, 41] := by rw [PyData.shown_tuple]; decide +kernel
theorem tl_l0 : TL.tl (PyData.list [.int 0]).shown = [91, 48, 93] := by
  rw [PyData.shown_list, PyData.shownAll_cons, PyData.shownAll_nil, PyData.shown_int]; decide +kernel
theorem tl_t1 : TL.tl (PyData.tuple [.int 0]).shown = [40, 48, 44, 41] := by
  rw [PyData.shown_tuple, PyData.shownAll_cons, PyData.shownAll_nil, PyData.shown_int]; decide +kernel
theorem tl_dct : TL.tl (PyData.dict []).shown = [123, 125] := by rw [PyData.shown_dict]; decide +kernel
theorem tl_one (a : PyData) : TL.tl (PyData.tuple [a]).shown = 40 :: (TL.tl a.shown ++ [44, 41]) := by
  have e : (PyData.tuple [a]).shown = "(" ++ a.shown ++ ",)" := by
    rw [PyData.shown_tuple, PyData.shownAll_cons, PyData.shownAll_nil]
    rfl
  rw [e, TL.tl_append, TL.tl_append]
  rfl
theorem tl_two (a b : PyData) : TL.tl (PyData.tuple [a, b]).shown = 40 :: (TL.tl a.shown ++ 44 :: 32 :: (TL.tl b.shown ++ [41])) := by
  have e : (PyData.tuple [a, b]).shown = "(" ++ (a.shown ++ ", " ++ b.shown) ++ ")" := by
    rw [PyData.shown_tuple, PyData.shownAll_cons, PyData.shownAll_cons, PyData.shownAll_nil]
    rfl
  rw [e, TL.tl_append, TL.tl_append, TL.tl_append, TL.tl_append]
  show [40] ++ (TL.tl a.shown ++ [44, 32] ++ TL.tl b.shown) ++ [41] = _
  simp
theorem tl_three (a b c : PyData) : TL.tl (PyData.tuple [a, b, c]).shown = 40 :: (TL.tl a.shown ++ 44 :: 32 :: (TL.tl b.shown ++ 44 :: 32 :: (TL.tl c.shown ++ [41]))) := by
  have e : (PyData.tuple [a, b, c]).shown = "(" ++ (a.shown ++ ", " ++ (b.shown ++ ", " ++ c.shown)) ++ ")" := by
    rw [PyData.shown_tuple, PyData.shownAll_cons, PyData.shownAll_cons, PyData.shownAll_cons, PyData.shownAll_nil]
    rfl
  rw [e, TL.tl_append, TL.tl_append, TL.tl_append, TL.tl_append, TL.tl_append, TL.tl_append]
  show [40] ++ (TL.tl a.shown ++ [44, 32] ++ (TL.tl b.shown ++ [44, 32] ++ TL.tl c.shown)) ++ [41] = _
  simp
theorem tl_lst2 (a b : PyData) : ∃ r, TL.tl (PyData.list [a, b]).shown = 91 :: r := by
  have e : (PyData.list [a, b]).shown = "[" ++ (a.shown ++ ", " ++ b.shown) ++ "]" := by
    rw [PyData.shown_list, PyData.shownAll_cons, PyData.shownAll_cons, PyData.shownAll_nil]
    rfl
  rw [e, TL.tl_append, TL.tl_append]
  exact ⟨_, rfl⟩
def Free (c : Nat) : Prop := c ≠ 44 ∧ c ≠ 41
theorem free_o (o : Option Nat) : (∀ c ∈ TL.tl (dO o).shown, Free c) ∧ ∃ x r, TL.tl (dO o).shown = x :: r ∧ ((x = 78 ∧ o = none) ∨ (48 ≤ x ∧ x ≤ 57)) := by
  cases o with
  | none =>
    rw [show dO none = PyData.none from rfl, tl_none]
    exact ⟨by unfold Free; decide, _, _, rfl, .inl ⟨rfl, rfl⟩⟩
  | some n =>
    rw [show dO (some n) = PyData.int (n : Nat) from rfl, tl_nat]
    have dg := TL.numL_digits n
    refine ⟨fun c hc => ?_, ?_⟩
    · have := dg c hc
      exact ⟨by omega, by omega⟩
    · cases e : TL.numL n with
      | nil => exact absurd e (TL.numL_ne n)
      | cons x r => exact ⟨x, r, rfl, .inr (dg x (by rw [e]; exact List.mem_cons_self))⟩
theorem at_free {d : PyData} {pd : PD} (h : AtK d pd) : (∀ c ∈ TL.tl d.shown, Free c) ∨ ∃ r, TL.tl d.shown = 40 :: r := by
  cases h with
  | non => exact .inl (free_o none).1
  | bl b =>
    rw [tl_bool]
    exact .inl (by unfold Free; cases b <;> decide)
  | int i =>
    cases i with
    | ofNat n => exact .inl (free_o (some n)).1
    | negSucc n =>
      obtain ⟨r, e, dg⟩ := tl_neg n
      rw [e]
      refine .inl fun c hc => ?_
      rcases List.mem_cons.mp hc with q | q
      · subst q; exact ⟨by decide, by decide⟩
      · have := dg c q
        exact ⟨by omega, by omega⟩
  | s0 => rw [tl_s0]; exact .inl (by unfold Free; decide)
  | se => rw [tl_se]; exact .inl (by unfold Free; decide)
  | sa => rw [tl_sa]; exact .inl (by unfold Free; decide)
  | t0 => rw [tl_t0]; exact .inr ⟨_, rfl⟩
  | l0 => rw [tl_l0]; exact .inl (by unfold Free; decide)
  | t1 => rw [tl_t1]; exact .inr ⟨_, rfl⟩
theorem at_inj {d : PyData} {pd : PD} (h : AtK d pd) (o : Option Nat) (e : TL.tl d.shown = TL.tl (dO o).shown) : pd = oPD o := by
  obtain ⟨_, x, r, ex, hx⟩ := free_o o
  have first : ∀ (y : Nat) (q : List Nat), TL.tl d.shown = y :: q → y = x := fun y q z => by
    rw [z, ex] at e
    exact (List.cons.inj e).1
  cases h with
  | non =>
    have := first _ _ tl_none
    rcases hx with ⟨_, rfl⟩ | q
    · rfl
    · omega
  | bl b =>
    have t := tl_bool b
    cases b
    · have := first _ _ t
      rcases hx with ⟨q, _⟩ | q <;> omega
    · have := first _ _ t
      rcases hx with ⟨q, _⟩ | q <;> omega
  | int i =>
    cases i with
    | ofNat n =>
      rw [show PyData.int (Int.ofNat n) = PyData.int ((n : Nat) : Int) from rfl, tl_nat] at e
      cases o with
      | none =>
        rw [show dO none = PyData.none from rfl, tl_none] at e
        have := TL.numL_digits n 78 (by rw [e]; exact List.mem_cons_self)
        omega
      | some m =>
        rw [show dO (some m) = PyData.int (m : Nat) from rfl, tl_nat] at e
        rw [TL.numL_inj e]
        rfl
    | negSucc n =>
      obtain ⟨r', e', _⟩ := tl_neg n
      have := first _ _ e'
      rcases hx with ⟨q, _⟩ | q <;> omega
  | s0 => have := first _ _ tl_s0; rcases hx with ⟨q, _⟩ | q <;> omega
  | se => have := first _ _ tl_se; rcases hx with ⟨q, _⟩ | q <;> omega
  | sa => have := first _ _ tl_sa; rcases hx with ⟨q, _⟩ | q <;> omega
  | t0 => have := first _ _ tl_t0; rcases hx with ⟨q, _⟩ | q <;> omega
  | l0 => have := first _ _ tl_l0; rcases hx with ⟨q, _⟩ | q <;> omega
  | t1 => have := first _ _ tl_t1; rcases hx with ⟨q, _⟩ | q <;> omega
theorem at_run {d : PyData} {pd : PD} (h : AtK d pd) (o : Option Nat) {x y : Nat} {r q : List Nat} (hx : x = 44 ∨ x = 41) (hy : y = 44 ∨ y = 41) (e : TL.tl d.shown ++ x :: r = TL.tl (dO o).shown ++ y :: q) : pd = oPD o ∧ x = y ∧ r = q := by
  obtain ⟨fo, z, t, ez, hz⟩ := free_o o
  rcases at_free h with f | ⟨r', e'⟩
  · have nx : ¬ Free x := fun z => by rcases hx with w | w <;> subst w <;> exact absurd rfl (by first | exact z.1 | exact z.2)
    have ny : ¬ Free y := fun z => by rcases hy with w | w <;> subst w <;> exact absurd rfl (by first | exact z.1 | exact z.2)
    obtain ⟨e1, e2, e3⟩ := run_eq f fo nx ny e
    exact ⟨at_inj h o e1, e2, e3⟩
  · rw [e', ez] at e
    have := (List.cons.inj e).1
    rcases hz with ⟨w, _⟩ | w <;> omega
theorem spot_inj {z : Str} {pd : PD} (h : ThK z pd) (o : Option Nat) (n : Nat) (e : TL.tl z = TL.tl (PyData.tuple [dO o, .int (n : Nat)]).shown) : pd = .tup [oPD o, .int (n : Nat)] := by
  obtain ⟨fo, x, r, ex, hx⟩ := free_o o
  rw [tl_two, ex] at e
  have first : ∀ (y : Nat) (q : List Nat), TL.tl z = y :: q → y = 40 := fun y q w => by
    rw [w] at e
    exact (List.cons.inj e).1
  cases h with
  | «at» a =>
    rename_i d
    cases a with
    | non => have := first _ _ tl_none; omega
    | bl b =>
      have t := tl_bool b
      cases b
      · have := first _ _ t; omega
      · have := first _ _ t; omega
    | int i =>
      cases i with
      | ofNat m =>
        have t := tl_nat m
        cases em : TL.numL m with
        | nil => exact absurd em (TL.numL_ne m)
        | cons y q =>
          rw [em] at t
          have := first _ _ t
          have := TL.numL_digits m y (by rw [em]; exact List.mem_cons_self)
          omega
      | negSucc m =>
        obtain ⟨r', e', _⟩ := tl_neg m
        have := first _ _ e'
        omega
    | s0 => have := first _ _ tl_s0; omega
    | se => have := first _ _ tl_se; omega
    | sa => have := first _ _ tl_sa; omega
    | t0 =>
      rw [tl_t0] at e
      have := (List.cons.inj (List.cons.inj e).2).1
      rcases hx with ⟨w, _⟩ | w <;> omega
    | l0 => have := first _ _ tl_l0; omega
    | t1 =>
      rw [tl_t1, ← ex] at e
      have e2 := (List.cons.inj e).2
      have e3 : TL.tl (PyData.int ((0 : Nat) : Int)).shown ++ 44 :: [41] = TL.tl (dO o).shown ++ 44 :: (32 :: (TL.tl (PyData.int (n : Nat)).shown ++ [41])) := by
        rw [tl_nat]
        exact e2
      have := (at_run (.int ((0 : Nat) : Int)) o (.inl rfl) (.inl rfl) e3).2.2
      cases this
  | dct => have := first _ _ tl_dct; omega
  | l2 a b =>
    obtain ⟨r', e'⟩ := tl_lst2 _ _
    have := first _ _ e'
    omega
  | t1 a =>
    rw [tl_one, ← ex] at e
    have := (at_run a o (.inl rfl) (.inl rfl) (List.cons.inj e).2).2.2
    cases this
  | t2 a b =>
    rw [tl_two, ← ex] at e
    obtain ⟨e1, _, e3⟩ := at_run a o (.inl rfl) (.inl rfl) (List.cons.inj e).2
    have e4 := at_run b (some n) (.inr rfl) (.inr rfl) (List.cons.inj e3).2
    rw [e1, e4.1]
    rfl
  | t3 a b =>
    rw [tl_three, ← ex] at e
    obtain ⟨e1, _, e3⟩ := at_run a o (.inl rfl) (.inl rfl) (List.cons.inj e).2
    have e4 := (at_run b (some n) (.inl rfl) (.inr rfl) (List.cons.inj e3).2).2.1
    cases e4
theorem node_inj {z : Str} {pd : PD} (h : ThK z pd) (n : Nat) (e : TL.tl z = TL.tl (PyData.int (n : Nat)).shown) : pd = .int (n : Nat) := by
  cases h with
  | «at» a => exact at_inj a (some n) e
  | dct =>
    obtain ⟨_, x, r, ex, hx⟩ := free_o (some n)
    rw [tl_dct, show TL.tl (PyData.int (n : Nat)).shown = x :: r from ex] at e
    have := (List.cons.inj e).1
    rcases hx with ⟨w, _⟩ | w <;> omega
  | l2 a b =>
    obtain ⟨_, x, r, ex, hx⟩ := free_o (some n)
    obtain ⟨r', e'⟩ := tl_lst2 _ _
    rw [e', show TL.tl (PyData.int (n : Nat)).shown = x :: r from ex] at e
    have := (List.cons.inj e).1
    rcases hx with ⟨w, _⟩ | w <;> omega
  | t1 a =>
    obtain ⟨_, x, r, ex, hx⟩ := free_o (some n)
    rw [tl_one, show TL.tl (PyData.int (n : Nat)).shown = x :: r from ex] at e
    have := (List.cons.inj e).1
    rcases hx with ⟨w, _⟩ | w <;> omega
  | t2 a b =>
    obtain ⟨_, x, r, ex, hx⟩ := free_o (some n)
    rw [tl_two, show TL.tl (PyData.int (n : Nat)).shown = x :: r from ex] at e
    have := (List.cons.inj e).1
    rcases hx with ⟨w, _⟩ | w <;> omega
  | t3 a b =>
    obtain ⟨_, x, r, ex, hx⟩ := free_o (some n)
    rw [tl_three, show TL.tl (PyData.int (n : Nat)).shown = x :: r from ex] at e
    have := (List.cons.inj e).1
    rcases hx with ⟨w, _⟩ | w <;> omega
def tupLen : PD → Nat
  | .tup l => l.length
  | _ => 0
/-- the other way: what a place and a node are told as -/
theorem at_back {d : PyData} {o : Option Nat} (h : AtK d (oPD o)) : d = dO o := by
  cases o with
  | none => cases h; rfl
  | some n => cases h; rfl
theorem spot_shown {z : Str} {o : Option Nat} {n : Nat} (h : ThK z (.tup [oPD o, .int (n : Nat)])) : z = (PyData.tuple [dO o, .int (n : Nat)]).shown := by
  generalize hp : PD.tup [oPD o, .int (n : Nat)] = pd at h
  cases h with
  | «at» a => have hl := congrArg tupLen hp; cases a <;> cases hl
  | dct => cases hp
  | l2 a b => cases hp
  | t1 a => have hl := congrArg tupLen hp; cases hl
  | t2 a b =>
    injection hp with hp
    injection hp with h1 h2
    injection h2 with h2 _
    subst h1
    subst h2
    rw [at_back a]
    cases b
    rfl
  | t3 a b => have hl := congrArg tupLen hp; cases hl
theorem node_shown {z : Str} {n : Nat} (h : ThK z (.int (n : Nat))) : z = (PyData.int (n : Nat)).shown := by
  cases h with
  | «at» a => cases a; rfl
/-! ### the place of a node, by its parent and its row -/
theorem backTo_spec {doc : Doc} {d : Nat} : ∀ (k n : Nat), backTo' doc d k n = match (backTo' doc d k 0) with | (o, m) => (o, n + m)
  | 0, n => rfl
  | k + 1, n => by
    rw [backTo_step, backTo_step]
    by_cases c : dep doc k < d
    · rw [if_pos c, if_pos c]
      rfl
    · rw [if_neg c, if_neg c]
      by_cases e : dep doc k = d
      · rw [if_pos e, if_pos e, backTo_spec k (n + 1), backTo_spec k (0 + 1)]
        show (_, n + 1 + _) = (_, n + (0 + 1 + _))
        congr 1
        omega
      · rw [if_neg e, if_neg e, backTo_spec k n]
/-- how many of the row stand ahead -/
def cntTo (doc : Doc) (o : Option Nat) : Nat → Nat
  | 0 => 0
  | k + 1 => cntTo doc o k + if lawPar doc k = o then 1 else 0
theorem rowA_cnt (doc : Doc) (o : Option Nat) : ∀ t, (rowA doc t o).length = cntTo doc o t
  | 0 => rfl
  | t + 1 => by
    rw [rowA_succ, List.length_append, rowA_cnt doc o t]
    show _ = cntTo doc o t + if lawPar doc t = o then 1 else 0
    congr 1
    by_cases c : lawPar doc t = o
    · rw [if_pos c, if_pos c]; rfl
    · rw [if_neg c, if_neg c]; rfl
theorem rowA_split (doc : Doc) (o : Option Nat) (t : Nat) : ∀ n, t ≤ n → ∃ r, rowA doc n o = rowA doc t o ++ r ∧ ∀ x ∈ r, t ≤ x
  | 0, h => ⟨[], by rw [Nat.le_zero.mp h, List.append_nil], fun _ h => (nomatch h)⟩
  | n + 1, h => by
    rcases Nat.lt_or_eq_of_le h with q | q
    · obtain ⟨r, e, a⟩ := rowA_split doc o t n (by omega)
      refine ⟨r ++ if lawPar doc n = o then [n] else [], by rw [rowA_succ, e, List.append_assoc], fun x hx => ?_⟩
      rcases List.mem_append.mp hx with hx | hx
      · exact a x hx
      · split at hx
        · rw [List.mem_singleton.mp hx]; omega
        · cases hx
    · subst q
      exact ⟨[], by rw [List.append_nil], fun _ h => (nomatch h)⟩
theorem ix_row {doc : Doc} {i n : Nat} (hi : i < n) : ixIn i (rowA doc n (lawPar doc i)) = cntTo doc (lawPar doc i) i := by
  obtain ⟨r, e, _⟩ := rowA_split doc (lawPar doc i) (i + 1) n hi
  rw [e, rowA_succ, if_pos rfl, List.append_assoc]
  rw [show ([i] ++ r : List Nat) = i :: r from rfl, ixIn_app, rowA_cnt]
  intro h
  have := (List.mem_filter.mp h).1
  have := List.mem_range.mp this
  omega
theorem place_law {doc : Doc} (ok : okFrom 0 doc) {i : Nat} (hi : i < doc.length) : placeOf doc i = (lawPar doc i, ixIn i (rowA doc doc.length (lawPar doc i))) := by
  rw [ix_row hi]
  unfold placeOf
  -- from k back: all from k on, ahead of i, are at least as deep
  have go : ∀ k, k ≤ i → (∀ m, k ≤ m → m < i → dep doc i ≤ dep doc m) → backTo' doc (dep doc i) k 0 = (lawPar doc i, cntTo doc (lawPar doc i) k) := by
    intro k
    induction k with
    | zero =>
      intro _ all
      have : lawPar doc i = none := by
        cases e : lawPar doc i with
        | none => rfl
        | some j =>
          obtain ⟨a, b, _⟩ := lparTo_some e
          have := all j (Nat.zero_le _) a
          omega
      rw [this]
      rfl
    | succ k ih =>
      intro hk all
      rw [backTo_step]
      by_cases c : dep doc k < dep doc i
      · rw [if_pos c]
        have dk : (dep doc k : Int) = (dep doc i : Int) - 1 := by
          by_cases z : k + 1 = i
          · have := dep_succ ok (i := k) (by omega)
            rw [z] at this
            omega
          · have h1 := all (k + 1) (Nat.le_refl _) (by omega)
            have := dep_succ ok (i := k) (by omega)
            omega
        have par : lawPar doc i = some k := lparTo_is (by omega) dk fun m m1 m2 => by
          have := all m m1 m2
          omega
        have cz : cntTo doc (some k) (k + 1) = 0 := by
          rw [← rowA_cnt]
          have : rowA doc (k + 1) (some k) = [] := by
            unfold rowA
            rw [List.filter_eq_nil_iff]
            intro m hm q
            have := par_lt (of_decide_eq_true q)
            have := List.mem_range.mp hm
            omega
          rw [this]
          rfl
        rw [par, cz]
      · rw [if_neg c]
        have all' : ∀ m, k ≤ m → m < i → dep doc i ≤ dep doc m := fun m m1 m2 => by
          rcases Nat.lt_or_eq_of_le m1 with z | z
          · exact all m z m2
          · subst z; omega
        have ihk := ih (by omega) all'
        show backTo' doc (dep doc i) k (if dep doc k = dep doc i then 0 + 1 else 0) = (lawPar doc i, cntTo doc (lawPar doc i) k + if lawPar doc k = lawPar doc i then 1 else 0)
        have iff : dep doc k = dep doc i ↔ lawPar doc k = lawPar doc i := by
          constructor
          · intro e
            unfold lawPar
            rw [e]
            cases l : lparTo doc ((dep doc i : Int) - 1) i with
            | none =>
              cases l2 : lparTo doc ((dep doc i : Int) - 1) k with
              | none => rfl
              | some j =>
                obtain ⟨a, b, n⟩ := lparTo_some l2
                have : lparTo doc ((dep doc i : Int) - 1) i = some j := lparTo_is (by omega) b fun m m1 m2 => by
                  by_cases z : m < k
                  · exact n m m1 z
                  · have := all' m (by omega) m2
                    omega
                rw [l] at this
                cases this
            | some j =>
              obtain ⟨a, b, n⟩ := lparTo_some l
              have jk : j < k := by
                by_cases z : j < k
                · exact z
                · have := all' j (by omega) a
                  omega
              exact lparTo_is jk b fun m m1 m2 => n m m1 (by omega)
          · intro e
            have hk' := all' k (Nat.le_refl _) (by omega)
            cases l : lawPar doc i with
            | none =>
              rw [l] at e
              have := (lawPar_none ok (by omega)).mp e
              have := (lawPar_none ok hi).mp l
              omega
            | some j =>
              rw [l] at e
              obtain ⟨_, b1, _⟩ := lparTo_some l
              obtain ⟨_, b2, _⟩ := lparTo_some e
              omega
        by_cases e : dep doc k = dep doc i
        · rw [if_pos e, if_pos (iff.mp e), backTo_spec, ihk]
          show (_, 0 + 1 + _) = _
          congr 1
          omega
        · rw [if_neg e, if_neg (fun z => e (iff.mpr z)), ihk]
          rfl
  exact go i (Nat.le_refl _) fun m m1 m2 => absurd m2 (by omega)

/-! ### told things -/
theorem Rep.tupS {K : PySem.W.Frag} {H : Hp} {a : Addr} {xs : List V} {ds : List PD} (e : H a = some (.tup xs)) (r : Reps K H xs ds) : Rep K H (.ref a) (.tup ds) := .tup e r
/-- a small thing at v -/
structure AtAt (K : PySem.W.Frag) (H : Hp) (v : V) (d : PyData) (pd : PD) : Prop where
  told : Told K H v d
  rep : Rep K H v pd
  kind : AtK d pd
  dp : d.depth ≤ 3
  ms : most d ≤ 2100
theorem sqT_go {K : PySem.W.Frag} {H H' : Hp} (s : Same H H') {a : Addr} {xs : List V} (h : SqT K H a xs) : SqT K H' a xs := by
  rcases h with (h | ⟨o, h⟩) | h
  · exact .inl (.inl (s _ _ h))
  · exact .inl (.inr ⟨o, s _ _ h⟩)
  · exact .inr h
theorem Dp.same {K : PySem.W.Frag} {H H' : Hp} (s : Same H H') {v : V} {d : PyData} (h : Dp K H v d) : Dp K H' v d := by
  have go : ∀ (d : PyData) (v : V), Dp K H v d → Dp K H' v d := fun d v h => by
    refine Dp.rec (motive_1 := fun v d _ => Dp K H' v d) (motive_2 := fun vs ds _ => DpAll K H' vs ds) ?_ ?_ ?_ ?_ ?_ ?_ ?_ ?_ h
    · exact .non
    · exact fun b => .bl b
    · exact fun i => .int i
    · exact fun x => .str x
    · exact fun hs _ ih => .lst (s.seq hs) ih
    · exact fun hs _ ih => .tup (sqT_go s hs) ih
    · exact .nil
    · exact fun _ _ a b => .cons a b
  exact go d v h
theorem told_same {K : PySem.W.Frag} {H H' : Hp} (s : Same H H') {v : V} {d : PyData} (h : Told K H v d) : Told K H' v d := ⟨Dp.same s h.at_, h.show_, h.plain, h.deep, h.short⟩
theorem AtAt.same {K : PySem.W.Frag} {H H' : Hp} (s : Same H H') {v : V} {d : PyData} {pd : PD} (h : AtAt K H v d pd) : AtAt K H' v d pd := ⟨told_same s h.told, h.rep.same s, h.kind, h.dp, h.ms⟩
theorem told_scal {K : PySem.W.Frag} {H : Hp} {v : V} {d : PyData} (h : Dp K H v d) (s : d.showable = true) (p : d.hasDict = false) (dp : d.depth ≤ 3) (ms : most d ≤ 2100) : Told K H v d := ⟨h, s, p, by omega, by omega⟩
theorem atat_non {K : PySem.W.Frag} {H : Hp} : AtAt K H .non .none .non := ⟨told_scal .non (by simp [PyData.showable]) (by simp [PyData.hasDict]) (by simp [PyData.depth]) (by decide), .non, .non, by simp [PyData.depth], by decide⟩
theorem atat_bl {K : PySem.W.Frag} {H : Hp} (b : Bool) : AtAt K H (.bl b) (.bool b) (.bl b) := ⟨told_scal (.bl b) (by simp [PyData.showable]) (by simp [PyData.hasDict]) (by simp [PyData.depth]) (by show (5 : Nat) ≤ 2100; decide), .bl b, .bl b, by simp [PyData.depth], by show (5 : Nat) ≤ 2100; decide⟩
theorem atat_int {K : PySem.W.Frag} {H : Hp} {i : Int} (h : i.natAbs.log2 < 1920) : AtAt K H (.int i) (.int i) (.int i) := ⟨told_scal (.int i) (by simpa [PyData.showable] using h) (by simp [PyData.hasDict]) (by simp [PyData.depth]) (by show (2000 : Nat) ≤ 2100; decide), .int i, .int i, by simp [PyData.depth], by show (2000 : Nat) ≤ 2100; decide⟩
theorem atat_str {K : PySem.W.Frag} {H : Hp} {z : Str} (k : AtK (.str z) (.str z)) (h : (reprText z).length ≤ 100) (l : z.length ≤ 1000) : AtAt K H (.str z) (.str z) (.str z) :=
  ⟨told_scal (.str z) (by simp [PyData.showable]) (by simp [PyData.hasDict]) (by simp [PyData.depth]) (by show (reprText z).length ≤ 2100; omega), .str z l, k, by simp [PyData.depth], by show (reprText z).length ≤ 2100; omega⟩
theorem atat_t0 {K : PySem.W.Frag} {H : Hp} {a : Addr} (e : H a = some (.tup [])) : AtAt K H (.ref a) (.tuple []) (.tup []) :=
  ⟨told_scal (.tup (SqT.of e) .nil) (by simp [PyData.showable, PyData.showableAll]) (by simp [PyData.hasDict, PyData.hasDictAll]) (by simp [PyData.depth, PyData.depthAll]) (by show (4 : Nat) ≤ 2100; decide), .tup e .nil, .t0, by simp [PyData.depth, PyData.depthAll], by show (4 : Nat) ≤ 2100; decide⟩
theorem small_int : ((0 : Int)).natAbs.log2 < 1920 := by decide +kernel
theorem atat_t1 {K : PySem.W.Frag} {H : Hp} {a : Addr} (e : H a = some (.tup [.int 0])) : AtAt K H (.ref a) (.tuple [.int 0]) (.tup [.int 0]) :=
  ⟨told_scal (.tup (SqT.of e) (.cons (.int 0) .nil)) (by simpa [PyData.showable, PyData.showableAll] using small_int) (by simp [PyData.hasDict, PyData.hasDictAll]) (by simp [PyData.depth, PyData.depthAll]) (by show (2006 : Nat) ≤ 2100; decide), .tup e (.cons (.int 0) .nil), .t1, by simp [PyData.depth, PyData.depthAll], by show (2006 : Nat) ≤ 2100; decide⟩
theorem atat_l0 {K : PySem.W.Frag} {H : Hp} {a : Addr} (e : H a = some (.lst [.int 0])) : AtAt K H (.ref a) (.list [.int 0]) .oth :=
  ⟨told_scal (.lst (SqL.of e) (.cons (.int 0) .nil)) (by simpa [PyData.showable, PyData.showableAll] using small_int) (by simp [PyData.hasDict, PyData.hasDictAll]) (by simp [PyData.depth, PyData.depthAll]) (by show (2006 : Nat) ≤ 2100; decide), .oth (.lst e) rfl (fun xs z => by rw [e] at z; cases z), .l0, by simp [PyData.depth, PyData.depthAll], by show (2006 : Nat) ≤ 2100; decide⟩
/-- a thing near to a place at v -/
def Th (K : PySem.W.Frag) (H : Hp) (v : V) : Prop := ∃ (z : Str) (pd : PD), Tld K H v z ∧ Rep K H v pd ∧ ThK z pd
theorem tld_same {K : PySem.W.Frag} {H H' : Hp} (s : Same H H') {v : V} {z : Str} (h : Tld K H v z) : Tld K H' v z := by
  cases h with
  | told h => exact .told (told_same s h)
  | dct h => exact .dct (s _ _ h)
theorem Th.same {K : PySem.W.Frag} {H H' : Hp} (s : Same H H') {v : V} (h : Th K H v) : Th K H' v := by
  obtain ⟨z, pd, h1, h2, h3⟩ := h
  exact ⟨z, pd, tld_same s h1, h2.same s, h3⟩
theorem AtAt.th {K : PySem.W.Frag} {H : Hp} {v : V} {d : PyData} {pd : PD} (h : AtAt K H v d pd) : Th K H v := ⟨_, _, .told h.told, h.rep, .at h.kind⟩
theorem th_dct {K : PySem.W.Frag} {H : Hp} {a : Addr} (e : H a = some (.dK [])) : Th K H (.ref a) := ⟨_, _, .dct e, .oth (.dct e) rfl (fun xs z => by rw [e] at z; cases z), .dct⟩
theorem told_seq {K : PySem.W.Frag} {H : Hp} {v : V} {ds : List PyData} (h : DpAll K H [] [] → Dp K H v (.tuple ds)) (s : PyData.showableAll ds = true) (p : PyData.hasDictAll ds = false) (dp : PyData.depthAll ds ≤ 10) (ms : mostAll ds ≤ 100000) : Told K H v (.tuple ds) :=
  ⟨h .nil, by simpa [PyData.showable] using s, by simpa [PyData.hasDict] using p, by simp [PyData.depth]; omega, by show mostAll ds + 4 ≤ 16000000; omega⟩
theorem told_seqL {K : PySem.W.Frag} {H : Hp} {v : V} {ds : List PyData} (h : Dp K H v (.list ds)) (s : PyData.showableAll ds = true) (p : PyData.hasDictAll ds = false) (dp : PyData.depthAll ds ≤ 10) (ms : mostAll ds ≤ 100000) : Told K H v (.list ds) :=
  ⟨h, by simpa [PyData.showable] using s, by simpa [PyData.hasDict] using p, by simp [PyData.depth]; omega, by show mostAll ds + 4 ≤ 16000000; omega⟩
theorem AtAt.t1 {K : PySem.W.Frag} {H : Hp} {a : Addr} {x : V} {dx : PyData} {px : PD} (hx : AtAt K H x dx px) (e : H a = some (.tup [x])) : Th K H (.ref a) :=
  ⟨_, _, .told (told_seq (fun _ => .tup (SqT.of e) (.cons hx.told.at_ .nil)) (by simp [PyData.showableAll, hx.told.show_]) (by simp [PyData.hasDictAll, hx.told.plain]) (by have := hx.dp; simp [PyData.depthAll]; omega) (by have := hx.ms; show most dx + 2 + 0 ≤ _; omega)),
    .tup e (.cons hx.rep .nil), .t1 hx.kind⟩
theorem AtAt.t2 {K : PySem.W.Frag} {H : Hp} {a : Addr} {x y : V} {dx dy : PyData} {px py : PD} (hx : AtAt K H x dx px) (hy : AtAt K H y dy py) (e : H a = some (.tup [x, y])) : Th K H (.ref a) :=
  ⟨_, _, .told (told_seq (fun _ => .tup (SqT.of e) (.cons hx.told.at_ (.cons hy.told.at_ .nil))) (by simp [PyData.showableAll, hx.told.show_, hy.told.show_]) (by simp [PyData.hasDictAll, hx.told.plain, hy.told.plain]) (by have := hx.dp; have := hy.dp; simp [PyData.depthAll]; omega)
    (by have := hx.ms; have := hy.ms; show most dx + 2 + (most dy + 2 + 0) ≤ _; omega)), .tup e (.cons hx.rep (.cons hy.rep .nil)), .t2 hx.kind hy.kind⟩
theorem AtAt.t3 {K : PySem.W.Frag} {H : Hp} {a : Addr} {x y : V} {dx dy : PyData} {px py : PD} (hx : AtAt K H x dx px) (hy : AtAt K H y dy py) (e : H a = some (.tup [x, y, .int 0])) : Th K H (.ref a) :=
  ⟨_, _, .told (told_seq (fun _ => .tup (SqT.of e) (.cons hx.told.at_ (.cons hy.told.at_ (.cons (.int 0) .nil)))) (by simp [PyData.showableAll, hx.told.show_, hy.told.show_]; simpa [PyData.showable] using small_int) (by simp [PyData.hasDictAll, PyData.hasDict, hx.told.plain, hy.told.plain]) (by have := hx.dp; have := hy.dp; simp [PyData.depthAll, PyData.depth]; omega)
    (by have := hx.ms; have := hy.ms; show most dx + 2 + (most dy + 2 + (2000 + 2 + 0)) ≤ _; omega)), .tup e (.cons hx.rep (.cons hy.rep (.cons (.int 0) .nil))), .t3 hx.kind hy.kind⟩
theorem AtAt.l2 {K : PySem.W.Frag} {H : Hp} {a : Addr} {x y : V} {dx dy : PyData} {px py : PD} (hx : AtAt K H x dx px) (hy : AtAt K H y dy py) (e : H a = some (.lst [x, y])) : Th K H (.ref a) :=
  ⟨_, _, .told (told_seqL (.lst (SqL.of e) (.cons hx.told.at_ (.cons hy.told.at_ .nil))) (by simp [PyData.showableAll, hx.told.show_, hy.told.show_]) (by simp [PyData.hasDictAll, hx.told.plain, hy.told.plain]) (by have := hx.dp; have := hy.dp; simp [PyData.depthAll]; omega)
    (by have := hx.ms; have := hy.ms; show most dx + 2 + (most dy + 2 + 0) ≤ _; omega)), .oth (.lst e) rfl (fun xs z => by rw [e] at z; cases z), .l2 hx.kind hy.kind⟩
theorem vO_atat {K : PySem.W.Frag} {H : Hp} (o : Option Nat) (h : ∀ n, o = some n → n < 1000000) : AtAt K H (vO o) (dO o) (oPD o) := by
  cases o with
  | none => exact atat_non
  | some n => exact atat_int (log_small (h n rfl))
/-! what an expression makes: things out of new objects alone -/
def NewIn (H H' H'' : Hp) : Prop := ∀ b o, H b = none → H' b = some o → H'' b = some o
theorem NewIn.back {H H1 H2 H3 : Hp} (n : NewIn H H2 H3) (s : Same H1 H2) : NewIn H H1 H3 := fun b o h e => n b o h (s b o e)
theorem NewIn.front {H H1 H2 H3 : Hp} (n : NewIn H H2 H3) (s : Same H H1) : NewIn H1 H2 H3 := fun b o h e => n b o (s.free h) e
def MkAt (K : PySem.W.Frag) (t : TE) (d : PyData) (pd : PD) : Prop := ∀ σ H (Q : VK), (∀ H' v, Same H H' → (∀ H'', NewIn H H' H'' → AtAt K H'' v d pd) → Q v H') → t σ H Q
def MkTh (K : PySem.W.Frag) (t : TE) : Prop := ∀ σ H (Q : VK), (∀ H' v, Same H H' → (∀ H'', NewIn H H' H'' → Th K H'' v) → Q v H') → t σ H Q
def MkThs (K : PySem.W.Frag) (t : TA) (n : Nat) : Prop := ∀ σ H (Q : List V → Hp → Prop), (∀ H' vs, Same H H' → (∀ v ∈ vs, ∀ H'', NewIn H H' H'' → Th K H'' v) → vs.length = n → Q vs H') → t σ H Q
theorem MkAt.th {K : PySem.W.Frag} {t : TE} {d : PyData} {pd : PD} (h : MkAt K t d pd) : MkTh K t := fun σ H Q k => h σ H Q fun H' v s a => k H' v s fun H'' n => (a H'' n).th
theorem mkt_nil {K : PySem.W.Frag} : MkThs K tNil 0 := fun σ H Q k => k H [] (fun _ _ e => e) (fun _ h => absurd h List.not_mem_nil) rfl
theorem mkt_cons {K : PySem.W.Frag} {t : TE} {r : TA} {n : Nat} (h : MkTh K t) (hr : MkThs K r n) : MkThs K (tCons t r) (n + 1) := fun σ H Q k =>
  h σ H _ fun H1 v s1 a => hr σ H1 _ fun H2 vs s2 all l => k H2 (v :: vs) (s1.trans s2) (fun u hu H'' nw => by
    rcases List.mem_cons.mp hu with q | q
    · subst q; exact a H'' (nw.back s2)
    · exact all u q H'' (nw.front s1)) (by rw [List.length_cons, l])
theorem mka_non {K : PySem.W.Frag} : MkAt K (tC .non) .none .non := fun σ H Q k => k H _ (fun _ _ e => e) fun _ _ => atat_non
theorem mka_bl {K : PySem.W.Frag} (b : Bool) : MkAt K (tC (.bl b)) (.bool b) (.bl b) := fun σ H Q k => k H _ (fun _ _ e => e) fun _ _ => atat_bl b
theorem mka_int {K : PySem.W.Frag} (i : Int) (h : i.natAbs.log2 < 1920 := by decide +kernel) : MkAt K (tC (.int i)) (.int i) (.int i) := fun σ H Q k => k H _ (fun _ _ e => e) fun _ _ => atat_int h
theorem mka_pow {K : PySem.W.Frag} (i j : Int) (h : CPow i j) (h2 : (i ^ j.toNat).natAbs.log2 < 1920 := by decide +kernel) : MkAt K (tOp (rI CPow fun i j => .int (i ^ j.toNat)) (tC (.int i)) (tC (.int j))) (.int (i ^ j.toNat)) (.int (i ^ j.toNat)) := fun σ H Q k => ⟨_, _, rfl, rfl, h, k H _ (fun _ _ e => e) fun _ _ => atat_int h2⟩
theorem mka_neg {K : PySem.W.Frag} (i : Int) (h : (-i).natAbs.log2 < 1920 := by decide +kernel) : MkAt K (tUn (rU fun i => .int (-i)) (tC (.int i))) (.int (-i)) (.int (-i)) := fun σ H Q k => ⟨_, rfl, k H _ (fun _ _ e => e) fun _ _ => atat_int h⟩
theorem mka_str {K : PySem.W.Frag} {z : Str} (kd : AtK (.str z) (.str z)) (h : (reprText z).length ≤ 100 := by decide +kernel) (l : z.length ≤ 1000 := by decide +kernel) : MkAt K (tC (.str z)) (.str z) (.str z) := fun σ H Q k => k H _ (fun _ _ e => e) fun _ _ => atat_str kd h l
theorem mka_t0 {K : PySem.W.Frag} : MkAt K (tTup tNil) (.tuple []) (.tup []) := fun σ H Q k => ⟨Nat.zero_le _, fun p hp => k _ _ (Same.new hp) fun H'' n => atat_t0 (n p _ hp upd_same)⟩
theorem mka_t1 {K : PySem.W.Frag} : MkAt K (tTup (tCons (tC (.int 0)) tNil)) (.tuple [.int 0]) (.tup [.int 0]) := fun σ H Q k => ⟨by show 1 ≤ sizeLine; decide, fun p hp => k _ _ (Same.new hp) fun H'' n => atat_t1 (n p _ hp upd_same)⟩
theorem mka_l0 {K : PySem.W.Frag} : MkAt K (tLst (tCons (tC (.int 0)) tNil)) (.list [.int 0]) .oth := fun σ H Q k => ⟨by show 1 ≤ sizeLine; decide, fun p hp => k _ _ (Same.new hp) fun H'' n => atat_l0 (n p _ hp upd_same)⟩
theorem mkt_dct {K : PySem.W.Frag} : MkTh K tDNewK := fun σ H Q k p hp => k _ _ (Same.new hp) fun H'' n => th_dct (n p _ hp upd_same)
/-- what stands in a slot -/
theorem mka_var {K : PySem.W.Frag} {i : Nat} {v : V} {d : PyData} {pd : PD} {σ : L2.St} {H : Hp} {Q : VK} (h : σ[i]? = some (some v)) (a : ∀ H'', AtAt K H'' v d pd) (k : ∀ H' v, Same H H' → (∀ H'', NewIn H H' H'' → AtAt K H'' v d pd) → Q v H') : tVar i σ H Q := ⟨v, h, k H v (fun _ _ e => e) fun H'' _ => a H''⟩
theorem new_at {H H1 H3 : Hp} {p : Addr} {o : HO} (s1 : Same H H1) (hp : H1 p = none) (n : NewIn H (upd H1 p o) H3) : H3 p = some o := n p o (s1.free hp) upd_same
theorem mkt_t1 {K : PySem.W.Frag} {t : TE} {d : PyData} {pd : PD} (h : MkAt K t d pd) : MkTh K (tTup (tCons t tNil)) := fun σ H Q k => h σ H _ fun H1 v s1 a => ⟨by show 1 ≤ sizeLine; decide, fun p hp => k _ _ (s1.trans (Same.new hp)) fun H'' n => (a H'' (n.back (Same.new hp))).t1 (new_at s1 hp n)⟩
theorem mkt_t2 {K : PySem.W.Frag} {t u : TE} {d e : PyData} {pd pe : PD} (h : MkAt K t d pd) (g : MkAt K u e pe) : MkTh K (tTup (tCons t (tCons u tNil))) := fun σ H Q k => h σ H _ fun H1 v s1 a => g σ H1 _ fun H2 w s2 b =>
  ⟨by show 2 ≤ sizeLine; decide, fun p hp => k _ _ ((s1.trans s2).trans (Same.new hp)) fun H'' n => (a H'' ((n.back (Same.new hp)).back s2)).t2 (b H'' ((n.back (Same.new hp)).front s1)) (new_at (s1.trans s2) hp n)⟩
theorem mkt_t3 {K : PySem.W.Frag} {t u : TE} {d e : PyData} {pd pe : PD} (h : MkAt K t d pd) (g : MkAt K u e pe) : MkTh K (tTup (tCons t (tCons u (tCons (tC (.int 0)) tNil)))) := fun σ H Q k => h σ H _ fun H1 v s1 a => g σ H1 _ fun H2 w s2 b =>
  ⟨by show 3 ≤ sizeLine; decide, fun p hp => k _ _ ((s1.trans s2).trans (Same.new hp)) fun H'' n => (a H'' ((n.back (Same.new hp)).back s2)).t3 (b H'' ((n.back (Same.new hp)).front s1)) (new_at (s1.trans s2) hp n)⟩
theorem mkt_l2 {K : PySem.W.Frag} {t u : TE} {d e : PyData} {pd pe : PD} (h : MkAt K t d pd) (g : MkAt K u e pe) : MkTh K (tLst (tCons t (tCons u tNil))) := fun σ H Q k => h σ H _ fun H1 v s1 a => g σ H1 _ fun H2 w s2 b =>
  ⟨by show 2 ≤ sizeLine; decide, fun p hp => k _ _ ((s1.trans s2).trans (Same.new hp)) fun H'' n => (a H'' ((n.back (Same.new hp)).back s2)).l2 (b H'' ((n.back (Same.new hp)).front s1)) (new_at (s1.trans s2) hp n)⟩
/-- a thing that stands whatever becomes of the feed -/
def ThB (K : PySem.W.Frag) (p : Addr) (H : Hp) (v : V) : Prop := ∀ H'', SameBut p H H'' → Th K H'' v
theorem ThB.here {K : PySem.W.Frag} {p : Addr} {H : Hp} {v : V} (h : ThB K p H v) : Th K H v := h H SameBut.refl
theorem ThB.go {K : PySem.W.Frag} {p : Addr} {H H' : Hp} {v : V} (h : ThB K p H v) (s : SameBut p H H') : ThB K p H' v := fun H'' s' => h H'' (s.trans s')
theorem thb_of {K : PySem.W.Frag} {p : Addr} {H H1 : Hp} {v : V} {o : HO} (hp : H p = some o) (a : ∀ H'', NewIn H H1 H'' → Th K H'' v) {H2 : Hp} (s : SameBut p H1 H2) : ThB K p H2 v := fun H'' s2 => a H'' fun b u hb e =>
  have bp : b ≠ p := fun z => by subst z; rw [hp] at hb; cases hb
  s2 b u bp (s b u bp e)
/-- one drawn of a list of things -/
theorem th_one {K : PySem.W.Frag} {t : TA} {n : Nat} {σ : L2.St} {H : Hp} {Q : VK} {E : XK} {p : Addr} {m : Nat} {o : List V} (h : MkThs K t n) (h0 : σ[0]? = some (some (.ref p))) (hp : H p = some (.lst o)) (hf : FeedOk (m + 1) o) (n0 : 0 < n) (n1 : n ≤ 1000)
    (k : ∀ (H' : Hp) (v : V) (o' : List V), SameBut p H H' → H' p = some (.lst o') → FeedOk m o' → ThB K p H' v → Q v H') : tCall (spOne K) [] E (tCons (tVar 0) (tCons (tLst t) tNil)) σ H Q := by
  refine ⟨_, h0, h σ H _ fun H1 vs s1 all l => ⟨by rw [l]; exact Nat.le_trans n1 (by decide), fun q hq => ?_⟩⟩
  have qp : q ≠ p := fun z => by subst z; rw [s1 _ _ hp] at hq; cases hq
  have s2 : Same H (upd H1 q (.lst vs)) := s1.trans (Same.new hq)
  refine ⟨p, _, vs, m, o, rfl, s2 _ _ hp, hf, .inr ⟨q, rfl, qp, SqL.of upd_same⟩, by omega, by omega, fun o' y fo my => ?_⟩
  refine k _ y o' (fun b ob n e => by rw [upd_ne n]; exact s2 b ob e) upd_same fo ?_
  refine thb_of hp (all y my) fun b u n e => ?_
  rw [upd_ne n, upd_ne (ne_of_none e hq)]
  exact e

/-! ### what is asked -/
def toldD (d : PyData) : PyData := .tuple [.str "told", d]
def rowD (l : List Nat) : PyData := .tuple ((l.map some).map dO)
def askD (way : Nat) (doc : Doc) (pd : PD) : PyData :=
  if way = 3 then (match spotP doc pd with | some n => toldD (.int (n : Nat)) | none => .tuple [.str "BadPlace"])
  else if way = 0 ∧ isNone pd = true then toldD (rowD (rowOf doc none))
  else match nodeP doc.length pd with
    | none => .tuple [.str "BadNode"]
    | some i => if way = 0 then toldD (rowD (rowOf doc (some i))) else if way = 1 then toldD (.tuple ([(placeOf doc i).1, some (placeOf doc i).2].map dO)) else toldD (docD (pieceOf doc i))
theorem told_word {K : PySem.W.Frag} {H : Hp} {a : Addr} {z : Str} (hz : (reprText z).length ≤ 100) (e : SqT K H a [.str z]) : Told K H (.ref a) (.tuple [.str z]) where
  at_ := .tup e (.cons (.str z) .nil)
  show_ := by simp [PyData.showable, PyData.showableAll]
  plain := by simp [PyData.hasDict, PyData.hasDictAll]
  deep := by simp [PyData.depth, PyData.depthAll]
  short := by show (reprText z).length + 2 + 0 + 4 ≤ 16000000; omega
theorem told_pair {K : PySem.W.Frag} {H : Hp} {a : Addr} {v : V} {d : PyData} (h : Told K H v d) (dp : d.depth ≤ 10) (ms : most d ≤ 10000000) (e : SqT K H a [.str "told", v]) : Told K H (.ref a) (toldD d) where
  at_ := .tup e (.cons (.str _) (.cons h.at_ .nil))
  show_ := by simp [toldD, PyData.showable, PyData.showableAll, h.show_]
  plain := by simp [toldD, PyData.hasDict, PyData.hasDictAll, h.plain]
  deep := by simp [toldD, PyData.depth, PyData.depthAll]; omega
  short := by
    have : (reprText "told").length ≤ 100 := by decide +kernel
    show (reprText "told").length + 2 + (most d + 2 + 0) + 4 ≤ 16000000
    omega
theorem dp_row (l : List (Option Nat)) : (PyData.tuple (l.map dO)).depth ≤ 10 := by
  have := dO_deep l
  simp [PyData.depth, this]
theorem ms_row {l : List (Option Nat)} (h : l.length ≤ 1000) : most (PyData.tuple (l.map dO)) ≤ 10000000 := by
  have := dO_most l
  show mostAll (l.map dO) + 4 ≤ _
  omega
theorem dp_doc (doc : Doc) : (docD doc).depth ≤ 10 := by
  have := docs_deep doc
  show PyData.depth (.tuple (doc.map entD)) ≤ 10
  simp [PyData.depth]
  omega
theorem ms_doc {doc : Doc} (ok : okFrom 0 doc) (h : doc.length ≤ 1000) : most (docD doc) ≤ 10000000 := by
  have := docs_most ok
  show mostAll (doc.map entD) + 4 ≤ _
  omega
theorem told_nums {K : PySem.W.Frag} {H : Hp} {a q : Addr} {l : List (Option Nat)} (h : SqT K H q (l.map vO)) (hl : l.length ≤ 1000) (hs : ∀ i, some i ∈ l → i < 1000000) (e : SqT K H a [.str "told", .ref q]) : Told K H (.ref a) (toldD (.tuple (l.map dO))) :=
  told_pair (told_tup h hl hs) (dp_row l) (ms_row hl) e
theorem rowOf_lt {doc : Doc} (ok : okFrom 0 doc) {o : Option Nat} (ho : inDoc doc o) : ∀ i ∈ rowOf doc o, i < doc.length := fun i hi => by
  rw [rowOf_eq ok ho] at hi
  exact List.mem_range.mp (List.mem_filter.mp hi).1
theorem rowOf_len {doc : Doc} (ok : okFrom 0 doc) {o : Option Nat} (ho : inDoc doc o) : (rowOf doc o).length ≤ doc.length := by
  rw [rowOf_eq ok ho]
  exact rowA_len doc doc.length o
theorem told_rowD {K : PySem.W.Frag} {H : Hp} {a q : Addr} {doc : Doc} (ok : okFrom 0 doc) {o : Option Nat} (ho : inDoc doc o) (hl : doc.length ≤ 1000) (h : SqT K H q (nV (rowOf doc o))) (e : SqT K H a [.str "told", .ref q]) : Told K H (.ref a) (toldD (rowD (rowOf doc o))) := by
  rw [nV_some] at h
  refine told_nums h (by rw [List.length_map]; have := rowOf_len ok ho; omega) (fun i hi => ?_) e
  have := rowOf_lt ok ho i (mem_somes hi)
  omega
theorem told_placeD {K : PySem.W.Frag} {H : Hp} {a q : Addr} {doc : Doc} (ok : okFrom 0 doc) {i : Nat} (hi : i < doc.length) (hl : doc.length ≤ 1000) (h : SqT K H q [vO (placeOf doc i).1, .int ((placeOf doc i).2 : Nat)]) (e : SqT K H a [.str "told", .ref q]) :
    Told K H (.ref a) (toldD (.tuple ([(placeOf doc i).1, some (placeOf doc i).2].map dO))) := by
  refine told_nums (l := [(placeOf doc i).1, some (placeOf doc i).2]) h (by show 2 ≤ 1000; decide) (fun j hj => ?_) e
  rw [place_law ok hi] at hj
  have h1 : ∀ h, lawPar doc i = some h → h < i := fun h e => par_lt e
  have h2 := ix_row hi (doc := doc)
  have h3 : cntTo doc (lawPar doc i) i ≤ i := by rw [← rowA_cnt]; exact rowA_len _ _ _
  rcases List.mem_cons.mp hj with q | q
  · have := h1 j q.symm
    omega
  · have := List.mem_singleton.mp q
    injection this with this
    omega
theorem told_docD' {K : PySem.W.Frag} {H : Hp} {a q : Addr} {doc : Doc} (ok : okFrom 0 doc) (hl : doc.length ≤ 1000) (h : DocAt H q doc) (e : SqT K H a [.str "told", .ref q]) : Told K H (.ref a) (toldD (docD doc)) :=
  told_pair (told_doc h ok hl) (dp_doc doc) (ms_doc ok hl) e
theorem told_intD {K : PySem.W.Frag} {H : Hp} {a : Addr} {n : Nat} (h : n < 1000000) (e : SqT K H a [.str "told", .int (n : Nat)]) : Told K H (.ref a) (toldD (.int (n : Nat))) :=
  told_pair (atat_int (i := ((n : Nat) : Int)) (log_small (show ((n : Nat) : Int).natAbs < 1000000 from h))).told (by simp [PyData.depth]) (by show (2000 : Nat) ≤ _; decide) e
theorem parP_some {n : Nat} {d : PD} {o : Option Nat} (h : parP n d = some o) : d = oPD o ∧ ∀ i, o = some i → i < n := by
  cases d with
  | non => cases h; exact ⟨rfl, fun _ h => nomatch h⟩
  | int j =>
    have h' : (nodeP n (.int j)).map some = some o := h
    cases e : nodeP n (.int j) with
    | none => rw [e] at h'; cases h'
    | some i =>
      rw [e] at h'
      cases h'
      obtain ⟨e1, e2⟩ := nodeP_some e
      rw [e1]
      exact ⟨rfl, fun k hk => by cases hk; exact e2⟩
  | _ => cases h
theorem spotP_some {doc : Doc} {d : PD} {n : Nat} (h : spotP doc d = some n) : ∃ (o : Option Nat) (w : Nat), d = .tup [oPD o, .int (w : Nat)] ∧ inDoc doc o ∧ (rowOf doc o)[w]? = some n := by
  match d, h with
  | .tup [x, y], h =>
    have h' : spotIn doc (parP doc.length x) y = some n := h
    cases e : parP doc.length x with
    | none => rw [e] at h'; cases h'
    | some o =>
      rw [e] at h'
      obtain ⟨e1, e2⟩ := parP_some e
      cases y with
      | int j =>
        have h2 : (if 0 ≤ j then (rowOf doc o)[j.toNat]? else none) = some n := h'
        by_cases c : 0 ≤ j
        · rw [if_pos c] at h2
          refine ⟨o, j.toNat, ?_, e2, h2⟩
          rw [e1, Int.toNat_of_nonneg c]
        · rw [if_neg c] at h2; cases h2
      | _ => cases h'
  | .non, h => cases h
  | .bl _, h => cases h
  | .int _, h => cases h
  | .str _, h => cases h
  | .oth, h => cases h
  | .tup [], h => cases h
  | .tup [_], h => cases h
  | .tup (_ :: _ :: _ :: _), h => cases h
theorem spotP_is {doc : Doc} {o : Option Nat} {w n : Nat} (ho : inDoc doc o) (h : (rowOf doc o)[w]? = some n) : spotP doc (.tup [oPD o, .int (w : Nat)]) = some n := by
  have e : parP doc.length (oPD o) = some o := by
    cases o with
    | none => rfl
    | some i =>
      show (nodeP doc.length (.int (i : Nat))).map some = _
      rw [nodeP_is (ho i rfl)]
      rfl
  show spotIn doc (parP doc.length (oPD o)) (PD.int (w : Nat)) = some n
  rw [e]
  show (if 0 ≤ (w : Int) then (rowOf doc o)[((w : Int)).toNat]? else none) = some n
  rw [if_pos (by omega), Int.toNat_natCast]
  exact h
theorem spotP_lt {doc : Doc} (ok : okFrom 0 doc) {d : PD} {n : Nat} (h : spotP doc d = some n) : n < doc.length := by
  obtain ⟨o, w, _, ho, e⟩ := spotP_some h
  exact rowOf_lt ok ho n (List.mem_of_getElem? e)
def spAsk (K : PySem.W.Frag) : Sp := fun vs H Q _ => ∃ (way : Nat) (x v : V) (dd pd : PD) (D : PyData), vs = [.int (way : Nat), x, v] ∧ way ≤ 3 ∧ Rep K H x dd ∧ Rep K H v pd ∧
  (docP dd = false → D = .tuple [.str "BadDocument"]) ∧ (∀ p doc, docP dd = true → x = .ref p → DocAt H p doc → okFrom 0 doc → doc.length ≤ 1000 ∧ D = askD way doc pd) ∧
  ∀ (H' : Hp) (q : Addr), Same H H' → Told K H' (.ref q) D → Q (.ref q) H'
structure Errs (K : PySem.W.Frag) (mg : Str → Option Value) where
  d : Err K mg "BadDocument"
  n : Err K mg "BadNode"
  p : Err K mg "BadPlace"
  nd : PySem.W.subIn K (.ref n.C) (.ref d.C) = some false
  pd : PySem.W.subIn K (.ref p.C) (.ref d.C) = some false
  pn : PySem.W.subIn K (.ref p.C) (.ref n.C) = some false
abbrev pAsk : List Str := ["way", "document", "thing"]
theorem none_pd {K : PySem.W.Frag} {H : Hp} {v : V} {d : PD} (h : Rep K H v d) : isNone d = true ↔ v = .non := by
  cases h <;> first | exact ⟨fun _ => rfl, fun _ => rfl⟩ | exact ⟨fun h => (nomatch h), fun h => (nomatch h)⟩
section
variable {P : Program} {w : World} {K : PySem.W.Frag} {mg : Str → Option Value} {base : Heap}
end

/-! ### the law -/
def spLaw (K : PySem.W.Frag) : Sp := fun vs H Q _ => ∃ (a : Addr) (ns : List Int), vs = [.ref a] ∧ ScrAt K H a ns ∧ ns.length ≤ 63 ∧ (∀ z ∈ ns, Builtin.Int.intBits z ≤ 1048576) ∧ ∀ H', Q (.bl true) H'
section
variable {P : Program} {w : World} {K : PySem.W.Frag} {mg : Str → Option Value} {base : Heap} {k : Nat} {f : Addr} {fd : FuncData} {ps : List Str}
/-- a def that may raise, asked where it does not -/
theorem fn_down {sp : Sp} (F : FnOk P w K mg base (L2.CX P w) k f fd ps sp) : FnOk P w K mg base CX0 k f fd ps (fun vs H Q _ => sp vs H Q fun _ _ _ => False) :=
  ⟨fun vs H Q E h => F.len vs H Q _ h, fun A outer s H args us vs Q E hr he hb hv hs => codeAny_mono (F.run A outer s H args us vs Q (fun _ _ _ => False) hr he hb hv hs) fun r s' h => by
    cases r with
    | ok fl => cases fl <;> exact h
    | error e => exact h.elim fun _ h => h.elim fun _ h => h.elim fun _ h => h.elim fun _ h => h.elim fun _ h => h.2.2.2.2.2.2.2⟩
end
def rEqNil (K : PySem.W.Frag) : R2 := fun x y H Q => ∃ (a b : Addr) (xs : List V), x = .ref a ∧ y = .ref b ∧ SqT K H a xs ∧ SqT K H b [] ∧ Q (.bl xs.isEmpty) H
theorem op_eqNil {X : Cx} (hu : X.A.units < cLine) : OpR X (compareOp .Eq) (rEqNil X.K) := by
  intro pins s σ H x y v u Q I rx ry h
  obtain ⟨a, b, xs, rfl, rfl, ha, hb, q⟩ := h
  cases rx
  cases ry
  obtain ⟨its, r1, p1, _⟩ := I.tuple ha
  obtain ⟨its2, r2, p2, _⟩ := I.tuple hb
  cases r2
  have R := SeqAt.RcAt.tuples (A := X.A) (s := s) (e := fun _ => true) p1 p2 hu (fun j h1 h2 => absurd h2 (by simp))
  refine R X.prog X.w X.xe (EP X pins σ Q) ⟨.bl _, H, I, rfl, ?_⟩
  have e : ((List.range (min its.toArray.size (#[] : Array Value).size)).all (fun _ => true) && its.toArray.size == (#[] : Array Value).size) = xs.isEmpty := by
    have l := r1.length
    cases xs with
    | nil =>
      cases r1
      rfl
    | cons x r =>
      cases r1
      simp
  show Q (.bl ((List.range (min its.toArray.size (#[] : Array Value).size)).all (fun _ => true) && its.toArray.size == (#[] : Array Value).size)) H
  rw [e]
  exact q
theorem pi_listK {X : Cx} {K : PySem.W.Frag} {tg e : Expr} {te : TE} (h : X.K = K) (he : PE X e te) : PI X tg e (iList K te) := by
  subst h
  exact pi_list he
theorem draw_of {H : Hp} {p : Addr} {n : Int} {m : Nat} {o : List V} {Q : VK} {E : XK} (hp : H p = some (.lst o)) (hf : FeedOk (m + 1) o) (n0 : 0 < n) (wn : Wd 1000 n)
    (k : ∀ (H' : Hp) (o' : List V) (r : Int), SameBut p H H' → H' p = some (.lst o') → FeedOk m o' → 0 ≤ r → r < n → Q (.int r) H') : spDraw [.ref p, .int n] H Q E :=
  ⟨p, n, m, o, rfl, hp, hf, n0, wn, fun o' r f a b => k _ o' r SameBut.refl.put upd_same f a b⟩
/-- told, not great -/
structure TD (K : PySem.W.Frag) (H : Hp) (v : V) (d : PyData) : Prop where
  told : Told K H v d
  dp : d.depth ≤ 10
  ms : most d ≤ 1000000
theorem TD.same {K : PySem.W.Frag} {H H' : Hp} (s : Same H H') {v : V} {d : PyData} (h : TD K H v d) : TD K H' v d := ⟨told_same s h.told, h.dp, h.ms⟩
theorem td_nums {K : PySem.W.Frag} {H : Hp} {q : Addr} {l : List (Option Nat)} (h : H q = some (.tup (l.map vO))) (hl : l.length ≤ 100) (hs : ∀ i, some i ∈ l → i < 1000000) : TD K H (.ref q) (.tuple (l.map dO)) := by
  refine ⟨told_tup (SqT.of h) (by omega) hs, ?_, ?_⟩
  · have := dO_deep l
    simp [PyData.depth, this]
  · have := dO_most l
    show mostAll (l.map dO) + 4 ≤ _
    omega
theorem td_row {K : PySem.W.Frag} {H : Hp} {q : Addr} {l : List Nat} (h : H q = some (.tup (nV l))) (hl : l.length ≤ 100) (hs : ∀ i ∈ l, i < 1000000) : TD K H (.ref q) (rowD l) := by
  rw [nV_some] at h
  refine td_nums h (by rw [List.length_map]; exact hl) fun i hi => ?_
  obtain ⟨j, hj, e⟩ := List.mem_map.mp hi
  cases e
  exact hs i hj
theorem td_doc {K : PySem.W.Frag} {H : Hp} {q : Addr} {doc : Doc} (h : DocAt H q doc) (ok : okFrom 0 doc) (hl : doc.length ≤ 100) : TD K H (.ref q) (docD doc) := by
  refine ⟨told_doc h ok (by omega), ?_, ?_⟩
  · have := docs_deep doc
    show PyData.depth (.tuple (doc.map entD)) ≤ 10
    simp [PyData.depth]
    omega
  · have := docs_most ok
    show mostAll (doc.map entD) + 4 ≤ _
    omega
theorem td_int {K : PySem.W.Frag} {H : Hp} {n : Nat} (h : n < 1000000) : TD K H (.int (n : Nat)) (.int (n : Nat)) :=
  ⟨(atat_int (i := ((n : Nat) : Int)) (log_small (show ((n : Nat) : Int).natAbs < 1000000 from h))).told, by simp [PyData.depth], by show (2000 : Nat) ≤ _; decide⟩
theorem td_bl {K : PySem.W.Frag} {H : Hp} (b : Bool) : TD K H (.bl b) (.bool b) := ⟨(atat_bl b).told, by simp [PyData.depth], by show (5 : Nat) ≤ _; decide⟩
theorem td_str {K : PySem.W.Frag} {H : Hp} {z : Str} (h : (reprText z).length ≤ 100000) : TD K H (.str z) (.str z) :=
  ⟨⟨.str z, by simp [PyData.showable], by simp [PyData.hasDict], by simp [PyData.depth], by show (reprText z).length ≤ _; omega⟩, by simp [PyData.depth], by show (reprText z).length ≤ _; omega⟩
abbrev TDs (K : PySem.W.Frag) (H : Hp) (vs : List V) (ds : List PyData) : Prop := Paired (TD K H) vs ds
theorem TDs.same {K : PySem.W.Frag} {H H' : Hp} (s : Same H H') {vs : List V} {ds : List PyData} (h : TDs K H vs ds) : TDs K H' vs ds := Paired.mapP h fun _ _ q => q.same s
theorem tds_app {K : PySem.W.Frag} {H : Hp} : ∀ {vs us : List V} {ds es : List PyData}, TDs K H vs ds → TDs K H us es → TDs K H (vs ++ us) (ds ++ es)
  | _, _, _, _, .nil, q => q
  | _, _, _, _, .cons r t, q => .cons r (tds_app t q)
theorem tds_all {K : PySem.W.Frag} {H : Hp} : ∀ {vs : List V} {ds : List PyData}, TDs K H vs ds → DpAll K H vs ds ∧ PyData.showableAll ds = true ∧ PyData.hasDictAll ds = false ∧ PyData.depthAll ds ≤ 10 ∧ mostAll ds ≤ 1000002 * ds.length
  | _, _, .nil => ⟨.nil, by simp [PyData.showableAll], by simp [PyData.hasDictAll], by simp [PyData.depthAll], Nat.zero_le _⟩
  | _, _, .cons (b := d) r t => by
    obtain ⟨h1, h2, h3, h4, h5⟩ := tds_all t
    refine ⟨.cons r.told.at_ h1, by simp [PyData.showableAll, r.told.show_, h2], by simp [PyData.hasDictAll, r.told.plain, h3], ?_, ?_⟩
    · have := r.dp
      simp [PyData.depthAll]
      omega
    · have := r.ms
      show most d + 2 + mostAll _ ≤ _
      rw [List.length_cons]
      omega
theorem tds_told {K : PySem.W.Frag} {H : Hp} {a : Addr} {vs : List V} {ds : List PyData} (h : TDs K H vs ds) (e : H a = some (.lst vs)) (l : ds.length ≤ 14) : Told K H (.ref a) (.list ds) := by
  obtain ⟨h1, h2, h3, h4, h5⟩ := tds_all h
  exact ⟨.lst (SqL.of e) h1, by simpa [PyData.showable] using h2, by simpa [PyData.hasDict] using h3, by simp [PyData.depth]; omega, by show mostAll ds + 4 ≤ 16000000; omega⟩
/-- two lists of told things, one behind the other -/
theorem cat_grow {K : PySem.W.Frag} {H : Hp} {l b : Addr} {xs zs : List V} {ds es : List PyData} {Q : VK} (el : H l = some (.lst xs)) (hb : H b = none) (tx : TDs K H xs ds) (tz : TDs K H zs es) (n : xs.length + zs.length ≤ 100)
    (k : ∀ (H' : Hp) (p : Addr), Same H H' → H' p = some (.lst (xs ++ zs)) → TDs K H' (xs ++ zs) (ds ++ es) → Q (.ref p) H') : rCat (.ref l) (.ref b) (upd H b (.lst zs)) Q := by
  have line : 100000 ≤ sizeLine := by decide
  have s1 : Same H (upd H b (.lst zs)) := Same.new hb
  refine ⟨l, b, xs, zs, rfl, rfl, s1 _ _ el, upd_same, by omega, fun p hp => ?_⟩
  have s2 := s1.trans (Same.new (o := .lst (xs ++ zs)) hp)
  exact k _ p s2 upd_same (tds_app (tx.same s2) (tz.same s2))
/-- the signs of a text are small -/
theorem wrB_small {b : Nat} : ∀ {h m : Nat} {r : Doc}, okFrom m r → ∀ c ∈ wrB b h r, c < 16 ^ 8
  | h, m, [], _, c, hc => by
    have := (List.mem_replicate.mp (show c ∈ List.replicate (h - b) 41 from hc)).2
    subst this
    decide
  | h, m, (x, e) :: r, ok, c, hc => by
    have hc' : c ∈ (if h < e then [40] else List.replicate (h - e) 41 ++ [32]) ++ x :: wrB b e r := hc
    rcases List.mem_append.mp hc' with q | q
    · split at q
      · have := List.mem_singleton.mp q
        subst this
        decide
      · rcases List.mem_append.mp q with q | q
        · have := (List.mem_replicate.mp q).2
          subst this
          decide
        · have := List.mem_singleton.mp q
          subst this
          decide
    · rcases List.mem_cons.mp q with q | q
      · subst q
        have := ok.2.1
        exact Nat.lt_of_le_of_lt this (by decide)
      · exact wrB_small ok.2.2.2 c q
theorem text_small {doc : Doc} (ok : okFrom 0 doc) : ∀ c ∈ textOf doc, c < 16 ^ 8 := by
  cases doc with
  | nil => exact fun c hc => absurd hc List.not_mem_nil
  | cons e r =>
    intro c hc
    obtain ⟨x, d⟩ := e
    rcases List.mem_cons.mp (show c ∈ x :: wrB d d r from hc) with q | q
    · subst q
      exact Nat.lt_of_le_of_lt ok.2.1 (by decide)
    · exact wrB_small ok.2.2.2 c q
theorem td_text {K : PySem.W.Frag} {H : Hp} {doc : Doc} (ok : okFrom 0 doc) (hl : doc.length ≤ 100) : TD K H (.str (sT (textOf doc))) (.str (sT (textOf doc))) := by
  refine td_str ?_
  have h1 := repr_len (sT (textOf doc)) (fun c hc => text_small ok c (by simpa [sT] using hc))
  have h2 := textOf_len ok
  rw [sT_len] at h1
  omega
theorem depthM_le {doc : Doc} (ok : okFrom 0 doc) : depthM doc ≤ doc.length := by
  refine maxN_le fun x hx => ?_
  obtain ⟨e, he, rfl⟩ := List.mem_map.mp hx
  obtain ⟨i, hi, rfl⟩ := List.getElem_of_mem he
  have := dep_lt ok hi
  rw [dep_at (List.getElem?_eq_getElem hi)] at this
  omega
theorem breadthL_le (doc : Doc) : breadthL doc ≤ doc.length := by
  refine maxN_le fun x hx => ?_
  obtain ⟨i, _, rfl⟩ := List.mem_map.mp hx
  exact rowA_len _ _ _
theorem maxN_succ : ∀ {l : List Nat}, l ≠ [] → maxN (l.map (· + 1)) = maxN l + 1
  | [], h => absurd rfl h
  | [x], _ => by
    show max (x + 1) 0 = max x 0 + 1
    omega
  | x :: y :: r, _ => by
    have ih := maxN_succ (l := y :: r) (fun z => nomatch z)
    show max (x + 1) (maxN ((y :: r).map (· + 1))) = max x (maxN (y :: r)) + 1
    rw [ih]
    omega
/-- the nodes of which a test holds, out of the parents -/
theorem row_comp {K : PySem.W.Frag} {tt : TT} {σ : L2.St} {H2 : Hp} {Q : VK} {la : Addr} {doc : Doc} {o : Option Nat} (h4 : σ[4]? = some (some (.ref la))) (hl : 14 < σ.length) (ll : doc.length ≤ 1000) (ea : H2 la = some (.lst (parV doc)))
    (htt : ∀ (j : Nat) (H' : Hp) (R : Bool → Hp → Prop), j < doc.length → Same H2 H' → R (decide (vO (lawPar doc j) = vO o)) H' → tt (((wipe σ [13, 14]).set 13 (some (.int (j : Nat)))).set 14 (some (vO (lawPar doc j)))) H' R)
    (k : ∀ (D : Addr) (H3 : Hp), Same H2 H3 → H2 D = none → H3 D = some (.lst (nV (rowA doc doc.length o))) → Q (.ref D) H3) :
    tLc (iEnum K (tCons (tVar 4) tNil)) (gTup K 2 (gCons (gName 13) (gCons (gName 14) gNil))) tt (tVar 13) [13, 14] σ H2 Q := by
  have line : 100000 ≤ sizeLine := by decide
  refine ⟨_, h4, la, _, rfl, SqL.of ea, fun D hD => ?_⟩
  refine lc_it (walk_enum (K := K) (a := la) (xs := parV doc)) (fun j H' => j ≤ doc.length ∧ Same H2 H' ∧ H' D = some (.lst (nV (rowA doc j o)))) ?_ ?_ ?_ ?_
  · exact ⟨Nat.zero_le _, Same.new hD, upd_same⟩
  · rintro j H' hj ⟨_, s3, _⟩
    exact SqL.of (s3 _ _ ea)
  · rintro j v H7 H8 hj ⟨jl, s3, ed⟩ ⟨t2, z1, z2, rfl, ht2, rfl, q1, q2⟩
    rw [parV_len] at hj
    cases q1
    have z2e : z2 = vO (lawPar doc j) := by
      have q2' : (parV doc)[j]? = some z2 := q2
      rw [parV_at hj] at q2'
      exact (Option.some.inj q2').symm
    subst z2e
    have s4 : Same H7 (upd H7 t2 (.tup [.int (j : Nat), vO (lawPar doc j)])) := Same.new ht2
    refine ⟨t2, _, rfl, SqT.of upd_same, rfl, _, _, rfl, _, _, rfl, rfl, ?_, ?_⟩
    · show ((((wipe σ [13, 14]).set 13 _).set 14 _).set 14 none).set 13 none = ((σ.set 14 none).set 13 none)
      show ((((((σ.set 14 none).set 13 none).set 13 _).set 14 _).set 14 none).set 13 none) = ((σ.set 14 none).set 13 none)
      apply List.ext_getElem?
      intro m
      simp only [List.getElem?_set, List.length_set]
      split <;> (try split) <;> simp_all
    have ed4 := s4 _ _ ed
    have s24 := s3.trans s4
    refine htt j _ _ hj s24 ?_
    rw [rowA_succ]
    have g13 : (((wipe σ [13, 14]).set 13 (some (V.int (j : Nat)))).set 14 (some (vO (lawPar doc j))))[13]? = some (some (.int (j : Nat))) := by
      rw [List.getElem?_set_ne (by decide), List.getElem?_set_self (by rw [wipe_length]; omega)]
    refine ite2 (fun c1 => ?_) (fun c1 => ?_)
    · have z := vO_inj (of_decide_eq_true c1)
      refine ⟨_, g13, _, ed4, ?_, hj, fun b' o' e => ?_, ?_⟩
      · unfold nV
        rw [List.length_map]
        have := rowA_len doc j o
        omega
      · rw [upd_ne (ne_of_none e hD)]
        exact s24 b' o' e
      · rw [upd_same, if_pos z]
        unfold nV
        rw [List.map_append]
        rfl
    · have z : ¬ lawPar doc j = o := fun q => c1 (decide_eq_true (by rw [q]))
      refine ⟨hj, s24, ?_⟩
      rw [if_neg z, List.append_nil]
      exact ed4
  · rintro H3 ⟨_, s3, ed⟩
    rw [parV_len] at ed
    exact k D H3 s3 hD ed
theorem lst_of {t : TA} {σ : L2.St} {H : Hp} {Q : VK} (h : t σ H fun xs H1 => xs.length ≤ sizeLine ∧ ∀ p, H1 p = none → Q (.ref p) (upd H1 p (.lst xs))) : tLst t σ H Q := h
theorem consI {te : TE} {r : TA} {σ : L2.St} {H : Hp} {Q : List V → Hp → Prop} (h : te σ H fun x H1 => r σ H1 fun xs H2 => Q (x :: xs) H2) : tCons te r σ H Q := h
theorem cbI {r : List V → Hp → VK → Prop} {t : TA} {σ : L2.St} {H : Hp} {Q : VK} (h : t σ H fun vs H1 => r vs H1 Q) : tCB r t σ H Q := h
theorem seq_of {te : TE} {g : TG} {rest : TS} {D : Ends} {σ : L2.St} {H : Hp} (h : te σ H fun v H1 => g v σ H1 fun σ2 H2 => rest D σ2 H2) : tSeq (tAsg te g) rest D σ H := h
theorem wd_small {n : Nat} (h : n ≤ 1000) : Wd 1000 ((n : Nat) : Int) := ⟨Nat.lt_of_le_of_lt (show ((n : Nat) : Int).natAbs ≤ 1000 by omega) (by decide +kernel)⟩
abbrev scN : Scope := { kind := .function, names := [(".0", .local), ("parent", .cell), ("len", .globalImplicit), ("above", .cell)], isGenerator := false, isCoroutine := false }
abbrev nLaw10 : List Str := ["script", "feed", "forest", "at", "above", "row", "beside", "spot", "words", "many", "piece", "told", "due", "other", "parent", "mark", "depth"]
section
variable {P : Program} {w : World} {K : PySem.W.Frag} {mg : Str → Option Value} {base : Heap}
end

/-! ### rows, as the program tells them -/
abbrev pRowL : List Str := ["document", "holder"]
abbrev nRowsL : List Str := ["document", "got", "node"]
abbrev nRowL : List Str := ["document", "holder", "told", "node"]
def spLRow : Sp := fun vs H Q _ => ∃ (p : Addr) (doc : Doc) (o : Option Nat), vs = [.ref p, vO o] ∧ DocAt H p doc ∧ okFrom 0 doc ∧ doc.length ≤ 20000 ∧ inDoc doc o ∧
  ∀ (H' : Hp) (q : Addr), Same H H' → H q = none → H' q = some (.lst (nV (rowA doc doc.length o))) → Q (.ref q) H'
/-- all rows, the top's last -/
def LRowsAt (doc : Doc) (as : List Addr) (H : Hp) : Prop := as.length = doc.length + 1 ∧ (∀ j a, as[j]? = some a → H a = some (.lst (nV (rowA doc doc.length (if j = doc.length then none else some j)))))
def spLRows : Sp := fun vs H Q _ => ∃ (p : Addr) (doc : Doc), vs = [.ref p] ∧ DocAt H p doc ∧ okFrom 0 doc ∧ doc.length ≤ 20000 ∧
  ∀ (H' : Hp) (q : Addr) (as : List Addr), Same H H' → H q = none → H' q = some (.lst (as.map V.ref)) → LRowsAt doc as H' → as.Nodup → (∀ a ∈ as, H a = none) → q ∉ as → Q (.ref q) H'
theorem nV_len (l : List Nat) : (nV l).length = l.length := by unfold nV; rw [List.length_map]
theorem nV_at {l : List Nat} {j : Nat} {v : V} (h : (nV l)[j]? = some v) : ∃ n, l[j]? = some n ∧ v = .int (n : Nat) := by
  unfold nV at h
  rw [List.getElem?_map] at h
  cases e : l[j]? with
  | none => rw [e] at h; cases h
  | some n => rw [e] at h; exact ⟨n, rfl, (Option.some.inj h).symm⟩
theorem rowOf_rowA {doc : Doc} (ok : okFrom 0 doc) {o : Option Nat} (ho : inDoc doc o) : rowOf doc o = rowA doc doc.length o := rowOf_eq ok ho
theorem noPart {σ : L2.St} {H : Hp} {Q : Option Int → Hp → Prop} (h : Q none H) : tNoPart σ H Q := h
theorem cIn {v : V} {σ : L2.St} {H : Hp} {Q : VK} (h : Q v H) : tC v σ H Q := h
theorem consC {v : V} {rest : L2.St → Hp → (List V → Hp → Prop) → Prop} {σ : L2.St} {H : Hp} {Q : List V → Hp → Prop} (h : rest σ H fun xs H2 => Q (v :: xs) H2) : tCons (tC v) rest σ H Q := h
theorem nilA {σ : L2.St} {H : Hp} {Q : List V → Hp → Prop} (h : Q [] H) : tNil σ H Q := h
theorem tup_of {t : TA} {σ : L2.St} {H : Hp} {Q : VK} (h : t σ H fun xs H1 => xs.length ≤ sizeLine ∧ ∀ p, H1 p = none → Q (.ref p) (upd H1 p (.tup xs))) : tTup t σ H Q := h
section
variable {P : Program} {w : World} {K : PySem.W.Frag} {mg : Str → Option Value} {base : Heap}
theorem ok_lrow (S : Docs K mg) (Dno : Dn K mg "is_node" sNode pNode) (Dck : Dn K mg "check_node" sChkNode pNode) (Db : Dn K mg "depth_below" sBelow pPar) (Df : Dn K mg "first_below" sFirst ["parent"]) (Dr : Dn K mg "row_of" sRow pPar)
    (Dki : Dn K mg "children" sKids pNode') (D : Dn K mg "_law_row" sLRow pRowL) : FnOk P w K mg base CX0 7 D.f D.fd pRowL spLRow := by
  have T := S.T
  have GKi : FnOk P w K mg base CX0 6 Dki.f Dki.fd pNode' spKids := ok_kids S Dno Dck Db Df Dr Dki
  have sc : FnScope nRowL pRowL (defScope sLRow) := ⟨rfl, rfl, rfl, by decide +kernel, rfl, by decide +kernel, by decide +kernel⟩
  refine D.F.ok sc (fun vs H Q E h => ?_) (fun cdv A outer s H vs Q E hr h => ?_)
  · obtain ⟨p, doc, o, rfl, _⟩ := h
    rfl
  · obtain ⟨p, doc, o, rfl, hd, ok, hl, io, k⟩ := h
    refine ⟨_, (pss_cons (ps_set (i := 2) sc.nd rfl (.inl rfl) (de_call Dki GKi hr (pa_cons (pv 0) (pa_cons (pv 1) pa_nil))))
      (pss_cons (ps_if (PW.pt (pw_or (pt_not (pt_val (pe_callB call_isi (by rfl) T.isinstance b_isinstance (pa_cons (pv 2) (pa_cons (pe_bltn (v := .ty "tuple") rfl T.tuple b_tuple rfl) pa_nil))))) (pw_or1 (pt_cmpR op_gt (pe_callB call_len_seq (by rfl) T.len b_len (pa_cons (pv 2) pa_nil)) (pe_callB call_len_seq (by rfl) T.len b_len (pa_cons (pv 0) pa_nil)) (nomark _))))) (pss_one (ps_ret pe_non)) pss_nil)
      (pss_cons (ps_if (pt_not (pt_val (pe_callB (cr_all rfl) (by rfl) T.all b_all (pa_cons (pe_lc (own := [("node", 3)]) (g := gName 3) (tt := tYes) rfl sc.nd (pi_tup (pv 2)) (blkOk_by (N := nRowL) (sc := defScope sLRow) (by decide +kernel)) (fun _ _ _ _ _ => (pg_name (i := 3) sc.nd rfl (by first | exact .inl rfl | exact .inr rfl))) (fun _ _ _ _ _ => pts_nil) (fun _ _ _ _ _ => (pe_and (pe_callB (call_isiC (K := K) rfl) (by rfl) T.isinstance b_isinstance (pa_cons (pv 3) (pa_cons (pe_bltn (v := .ty "int") rfl T.int b_int rfl) pa_nil))) (pe_and (pe_not (pe_callB (call_isiC (K := K) rfl) (by rfl) T.isinstance b_isinstance (pa_cons (pv 3) (pa_cons (pe_bltn (v := .ty "bool") rfl T.bool b_bool rfl) pa_nil)))) (pe_one (pe_chain op_le op_lt pe_int (pv 3) (pe_callB (call_lenK (K := K) rfl) (by rfl) T.len b_len (pa_cons (pv 0) pa_nil)))))))) pa_nil)))) (pss_one (ps_ret pe_non)) pss_nil)
      (pss_one (ps_ret (pe_callTy call_list_of (by rfl) T.list b_list (pa_cons (pv 2) pa_nil))))))), ?_⟩
    obtain ⟨ws, ews, qws⟩ := id hd
    have len := Paired.length qws
    refine ⟨_, rfl, _, rfl, ⟨p, doc, o, rfl, hd, ok, hl, io, fun H1 q s1 hq eq => ?_⟩⟩
    rw [rowOf_rowA ok io] at eq
    have rl := rowA_len doc doc.length o
    have line : 100000 ≤ sizeLine := by decide
    have any : Any K H1 (.ref q) "tuple" := .tup (SqT.of eq)
    refine ⟨_, rfl, _, _, _, _, _, rfl, .ty "tuple", any.ty, any.kit.2.2.2, _, rfl, iteF ?_⟩
    refine ⟨_, rfl, q, _, rfl, .inr (SqT.of eq), _, rfl, p, ws, rfl, .inr (SqT.of (s1 _ _ ews)), _, _, rfl, rfl, _, rfl, ?_⟩
    rw [decide_eq_false (by rw [nV_len]; omega)]
    refine iteF ?_
    refine ⟨_, rfl, q, rfl, ⟨_, SqT.of eq⟩, fun g hg => ?_⟩
    refine lc_it (walk_tup (K := K) (a := q) (xs := nV (rowA doc doc.length o))) (fun j H' => Same H1 H' ∧ H' g = some (.lst ((List.replicate j true).map V.bl))) ?_ ?_ ?_ ?_
    · exact ⟨Same.new hg, upd_same⟩
    · rintro j H' hj ⟨s2, _⟩
      exact SqT.of (s2 _ _ eq)
    · rintro j v H2 H3 hj ⟨s2, eg⟩ ⟨rfl, hv⟩
      obtain ⟨n, hn, rfl⟩ := nV_at hv
      have nl : n < doc.length := (rowA_mem (List.mem_of_getElem? hn)).1
      have anyn : Any K H3 (.int (n : Nat)) "int" := .int _
      refine ⟨rfl, _, rfl, _, _, _, _, _, rfl, .ty "int", anyn.ty, anyn.kit.1, _, rfl, iteT ?_⟩
      refine ⟨_, rfl, _, _, _, _, _, rfl, .ty "bool", anyn.ty, anyn.kit.2.1, _, rfl, _, rfl, iteT ?_⟩
      refine ⟨_, rfl, _, _, rfl, rfl, _, rfl, ?_⟩
      rw [decide_eq_true (by omega)]
      refine iteT ⟨_, rfl, p, ws, rfl, .inr (SqT.of (s2 _ _ (s1 _ _ ews))), _, _, rfl, rfl, ?_⟩
      have dt : decide ((n : Int) < (ws.length : Nat)) = true := decide_eq_true (by omega)
      show (fun y H4 => _) (V.bl (decide ((n : Int) < (ws.length : Nat)))) H3
      rw [dt]
      rw [nV_len] at hj
      refine ⟨_, eg, by rw [List.length_map, List.length_replicate]; omega, fun b o' e => ?_, ?_⟩
      · rw [upd_ne (ne_of_none e hg)]
        exact s2 b o' e
      · rw [upd_same, List.replicate_succ', List.map_append]
        show some (HO.lst (_ ++ [V.bl (decide ((n : Int) < (ws.length : Nat)))])) = _
        rw [dt]
        rfl
    · rintro H2 ⟨s2, eg⟩
      refine ⟨g, _, rfl, SqL.of eg, ?_⟩
      have e : (List.replicate (nV (rowA doc doc.length o)).length true).all id = true := by
        rw [List.all_eq_true]
        exact fun x hx => (List.mem_replicate.mp hx).2
      rw [e]
      refine ⟨_, rfl, iteF ?_⟩
      refine ⟨_, rfl, q, _, rfl, .inr (SqT.of (s2 _ _ eq)), fun l hl2 => ?_⟩
      have s12 := s1.trans s2
      exact k _ l (s12.trans (Same.new hl2)) (s12.free hl2) upd_same
theorem ok_lrows (S : Docs K mg) (Dno : Dn K mg "is_node" sNode pNode) (Dck : Dn K mg "check_node" sChkNode pNode) (Db : Dn K mg "depth_below" sBelow pPar) (Df : Dn K mg "first_below" sFirst ["parent"]) (Dr : Dn K mg "row_of" sRow pPar)
    (Dki : Dn K mg "children" sKids pNode') (Dlr : Dn K mg "_law_row" sLRow pRowL) (D : Dn K mg "_law_rows" sLRows pDocu) : FnOk P w K mg base CX0 8 D.f D.fd pDocu spLRows := by
  have T := S.T
  have GLr : FnOk P w K mg base CX0 7 Dlr.f Dlr.fd pRowL spLRow := ok_lrow S Dno Dck Db Df Dr Dki Dlr
  have sc : FnScope nRowsL pDocu (defScope sLRows) := ⟨rfl, rfl, rfl, by decide +kernel, rfl, by decide +kernel, by decide +kernel⟩
  refine D.F.ok sc (fun vs H Q E h => ?_) (fun cdv A outer s H vs Q E hr h => ?_)
  · obtain ⟨p, doc, rfl, _⟩ := h
    rfl
  · obtain ⟨p, doc, rfl, hd, ok, hl, k⟩ := h
    refine ⟨_, (pss_cons (ps_set (i := 1) sc.nd rfl (.inl rfl) (pe_op op_cat (pe_lc (own := [("node", 2)]) (g := gName 2) (tt := tYes) rfl sc.nd (pi_range1 (by rfl) T.range (pa_cons (pe_callB call_len_seq (by rfl) T.len b_len (pa_cons (pv 0) pa_nil)) pa_nil)) (blkOk_by (N := nRowsL) (sc := defScope sLRows) (by decide +kernel)) (fun _ _ _ _ _ => (pg_name (i := 2) sc.nd rfl (by first | exact .inl rfl | exact .inr rfl))) (fun _ _ _ _ _ => pts_nil) (fun _ _ _ _ _ => (de_call Dlr GLr hr (pa_cons (pv 0) (pa_cons (pv 2) pa_nil))))) (pe_lst (pa_cons (de_call Dlr GLr hr (pa_cons (pv 0) (pa_cons pe_non pa_nil))) pa_nil))))
      (pss_one (ps_ret (pe_ifExp (pt_cmpR (op_inN hr.units) pe_non (pv 1) (by rfl)) pe_non (pv 1))))), ?_⟩
    obtain ⟨ws, ews, qws⟩ := id hd
    have len := Paired.length qws
    have line : 100000 ≤ sizeLine := by decide
    refine ⟨_, rfl, p, ws, rfl, .inr (SqT.of ews), _, rfl, by omega, by omega, fun g hg => ?_⟩
    refine lc_range (lo := 0) (n := ((ws.length : Nat) : Int).toNat) (fun j H' => Same H H' ∧ ∃ as : List Addr, as.length = j ∧ H' g = some (.lst (as.map V.ref)) ∧ as.Nodup ∧ (∀ a ∈ as, H a = none ∧ a ≠ g) ∧ (∀ i a, as[i]? = some a → H' a = some (.lst (nV (rowA doc doc.length (some i)))))) ?_ ?_ ?_
    · exact ⟨Same.new hg, [], rfl, upd_same, List.nodup_nil, (fun a ha => absurd ha List.not_mem_nil), fun i a h => by simp at h⟩
    · rintro j H' hj ⟨s1, as, al, eg, nd, new, rows⟩
      have jl : j < doc.length := by omega
      refine ⟨rfl, _, rfl, _, rfl, p, doc, some j, by show [V.ref p, V.int (0 + (j : Int))] = _; rw [Int.zero_add]; rfl, hd.same s1, ok, hl, fun i hi => by cases hi; exact jl, fun H2 q s2 hq eq => ?_⟩
      have qg : q ≠ g := fun z => by subst z; rw [eg] at hq; cases hq
      have qa : q ∉ as := fun z => by
        obtain ⟨i, hi⟩ := List.mem_iff_getElem?.mp z
        rw [rows i q hi] at hq
        cases hq
      refine ⟨_, s2 _ _ eg, by rw [List.length_map, al]; omega, fun b o e => ?_, as ++ [q], by rw [List.length_append, al]; rfl, by rw [upd_same, List.map_append]; rfl, ?_, ?_, ?_⟩
      · rw [upd_ne (ne_of_none e hg)]
        exact s2 b o (s1 b o e)
      · rw [List.nodup_append]
        exact ⟨nd, by simp, fun a ha b hb => by rw [List.mem_singleton.mp hb]; exact fun z => qa (z ▸ ha)⟩
      · intro a ha
        rcases List.mem_append.mp ha with h | h
        · exact new a h
        · rw [List.mem_singleton.mp h]
          exact ⟨s1.free hq, qg⟩
      · intro i a h
        have ag : a ≠ g := by
          rcases List.mem_append.mp (List.mem_of_getElem? h) with z | z
          · exact (new a z).2
          · rw [List.mem_singleton.mp z]; exact qg
        rw [upd_ne ag]
        by_cases c : i < as.length
        · rw [List.getElem?_append_left c] at h
          exact s2 _ _ (rows i a h)
        · rw [List.getElem?_append_right (by omega)] at h
          have i0 : i - as.length = 0 := by
            cases e : i - as.length with
            | zero => rfl
            | succ n => rw [e] at h; simp at h
          rw [i0] at h
          have : a = q := (Option.some.inj h).symm
          rw [this, show i = j by omega]
          exact eq
    rintro H1 ⟨s1, as, al, eg, nd, new, rows⟩
    have al' : as.length = doc.length := by omega
    refine ⟨_, rfl, consC (nilA ⟨p, doc, none, rfl, hd.same s1, ok, hl, (fun _ h => nomatch h), fun H2 q s2 hq eq => nilA ⟨by show 1 ≤ sizeLine; omega, fun l hl2 => ?_⟩⟩)⟩
    have qg : q ≠ g := fun z => by subst z; rw [eg] at hq; cases hq
    have qa : q ∉ as := fun z => by
      obtain ⟨i, hi⟩ := List.mem_iff_getElem?.mp z
      rw [rows i q hi] at hq
      cases hq
    have s3 : Same H2 (upd H2 l (.lst [.ref q])) := Same.new hl2
    have s23 := s2.trans s3
    have eg3 := s23 _ _ eg
    have eq3 := s3 _ _ eq
    have el3 : (upd H2 l (.lst [.ref q])) l = some (.lst [.ref q]) := upd_same
    generalize upd H2 l (.lst [.ref q]) = H3 at s3 s23 eg3 eq3 el3
    refine ⟨g, l, _, _, rfl, rfl, eg3, el3, by rw [List.length_map, al']; show _ + 1 ≤ _; omega, fun r hr2 => ?_⟩
    have s4 : Same H3 (upd H3 r (.lst (as.map V.ref ++ [.ref q]))) := Same.new hr2
    have er : (upd H3 r (.lst (as.map V.ref ++ [.ref q]))) r = some (.lst ((as ++ [q]).map V.ref)) := by rw [upd_same, List.map_append]; rfl
    generalize upd H3 r (.lst (as.map V.ref ++ [.ref q])) = H4 at s4 er
    have s14 := s23.trans s4
    have all : ∀ i a, (as ++ [q])[i]? = some a → H4 a = some (.lst (nV (rowA doc doc.length (if i = doc.length then none else some i)))) := by
      intro i a h
      by_cases c : i < as.length
      · rw [List.getElem?_append_left c] at h
        rw [if_neg (by omega)]
        exact s14 _ _ (rows i a h)
      · rw [List.getElem?_append_right (by omega)] at h
        have i0 : i - as.length = 0 := by
          cases e : i - as.length with
          | zero => rfl
          | succ n => rw [e] at h; simp at h
        rw [i0] at h
        have : a = q := (Option.some.inj h).symm
        rw [this, if_pos (by omega)]
        exact s4 _ _ eq3
    have rnew : H3 r = none := hr2
    refine ⟨_, rfl, r, as ++ [q], rfl, rfl, SqL.of er, fun a ha => ?_, _, rfl, iteF ?_⟩
    · obtain ⟨i, hi⟩ := List.mem_iff_getElem?.mp ha
      exact ⟨_, SqL.of (all i a hi)⟩
    refine ⟨_, rfl, k H4 r (as ++ [q]) (s1.trans s14) ((s1.trans s23).free hr2) er ⟨by rw [List.length_append, al']; rfl, all⟩ ?_ (fun a ha => ?_) (fun z => ?_)⟩
    · rw [List.nodup_append]
      exact ⟨nd, by simp, fun a ha b hb => by rw [List.mem_singleton.mp hb]; exact fun z => qa (z ▸ ha)⟩
    · rcases List.mem_append.mp ha with h | h
      · exact (new a h).1
      · rw [List.mem_singleton.mp h]
        exact s1.free hq
    · rcases List.mem_append.mp z with h | h
      · obtain ⟨i, hi⟩ := List.mem_iff_getElem?.mp h
        have := s23 _ _ (rows i r hi)
        rw [rnew] at this
        cases this
      · rw [List.mem_singleton.mp h] at rnew
        rw [eq3] at rnew
        cases rnew
end

/-! ### the walk by children -/
abbrev WT := (Nat × Nat × Nat × Fo) × Option Nat × Nat
def Ent3 (H : Hp) (v : V) (e : WT) : Prop := ∃ a, v = .ref a ∧ H a = some (.tup [.int (e.1.1 : Nat), vO e.2.1, .int (e.2.2 : Nat)])
structure WOk (doc : Doc) (e : WT) : Prop where
  node : NodeAt doc e.1.1 e.1.2.1 e.1.2.2.1 e.1.2.2.2
  par : lawPar doc e.1.1 = e.2.1
  row : (rowA doc doc.length e.2.1)[e.2.2]? = some e.1.1
def kidsE (l : List (Nat × Nat × Nat × Fo)) (o : Option Nat) : List WT := l.mapIdx fun i t => (t, o, i)
theorem kidsE_len (l : List (Nat × Nat × Nat × Fo)) (o : Option Nat) : (kidsE l o).length = l.length := List.length_mapIdx
theorem kidsE_fst (l : List (Nat × Nat × Nat × Fo)) (o : Option Nat) : (kidsE l o).map (·.1) = l := by
  apply List.ext_getElem?
  intro i
  unfold kidsE
  rw [List.getElem?_map, List.getElem?_mapIdx]
  cases l[i]? <;> rfl
theorem kidsE_at {l : List (Nat × Nat × Nat × Fo)} {o : Option Nat} {i : Nat} {t : Nat × Nat × Nat × Fo} (h : l[i]? = some t) : (kidsE l o)[i]? = some (t, o, i) := by
  unfold kidsE
  rw [List.getElem?_mapIdx, h]
  rfl
theorem kidsE_mem {l : List (Nat × Nat × Nat × Fo)} {o : Option Nat} {e : WT} (h : e ∈ kidsE l o) : ∃ i t, l[i]? = some t ∧ e = (t, o, i) := by
  obtain ⟨i, hi⟩ := List.mem_iff_getElem?.mp h
  unfold kidsE at hi
  rw [List.getElem?_mapIdx] at hi
  cases q : l[i]? with
  | none => rw [q] at hi; cases hi
  | some t => rw [q] at hi; exact ⟨i, t, q, (Option.some.inj hi).symm⟩
theorem kids_ok {doc : Doc} {l : List (Nat × Nat × Nat × Fo)} {o : Option Nat} (hl : rowA doc doc.length o = l.map Prod.fst) (hn : ∀ t ∈ l, NodeAt doc t.1 t.2.1 t.2.2.1 t.2.2.2) : ∀ e ∈ kidsE l o, WOk doc e := by
  intro e he
  obtain ⟨i, t, h, rfl⟩ := kidsE_mem he
  have hr : (rowA doc doc.length o)[i]? = some t.1 := by rw [hl, List.getElem?_map, h]; rfl
  exact ⟨hn t (List.mem_of_getElem? h), (rowA_mem (List.mem_of_getElem? hr)).2, hr⟩
theorem rowA_nodup (doc : Doc) (t : Nat) (o : Option Nat) : (rowA doc t o).Nodup := List.Pairwise.filter _ List.nodup_range
theorem ixIn_is {l : List Nat} (nd : l.Nodup) {w v : Nat} (h : l[w]? = some v) : ixIn v l = w := by
  obtain ⟨h1, h2⟩ := ixIn_at (List.mem_of_getElem? h)
  rcases Nat.lt_trichotomy (ixIn v l) w with q | q | q
  · obtain ⟨a1, b1⟩ := List.getElem?_eq_some_iff.mp h1
    obtain ⟨a2, b2⟩ := List.getElem?_eq_some_iff.mp h
    exact absurd (b1.trans b2.symm) ((List.pairwise_iff_getElem.mp nd) _ _ a1 a2 q)
  · exact q
  · exact absurd h (h2 w q)
theorem WOk.place {doc : Doc} (ok : okFrom 0 doc) {e : WT} (h : WOk doc e) : placeOf doc e.1.1 = (e.2.1, e.2.2) := by
  rw [place_law ok h.node.lt, h.par, ixIn_is (rowA_nodup _ _ _) h.row]
theorem WOk.inD {doc : Doc} {e : WT} (h : WOk doc e) : inDoc doc e.2.1 := fun j hj => by
  have := par_lt (h.par.trans hj)
  have := h.node.lt
  omega
abbrev pWalk : List Str := ["document", "rows"]
abbrev nWalk : List Str := ["document", "rows", "above", "which", "node", "waiting", "turn", "parent", "depth", "inner", "at", "child"]
def spLWalked : Sp := fun vs H Q _ => ∃ (p r : Addr) (doc : Doc) (as : List Addr), vs = [.ref p, .ref r] ∧ DocAt H p doc ∧ okFrom 0 doc ∧ doc.length ≤ 100 ∧ H r = some (.lst (as.map V.ref)) ∧ LRowsAt doc as H ∧
  ∀ (H' : Hp) (q : Addr), Same H H' → H' q = some (.lst (parV doc)) → Q (.ref q) H'
theorem rows_last {doc : Doc} {as : List Addr} {H : Hp} (h : LRowsAt doc as H) : ∃ a, atI (as.map V.ref) (-1) = some (.ref a) ∧ H a = some (.lst (nV (rowA doc doc.length none))) := by
  have l : doc.length < as.length := by have := h.1; omega
  have e : as[doc.length]? = some as[doc.length] := List.getElem?_eq_getElem l
  refine ⟨as[doc.length], ?_, by have := h.2 _ _ e; rw [if_pos rfl] at this; exact this⟩
  have sp : as = as.take doc.length ++ [as[doc.length]] := by
    rw [← List.take_succ_eq_append_getElem l, List.take_of_length_le (by have := h.1; omega)]
  have := atI_last (as.take doc.length |>.map V.ref) (V.ref as[doc.length])
  have e2 : (as.take doc.length).map V.ref ++ [V.ref as[doc.length]] = as.map V.ref := by
    conv => rhs; rw [sp]
    rw [List.map_append]
    rfl
  rw [e2] at this
  exact this
theorem rows_get {doc : Doc} {as : List Addr} {H : Hp} (h : LRowsAt doc as H) {i : Nat} (hi : i < doc.length) : ∃ a, as[i]? = some a ∧ (as.map V.ref)[i]? = some (.ref a) ∧ H a = some (.lst (nV (rowA doc doc.length (some i)))) := by
  have l : i < as.length := by have := h.1; omega
  have e : as[i]? = some as[i] := List.getElem?_eq_getElem l
  exact ⟨as[i], e, by rw [List.getElem?_map, e]; rfl, by have := h.2 _ _ e; rw [if_neg (by omega)] at this; exact this⟩
theorem LRowsAt.same {doc : Doc} {as : List Addr} {H H' : Hp} (s : Same H H') (h : LRowsAt doc as H) : LRowsAt doc as H' := ⟨h.1, fun j a e => s _ _ (h.2 j a e)⟩
/-- a row's entries are put together -/
theorem ent_comp {K : PySem.W.Frag} {t : TA} {te : TE} {σ : L2.St} {H2 : Hp} {Q : VK} {la : Addr} {a b : Nat} {l : List (Nat × Nat × Nat × Fo)} {o : Option Nat} (ht : ∀ R : List V → Hp → Prop, R [.ref la] H2 → t σ H2 R)
    (ll : l.length ≤ 1000) (ea : H2 la = some (.lst (nV (l.map Prod.fst)))) (hw : ∀ x y, ((((wipe σ [a, b]).set a x).set b y).set b none).set a none = wipe σ [a, b])
    (hte : ∀ (j : Nat) (t : Nat × Nat × Nat × Fo) (H' : Hp) (R : VK), l[j]? = some t → (∀ q, H' q = none → R (.ref q) (upd H' q (.tup [.int (t.1 : Nat), vO o, .int (j : Nat)]))) →
      te (((wipe σ [a, b]).set a (some (.int (j : Nat)))).set b (some (.int (t.1 : Nat)))) H' R)
    (k : ∀ (D : Addr) (H3 : Hp) (vs : List V), Same H2 H3 → H2 D = none → H3 D = some (.lst vs) → Paired (Ent3 H3) vs (kidsE l o) → Q (.ref D) H3) :
    tLc (iEnum K t) (gTup K 2 (gCons (gName a) (gCons (gName b) gNil))) tYes te [a, b] σ H2 Q := by
  have line : 100000 ≤ sizeLine := by decide
  refine ht _ ⟨la, _, rfl, SqL.of ea, fun D hD => ?_⟩
  refine lc_it (walk_enum (K := K) (a := la) (xs := nV (l.map Prod.fst))) (fun j H' => j ≤ l.length ∧ Same H2 H' ∧ ∃ vs, H' D = some (.lst vs) ∧ Paired (Ent3 H') vs ((kidsE l o).take j)) ?_ ?_ ?_ ?_
  · exact ⟨Nat.zero_le _, Same.new hD, [], upd_same, .nil⟩
  · rintro j H' hj ⟨_, s3, _⟩
    exact SqL.of (s3 _ _ ea)
  · rintro j v H7 H8 hj ⟨jl, s3, vs, ed, ents⟩ ⟨t2, z1, z2, rfl, ht2, rfl, q1, q2⟩
    rw [nV_len, List.length_map] at hj
    cases q1
    obtain ⟨tr, htr⟩ : ∃ tr, l[j]? = some tr := ⟨_, List.getElem?_eq_getElem hj⟩
    have z2e : z2 = .int (tr.1 : Nat) := by
      obtain ⟨n, hn, e⟩ := nV_at q2
      rw [List.getElem?_map, htr] at hn
      cases hn
      exact e
    subst z2e
    have s4 : Same H7 (upd H7 t2 (.tup [.int (j : Nat), .int (tr.1 : Nat)])) := Same.new ht2
    have ed4 := s4 _ _ ed
    have s24 := s3.trans s4
    refine ⟨t2, _, rfl, SqT.of upd_same, rfl, _, _, rfl, _, _, rfl, rfl, hw _ _, ?_⟩
    refine hte j tr _ _ htr fun q hq => ?_
    have vl : vs.length = j := by rw [Paired.length ents, List.length_take, kidsE_len]; omega
    have qD : q ≠ D := fun z => by subst z; rw [ed4] at hq; cases hq
    have edq : (upd (upd H7 t2 (.tup [.int (j : Nat), .int (tr.1 : Nat)])) q (.tup [.int (tr.1 : Nat), vO o, .int (j : Nat)])) D = some (.lst vs) := by rw [upd_ne qD.symm]; exact ed4
    have s25 : Same H2 (upd (upd H7 t2 (.tup [.int (j : Nat), .int (tr.1 : Nat)])) q (.tup [.int (tr.1 : Nat), vO o, .int (j : Nat)])) := s24.trans (Same.new hq)
    have s45 : Same H7 (upd (upd H7 t2 (.tup [.int (j : Nat), .int (tr.1 : Nat)])) q (.tup [.int (tr.1 : Nat), vO o, .int (j : Nat)])) := s4.trans (Same.new hq)
    have eq5 : (upd (upd H7 t2 (.tup [.int (j : Nat), .int (tr.1 : Nat)])) q (.tup [.int (tr.1 : Nat), vO o, .int (j : Nat)])) q = some (.tup [.int (tr.1 : Nat), vO o, .int (j : Nat)]) := upd_same
    generalize upd (upd H7 t2 (.tup [.int (j : Nat), .int (tr.1 : Nat)])) q (.tup [.int (tr.1 : Nat), vO o, .int (j : Nat)]) = H9 at edq s25 s45 eq5
    refine ⟨vs, edq, by omega, hj, fun b' o' e => ?_, vs ++ [.ref q], upd_same, ?_⟩
    · rw [upd_ne (ne_of_none e hD)]
      exact s25 b' o' e
    · have kl : j < (kidsE l o).length := by rw [kidsE_len]; exact hj
      have ke : (kidsE l o)[j] = (tr, o, j) := by
        have := kidsE_at (o := o) htr
        rw [List.getElem?_eq_getElem kl] at this
        exact Option.some.inj this
      rw [List.take_succ_eq_append_getElem kl, ke]
      have up : ∀ v e, Ent3 H7 v e → Ent3 (upd H9 D (.lst (vs ++ [.ref q]))) v e := fun v e ⟨x, e1, e2⟩ => ⟨x, e1, by
        rw [upd_ne (fun z => by subst z; rw [ed] at e2; cases e2)]
        exact s45 _ _ e2⟩
      refine Paired.snoc (Paired.mapP ents up) ⟨q, rfl, ?_⟩
      rw [upd_ne qD]
      exact eq5
  · rintro H3 ⟨_, s3, vs, ed, ents⟩
    rw [nV_len, List.length_map, List.take_of_length_le (by rw [kidsE_len]; exact Nat.le_refl _)] at ents
    exact k D H3 vs s3 hD ed ents
theorem paired_app {α β : Type} {F : α → β → Prop} : ∀ {l₁ l₃ : List α} {l₂ l₄ : List β}, Paired F l₁ l₂ → Paired F l₃ l₄ → Paired F (l₁ ++ l₃) (l₂ ++ l₄)
  | _, _, _, _, .nil, q => q
  | _, _, _, _, .cons r t, q => .cons r (paired_app t q)
theorem paired_rev {α β : Type} {F : α → β → Prop} : ∀ {l : List α} {m : List β}, Paired F l m → Paired F l.reverse m.reverse
  | _, _, .nil => .nil
  | _, _, .cons r t => by
    rw [List.reverse_cons, List.reverse_cons]
    exact Paired.snoc (paired_rev t) r
theorem paired_snoc {α β : Type} {F : α → β → Prop} : ∀ {l : List α} {m : List β} {b : β}, Paired F l (m ++ [b]) → ∃ l' a, l = l' ++ [a] ∧ Paired F l' m ∧ F a b
  | _, [], _, .cons r .nil => ⟨[], _, rfl, .nil, r⟩
  | _, _ :: _, _, .cons r t => by
    obtain ⟨l', a, rfl, h1, h2⟩ := paired_snoc t
    exact ⟨_ :: l', a, rfl, .cons r h1, h2⟩
theorem Ent3.mono {H H' : Hp} (k : ∀ b xs, H b = some (.tup xs) → H' b = some (.tup xs)) {v : V} {e : WT} : Ent3 H v e → Ent3 H' v e := fun ⟨a, e1, e2⟩ => ⟨a, e1, k _ _ e2⟩
theorem same_wr {H H1 : Hp} {x : Addr} {o : HO} (s : Same H H1) (n : H x = none) : Same H (upd H1 x o) := fun b u e => by rw [upd_ne (ne_of_none e n)]; exact s b u e
theorem tif_isN {t1 t2 : TE} {σ : L2.St} {H : Hp} {Q : VK} {i : Nat} {o : Option Nat} (h : σ[i]? = some (some (vO o))) (h1 : o = none → t1 σ H Q) (h2 : ∀ j, o = some j → t2 σ H Q) : tIf (tB (tIsN (tVar i))) t1 t2 σ H Q := by
  refine ⟨_, h, _, rfl, ?_⟩
  cases o with
  | none => exact iteT (h1 rfl)
  | some j => exact iteF (h2 j rfl)
theorem seq_val {te : TE} {g : TG} {rest : TS} {D : Ends} {σ : L2.St} {H : Hp} (v : V) (hv : ∀ Q : VK, Q v H → te σ H Q) (h : g v σ H fun σ2 H2 => rest D σ2 H2) : tSeq (tAsg te g) rest D σ H := seq_of (hv _ h)
theorem dep_par {doc : Doc} {v j : Nat} (h : lawPar doc v = some j) : dep doc v = dep doc j + 1 := by
  have := (lparTo_some h).2.1
  omega
theorem nil_or_snoc' {α : Type} : ∀ l : List α, l = [] ∨ ∃ a x, l = a ++ [x] := nil_or_snoc
section
variable {P : Program} {w : World} {K : PySem.W.Frag} {mg : Str → Option Value} {base : Heap}
theorem ok_lwalked (S : Docs K mg) (eP : Err K mg "BadPlace") (Dno : Dn K mg "is_node" sNode pNode) (Dck : Dn K mg "check_node" sChkNode pNode) (Db : Dn K mg "depth_below" sBelow pPar) (Df : Dn K mg "first_below" sFirst ["parent"]) (Dr : Dn K mg "row_of" sRow pPar)
    (Dpl : Dn K mg "place_in" sPlaceIn pNode') (Dplo : Dn K mg "place_of" sPlaceOf pNode') (Dna : Dn K mg "node_at" sNodeAt ["document", "place"]) (D : Dn K mg "_law_walked" sLWalked pWalk) : GOk P w K mg base CX0 7 D.f D.fd pWalk spLWalked := by
  have T := S.T
  have GPl : FnOk P w K mg base CX0 6 Dplo.f Dplo.fd pNode' spPlaceOf := ok_placeof S Dno Dck Dpl Dplo
  have GNa : FnOk P w K mg base CX0 6 Dna.f Dna.fd ["document", "place"] (fun vs H Q _ => spNodeAtG K eP.C vs H Q fun _ _ _ => False) := fn_down (ok_nodeat S Dno Db Df Dr eP Dna)
  have sc : FnScope nWalk pWalk (defScope sLWalked) := ⟨rfl, rfl, rfl, by decide +kernel, rfl, by decide +kernel, by decide +kernel⟩
  refine gok0 D.F sc (fun vs H Q E h => ?_) (fun cdv A outer s H vs Q E hgd hr h => ?_)
  · obtain ⟨p, r, doc, as, rfl, _⟩ := h
    rfl
  · obtain ⟨p, r, doc, as, rfl, hd, ok, hl, er, rows, k⟩ := h
    refine ⟨_, (pss_cons (ps_set (i := 2) sc.nd rfl (.inl rfl) (pe_lst pa_nil))
      (pss_cons (ps_setLc (i := 5) (own := [("which", 3), ("node", 4)]) (g := gTup K 2 (gCons (gName 3) (gCons (gName 4) gNil))) (tt := tYes) rfl sc.nd rfl rfl (sw_true rfl rfl rfl (by decide +kernel)) (pi_enum (by rfl) T.enumerate (pa_cons (pe_ix ix_list (pv 1) (pe_un un_neg pe_int) (fun _ _ => rfl)) pa_nil)) (blkOk_by (N := nWalk) (sc := defScope sLWalked) (by decide +kernel)) (fun _ _ _ _ _ => (pg_tup rfl (pgs_cons (pg_name (i := 3) sc.nd rfl (by first | exact .inl rfl | exact .inr rfl)) (pgs_cons (pg_name (i := 4) sc.nd rfl (by first | exact .inl rfl | exact .inr rfl)) pgs_nil)))) (fun _ _ _ _ _ => pts_nil) (fun _ _ _ _ _ => (pe_tup (pa_cons (pv 4) (pa_cons pe_non (pa_cons (pv 3) pa_nil))))))
      (pss_cons (ps_expr (pe_bm0 PySem.F.plainAttrs_list PySem.F.slot_list_reverse PySem.F.type_list_reverse mt_reverse (pv 5)))
      (pss_cons (ps_for PassesOwn.never rfl (pi_range1 (by rfl) T.range (pa_cons (pe_callB call_len_seq (by rfl) T.len b_len (pa_cons (pv 0) pa_nil)) pa_nil)) (pg_name (i := 6) sc.nd rfl (.inl rfl))
        (pss_cons (ps_if (pt_cmpR (op_eqE hr.units0) (pv 5) (pe_lst pa_nil) (nomark _)) (pss_one (ps_ret pe_non)) pss_nil)
        (pss_cons (ps_asg (pe_bm0 PySem.F.plainAttrs_list PySem.F.slot_list_pop PySem.F.type_list_pop mt_pop (pv 5)) (pg_tup rfl (pgs_cons (pg_name (i := 4) sc.nd rfl (.inr rfl)) (pgs_cons (pg_name (i := 7) sc.nd rfl (.inl rfl)) (pgs_cons (pg_name (i := 3) sc.nd rfl (.inl rfl)) pgs_nil)))))
        (pss_cons (ps_set (i := 8) sc.nd rfl (.inl rfl) (pe_ifExp (pt_cmp (pc_isN (pv 7))) pe_int (pe_op op_add (pe_ix ix_tup (pe_ix ix_tup (pv 0) (pv 7) (fun _ _ => rfl)) pe_int (fun _ _ => rfl)) pe_int)))
        (pss_cons (ps_if (PW.pt (pw_or (pt_cmpR op_ne (pv 4) (pv 6) (nomark _)) (pw_or1 (pt_cmpR op_ne (pe_ix ix_tup (pe_ix ix_tup (pv 0) (pv 4) (fun _ _ => rfl)) pe_int (fun _ _ => rfl)) (pv 8) (nomark _))))) (pss_one (ps_ret pe_non)) pss_nil)
        (pss_cons (ps_if (pt_cmpR op_ne (pe_callB (call_repr hgd hr) (by rfl) T.repr b_repr (pa_cons (de_call Dplo GPl hr (pa_cons (pv 0) (pa_cons (pv 4) pa_nil))) pa_nil)) (pe_callB (call_repr hgd hr) (by rfl) T.repr b_repr (pa_cons (pe_tup (pa_cons (pv 7) (pa_cons (pv 3) pa_nil))) pa_nil)) (nomark _)) (pss_one (ps_ret pe_non)) pss_nil)
        (pss_cons (ps_if (pt_cmpR op_ne (pe_callB (call_repr hgd hr) (by rfl) T.repr b_repr (pa_cons (de_call Dna GNa hr (pa_cons (pv 0) (pa_cons (pe_tup (pa_cons (pv 7) (pa_cons (pv 3) pa_nil))) pa_nil))) pa_nil)) (pe_callB (call_repr hgd hr) (by rfl) T.repr b_repr (pa_cons (pv 4) pa_nil)) (nomark _)) (pss_one (ps_ret pe_non)) pss_nil)
        (pss_cons (ps_expr (pe_bm PySem.F.plainAttrs_list PySem.F.slot_list_append PySem.F.type_list_append mt_append (pv 2) (pa_cons (pv 7) pa_nil)))
        (pss_cons (ps_setLc (i := 9) (own := [("at", 10), ("child", 11)]) (g := gTup K 2 (gCons (gName 10) (gCons (gName 11) gNil))) (tt := tYes) rfl sc.nd rfl rfl (sw_true rfl rfl rfl (by decide +kernel)) (pi_enum (by rfl) T.enumerate (pa_cons (pe_ix ix_list (pv 1) (pv 4) (fun _ _ => rfl)) pa_nil)) (blkOk_by (N := nWalk) (sc := defScope sLWalked) (by decide +kernel)) (fun _ _ _ _ _ => (pg_tup rfl (pgs_cons (pg_name (i := 10) sc.nd rfl (by first | exact .inl rfl | exact .inr rfl)) (pgs_cons (pg_name (i := 11) sc.nd rfl (by first | exact .inl rfl | exact .inr rfl)) pgs_nil)))) (fun _ _ _ _ _ => pts_nil) (fun _ _ _ _ _ => (pe_tup (pa_cons (pv 11) (pa_cons (pv 4) (pa_cons (pv 10) pa_nil))))))
        (pss_cons (ps_expr (pe_bm0 PySem.F.plainAttrs_list PySem.F.slot_list_reverse PySem.F.type_list_reverse mt_reverse (pv 9)))
        (pss_one (ps_expr (pe_bm PySem.F.plainAttrs_list PySem.F.slot_list_extend PySem.F.type_list_extend mt_extend (pv 5) (pa_cons (pv 9) pa_nil))))))))))))))
      (pss_one (ps_ret (pe_ifExp (pt_cmpR (op_eqE hr.units0) (pv 5) (pe_lst pa_nil) (nomark _)) (pv 2) pe_non))))))), ?_⟩
    obtain ⟨ws, ews, qws⟩ := id hd
    have len := Paired.length qws
    have line : 100000 ≤ sizeLine := by decide
    obtain ⟨f, hf⟩ := fo_ex ok
    refine ⟨Nat.zero_le _, fun g hg => ?_⟩
    have s0 : Same H (upd H g (.lst [])) := Same.new hg
    have e0 : (upd H g (.lst [])) g = some (.lst []) := upd_same
    generalize upd H g (.lst []) = H0 at s0 e0
    obtain ⟨at_, al, ar⟩ := rows_last rows
    have rt : rowA doc doc.length none = (f.trees 0 0).map Prod.fst := by subst hf; exact rowA_top f ok
    have cn : f.cnt ≤ doc.length := by
      have := trees_cnt_size f
      rw [hf, Fo.flat_len]
      exact this
    dsimp only [gName]
    refine seq_of ?_
    refine ent_comp (a := 3) (b := 4) (la := at_) (o := none) (l := f.trees 0 0) (fun R q => ?_) (by rw [trees_len]; omega) (by rw [← rt]; exact s0 _ _ ar) (fun _ _ => rfl) (fun j t H' R _ q => ?_) fun wq H1 vs s1 hw ew ents => ?_
    · exact ⟨_, rfl, _, rfl, r, _, _, _, rfl, rfl, SqL.of (s0 _ _ er), al, q⟩
    · exact ⟨_, rfl, consC ⟨_, rfl, nilA ⟨by show 3 ≤ sizeLine; omega, q⟩⟩⟩
    dsimp only [gName]
    have hwg : H wq = none := s0.free hw
    have gw : g ≠ wq := fun z => by subst z; rw [e0] at hw; cases hw
    have eg1 := s1 _ _ e0
    have s01 := s0.trans s1
    refine ⟨_, rfl, .inl ⟨rfl, _, SqL.of ew⟩, wq, _, rfl, rfl, ew, ?_⟩
    have s2 : Same H (upd H1 wq (.lst vs.reverse)) := same_wr s01 hwg
    have ew2 : (upd H1 wq (.lst vs.reverse)) wq = some (.lst vs.reverse) := upd_same
    have eg2 : (upd H1 wq (.lst vs.reverse)) g = some (.lst []) := by rw [upd_ne gw]; exact eg1
    have ents2 : Paired (Ent3 (upd H1 wq (.lst vs.reverse))) vs.reverse (kidsE (f.trees 0 0) none).reverse := paired_rev (Paired.mapP ents fun _ _ => Ent3.mono (upd_tups ew))
    generalize upd H1 wq (.lst vs.reverse) = H2 at s2 ew2 eg2 ents2
    clear s1 ew eg1 s01 ents hw e0 s0
    have fl : (f.flat 0).length = f.size := Fo.flat_len f 0
    refine ⟨_, rfl, p, ws, rfl, .inr (SqT.of (s2 _ _ ews)), _, rfl, by omega, by omega, for_range (lo := 0) (n := ((ws.length : Nat) : Int).toNat) (fun n σ H' => n ≤ doc.length ∧ Same H H' ∧ ∃ (L : List WT) (us : List V) (x3 x4 x6 x7 x8 x9 : Option V),
      σ = [some (.ref p), some (.ref r), some (.ref g), x3, x4, some (.ref wq), x6, x7, x8, x9, none, none] ∧ H' g = some (.lst ((parV doc).take n)) ∧ H' wq = some (.lst us) ∧ Paired (Ent3 H') us L ∧ (∀ e ∈ L, WOk doc e) ∧
      comes (L.map (·.1)).reverse = List.range' n (doc.length - n)) ?_ ?_ ?_⟩
    · refine ⟨Nat.zero_le _, s2, (kidsE (f.trees 0 0) none).reverse, vs.reverse, _, _, _, _, _, _, rfl, eg2, ew2, ents2, fun e he => ?_, ?_⟩
      · refine kids_ok rt ?_ e (List.mem_reverse.mp he)
        exact trees_at f 0 0 [] (by rw [List.drop_zero, List.append_nil, hf]) (fun _ _ h => nomatch h)
      · rw [List.map_reverse, List.reverse_reverse, kidsE_fst, comes_trees, hf, fl, Nat.sub_zero]
    · rintro n σ H3 hn ⟨nl, s3, L, us, x3, x4, x6, x7, x8, x9, rfl, eg, ew, ents, all, cm⟩
      have lt : n < doc.length := by omega
      obtain ⟨m, hm⟩ : ∃ m, doc.length - n = m + 1 := ⟨doc.length - n - 1, by omega⟩
      rw [hm] at cm
      rcases nil_or_snoc L with rfl | ⟨L', e0, rfl⟩
      · cases cm
      obtain ⟨us', v, rfl, ents', hv⟩ := paired_snoc ents
      have cm2 : comes (e0.1 :: (L'.map (·.1)).reverse) = List.range' n (m + 1) := by
        rw [← cm, List.map_append, List.reverse_append]
        rfl
      obtain ⟨v0, cm3⟩ := comes_next cm2 (e0.1.2.2.1 + 1)
      have wo := all e0 (List.mem_append_right _ List.mem_cons_self)
      obtain ⟨⟨v_, c, d, kk⟩, o, wh⟩ := e0
      have v0' : v_ = n := v0
      subst v0'
      have nd : NodeAt doc v_ c d kk := wo.node
      have hpar : lawPar doc v_ = o := wo.par
      have hrow : (rowA doc doc.length o)[wh]? = some v_ := wo.row
      have hin : inDoc doc o := wo.inD
      have hpl : placeOf doc v_ = (o, wh) := wo.place ok
      have wl : wh < doc.length := by
        have := (List.getElem?_eq_some_iff.mp hrow).1
        have := rowA_len doc doc.length o
        omega
      -- not empty
      refine ⟨_, rfl, Nat.zero_le _, fun e he => ⟨wq, e, _, rfl, rfl, SqL.of ((Same.new he) _ _ ew), SqL.of upd_same, _, rfl, ?_⟩⟩
      have e1 : ((us' ++ [v]).isEmpty != false) = false := by cases us' <;> rfl
      rw [e1]
      refine iteF ?_
      have s4 : Same H (upd H3 e (.lst [])) := s3.trans (Same.new he)
      have eg4 := (Same.new (o := .lst []) he) _ _ eg
      have ew4 := (Same.new (o := .lst []) he) _ _ ew
      have ents4 := Paired.mapP ents' fun a b => Ent3.mono (H' := upd H3 e (.lst [])) (Same.tups (Same.new he))
      obtain ⟨a, rfl, ea⟩ := Ent3.mono (H' := upd H3 e (.lst [])) (Same.tups (Same.new he)) hv
      generalize upd H3 e (.lst []) = H4 at s4 eg4 ew4 ents4 ea
      clear s3 eg ew ents ents' hv he
      -- the node is taken
      refine ⟨_, rfl, .inl ⟨rfl, _, SqL.of ew4⟩, wq, _, _, rfl, rfl, ew4, last_snoc _ _, ?_⟩
      rw [List.dropLast_concat]
      have s5 : Same H (upd H4 wq (.lst us')) := same_wr s4 hwg
      have ew5 : (upd H4 wq (.lst us')) wq = some (.lst us') := upd_same
      have eg5 : (upd H4 wq (.lst us')) g = some (.lst ((parV doc).take v_)) := by rw [upd_ne gw]; exact eg4
      have ea5 := upd_tups (u := .lst us') ew4 _ _ ea
      have ents5 := Paired.mapP ents4 fun a b => Ent3.mono (upd_tups (u := .lst us') ew4)
      generalize upd H4 wq (.lst us') = H5 at s5 ew5 eg5 ea5 ents5
      clear s4 ew4 eg4 ents4 ea
      refine ⟨a, _, rfl, SqT.of ea5, rfl, _, _, rfl, _, _, rfl, _, _, rfl, rfl, ?_⟩
      dsimp only [gName]
      have hd5 := hd.same s5
      obtain ⟨ws1, r1, c1, g1, g2, g3, _⟩ := hd5.ent lt
      refine seq_val (.int (dep doc v_ : Nat)) (fun Q q => tif_isN (o := o) rfl (fun ho => ?_) (fun j hj => ?_)) ?_
      · have e : dep doc v_ = 0 := (lawPar_none ok lt).mp (hpar.trans ho)
        rw [e] at q
        exact q
      · subst hj
        have e := dep_par hpar
        obtain ⟨ws2, r2, c2, k1, k2, k3, _⟩ := hd5.ent (hin j rfl)
        refine ⟨_, rfl, _, rfl, p, ws2, _, _, rfl, rfl, SqT.of k1, atI_nat k2, r2, _, 1, _, rfl, rfl, SqT.of k3, rfl, _, _, rfl, rfl, ?_⟩
        have e2 : ((dep doc j : Nat) : Int) + 1 = (dep doc v_ : Nat) := by omega
        show Q (.int (((dep doc j : Nat) : Int) + 1)) _
        rw [e2]
        exact q
      dsimp only [gName]
      have z0 : (0 : Int) + (v_ : Int) = (v_ : Nat) := by omega
      refine ⟨_, rfl, _, rfl, rfl, _, rfl, ?_⟩
      rw [decide_eq_true (show V.int (v_ : Nat) = V.int (0 + (v_ : Int)) by rw [z0])]
      refine iteF ?_
      refine ⟨_, rfl, _, rfl, p, ws1, _, _, rfl, rfl, SqT.of g1, atI_nat g2, r1, _, 1, _, rfl, rfl, SqT.of g3, rfl, _, rfl, rfl, _, rfl, ?_⟩
      rw [decide_eq_true rfl]
      refine iteF ?_
      have tp : ∀ H' x, H' x = some (.tup [vO o, .int (wh : Nat)]) → TD K H' (.ref x) (.tuple ([o, some wh].map dO)) := fun H' x e => td_nums (l := [o, some wh]) e (by show 2 ≤ 100; decide) fun j hj => by
        rcases List.mem_cons.mp hj with z | z
        · have := hin j z.symm
          omega
        · have z2 := List.mem_singleton.mp z
          injection z2 with z2
          omega
      -- its place
      refine ⟨_, rfl, _, rfl, p, doc, v_, rfl, hd5, ok, lt, by omega, fun H6 q6 s6 hq6 eq6 => ?_⟩
      rw [hpl] at eq6
      refine ⟨_, _, rfl, (tp _ _ eq6).told, _, rfl, _, rfl, nilA ⟨by show 2 ≤ sizeLine; decide, fun t7 ht7 => ?_⟩⟩
      have s7 : Same H6 (upd H6 t7 (.tup [vO o, .int (wh : Nat)])) := Same.new ht7
      have e7 : (upd H6 t7 (.tup [vO o, .int (wh : Nat)])) t7 = some (.tup [vO o, .int (wh : Nat)]) := upd_same
      generalize upd H6 t7 (.tup [vO o, .int (wh : Nat)]) = H7 at s7 e7
      refine nilA ⟨_, _, rfl, (tp _ _ e7).told, rfl, _, rfl, ?_⟩
      rw [decide_eq_true rfl]
      refine iteF ?_
      have s57 := s6.trans s7
      have hd7 := hd5.same s57
      -- the node of it
      refine ⟨_, rfl, _, rfl, _, rfl, nilA ⟨by show 2 ≤ sizeLine; decide, fun t8 ht8 => ?_⟩⟩
      have s8 : Same H7 (upd H7 t8 (.tup [vO o, .int (wh : Nat)])) := Same.new ht8
      have e8 : (upd H7 t8 (.tup [vO o, .int (wh : Nat)])) t8 = some (.tup [vO o, .int (wh : Nat)]) := upd_same
      generalize upd H7 t8 (.tup [vO o, .int (wh : Nat)]) = H8 at s8 e8
      have s58 := s57.trans s8
      have hro : (rowOf doc o)[wh]? = some v_ := by rw [rowOf_rowA ok hin]; exact hrow
      have spq : spotP doc (.tup [oPD o, .int (wh : Nat)]) = some v_ := spotP_is hin hro
      have rep : Rep K H8 (.ref t8) (.tup [oPD o, .int (wh : Nat)]) := .tup e8 (.cons (vO_atat _ fun n hn => by have := hin n hn; omega).rep (.cons (.int _) .nil))
      refine nilA ⟨p, doc, .ref t8, _, rfl, hd5.same s58, ok, by omega, rep, fun H9 s9 => ⟨fun n9 hn => ?_, fun hn => by rw [spq] at hn; cases hn⟩⟩
      rw [spq] at hn
      cases hn
      have s59 := s58.trans s9
      have tv : ∀ H' : Hp, Told K H' (.int (v_ : Nat)) (.int (v_ : Nat)) := fun H' => (td_int (by omega)).told
      refine nilA ⟨_, _, rfl, tv _, _, rfl, _, _, rfl, tv _, rfl, _, rfl, ?_⟩
      rw [decide_eq_true rfl]
      refine iteF ?_
      have eg9 := s59 _ _ eg5
      have ew9 := s59 _ _ ew5
      have ents9 := Paired.mapP ents5 fun a b => Ent3.mono (Same.tups s59)
      have sH9 := s5.trans s59
      clear eg5 ew5 ents5 s57 s58 e7 e8 eq6 s6 s7 s8 s9 hd7
      -- told
      refine ⟨_, rfl, .inl ⟨rfl, _, SqL.of eg9⟩, _, rfl, nilA ⟨g, _, _, rfl, rfl, eg9, by rw [List.length_take, parV_len]; omega, ?_⟩⟩
      have sa : Same H (upd H9 g (.lst ((parV doc).take v_ ++ [vO o]))) := same_wr sH9 hg
      have ega : (upd H9 g (.lst ((parV doc).take v_ ++ [vO o]))) g = some (.lst ((parV doc).take (v_ + 1))) := by
        rw [upd_same, List.take_add_one, parV_at lt, hpar]
        rfl
      have ewa : (upd H9 g (.lst ((parV doc).take v_ ++ [vO o]))) wq = some (.lst us') := by rw [upd_ne gw.symm]; exact ew9
      have entsa := Paired.mapP ents9 fun a b => Ent3.mono (upd_tups (u := .lst ((parV doc).take v_ ++ [vO o])) eg9)
      generalize upd H9 g (.lst ((parV doc).take v_ ++ [vO o])) = Ha at sa ega ewa entsa
      clear eg9 ew9 ents9 sH9 s59
      -- the children
      obtain ⟨ar_, har, harv, hrl⟩ := rows_get (rows.same sa) lt
      have rk := rowA_node ok nd
      have kl := trees_cnt_size kk
      have ksz := nd.size
      have lsz := lawSize_le lt
      dsimp only [gName]
      refine seq_of ?_
      refine ent_comp (a := 10) (b := 11) (la := ar_) (o := some v_) (l := kk.trees (v_ + 1) (d + 1)) (fun R q => ?_) (by rw [trees_len]; omega) (by rw [← rk]; exact hrl) (fun _ _ => rfl) (fun j t H' R _ q => ?_) fun iq Hb vs2 sb hi ei entsi => ?_
      · exact ⟨_, rfl, _, rfl, r, _, _, _, rfl, rfl, SqL.of (sa _ _ er), atI_nat harv, q⟩
      · exact ⟨_, rfl, _, rfl, _, rfl, nilA ⟨by show 3 ≤ sizeLine; omega, q⟩⟩
      dsimp only [gName]
      have iw : iq ≠ wq := fun z => by subst z; rw [ewa] at hi; cases hi
      have ig : iq ≠ g := fun z => by subst z; rw [ega] at hi; cases hi
      have ewb := sb _ _ ewa
      have egb := sb _ _ ega
      have entsb := Paired.mapP entsa fun a b => Ent3.mono (Same.tups sb)
      refine ⟨_, rfl, .inl ⟨rfl, _, SqL.of ei⟩, iq, _, rfl, rfl, ei, ?_⟩
      have hHi : H iq = none := sa.free hi
      have sc_ : Same H (upd Hb iq (.lst vs2.reverse)) := same_wr (sa.trans sb) hHi
      have eic : (upd Hb iq (.lst vs2.reverse)) iq = some (.lst vs2.reverse) := upd_same
      have ewc : (upd Hb iq (.lst vs2.reverse)) wq = some (.lst us') := by rw [upd_ne iw.symm]; exact ewb
      have egc : (upd Hb iq (.lst vs2.reverse)) g = some (.lst ((parV doc).take (v_ + 1))) := by rw [upd_ne ig.symm]; exact egb
      have entsc := Paired.mapP entsb fun a b => Ent3.mono (upd_tups (u := .lst vs2.reverse) ei)
      have entsic := paired_rev (Paired.mapP entsi fun a b => Ent3.mono (upd_tups (u := .lst vs2.reverse) ei))
      generalize upd Hb iq (.lst vs2.reverse) = Hc at sc_ eic ewc egc entsc entsic
      clear ewb egb entsb ei entsi ewa ega entsa
      have lu : us'.length = L'.length := Paired.length entsc
      have li : vs2.reverse.length = (kidsE (kk.trees (v_ + 1) (d + 1)) (some v_)).reverse.length := Paired.length entsic
      have lL : L'.length ≤ doc.length := by
        have h1 := congrArg List.length cm3
        rw [List.length_range'] at h1
        have h2 : ∀ M : List (Nat × Nat × Nat × Fo), M.length ≤ (comes M).length := by
          intro M
          induction M with
          | nil => exact Nat.le_refl _
          | cons t M ih =>
            show M.length + 1 ≤ (List.range' t.1 (1 + t.2.2.2.size) ++ comes M).length
            rw [List.length_append, List.length_range']
            omega
        have h3 := h2 (kk.trees (v_ + 1) (d + 1) ++ (L'.map (·.1)).reverse)
        rw [List.length_append, List.length_reverse, List.length_map] at h3
        have h4 : (comes (kk.trees (v_ + 1) (d + 1) ++ (L'.map (·.1)).reverse)).length = m := h1
        omega
      rw [List.length_reverse, List.length_reverse, kidsE_len, trees_len] at li
      refine ⟨_, rfl, .inl ⟨rfl, _, SqL.of ewc⟩, _, rfl, nilA ⟨wq, iq, _, _, rfl, rfl, ewc, eic, by rw [List.length_reverse]; omega, ?_⟩⟩
      have gwc : g ≠ wq := gw
      refine ⟨by omega, same_wr sc_ hwg, L' ++ (kidsE (kk.trees (v_ + 1) (d + 1)) (some v_)).reverse, us' ++ vs2.reverse, _, _, _, _, _, _, rfl, by rw [upd_ne gw]; exact egc, upd_same, ?_, fun e he => ?_, ?_⟩
      · exact paired_app (Paired.mapP entsc fun a b => Ent3.mono (upd_tups ewc)) (Paired.mapP entsic fun a b => Ent3.mono (upd_tups ewc))
      · rcases List.mem_append.mp he with h | h
        · exact all e (List.mem_append_left _ h)
        · exact kids_ok rk nd.kids e (List.mem_reverse.mp h)
      · rw [List.map_append, List.reverse_append, List.map_reverse, List.reverse_reverse, kidsE_fst]
        have : doc.length - (v_ + 1) = m := by omega
        rw [this]
        exact cm3
    · rintro σ H3 ⟨_, s3, L, us, x3, x4, x6, x7, x8, x9, rfl, eg, ew, ents, all, cm⟩
      have e0 : ((ws.length : Nat) : Int).toNat = doc.length := by omega
      rw [e0] at eg cm
      rw [Nat.sub_self] at cm
      have ln := comes_none cm
      have L0 : L = [] := by
        have h1 := congrArg List.length ln
        rw [List.length_reverse, List.length_map] at h1
        exact List.length_eq_zero_iff.mp h1
      subst L0
      cases ents
      refine ⟨_, rfl, Nat.zero_le _, fun e he => ⟨wq, e, _, rfl, rfl, SqL.of ((Same.new he) _ _ ew), SqL.of upd_same, _, rfl, ?_⟩⟩
      refine iteT ⟨_, rfl, k _ g (s3.trans (Same.new he)) ?_⟩
      rw [List.take_of_length_le (by rw [parV_len]; omega)] at eg
      exact (Same.new he) _ _ eg
end

/-! ### pieces, from the last one -/
def fillV (n b : Nat) (F : Nat → V) (z : V) : List V := (List.range n).map fun j => if n ≤ j + b then F j else z
theorem fillV_len (n b : Nat) (F : Nat → V) (z : V) : (fillV n b F z).length = n := by unfold fillV; rw [List.length_map, List.length_range]
theorem fillV_at {n b : Nat} {F : Nat → V} {z : V} {j : Nat} (h : j < n) (h2 : n ≤ j + b) : (fillV n b F z)[j]? = some (F j) := by
  unfold fillV
  rw [List.getElem?_map, List.getElem?_range h]
  show some (if n ≤ j + b then F j else z) = _
  rw [if_pos h2]
theorem fillV_zero (n : Nat) (F : Nat → V) (z : V) : fillV n 0 F z = List.replicate n z := by
  apply List.ext_getElem?
  intro j
  unfold fillV
  by_cases h : j < n
  · rw [List.getElem?_map, List.getElem?_range h, List.getElem?_replicate, if_pos h]
    show some (if n ≤ j + 0 then F j else z) = _
    rw [if_neg (by omega)]
  · rw [List.getElem?_eq_none (by rw [List.length_map, List.length_range]; omega), List.getElem?_eq_none (by rw [List.length_replicate]; omega)]
theorem fillV_all (n : Nat) (F : Nat → V) (z : V) : fillV n n F z = (List.range n).map F := by
  unfold fillV
  exact List.map_congr_left fun j _ => if_pos (by omega)
theorem fillV_set {n b m : Nat} {F : Nat → V} {z : V} (hm : m < n) (e : m + b + 1 = n) : (fillV n b F z).set m (F m) = fillV n (b + 1) F z := by
  apply List.ext_getElem?
  intro j
  by_cases jl : j < n
  · by_cases q : j = m
    · subst q
      rw [List.getElem?_set_self (by rw [fillV_len]; exact jl), fillV_at jl (by omega)]
    · rw [List.getElem?_set_ne (fun z => q z.symm)]
      unfold fillV
      rw [List.getElem?_map, List.getElem?_map, List.getElem?_range jl]
      show some (if n ≤ j + b then F j else z) = some (if n ≤ j + (b + 1) then F j else z)
      by_cases q2 : n ≤ j + b
      · rw [if_pos q2, if_pos (by omega)]
      · rw [if_neg q2, if_neg (by omega)]
  · rw [List.getElem?_eq_none (by rw [List.length_set, fillV_len]; omega), List.getElem?_eq_none (by rw [fillV_len]; omega)]
theorem flat_one {α : Type} (z : α) : ∀ n, (List.replicate n [z]).flatten = List.replicate n z
  | 0 => rfl
  | n + 1 => by
    rw [List.replicate_succ, List.replicate_succ, List.flatten_cons, flat_one z n]
    rfl
/-- what stands in an array, for each of a row -/
theorem arr_comp {K : PySem.W.Frag} {te : TE} {σ : L2.St} {H : Hp} {Q : VK} {A : Nat} {la rw_ : Addr} {l : List Nat} {xs : List V} {F : Nat → V} (hte : ∀ R : VK, R (.ref rw_) H → te σ H R)
    (hA : σ[A]? = some (some (.ref la))) (hne : A ≠ 13) (hl : 13 < σ.length) (ll : l.length ≤ 1000) (er : H rw_ = some (.lst (nV l))) (ea : H la = some (.lst xs)) (hin : ∀ i ∈ l, xs[i]? = some (F i))
    (k : ∀ (D : Addr) (H3 : Hp), Same H H3 → H D = none → H3 D = some (.lst (l.map F)) → Q (.ref D) H3) :
    tLc (iList K te) (gName 13) tYes (tOp (rIxL K) (tVar A) (tVar 13)) [13] σ H Q := by
  have line : 100000 ≤ sizeLine := by decide
  refine hte _ ⟨rw_, rfl, ⟨_, SqL.of er⟩, fun D hD => ?_⟩
  refine lc_it (walk_list (K := K) (a := rw_) (xs := nV l)) (fun j H' => j ≤ l.length ∧ Same H H' ∧ H' D = some (.lst ((l.take j).map F))) ?_ ?_ ?_ ?_
  · exact ⟨Nat.zero_le _, Same.new hD, upd_same⟩
  · rintro j H' hj ⟨_, s3, _⟩
    exact SqL.of (s3 _ _ er)
  · rintro j v H7 H8 hj ⟨jl, s3, ed⟩ ⟨rfl, hv⟩
    rw [nV_len] at hj
    obtain ⟨i, hi, rfl⟩ := nV_at hv
    have i1 := hin i (List.mem_of_getElem? hi)
    refine ⟨?_, ?_⟩
    · show (((σ.set 13 none).set 13 _).set 13 none) = σ.set 13 none
      apply List.ext_getElem?
      intro m
      simp only [List.getElem?_set, List.length_set]
      split <;> simp_all
    · have gA : ((wipe σ [13]).set 13 (some (V.int (i : Nat))))[A]? = some (some (.ref la)) := by
        show ((σ.set 13 none).set 13 _)[A]? = _
        rw [List.getElem?_set_ne (fun z => hne z.symm), List.getElem?_set_ne (fun z => hne z.symm)]
        exact hA
      have g13 : ((wipe σ [13]).set 13 (some (V.int (i : Nat))))[13]? = some (some (.int (i : Nat))) := by
        rw [List.getElem?_set_self (by rw [wipe_length]; exact hl)]
      refine ⟨_, gA, _, g13, la, _, _, _, rfl, rfl, SqL.of (s3 _ _ ea), atI_nat i1, _, ed, by rw [List.length_map, List.length_take]; omega, hj, fun b' o' e => ?_, ?_⟩
      · rw [upd_ne (ne_of_none e hD)]
        exact s3 b' o' e
      · have kl : j < l.length := hj
        have ke : l[j] = i := by
          rw [List.getElem?_eq_getElem kl] at hi
          exact Option.some.inj hi
        rw [upd_same, List.take_succ_eq_append_getElem kl, List.map_append, ke]
        rfl
  · rintro H3 ⟨_, s3, ed⟩
    rw [nV_len, List.take_length] at ed
    exact k D H3 s3 hD ed
theorem opC {v : V} {r : R2} {tb : TE} {σ : L2.St} {H : Hp} {Q : VK} (h : tb σ H fun y H2 => r v y H2 Q) : tOp r (tC v) tb σ H Q := h
theorem m1C {a : Str} {r : V → List V → Hp → VK → Prop} {te : TE} {σ : L2.St} {H : Hp} {Q : VK} (h : te σ H fun u H2 => r (.str a) [u] H2 Q) : tM1 r (tC (.str a)) te σ H Q := ⟨⟨a, rfl⟩, h⟩
theorem consV {te : TE} {r : TA} {σ : L2.St} {H : Hp} {Q : List V → Hp → Prop} (v : V) (hv : ∀ Q : VK, (∀ H', Same H H' → Q v H') → te σ H Q) (h : ∀ H', Same H H' → r σ H' fun xs H2 => Q (v :: xs) H2) : tCons te r σ H Q := hv _ h
theorem next_of {D : Ends} {σ : L2.St} {H : Hp} (h : D.nx σ H) : tNext D σ H := h
theorem asg_of {te : TE} {g : TG} {D : Ends} {σ : L2.St} {H : Hp} (h : te σ H fun v H1 => g v σ H1 D.nx) : tAsg te g D σ H := h
theorem opI {r : R2} {ta tb : TE} {σ : L2.St} {H : Hp} {Q : VK} (h : ta σ H fun x H1 => tb σ H1 fun y H2 => r x y H2 Q) : tOp r ta tb σ H Q := h
/-- a list of one thing, so many times as a tuple is long -/
theorem rep_one {K : PySem.W.Frag} {z : V} {σ : L2.St} {H : Hp} {Q : VK} {p : Addr} {ws : List V} (h0 : σ[0]? = some (some (.ref p))) (ews : H p = some (.tup ws)) (hl : ws.length ≤ 1000)
    (k : ∀ (D : Addr) (H3 : Hp), Same H H3 → H D = none → H3 D = some (.lst (List.replicate ws.length z)) → Q (.ref D) H3) :
    tOp rRep (tLst (tCons (tC z) tNil)) (tCB (fun xs H Q => ∃ p ys, xs = [V.ref p] ∧ (SqL K H p ys ∨ SqT K H p ys) ∧ Q (.int (ys.length : Nat)) H) (tCons (tVar 0) tNil)) σ H Q := by
  have line : 100000 ≤ sizeLine := by decide
  refine opI (lst_of (consC (nilA ⟨by show 1 ≤ sizeLine; omega, fun e he => ?_⟩)))
  have s1 : Same H (upd H e (.lst [z])) := Same.new he
  have e1 : (upd H e (.lst [z])) e = some (.lst [z]) := upd_same
  refine ⟨_, h0, p, ws, rfl, .inr (SqT.of (s1 _ _ ews)), e, _, _, rfl, rfl, e1, by omega, by omega, by show 1 * _ ≤ _; omega, fun D hD => ?_⟩
  have s2 := s1.trans (Same.new (o := .lst (List.replicate ((ws.length : Nat) : Int).toNat [z]).flatten) hD)
  refine k D _ s2 (s1.free hD) ?_
  rw [upd_same, flat_one, Int.toNat_natCast]
theorem ixN_nat {n j : Nat} (h : j < n) : ixN n ((j : Nat) : Int) = some j := by
  unfold ixN
  rw [if_pos (by omega), if_pos (by omega)]
  rfl
theorem set_arr {A la n b mm : Nat} {F : Nat → V} {z v : V} {σ : L2.St} {H : Hp} {C : L2.St → Hp → Prop} (hA : σ[A]? = some (some (.ref la))) (h7 : σ[7]? = some (some (.int (mm : Nat)))) (ea : H la = some (.lst (fillV n b F z)))
    (e : mm + b + 1 = n) (hv : v = F mm) (h : C σ (upd H la (.lst (fillV n (b + 1) F z)))) : gSub (tVar A) (tVar 7) rSetL v σ H C := by
  subst hv
  refine ⟨_, hA, _, h7, la, _, _, mm, rfl, rfl, ea, by rw [fillV_len]; exact ixN_nat (by omega), ?_⟩
  rw [fillV_set (by omega) e]
  exact h
theorem sum_zL : ∀ l : List Nat, (zL l).sum = (l.sum : Nat)
  | [] => rfl
  | a :: l => by
    show (a : Int) + (zL l).sum = ((a + l.sum : Nat) : Int)
    rw [sum_zL l]
    omega
abbrev nPieces : List Str := ["document", "rows", "many", "texts", "deep", "broad", "back", "node", "row", "less", "piece", "whole", "due", "child", "mark", "depth"]
def spLPieces : Sp := fun vs H Q _ => ∃ (p r : Addr) (doc : Doc) (as : List Addr), vs = [.ref p, .ref r] ∧ DocAt H p doc ∧ okFrom 0 doc ∧ doc.length ≤ 62 ∧ H r = some (.lst (as.map V.ref)) ∧ LRowsAt doc as H ∧ ∀ (H' : Hp), Same H H' → Q (.bl true) H'
section
variable {P : Program} {w : World} {K : PySem.W.Frag} {mg : Str → Option Value} {base : Heap}
theorem ok_lpieces (S : Docs K mg) (Dp : Dn K mg "parents_in" sParents pDocu) (Drs : Dn K mg "rows_in" sRows pDocu) (Dno : Dn K mg "is_node" sNode pNode) (Dck : Dn K mg "check_node" sChkNode pNode)
    (Deo : Dn K mg "end_of" sEndOf pNode') (Dsh : Dn K mg "shifted" sShift ["entries", "by"]) (Dpi : Dn K mg "piece_in" sPieceIn pNode') (Dsz : Dn K mg "sizes" sSizes pDocu) (Dpo : Dn K mg "piece_of" sPiece pNode')
    (Dwr : Dn K mg "write_document" sWrite pDocu) (Drd : Dn K mg "read_document" sRead pText) (Ddo : Dn K mg "depth_of" sDepthOf pDocu) (Dbo : Dn K mg "breadth_of" sBreadthOf pDocu)
    (D : Dn K mg "_law_pieces" sLPieces pWalk) : GOk P w K mg base CX0 7 D.f D.fd pWalk spLPieces := by
  have T := S.T
  have GI : FnOk P w K mg base CX0 4 S.isdoc.f S.isdoc.fd pThing spIsDocV := ok_isdocV T S.hm S.hM S.whole S.number S.mark S.entry S.isdoc
  have GSz : FnOk P w K mg base CX0 6 Dsz.f Dsz.fd pDocu spSizes := ok_sizes S Dp Dsz
  have GWr : FnOk P w K mg base CX0 6 Dwr.f Dwr.fd pDocu spWrite := ok_write S Dwr
  have GRd : FnOk P w K mg base CX0 2 Drd.f Drd.fd pText spReadV := ok_readV T S.hm S.hM S.mark Drd
  have GPo : FnOk P w K mg base CX0 6 Dpo.f Dpo.fd pNode' spPieceOf := ok_pieceof S Dno Dck Deo Dsh Dpi Dpo
  have GDo : FnOk P w K mg base CX0 6 Ddo.f Ddo.fd pDocu spDepthOf := ok_depthof S Ddo
  have GBo : FnOk P w K mg base CX0 6 Dbo.f Dbo.fd pDocu spBreadthOf := ok_breadthof S Dp Drs Dbo
  have sc : FnScope nPieces pWalk (defScope sLPieces) := ⟨rfl, rfl, rfl, by decide +kernel, rfl, by decide +kernel, by decide +kernel⟩
  refine gok0 D.F sc (fun vs H Q E h => ?_) (fun cdv A outer s H vs Q E hgd hr h => ?_)
  · obtain ⟨p, r, doc, as, rfl, _⟩ := h
    rfl
  · obtain ⟨p, r, doc, as, rfl, hd, ok, hl, er, rows, k⟩ := h
    refine ⟨_, (pss_cons (ps_asg (pe_tup (pa_cons (pe_op op_rep (pe_lst (pa_cons pe_int pa_nil)) (pe_callB call_len_seq (by rfl) T.len b_len (pa_cons (pv 0) pa_nil))) (pa_cons (pe_op op_rep (pe_lst (pa_cons pe_str pa_nil)) (pe_callB call_len_seq (by rfl) T.len b_len (pa_cons (pv 0) pa_nil))) (pa_cons (pe_op op_rep (pe_lst (pa_cons pe_int pa_nil)) (pe_callB call_len_seq (by rfl) T.len b_len (pa_cons (pv 0) pa_nil))) (pa_cons (pe_op op_rep (pe_lst (pa_cons pe_int pa_nil)) (pe_callB call_len_seq (by rfl) T.len b_len (pa_cons (pv 0) pa_nil))) pa_nil))))) (pg_tup rfl (pgs_cons (pg_name (i := 2) sc.nd rfl (.inr rfl)) (pgs_cons (pg_name (i := 3) sc.nd rfl (.inr rfl)) (pgs_cons (pg_name (i := 4) sc.nd rfl (.inr rfl)) (pgs_cons (pg_name (i := 5) sc.nd rfl (.inr rfl)) pgs_nil))))))
      (pss_cons (ps_for PassesOwn.never rfl (pi_range1 (by rfl) T.range (pa_cons (pe_callB call_len_seq (by rfl) T.len b_len (pa_cons (pv 0) pa_nil)) pa_nil)) (pg_name (i := 6) sc.nd rfl (.inl rfl))
        (pss_cons (ps_set (i := 7) sc.nd rfl (.inl rfl) (pe_op op_sub (pe_op op_sub (pe_callB call_len_seq (by rfl) T.len b_len (pa_cons (pv 0) pa_nil)) pe_int) (pv 6)))
        (pss_cons (ps_asg (pe_tup (pa_cons (pe_ix ix_list (pv 1) (pv 7) (fun _ _ => rfl)) (pa_cons (pe_ix ix_tup (pe_ix ix_tup (pv 0) (pv 7) (fun _ _ => rfl)) pe_int (fun _ _ => rfl)) pa_nil))) (pg_tup rfl (pgs_cons (pg_name (i := 8) sc.nd rfl (.inl rfl)) (pgs_cons (pg_name (i := 9) sc.nd rfl (.inr rfl)) pgs_nil))))
        (pss_cons (ps_asg (pe_op op_add pe_int (pe_callB (cr_sum rfl) (by rfl) T.sum b_sum (pa_cons (pe_lc (own := [("child", 13)]) (g := gName 13) (tt := tYes) rfl sc.nd (pi_list (pv 8)) (blkOk_by (N := nPieces) (sc := defScope sLPieces) (by decide +kernel)) (fun _ _ _ _ _ => (pg_name (i := 13) sc.nd rfl (by first | exact .inl rfl | exact .inr rfl))) (fun _ _ _ _ _ => pts_nil) (fun _ _ _ _ _ => (pe_ix (ix_listK (K := K) rfl) (pv 2) (pv 13) (fun _ _ => rfl)))) pa_nil))) (pg_sub (pv 2) (pv 7) set_list))
        (pss_cons (ps_asg (pe_ix ix_tup (pe_ix ix_tup (pv 0) (pv 7) (fun _ _ => rfl)) pe_int (fun _ _ => rfl)) (pg_sub (pv 3) (pv 7) set_list))
        (C8.pss_cut (ps_if (pt_cmpR (op_neE hr.units0) (pv 8) (pe_lst pa_nil) (nomark _)) (pss_one (ps_asg (pe_op op_add_str (pe_op op_add_str (pe_op op_add_str (pe_ix ix_list (pv 3) (pv 7) (fun _ _ => rfl)) pe_str) (pe_join pe_str (pe_lc (own := [("child", 13)]) (g := gName 13) (tt := tYes) rfl sc.nd (pi_list (pv 8)) (blkOk_by (N := nPieces) (sc := defScope sLPieces) (by decide +kernel)) (fun _ _ _ _ _ => (pg_name (i := 13) sc.nd rfl (by first | exact .inl rfl | exact .inr rfl))) (fun _ _ _ _ _ => pts_nil) (fun _ _ _ _ _ => (pe_ix (ix_listK (K := K) rfl) (pv 3) (pv 13) (fun _ _ => rfl)))))) pe_str) (pg_sub (pv 3) (pv 7) set_list))) pss_nil)
        (pss_cons (ps_asg (pe_op op_add pe_int (pe_callB (cr_max rfl) (by rfl) T.max b_max (pa_cons (pe_op op_cat (pe_lst (pa_cons pe_int pa_nil)) (pe_lc (own := [("child", 13)]) (g := gName 13) (tt := tYes) rfl sc.nd (pi_list (pv 8)) (blkOk_by (N := nPieces) (sc := defScope sLPieces) (by decide +kernel)) (fun _ _ _ _ _ => (pg_name (i := 13) sc.nd rfl (by first | exact .inl rfl | exact .inr rfl))) (fun _ _ _ _ _ => pts_nil) (fun _ _ _ _ _ => (pe_ix (ix_listK (K := K) rfl) (pv 4) (pv 13) (fun _ _ => rfl))))) pa_nil))) (pg_sub (pv 4) (pv 7) set_list))
        (pss_cons (ps_asg (pe_callB (cr_max rfl) (by rfl) T.max b_max (pa_cons (pe_op op_cat (pe_lst (pa_cons pe_int (pa_cons (pe_callB call_len_seq (by rfl) T.len b_len (pa_cons (pv 8) pa_nil)) pa_nil))) (pe_lc (own := [("child", 13)]) (g := gName 13) (tt := tYes) rfl sc.nd (pi_list (pv 8)) (blkOk_by (N := nPieces) (sc := defScope sLPieces) (by decide +kernel)) (fun _ _ _ _ _ => (pg_name (i := 13) sc.nd rfl (by first | exact .inl rfl | exact .inr rfl))) (fun _ _ _ _ _ => pts_nil) (fun _ _ _ _ _ => (pe_ix (ix_listK (K := K) rfl) (pv 5) (pv 13) (fun _ _ => rfl))))) pa_nil)) (pg_sub (pv 5) (pv 7) set_list))
        (C8.pss_cut (ps_set (i := 10) sc.nd rfl (.inl rfl) (pe_callTy call_tuple_of (by rfl) T.tuple b_tuple (pa_cons (pe_lc (own := [("mark", 14), ("depth", 15)]) (g := gTup K 2 (gCons (gName 14) (gCons (gName 15) gNil))) (tt := tYes) rfl sc.nd (pi_tup (pe_slice sl_tupA (pv 0) (po_some (pv 7)) (po_some (pe_op op_add (pv 7) (pe_ix ix_list (pv 2) (pv 7) (fun _ _ => rfl)))))) (blkOk_by (N := nPieces) (sc := defScope sLPieces) (by decide +kernel)) (fun _ _ _ _ _ => (pg_tup rfl (pgs_cons (pg_name (i := 14) sc.nd rfl (by first | exact .inl rfl | exact .inr rfl)) (pgs_cons (pg_name (i := 15) sc.nd rfl (by first | exact .inl rfl | exact .inr rfl)) pgs_nil)))) (fun _ _ _ _ _ => pts_nil) (fun _ _ _ _ _ => (pe_tup (pa_cons (pv 14) (pa_cons (pe_op op_sub (pv 15) (pv 9)) pa_nil))))) pa_nil)))
        (pss_cons (ps_if (PW.pt (pw_or (pt_cmpR op_ne (pe_callB (call_repr hgd hr) (by rfl) T.repr b_repr (pa_cons (de_call Dpo GPo hr (pa_cons (pv 0) (pa_cons (pv 7) pa_nil))) pa_nil)) (pe_callB (call_repr hgd hr) (by rfl) T.repr b_repr (pa_cons (pv 10) pa_nil)) (nomark _)) (pw_or1 (pt_cmpR op_isnot_bl (de_call S.isdoc GI hr (pa_cons (pv 10) pa_nil)) pe_bl (nomark _))))) (pss_one (ps_ret pe_bl)) pss_nil)
        (pss_cons (ps_if (pt_cmpR (op_neS hr.units0) (pe_lst (pa_cons (pe_callB (call_repr hgd hr) (by rfl) T.repr b_repr (pa_cons (de_call Ddo GDo hr (pa_cons (pv 10) pa_nil)) pa_nil)) (pa_cons (pe_callB (call_repr hgd hr) (by rfl) T.repr b_repr (pa_cons (de_call Dbo GBo hr (pa_cons (pv 10) pa_nil)) pa_nil)) pa_nil))) (pe_lst (pa_cons (pe_callB (call_repr hgd hr) (by rfl) T.repr b_repr (pa_cons (pe_ix ix_list (pv 4) (pv 7) (fun _ _ => rfl)) pa_nil)) (pa_cons (pe_callB (call_repr hgd hr) (by rfl) T.repr b_repr (pa_cons (pe_ix ix_list (pv 5) (pv 7) (fun _ _ => rfl)) pa_nil)) pa_nil))) (nomark _)) (pss_one (ps_ret pe_bl)) pss_nil)
        (pss_one (ps_if (PW.pt (pw_or (pt_cmpR op_ne (pe_callB (call_repr hgd hr) (by rfl) T.repr b_repr (pa_cons (de_call Dwr GWr hr (pa_cons (pv 10) pa_nil)) pa_nil)) (pe_callB (call_repr hgd hr) (by rfl) T.repr b_repr (pa_cons (pe_ix ix_list (pv 3) (pv 7) (fun _ _ => rfl)) pa_nil)) (nomark _)) (pw_or1 (pt_cmpR op_ne (pe_callB (call_repr hgd hr) (by rfl) T.repr b_repr (pa_cons (de_call Drd GRd hr (pa_cons (pe_ix ix_list (pv 3) (pv 7) (fun _ _ => rfl)) pa_nil)) pa_nil)) (pe_callB (call_repr hgd hr) (by rfl) T.repr b_repr (pa_cons (pv 10) pa_nil)) (nomark _))))) (pss_one (ps_ret pe_bl)) pss_nil)))))))))))))
      (pss_cons (ps_set (i := 11) sc.nd rfl (.inl rfl) (pe_join pe_str (pe_lc (own := [("child", 13)]) (g := gName 13) (tt := tYes) rfl sc.nd (pi_list (pe_ix ix_list (pv 1) (pe_un un_neg pe_int) (fun _ _ => rfl))) (blkOk_by (N := nPieces) (sc := defScope sLPieces) (by decide +kernel)) (fun _ _ _ _ _ => (pg_name (i := 13) sc.nd rfl (by first | exact .inl rfl | exact .inr rfl))) (fun _ _ _ _ _ => pts_nil) (fun _ _ _ _ _ => (pe_ix (ix_listK (K := K) rfl) (pv 3) (pv 13) (fun _ _ => rfl))))))
      (pss_cons (ps_if (PW.pt (pw_or (pt_cmpR op_ne (pe_callB (call_repr hgd hr) (by rfl) T.repr b_repr (pa_cons (de_call Dsz GSz hr (pa_cons (pv 0) pa_nil)) pa_nil)) (pe_callB (call_repr hgd hr) (by rfl) T.repr b_repr (pa_cons (pe_callTy call_tuple_of (by rfl) T.tuple b_tuple (pa_cons (pv 2) pa_nil)) pa_nil)) (nomark _)) (pw_or1 (pt_cmpR op_ne (pe_callB (call_repr hgd hr) (by rfl) T.repr b_repr (pa_cons (de_call Dwr GWr hr (pa_cons (pv 0) pa_nil)) pa_nil)) (pe_callB (call_repr hgd hr) (by rfl) T.repr b_repr (pa_cons (pv 11) pa_nil)) (nomark _))))) (pss_one (ps_ret pe_bl)) pss_nil)
      (pss_cons (ps_set (i := 12) sc.nd rfl (.inl rfl) (pe_lst (pa_cons (pe_callB (cr_max rfl) (by rfl) T.max b_max (pa_cons (pe_op op_cat (pe_lst (pa_cons pe_int pa_nil)) (pv 4)) pa_nil)) (pa_cons (pe_ifExp (pt_cmpR op_gt (pe_callB call_len_seq (by rfl) T.len b_len (pa_cons (pv 0) pa_nil)) pe_int (nomark _)) (pe_callB (cr_max rfl) (by rfl) T.max b_max (pa_cons (pe_op op_cat (pe_lst (pa_cons (pe_callB call_len_seq (by rfl) T.len b_len (pa_cons (pe_ix ix_list (pv 1) (pe_un un_neg pe_int) (fun _ _ => rfl)) pa_nil)) pa_nil)) (pv 5)) pa_nil)) pe_int) pa_nil))))
      (pss_cons (ps_if (pt_cmpR op_ne (pe_callB (call_repr hgd hr) (by rfl) T.repr b_repr (pa_cons (pe_lst (pa_cons (de_call Ddo GDo hr (pa_cons (pv 0) pa_nil)) (pa_cons (de_call Dbo GBo hr (pa_cons (pv 0) pa_nil)) pa_nil))) pa_nil)) (pe_callB (call_repr hgd hr) (by rfl) T.repr b_repr (pa_cons (pv 12) pa_nil)) (nomark _)) (pss_one (ps_ret pe_bl)) pss_nil)
      (pss_one (ps_ret (pe_cmpR op_eq (pe_callB (call_repr hgd hr) (by rfl) T.repr b_repr (pa_cons (de_call Drd GRd hr (pa_cons (pv 11) pa_nil)) pa_nil)) (pe_callB (call_repr hgd hr) (by rfl) T.repr b_repr (pa_cons (pv 0) pa_nil)) (nomark _)))))))))), ?_⟩
    obtain ⟨ws, ews, qws⟩ := id hd
    have len := Paired.length qws
    have line : 100000 ≤ sizeLine := by decide
    have l1 : 1 ≤ sizeLine := by decide
    refine seq_of (tup_of (consI (rep_one rfl ews (by omega) fun m H1 s1 hm em => consI (rep_one rfl (s1 _ _ ews) (by omega) fun x H2 s2 hx et => consI (rep_one rfl ((s1.trans s2) _ _ ews) (by omega) fun d H3 s3 hd3 ed =>
      consI (rep_one rfl ((s1.trans (s2.trans s3)) _ _ ews) (by omega) fun b_ H4 s4 hb eb => nilA ⟨by show 4 ≤ sizeLine; omega, fun t5 ht5 => ?_⟩))))))
    have s5 : Same H4 (upd H4 t5 (.tup [.ref m, .ref x, .ref d, .ref b_])) := Same.new ht5
    have s25 := s2.trans (s3.trans (s4.trans s5))
    refine ⟨t5, _, rfl, SqT.of upd_same, rfl, _, _, rfl, _, _, rfl, _, _, rfl, _, _, rfl, rfl, ?_⟩
    have hmH := hm
    have hxH := s1.free hx
    have hdH := (s1.trans s2).free hd3
    have hbH := (s1.trans (s2.trans s3)).free hb
    have mx : m ≠ x := fun z => by subst z; rw [em] at hx; cases hx
    have md : m ≠ d := fun z => by subst z; rw [s2 _ _ em] at hd3; cases hd3
    have mb : m ≠ b_ := fun z => by subst z; rw [s3 _ _ (s2 _ _ em)] at hb; cases hb
    have xd : x ≠ d := fun z => by subst z; rw [et] at hd3; cases hd3
    have xb : x ≠ b_ := fun z => by subst z; rw [s3 _ _ et] at hb; cases hb
    have db : d ≠ b_ := fun z => by subst z; rw [ed] at hb; cases hb
    have em5 := s25 _ _ em
    have et5 := (s3.trans (s4.trans s5)) _ _ et
    have ed5 := (s4.trans s5) _ _ ed
    have eb5 := s5 _ _ eb
    have sH5 := s1.trans s25
    generalize upd H4 t5 (.tup [.ref m, .ref x, .ref d, .ref b_]) = H5 at em5 et5 ed5 eb5 sH5
    rw [len] at em5 et5 ed5 eb5
    clear s1 s2 s3 s4 s5 s25 em et ed eb hm hx hd3 hb ht5
    refine ⟨_, rfl, p, ws, rfl, .inr (SqT.of (sH5 _ _ ews)), _, rfl, by omega, by omega, for_range (lo := 0) (n := ((ws.length : Nat) : Int).toNat) (fun b σ H' => b ≤ doc.length ∧ Same H H' ∧
      H' m = some (.lst (fillV doc.length b (fun j => V.int (lawSize doc j : Nat)) (.int 0))) ∧ H' x = some (.lst (fillV doc.length b (fun j => V.str (sT (nodeText doc j))) (.str (sT [])))) ∧
      H' d = some (.lst (fillV doc.length b (fun j => V.int (deepP doc j : Nat)) (.int 0))) ∧ H' b_ = some (.lst (fillV doc.length b (fun j => V.int (broadP doc j : Nat)) (.int 0))) ∧
      ∃ x6 x7 x8 x9 x10 : Option V, σ = [some (.ref p), some (.ref r), some (.ref m), some (.ref x), some (.ref d), some (.ref b_), x6, x7, x8, x9, x10, none, none, none, none, none]) ?_ ?_ ?_⟩
    · exact ⟨Nat.zero_le _, sH5, by rw [fillV_zero]; exact em5, by rw [fillV_zero]; exact et5, by rw [fillV_zero]; exact ed5, by rw [fillV_zero]; exact eb5, _, _, _, _, _, rfl⟩
    · rintro b σ H6 hb ⟨bl, s6, em, et, ed, eb, x6, x7, x8, x9, x10, rfl⟩
      clear em5 et5 ed5 eb5 sH5
      obtain ⟨mm, hmm⟩ : ∃ mm, mm + b + 1 = doc.length := ⟨doc.length - b - 1, by omega⟩
      have lt : mm < doc.length := by omega
      have mv : ((ws.length : Nat) : Int) - 1 - (0 + (b : Int)) = (mm : Nat) := by omega
      refine seq_val (.int (mm : Nat)) (fun Q q => ?_) ?_
      · refine ⟨_, rfl, p, ws, rfl, .inr (SqT.of (s6 _ _ ews)), _, _, rfl, rfl, _, rfl, _, _, rfl, rfl, ?_⟩
        show Q (.int (((ws.length : Nat) : Int) - 1 - (0 + (b : Int)))) _
        rw [mv]
        exact q
      dsimp only [gName]
      obtain ⟨ra, hra, hrav, hrl⟩ := rows_get rows lt
      have hd6 := hd.same s6
      obtain ⟨ws1, r1, c1, g1, g2, g3, g4, g5⟩ := hd6.ent lt
      refine seq_of (tup_of ⟨_, rfl, _, rfl, r, _, _, _, rfl, rfl, SqL.of (s6 _ _ er), atI_nat hrav, _, rfl, _, rfl, p, ws1, _, _, rfl, rfl, SqT.of g1, atI_nat g2, r1, _, 1, _, rfl, rfl, SqT.of g3, rfl, nilA ⟨by show 2 ≤ sizeLine; omega, fun t7 ht7 => ?_⟩⟩)
      have s7 : Same H6 (upd H6 t7 (.tup [.ref ra, .int (dep doc mm : Nat)])) := Same.new ht7
      refine ⟨t7, _, rfl, SqT.of upd_same, rfl, _, _, rfl, _, _, rfl, rfl, ?_⟩
      have em7 := s7 _ _ em
      have et7 := s7 _ _ et
      have ed7 := s7 _ _ ed
      have eb7 := s7 _ _ eb
      have sH7 := s6.trans s7
      generalize upd H6 t7 (.tup [.ref ra, .int (dep doc mm : Nat)]) = H7 at em7 et7 ed7 eb7 sH7
      clear em et ed eb s7 s6 ht7
      dsimp only [gName]
      have rl : ∀ i ∈ rowA doc doc.length (some mm), i < doc.length ∧ doc.length ≤ i + b := fun i hi => by
        obtain ⟨a1, a2⟩ := rowA_mem hi
        have := par_lt a2
        exact ⟨a1, by omega⟩
      have rlen := rowA_len doc doc.length (some mm)
      have er7 : H7 ra = some (.lst (nV (rowA doc doc.length (some mm)))) := sH7 _ _ hrl
      -- how many
      refine seq_of (opC (cbI (consI ?_)))
      refine arr_comp (A := 2) (F := fun j => V.int (lawSize doc j : Nat)) (fun R q => ⟨_, rfl, q⟩) rfl (by decide) (by show 13 < 16; decide) (by omega) er7 em7 (fun i hi => fillV_at (rl i hi).1 (rl i hi).2) fun D8 H8 s8 hD8 eD8 => ?_
      refine nilA ⟨D8, zL ((rowA doc doc.length (some mm)).map (lawSize doc)), rfl, SqL.of (by rw [eD8, ← nV_z]; unfold nV; rw [List.map_map]; rfl), _, _, rfl, rfl, ?_⟩
      refine set_arr (A := 2) (F := fun j => V.int (lawSize doc j : Nat)) rfl rfl (s8 _ _ em7) hmm ?_ ?_
      · show V.int (1 + (zL ((rowA doc doc.length (some mm)).map (lawSize doc))).sum) = V.int (lawSize doc mm : Nat)
        rw [sum_zL, size_row ok lt]
        congr 1
      have em9 : (upd H8 m (.lst (fillV doc.length (b + 1) (fun j => V.int (lawSize doc j : Nat)) (.int 0)))) m = some (.lst (fillV doc.length (b + 1) (fun j => V.int (lawSize doc j : Nat)) (.int 0))) := upd_same
      have et9 : (upd H8 m (.lst (fillV doc.length (b + 1) (fun j => V.int (lawSize doc j : Nat)) (.int 0)))) x = _ := (upd_ne mx.symm).trans (s8 _ _ et7)
      have ed9 : (upd H8 m (.lst (fillV doc.length (b + 1) (fun j => V.int (lawSize doc j : Nat)) (.int 0)))) d = _ := (upd_ne md.symm).trans (s8 _ _ ed7)
      have eb9 : (upd H8 m (.lst (fillV doc.length (b + 1) (fun j => V.int (lawSize doc j : Nat)) (.int 0)))) b_ = _ := (upd_ne mb.symm).trans (s8 _ _ eb7)
      have s9 : Same H (upd H8 m (.lst (fillV doc.length (b + 1) (fun j => V.int (lawSize doc j : Nat)) (.int 0)))) := same_wr (sH7.trans s8) hmH
      generalize upd H8 m (.lst (fillV doc.length (b + 1) (fun j => V.int (lawSize doc j : Nat)) (.int 0))) = H9 at em9 et9 ed9 eb9 s9
      clear em7 et7 ed7 eb7 sH7 s8 hD8 eD8 er7 g1 g2 g3 g4 g5 hd6
      -- its text, the mark first
      obtain ⟨ws1, r1, c1, g1, g2, g3, g4, g5⟩ := (hd.same s9).ent lt
      refine ⟨_, rfl, _, rfl, p, ws1, _, _, rfl, rfl, SqT.of g1, atI_nat g2, r1, _, 0, _, rfl, rfl, SqT.of g3, rfl, _, rfl, _, rfl, x, _, _, mm, rfl, rfl, et9, by rw [fillV_len]; exact ixN_nat lt, ?_⟩
      have em10 := (upd_ne (o := .lst ((fillV doc.length b (fun j => V.str (sT (nodeText doc j))) (.str (sT []))).set mm (.str ⟨#[c1]⟩))) mx).trans em9
      have et10 : (upd H9 x (.lst ((fillV doc.length b (fun j => V.str (sT (nodeText doc j))) (.str (sT []))).set mm (.str ⟨#[c1]⟩)))) x = _ := upd_same
      have ed10 := (upd_ne (o := .lst ((fillV doc.length b (fun j => V.str (sT (nodeText doc j))) (.str (sT []))).set mm (.str ⟨#[c1]⟩))) xd.symm).trans ed9
      have eb10 := (upd_ne (o := .lst ((fillV doc.length b (fun j => V.str (sT (nodeText doc j))) (.str (sT []))).set mm (.str ⟨#[c1]⟩))) xb.symm).trans eb9
      have s10 : Same H (upd H9 x (.lst ((fillV doc.length b (fun j => V.str (sT (nodeText doc j))) (.str (sT []))).set mm (.str ⟨#[c1]⟩)))) := same_wr s9 hxH
      generalize upd H9 x (.lst ((fillV doc.length b (fun j => V.str (sT (nodeText doc j))) (.str (sT []))).set mm (.str ⟨#[c1]⟩))) = H10 at em10 et10 ed10 eb10 s10
      clear em9 et9 ed9 eb9 s9 g1 g2 g3 g4
      have nt := node_text ok lt
      rw [rowOf_rowA ok (fun j hj => by cases hj; exact lt), ← g5] at nt
      have nl := nodeText_len ok lt
      have er10 : H10 ra = some (.lst (nV (rowA doc doc.length (some mm)))) := s10 _ _ hrl
      refine ⟨fun σ' H' => σ' = [some (.ref p), some (.ref r), some (.ref m), some (.ref x), some (.ref d), some (.ref b_), some (.int (0 + (b : Int))), some (.int (mm : Nat)), some (.ref ra), some (.int (dep doc mm : Nat)), x10, none, none, none, none, none] ∧ Same H H' ∧
        H' m = some (.lst (fillV doc.length (b + 1) (fun j => V.int (lawSize doc j : Nat)) (.int 0))) ∧ H' x = some (.lst (fillV doc.length (b + 1) (fun j => V.str (sT (nodeText doc j))) (.str (sT [])))) ∧
        H' d = some (.lst (fillV doc.length b (fun j => V.int (deepP doc j : Nat)) (.int 0))) ∧ H' b_ = some (.lst (fillV doc.length b (fun j => V.int (broadP doc j : Nat)) (.int 0))), ?_, ?_⟩
      · refine ⟨_, rfl, Nat.zero_le _, fun e he => ⟨ra, e, _, rfl, rfl, SqL.of ((Same.new he) _ _ er10), SqL.of upd_same, _, rfl, ?_⟩⟩
        have s11 : Same H10 (upd H10 e (.lst [])) := Same.new he
        have em11 := s11 _ _ em10
        have et11 := s11 _ _ et10
        have ed11 := s11 _ _ ed10
        have eb11 := s11 _ _ eb10
        have sH11 := s10.trans s11
        have er11 := s11 _ _ er10
        generalize upd H10 e (.lst []) = H11 at s11 em11 et11 ed11 eb11 sH11 er11
        refine ite2 (fun c1' => ?_) (fun c1' => ?_)
        · have ne : rowA doc doc.length (some mm) ≠ [] := fun z => by rw [z] at c1'; exact absurd c1' (by decide)
          rw [if_neg ne] at nt
          have jl : (joinT ((rowA doc doc.length (some mm)).map (nodeText doc))).length ≤ 3000 := by
            have := congrArg List.length nt
            rw [List.length_cons, List.length_append, List.length_cons] at this
            omega
          refine ⟨_, rfl, _, rfl, x, _, _, _, rfl, rfl, SqL.of et11, atI_nat (List.getElem?_set_self (by rw [fillV_len]; exact lt)), _, _, rfl, rfl, by show 1 + 1 ≤ sizeLine; omega, ?_⟩
          refine m1C ?_
          refine arr_comp (A := 3) (F := fun j => V.str (sT (nodeText doc j))) (fun R q => ⟨_, rfl, q⟩) rfl (by decide) (by show 13 < 16; decide) (by omega) er11 et11 (fun i hi => ?_) fun D12 H12 s12 hD12 eD12 => ?_
          · have := par_lt (rowA_mem hi).2
            rw [List.getElem?_set_ne (by omega)]
            exact fillV_at (rl i hi).1 (rl i hi).2
          obtain ⟨j1, j2⟩ := row_join ok (by omega) (fun i hi => (rl i hi).1) rlen
          refine ⟨" ", D12, ((rowA doc doc.length (some mm)).map fun i => sT (nodeText doc i)), rfl, rfl, .inl (SqL.of (by rw [eD12, List.map_map]; rfl)), j1, ?_⟩
          rw [j2]
          refine ⟨_, _, rfl, rfl, ?_, _, _, rfl, rfl, ?_, _, rfl, _, rfl, x, _, _, mm, rfl, rfl, s12 _ _ et11, by rw [List.length_set, fillV_len]; exact ixN_nat lt, rfl, same_wr (sH11.trans s12) hxH, (upd_ne mx).trans (s12 _ _ em11), ?_, (upd_ne xd.symm).trans (s12 _ _ ed11), (upd_ne xb.symm).trans (s12 _ _ eb11)⟩
          · show (sT [c1] ++ sT [40]).length + (sT (joinT ((rowA doc doc.length (some mm)).map (nodeText doc)))).length ≤ sizeLine
            rw [sT_add, sT_len, sT_len]
            show 2 + _ ≤ _
            omega
          · show ((sT [c1] ++ sT [40]) ++ sT (joinT ((rowA doc doc.length (some mm)).map (nodeText doc)))).length + (sT [41]).length ≤ sizeLine
            rw [sT_add, sT_add, sT_len, sT_len, List.length_append]
            show 2 + _ + 1 ≤ _
            omega
          · have e : ((sT [c1] ++ sT [40]) ++ sT (joinT ((rowA doc doc.length (some mm)).map (nodeText doc)))) ++ sT [41] = sT (nodeText doc mm) := by
              rw [sT_add, sT_add, sT_add, nt]
              congr 1
            rw [upd_same, List.set_set]
            show some (HO.lst ((fillV doc.length b _ _).set mm (V.str (((sT [c1] ++ sT [40]) ++ sT (joinT ((rowA doc doc.length (some mm)).map (nodeText doc)))) ++ sT [41])))) = _
            rw [e]
            exact congrArg (fun l => some (HO.lst l)) (fillV_set (F := fun j => V.str (sT (nodeText doc j))) lt hmm)
        · have em_ : rowA doc doc.length (some mm) = [] := by
            cases q : rowA doc doc.length (some mm) with
            | nil => rfl
            | cons a l => rw [q] at c1'; exact absurd rfl c1'
          rw [if_pos em_] at nt
          refine ⟨rfl, sH11, em11, ?_, ed11, eb11⟩
          rw [et11]
          have e : (⟨#[c1]⟩ : Str) = sT (nodeText doc mm) := by rw [nt]; rfl
          rw [e]
          exact congrArg (fun l => some (HO.lst l)) (fillV_set (F := fun j => V.str (sT (nodeText doc j))) lt hmm)
      · rintro σ' H12 ⟨rfl, s12, em12, et12, ed12, eb12⟩
        clear em10 et10 ed10 eb10 s10 er10
        have er12 : H12 ra = some (.lst (nV (rowA doc doc.length (some mm)))) := s12 _ _ hrl
        -- how deep
        refine seq_of (opC (cbI (consI (opI (lst_of (consC (nilA ⟨l1, fun g13 hg13 => ?_⟩)))))))
        have s13 : Same H12 (upd H12 g13 (.lst [.int 0])) := Same.new hg13
        have e13 : (upd H12 g13 (.lst [.int 0])) g13 = some (.lst [.int 0]) := upd_same
        generalize upd H12 g13 (.lst [.int 0]) = H13 at s13 e13
        refine arr_comp (A := 4) (F := fun j => V.int (deepP doc j : Nat)) (fun R q => ⟨_, rfl, q⟩) rfl (by decide) (by show 13 < 16; decide) (by omega) (s13 _ _ er12) (s13 _ _ ed12) (fun i hi => fillV_at (rl i hi).1 (rl i hi).2) fun D14 H14 s14 hD14 eD14 => ?_
        refine ⟨g13, D14, _, _, rfl, rfl, s14 _ _ e13, eD14, by rw [List.length_map]; show 1 + _ ≤ _; omega, fun q15 hq15 => nilA ⟨q15, zL (0 :: (rowA doc doc.length (some mm)).map (deepP doc)), rfl, SqL.of ?_, by show 0 < _ + 1; omega, fun mx1 h1 h2 => ?_⟩⟩
        · rw [upd_same, ← nV_z]
          unfold nV
          rw [List.map_cons, List.map_map]
          rfl
        have s15 : Same H14 (upd H14 q15 (.lst ([.int 0] ++ (rowA doc doc.length (some mm)).map fun j => V.int (deepP doc j : Nat)))) := Same.new hq15
        have s125 := s13.trans (s14.trans s15)
        have em15 := s125 _ _ em12
        have et15 := s125 _ _ et12
        have ed15 := s125 _ _ ed12
        have eb15 := s125 _ _ eb12
        have sH15 := s12.trans s125
        generalize upd H14 q15 (.lst ([.int 0] ++ (rowA doc doc.length (some mm)).map fun j => V.int (deepP doc j : Nat))) = H15 at s15 s125 em15 et15 ed15 eb15 sH15
        rw [maxN_eq h1 h2]
        refine ⟨_, _, rfl, rfl, ?_⟩
        refine set_arr (A := 4) (F := fun j => V.int (deepP doc j : Nat)) rfl rfl ed15 hmm ?_ ?_
        · show V.int (1 + ((maxN (0 :: (rowA doc doc.length (some mm)).map (deepP doc)) : Nat) : Int)) = V.int (deepP doc mm : Nat)
          rw [deep_row ok lt]
          congr 1
        have em16 := (upd_ne (o := .lst (fillV doc.length (b + 1) (fun j => V.int (deepP doc j : Nat)) (.int 0))) md).trans em15
        have et16 := (upd_ne (o := .lst (fillV doc.length (b + 1) (fun j => V.int (deepP doc j : Nat)) (.int 0))) xd).trans et15
        have ed16 : (upd H15 d (.lst (fillV doc.length (b + 1) (fun j => V.int (deepP doc j : Nat)) (.int 0)))) d = _ := upd_same
        have eb16 := (upd_ne (o := .lst (fillV doc.length (b + 1) (fun j => V.int (deepP doc j : Nat)) (.int 0))) db.symm).trans eb15
        have s16 : Same H (upd H15 d (.lst (fillV doc.length (b + 1) (fun j => V.int (deepP doc j : Nat)) (.int 0)))) := same_wr sH15 hdH
        generalize upd H15 d (.lst (fillV doc.length (b + 1) (fun j => V.int (deepP doc j : Nat)) (.int 0))) = H16 at em16 et16 ed16 eb16 s16
        clear em15 et15 ed15 eb15 sH15 s125 s15 s14 s13 hD14 eD14 e13 h1 h2 em12 et12 ed12 eb12 er12 s12 hq15 hg13
        have er16 : H16 ra = some (.lst (nV (rowA doc doc.length (some mm)))) := s16 _ _ hrl
        -- how broad
        refine seq_of (cbI (consI (opI (lst_of (consC ⟨_, rfl, ra, _, rfl, .inl (SqL.of er16), nilA ⟨by show 2 ≤ sizeLine; omega, fun g17 hg17 => ?_⟩⟩)))))
        have s17 : Same H16 (upd H16 g17 (.lst [.int 1, .int ((nV (rowA doc doc.length (some mm))).length : Nat)])) := Same.new hg17
        have e17 : (upd H16 g17 (.lst [.int 1, .int ((nV (rowA doc doc.length (some mm))).length : Nat)])) g17 = some (.lst [.int 1, .int ((nV (rowA doc doc.length (some mm))).length : Nat)]) := upd_same
        generalize upd H16 g17 (.lst [.int 1, .int ((nV (rowA doc doc.length (some mm))).length : Nat)]) = H17 at s17 e17
        refine arr_comp (A := 5) (F := fun j => V.int (broadP doc j : Nat)) (fun R q => ⟨_, rfl, q⟩) rfl (by decide) (by show 13 < 16; decide) (by omega) (s17 _ _ er16) (s17 _ _ eb16) (fun i hi => fillV_at (rl i hi).1 (rl i hi).2) fun D18 H18 s18 hD18 eD18 => ?_
        refine ⟨g17, D18, _, _, rfl, rfl, s18 _ _ e17, eD18, by rw [List.length_map]; show 2 + _ ≤ _; omega, fun q19 hq19 => nilA ⟨q19, zL (1 :: (rowA doc doc.length (some mm)).length :: (rowA doc doc.length (some mm)).map (broadP doc)), rfl, SqL.of ?_, by show 0 < _ + 1; omega, fun mx1 h1 h2 => ?_⟩⟩
        · rw [upd_same, ← nV_z, nV_len]
          unfold nV
          rw [List.map_cons, List.map_cons, List.map_map]
          rfl
        have s19 : Same H18 (upd H18 q19 (.lst ([.int 1, .int ((nV (rowA doc doc.length (some mm))).length : Nat)] ++ (rowA doc doc.length (some mm)).map fun j => V.int (broadP doc j : Nat)))) := Same.new hq19
        have s169 := s17.trans (s18.trans s19)
        have em19 := s169 _ _ em16
        have et19 := s169 _ _ et16
        have ed19 := s169 _ _ ed16
        have eb19 := s169 _ _ eb16
        have sH19 := s16.trans s169
        generalize upd H18 q19 (.lst ([.int 1, .int ((nV (rowA doc doc.length (some mm))).length : Nat)] ++ (rowA doc doc.length (some mm)).map fun j => V.int (broadP doc j : Nat))) = H19 at s19 s169 em19 et19 ed19 eb19 sH19
        rw [maxN_eq h1 h2, ← broad_row ok lt]
        refine set_arr (A := 5) (F := fun j => V.int (broadP doc j : Nat)) rfl rfl eb19 hmm rfl ?_
        have em20 := (upd_ne (o := .lst (fillV doc.length (b + 1) (fun j => V.int (broadP doc j : Nat)) (.int 0))) mb).trans em19
        have et20 := (upd_ne (o := .lst (fillV doc.length (b + 1) (fun j => V.int (broadP doc j : Nat)) (.int 0))) xb).trans et19
        have ed20 := (upd_ne (o := .lst (fillV doc.length (b + 1) (fun j => V.int (broadP doc j : Nat)) (.int 0))) db).trans ed19
        have eb20 : (upd H19 b_ (.lst (fillV doc.length (b + 1) (fun j => V.int (broadP doc j : Nat)) (.int 0)))) b_ = _ := upd_same
        have s20 : Same H (upd H19 b_ (.lst (fillV doc.length (b + 1) (fun j => V.int (broadP doc j : Nat)) (.int 0)))) := same_wr sH19 hbH
        generalize upd H19 b_ (.lst (fillV doc.length (b + 1) (fun j => V.int (broadP doc j : Nat)) (.int 0))) = H20 at em20 et20 ed20 eb20 s20
        clear em19 et19 ed19 eb19 sH19 s169 s19 s18 s17 hD18 eD18 e17 h1 h2 em16 et16 ed16 eb16 er16 s16 hq19 hg17
        have plt := piece_len lt
        have pok := ok_piece ok lt
        -- the piece
        refine ⟨fun σ' H' => ∃ q : Addr, σ' = [some (.ref p), some (.ref r), some (.ref m), some (.ref x), some (.ref d), some (.ref b_), some (.int (0 + (b : Int))), some (.int (mm : Nat)), some (.ref ra), some (.int (dep doc mm : Nat)), some (.ref q), none, none, none, none, none] ∧
          Same H20 H' ∧ DocAt H' q (pieceOf doc mm), ?_, ?_⟩
        · obtain ⟨ws2, ews2, qws2⟩ := id (hd.same s20)
          have szi : (fillV doc.length (b + 1) (fun j => V.int (lawSize doc j : Nat)) (.int 0))[mm]? = some (V.int (lawSize doc mm : Nat)) := fillV_at lt (by omega)
          refine asg_of (cbI (consI ?_))
          refine ⟨_, rfl, _, rfl, _, rfl, _, rfl, _, rfl, _, rfl, m, _, _, _, rfl, rfl, SqL.of em20, atI_nat szi, _, _, rfl, rfl, _, rfl, slice_ofD (K := K) ews2 fun HB qs sB eqs => ⟨qs, rfl, ⟨_, SqT.of eqs⟩, fun pc hpc => ?_⟩⟩
          have ce : cutV ws2 (some ((mm : Nat) : Int)) (some (((mm : Nat) : Int) + ((lawSize doc mm : Nat) : Int))) = (ws2.drop mm).take (lawSize doc mm) := by
            have := cutV_mid ws2 mm (mm + lawSize doc mm)
            rw [show mm + lawSize doc mm - mm = lawSize doc mm by omega] at this
            rw [← this]
            rfl
          rw [ce] at eqs
          have cut : EntsAt HB ((ws2.drop mm).take (lawSize doc mm)) (doc.getD mm (0, 0) :: deepOf doc mm) := by
            rw [← raw_cut lt]
            exact (ents_cut mm _ qws2).mono (Same.tups sB)
          have cl := Paired.length cut
          have e : less (dep doc mm) (doc.getD mm (0, 0) :: deepOf doc mm) = pieceOf doc mm := by
            show ((doc.getD mm (0, 0)).1, (doc.getD mm (0, 0)).2 - dep doc mm) :: less (dep doc mm) (deepOf doc mm) = _
            unfold pieceOf
            congr 2
            show dep doc mm - dep doc mm = 0
            omega
          have ge : ∀ e ∈ doc.getD mm (0, 0) :: deepOf doc mm, dep doc mm ≤ e.2 := fun e he => by
            rcases List.mem_cons.mp he with z | z
            · subst z; exact Nat.le_refl _
            · exact Nat.le_of_lt (run_deep z)
          have ll : (doc.getD mm (0, 0) :: deepOf doc mm).length ≤ 1000 := by
            have := piece_len lt
            rw [← e] at this
            unfold less at this
            rw [List.length_map] at this
            omega
          generalize doc.getD mm (0, 0) :: deepOf doc mm = dl at cut cl e ge ll
          generalize (ws2.drop mm).take (lawSize doc mm) = xs at eqs cut cl
          refine lc_it (walk_tup (K := K) (a := qs) (xs := xs)) (fun j H' => j ≤ xs.length ∧ Same HB H' ∧ ∃ us : List V, H' pc = some (.lst us) ∧ EntsAt H' us (less (dep doc mm) (dl.take j))) ?_ ?_ ?_ ?_
          · exact ⟨Nat.zero_le _, Same.new hpc, [], upd_same, .nil⟩
          · rintro j H' hj ⟨_, s, _⟩
            exact SqT.of (s _ _ eqs)
          · rintro j y Hc Hd hj ⟨jl, s, us, ed', ents⟩ ⟨rfl, hy⟩
            obtain ⟨⟨c, dd⟩, he, r9, rfl, er9⟩ := (cut.mono (Same.tups s)).get hy
            have mem : (c, dd) ∈ dl := List.mem_of_getElem? he
            have dge := ge _ mem
            have ul : us.length = j := by
              rw [Paired.length ents]
              unfold less
              rw [List.length_map, List.length_take]
              omega
            refine ⟨r9, _, rfl, SqT.of er9, rfl, _, _, rfl, _, _, rfl, rfl, rfl, ?_⟩
            refine ⟨_, rfl, _, rfl, _, rfl, _, _, rfl, rfl, nilA ⟨by show 2 ≤ sizeLine; omega, fun u hu => ?_⟩⟩
            have up : u ≠ pc := fun z => by subst z; rw [ed'] at hu; cases hu
            have ed2 : (upd Hd u (.tup [.str ⟨#[c]⟩, .int ((dd : Int) - (dep doc mm : Int))])) pc = some (.lst us) := by rw [upd_ne up.symm]; exact ed'
            refine ⟨us, ed2, by omega, hj, fun b o q => ?_, us ++ [.ref u], upd_same, ?_⟩
            · rw [upd_ne (ne_of_none q hpc), upd_ne (ne_of_none (s b o q) hu)]
              exact s b o q
            · have jd : j < dl.length := by omega
              have hv : dl[j] = (c, dd) := by
                rw [List.getElem?_eq_getElem jd] at he
                exact Option.some.inj he
              rw [List.take_succ_eq_append_getElem jd, hv]
              unfold less
              rw [List.map_append]
              refine Paired.snoc (ents.mono fun b xs e => upd_tups ed2 b xs (new_tups hu b xs e)) ⟨u, rfl, ?_⟩
              rw [upd_ne up, upd_same]
              have e5 : ((dd - dep doc mm : Nat) : Int) = (dd : Int) - (dep doc mm : Int) := by
                have : dep doc mm ≤ dd := dge
                omega
              show _ = some (HO.tup [V.str ⟨#[c]⟩, V.int ((dd - dep doc mm : Nat) : Int)])
              rw [e5]
          · rintro Hc ⟨_, s, us, ed', ents⟩
            rw [cl, List.take_length, e] at ents
            refine nilA ⟨pc, us, rfl, .inl ⟨SqL.of ed', fun q hq => ⟨q, rfl, (sB.trans s).trans (Same.new hq), us, upd_same, ents.mono (new_tups hq)⟩⟩⟩
        · rintro σ' H21 ⟨q, rfl, s21, hdq⟩
          have em := s21 _ _ em20
          have et := s21 _ _ et20
          have ed := s21 _ _ ed20
          have eb := s21 _ _ eb20
          have sH := s20.trans s21
          clear em20 et20 ed20 eb20 s20 s21
          have td : ∀ H' q', DocAt H' q' (pieceOf doc mm) → Told K H' (.ref q') (docD (pieceOf doc mm)) := fun H' q' h => (td_doc h pok (by omega)).told
          have ts : ∀ H' : Hp, Told K H' (.str (sT (nodeText doc mm))) (.str (sT (nodeText doc mm))) := fun H' => by
            have := td_text (K := K) (H := H') pok (by omega)
            rw [piece_text] at this
            exact this.told
          have tn : ∀ (H' : Hp) (n : Nat), n ≤ 1000 → Told K H' (.int (n : Nat)) (.int (n : Nat)) := fun H' n hn => (td_int (by omega)).told
          refine ⟨_, rfl, _, rfl, p, doc, mm, rfl, hd.same sH, ok, lt, by omega, fun H22 q22 s22 hq22 hd22 => ?_⟩
          refine ⟨_, _, rfl, td _ _ hd22, _, rfl, nilA ⟨_, _, rfl, td _ _ (hdq.same s22), rfl, _, rfl, ?_⟩⟩
          rw [decide_eq_true rfl]
          refine iteF ?_
          refine ⟨_, rfl, q, _, rfl, hdq.same s22, pok, by omega, _, _, rfl, rfl, _, rfl, ?_⟩
          rw [decide_eq_true rfl]
          refine iteF ?_
          have dmb : depthM (pieceOf doc mm) ≤ 1000 := by have := depthM_le pok; omega
          have bmb : breadthM (pieceOf doc mm) ≤ 1000 := by have := breadthL_le (pieceOf doc mm); rw [breadth_eq]; omega
          refine ⟨_, rfl, q, _, rfl, hdq.same s22, pok, by omega, fun H23 s23 => ?_⟩
          refine ⟨_, _, rfl, tn _ _ dmb, _, rfl, q, _, rfl, hdq.same (s22.trans s23), pok, by omega, fun H24 s24 => ?_⟩
          refine nilA ⟨_, _, rfl, tn _ _ bmb, nilA ⟨by show 2 ≤ sizeLine; omega, fun l25 hl25 => ?_⟩⟩
          have s25 : Same H24 (upd H24 l25 (.lst [.str (PyData.int (depthM (pieceOf doc mm) : Nat)).shown, .str (PyData.int (breadthM (pieceOf doc mm) : Nat)).shown])) := Same.new hl25
          have e25 : (upd H24 l25 (.lst [.str (PyData.int (depthM (pieceOf doc mm) : Nat)).shown, .str (PyData.int (breadthM (pieceOf doc mm) : Nat)).shown])) l25 = some (.lst ([(PyData.int (depthM (pieceOf doc mm) : Nat)).shown, (PyData.int (breadthM (pieceOf doc mm) : Nat)).shown].map V.str)) := upd_same
          generalize upd H24 l25 (.lst [.str (PyData.int (depthM (pieceOf doc mm) : Nat)).shown, .str (PyData.int (breadthM (pieceOf doc mm) : Nat)).shown]) = H25 at s25 e25
          have s225 := s22.trans (s23.trans (s24.trans s25))
          have gdd : (fillV doc.length (b + 1) (fun j => V.int (deepP doc j : Nat)) (.int 0))[mm]? = some (V.int (deepP doc mm : Nat)) := fillV_at lt (by omega)
          have gbb : (fillV doc.length (b + 1) (fun j => V.int (broadP doc j : Nat)) (.int 0))[mm]? = some (V.int (broadP doc mm : Nat)) := fillV_at lt (by omega)
          have gtt : (fillV doc.length (b + 1) (fun j => V.str (sT (nodeText doc j))) (.str (sT [])))[mm]? = some (V.str (sT (nodeText doc mm))) := fillV_at lt (by omega)
          refine ⟨_, rfl, _, rfl, d, _, _, _, rfl, rfl, SqL.of (s225 _ _ ed), atI_nat gdd, ?_⟩
          refine ⟨_, _, rfl, tn _ (deepP doc mm) dmb, _, rfl, _, rfl, b_, _, _, _, rfl, rfl, SqL.of (s225 _ _ eb), atI_nat gbb, ?_⟩
          refine nilA ⟨_, _, rfl, tn _ (broadP doc mm) bmb, nilA ⟨by show 2 ≤ sizeLine; omega, fun l26 hl26 => ?_⟩⟩
          refine ⟨l25, l26, _, _, rfl, rfl, SqL.of ((Same.new hl26) _ _ e25), SqL.of (xs := [(PyData.int (deepP doc mm : Nat)).shown, (PyData.int (broadP doc mm : Nat)).shown].map V.str) upd_same, _, rfl, ?_⟩
          rw [decide_eq_true (show [(PyData.int (depthM (pieceOf doc mm) : Nat)).shown, (PyData.int (breadthM (pieceOf doc mm) : Nat)).shown] = [(PyData.int (deepP doc mm : Nat)).shown, (PyData.int (broadP doc mm : Nat)).shown] from rfl)]
          refine iteF ?_
          have s226 := s225.trans (Same.new (o := .lst [.str (PyData.int (deepP doc mm : Nat)).shown, .str (PyData.int (broadP doc mm : Nat)).shown]) hl26)
          generalize upd H25 l26 (.lst [.str (PyData.int (deepP doc mm : Nat)).shown, .str (PyData.int (broadP doc mm : Nat)).shown]) = H26 at s226
          clear e25 s225 s25 hl25 hl26
          -- written and read
          refine ⟨_, rfl, q, _, rfl, hdq.same s226, pok, by omega, fun H27 s27 => ?_⟩
          rw [piece_text]
          refine ⟨_, _, rfl, ts _, _, rfl, _, rfl, x, _, _, _, rfl, rfl, SqL.of ((s226.trans s27) _ _ et), atI_nat gtt, nilA ⟨_, _, rfl, ts _, rfl, _, rfl, ?_⟩⟩
          rw [decide_eq_true rfl]
          refine iteF ?_
          refine ⟨_, rfl, _, rfl, x, _, _, _, rfl, rfl, SqL.of ((s226.trans s27) _ _ et), atI_nat gtt, ?_⟩
          refine ⟨pieceOf doc mm, by rw [piece_text]; rfl, pok, by omega, fun H28 q28 s28 hq28 hd28 => ?_⟩
          refine ⟨_, _, rfl, td _ _ hd28, _, rfl, nilA ⟨_, _, rfl, td _ _ (hdq.same ((s226.trans s27).trans s28)), rfl, _, rfl, ?_⟩⟩
          rw [decide_eq_true rfl]
          refine iteF ?_
          have sf := (s226.trans s27).trans s28
          exact ⟨by omega, sH.trans sf, sf _ _ em, sf _ _ et, sf _ _ ed, sf _ _ eb, _, _, _, _, _, rfl⟩
    · rintro σ H6 ⟨_, s6, em, et, ed, eb, x6, x7, x8, x9, x10, rfl⟩
      clear em5 et5 ed5 eb5 sH5
      have e0 : ((ws.length : Nat) : Int).toNat = doc.length := by omega
      rw [e0, fillV_all] at em et ed eb
      obtain ⟨at_, al, ar⟩ := rows_last rows
      have ino : inDoc doc none := fun _ h => nomatch h
      have rlen := rowA_len doc doc.length none
      have rin : ∀ i ∈ rowA doc doc.length none, i < doc.length := fun i hi => (rowA_mem hi).1
      -- the whole text
      dsimp only
      refine seq_of (m1C ?_)
      refine arr_comp (A := 3) (F := fun j => V.str (sT (nodeText doc j))) (fun R q => ⟨_, rfl, _, rfl, r, _, _, _, rfl, rfl, SqL.of (s6 _ _ er), al, q⟩) rfl (by decide) (by show 13 < 16; decide) (by omega) (s6 _ _ ar) et (fun i hi => ?_) fun D7 H7 s7 hD7 eD7 => ?_
      · rw [List.getElem?_map, List.getElem?_range (rin i hi)]
        rfl
      obtain ⟨j1, j2⟩ := row_join ok (by omega) rin rlen
      refine ⟨" ", D7, ((rowA doc doc.length none).map fun i => sT (nodeText doc i)), rfl, rfl, .inl (SqL.of (by rw [eD7, List.map_map]; rfl)), j1, ?_⟩
      have tx : joinT ((rowA doc doc.length none).map (nodeText doc)) = textOf doc := by
        rw [← due_text ok, ← rowOf_rowA ok ino]
        rfl
      rw [j2, tx]
      dsimp only [gName]
      have em7 := s7 _ _ em
      have ed7 := s7 _ _ ed
      have eb7 := s7 _ _ eb
      have sH7 := s6.trans s7
      clear em et ed eb s7 eD7 hD7 s6
      have hd7 := hd.same sH7
      -- sizes, text
      have szl : (sizesOf doc).length ≤ 100 := by rw [sizesOf_eq ok, List.length_map, List.length_range]; omega
      have szs : ∀ i ∈ sizesOf doc, i < 1000000 := fun i hi => by
        rw [sizesOf_eq ok] at hi
        obtain ⟨j, hj, rfl⟩ := List.mem_map.mp hi
        have := lawSize_le (List.mem_range.mp hj)
        omega
      have tsz : ∀ H' q', H' q' = some (.tup (nV (sizesOf doc))) → Told K H' (.ref q') (rowD (sizesOf doc)) := fun H' q' h => (td_row h szl szs).told
      have esz : (List.range doc.length).map (fun j => V.int (lawSize doc j : Nat)) = nV (sizesOf doc) := by
        rw [sizesOf_eq ok]
        unfold nV
        rw [List.map_map]
        rfl
      have ttx : ∀ H' : Hp, Told K H' (.str (sT (textOf doc))) (.str (sT (textOf doc))) := fun H' => (td_text ok (by omega)).told
      have tdd : ∀ H' q', DocAt H' q' doc → Told K H' (.ref q') (docD doc) := fun H' q' h => (td_doc h ok (by omega)).told
      refine ⟨_, rfl, p, doc, rfl, hd7, ok, by omega, fun H8 q8 s8 hq8 e8 => ?_⟩
      refine ⟨_, _, rfl, tsz _ _ e8, _, rfl, m, _, rfl, .inl ⟨SqL.of (s8 _ _ em7), fun q9 hq9 => ?_⟩⟩
      have e9 : (upd H8 q9 (.tup ((List.range doc.length).map fun j => V.int (lawSize doc j : Nat)))) q9 = some (.tup (nV (sizesOf doc))) := by rw [upd_same, esz]
      have s9 : Same H8 (upd H8 q9 (.tup ((List.range doc.length).map fun j => V.int (lawSize doc j : Nat)))) := Same.new hq9
      generalize upd H8 q9 (.tup ((List.range doc.length).map fun j => V.int (lawSize doc j : Nat))) = H9 at e9 s9
      refine nilA ⟨_, _, rfl, tsz _ _ e9, rfl, _, rfl, ?_⟩
      rw [decide_eq_true rfl]
      refine iteF ?_
      have s79 := s8.trans s9
      refine ⟨_, rfl, p, doc, rfl, hd7.same s79, ok, by omega, fun H10 s10 => ?_⟩
      refine ⟨_, _, rfl, ttx _, _, rfl, nilA ⟨_, _, rfl, ttx _, rfl, _, rfl, ?_⟩⟩
      rw [decide_eq_true rfl]
      refine iteF ?_
      have sH10 := sH7.trans (s79.trans s10)
      have ed10 := (s79.trans s10) _ _ ed7
      have eb10 := (s79.trans s10) _ _ eb7
      clear em7 ed7 eb7 s79 s10 s9 s8 e8 e9 sH7 hd7
      -- what is due
      have max_of : ∀ (H' : Hp) (q' : Addr) (l : List Nat) (Q : VK), H' q' = some (.lst (nV l)) → 0 < l.length → Q (.int (maxN l : Nat)) H' → rMax K [.ref q'] H' Q := fun H' q' l Q e pos h => by
        refine ⟨q', zL l, rfl, SqL.of (by rw [← nV_z]; exact e), by rw [List.length_map]; exact pos, fun mx h1 h2 => ?_⟩
        rw [maxN_eq h1 h2]
        exact h
      refine next_of ?_
      dsimp only
      refine seq_of (lst_of ?_)
      refine consV (.int (depthM doc : Nat)) (fun Q q => ?_) fun H11 s11 => ?_
      · refine cbI (consI (opI (lst_of (consC (nilA ⟨l1, fun g hg => ⟨_, rfl, g, d, _, _, rfl, rfl, upd_same, (Same.new hg) _ _ ed10, by rw [List.length_map, List.length_range]; show 1 + _ ≤ _; omega, fun c hc => nilA (max_of _ c (0 :: (List.range doc.length).map (deepP doc)) _ ?_ (Nat.succ_pos _) ?_)⟩⟩)))))
        · rw [upd_same]
          unfold nV
          rw [List.map_cons, List.map_map]
          rfl
        · rw [← deep_all ok]
          exact q _ ((Same.new hg).trans (Same.new hc))
      refine consV (.int (breadthM doc : Nat)) (fun Q q => ?_) fun H12 s12 => nilA ⟨by show 2 ≤ sizeLine; omega, fun du hdu => ?_⟩
      · refine ⟨_, rfl, p, ws, rfl, .inr (SqT.of ((sH10.trans s11) _ _ ews)), _, _, rfl, rfl, _, rfl, ?_⟩
        by_cases pos : 0 < doc.length
        · rw [decide_eq_true (show (0 : Int) < (ws.length : Nat) by omega)]
          refine iteT ?_
          refine cbI (consI (opI (lst_of (consI ⟨_, rfl, _, rfl, r, _, _, _, rfl, rfl, SqL.of ((sH10.trans s11) _ _ er), al, at_, _, rfl, .inl (SqL.of ((sH10.trans s11) _ _ ar)), nilA ⟨l1, fun g hg => ⟨_, rfl, g, b_, _, _, rfl, rfl, upd_same, (Same.new hg) _ _ (s11 _ _ eb10), by rw [List.length_map, List.length_range]; show 1 + _ ≤ _; omega, fun c hc => nilA (max_of _ c ((rowA doc doc.length none).length :: (List.range doc.length).map (broadP doc)) _ ?_ (Nat.succ_pos _) ?_)⟩⟩⟩))))
          · rw [upd_same, nV_len]
            unfold nV
            rw [List.map_cons, List.map_map]
            rfl
          · rw [← broad_all ok pos]
            exact q _ ((Same.new hg).trans (Same.new hc))
        · rw [decide_eq_false (show ¬ (0 : Int) < (ws.length : Nat) by omega)]
          refine iteF ?_
          have := q H11 (Same.refl _)
          rw [broad_none (by omega)] at this
          exact this
      have dmb : depthM doc < 1000000 := by have := depthM_le ok; omega
      have bmb : breadthM doc < 1000000 := by have := breadthL_le doc; rw [breadth_eq]; omega
      have s13 : Same H12 (upd H12 du (.lst [.int (depthM doc : Nat), .int (breadthM doc : Nat)])) := Same.new hdu
      have e13 : (upd H12 du (.lst [.int (depthM doc : Nat), .int (breadthM doc : Nat)])) du = some (.lst [.int (depthM doc : Nat), .int (breadthM doc : Nat)]) := upd_same
      generalize upd H12 du (.lst [.int (depthM doc : Nat), .int (breadthM doc : Nat)]) = H13 at s13 e13
      have sH13 := sH10.trans (s11.trans (s12.trans s13))
      clear ed10 eb10 sH10 s11 s12 s13
      dsimp only [gName]
      have tl : ∀ (H' : Hp) (a : Addr), H' a = some (.lst [.int (depthM doc : Nat), .int (breadthM doc : Nat)]) → Told K H' (.ref a) (.list [.int (depthM doc : Nat), .int (breadthM doc : Nat)]) := fun H' a e => tds_told (.cons (td_int dmb) (.cons (td_int bmb) .nil)) e (by show 2 ≤ 14; decide)
      refine ⟨_, rfl, p, doc, rfl, hd.same sH13, ok, by omega, fun H14 s14 => ?_⟩
      refine ⟨_, rfl, p, doc, rfl, hd.same (sH13.trans s14), ok, by omega, fun H15 s15 => nilA ⟨by show 2 ≤ sizeLine; omega, fun l16 hl16 => ?_⟩⟩
      refine nilA ⟨_, _, rfl, tl _ _ upd_same, _, rfl, nilA ⟨_, _, rfl, tl _ _ ((Same.new hl16) _ _ ((s14.trans s15) _ _ e13)), rfl, _, rfl, ?_⟩⟩
      rw [decide_eq_true rfl]
      refine iteF ?_
      have sH16 := sH13.trans ((s14.trans s15).trans (Same.new (o := .lst [.int (depthM doc : Nat), .int (breadthM doc : Nat)]) hl16))
      generalize upd H15 l16 (.lst [.int (depthM doc : Nat), .int (breadthM doc : Nat)]) = H16 at sH16
      refine ⟨_, rfl, doc, rfl, ok, by omega, fun H17 q17 s17 hq17 hd17 => ?_⟩
      refine ⟨_, _, rfl, tdd _ _ hd17, _, rfl, nilA ⟨_, _, rfl, tdd _ _ (hd.same (sH16.trans s17)), rfl, ?_⟩⟩
      rw [decide_eq_true rfl]
      exact k _ (sH16.trans s17)
end

/-! ### the mirrored document -/
abbrev MT := Nat × Nat × Nat × Fo
abbrev TT4 := Nat × Nat × Nat × Fo
def oI (n v : Nat) : Option Nat := if v = n then none else some v
structure MOk (doc other : Doc) (e : MT) : Prop where
  le1 : e.1 ≤ doc.length
  le2 : e.2.1 ≤ doc.length
  ex : ∃ s d d', rowA doc doc.length (oI doc.length e.1) = (e.2.2.2.trees s d).map Prod.fst ∧ (∀ t ∈ e.2.2.2.trees s d, NodeAt doc t.1 t.2.1 t.2.2.1 t.2.2.2) ∧
    rowA other other.length (oI doc.length e.2.1) = (e.2.2.2.flip.trees e.2.2.1 d').map Prod.fst ∧ (∀ t ∈ e.2.2.2.flip.trees e.2.2.1 d', NodeAt other t.1 t.2.1 t.2.2.1 t.2.2.2)
def todoU (L : List MT) : List Nat := (L.map fun e => e.2.1 :: List.range' e.2.2.1 e.2.2.2.size).flatten
def workU (L : List MT) : Nat := (L.map fun e => 1 + e.2.2.2.size).sum
def pairM (t t' : TT4) : MT := (t.1, t'.1, t'.1 + 1, t.2.2.2)
def RelF (t t' : TT4) : Prop := t.2.1 = t'.2.1 ∧ t'.2.2.2 = t.2.2.2.flip
theorem rel_of : ∀ {l m : List TT4}, m.map (fun t => (t.2.1, t.2.2.2)) = l.map (fun t => (t.2.1, t.2.2.2.flip)) → Paired RelF l m
  | [], [], _ => .nil
  | [], _ :: _, h => nomatch h
  | _ :: _, [], h => nomatch h
  | t :: l, t' :: m, h => by
    rw [List.map_cons, List.map_cons] at h
    injection h with h1 h2
    injection h1 with h3 h4
    exact .cons ⟨h3.symm, h4⟩ (rel_of h2)
theorem todo_zip : ∀ {l m : List TT4}, Paired RelF l m → todoU (List.zipWith pairM l m) = comes m
  | _, _, .nil => rfl
  | t :: l, t' :: m, .cons r q => by
    show (t'.1 :: List.range' (t'.1 + 1) t.2.2.2.size) ++ todoU (List.zipWith pairM l m) = List.range' t'.1 (1 + t'.2.2.2.size) ++ comes m
    rw [todo_zip q, r.2, flip_size, Nat.add_comm 1, List.range'_succ]
theorem work_zip : ∀ {l m : List TT4}, Paired RelF l m → workU (List.zipWith pairM l m) = (l.map fun t => 1 + t.2.2.2.size).sum
  | _, _, .nil => rfl
  | t :: l, t' :: m, .cons r q => by
    rw [List.map_cons, List.sum_cons, ← work_zip q]
    rfl
theorem comes_rev (l : List TT4) : (comes l.reverse).Perm (comes l) := ((List.reverse_perm l).map _).flatten
theorem work_app (a b : List MT) : workU (a ++ b) = workU a + workU b := by
  unfold workU
  rw [List.map_append, List.sum_append]
theorem todo_appU (a b : List MT) : todoU (a ++ b) = todoU a ++ todoU b := by
  unfold todoU
  rw [List.map_append, List.flatten_append]
theorem work_len (L : List MT) : L.length ≤ workU L := by
  induction L with
  | nil => exact Nat.le_refl _
  | cons e L ih =>
    show L.length + 1 ≤ (1 + e.2.2.2.size) + workU L
    omega
theorem rel_get {l m : List TT4} (h : Paired RelF l m) {i : Nat} {t : TT4} (e : l[i]? = some t) : ∃ t', m[i]? = some t' ∧ RelF t t' := by
  induction h generalizing i with
  | nil => simp at e
  | cons r q ih =>
    cases i with
    | zero =>
      have e' := e
      simp at e'
      subst e'
      exact ⟨_, rfl, r⟩
    | succ i => exact ih (by simpa using e)
theorem zip_get {l m : List TT4} {i : Nat} {t t' : TT4} (h1 : l[i]? = some t) (h2 : m[i]? = some t') : (List.zipWith pairM l m)[i]? = some (pairM t t') := by
  rw [List.getElem?_zipWith, h1, h2]
theorem kid_ok {doc other : Doc} (ok : okFrom 0 doc) (ok2 : okFrom 0 other) (ll : other.length = doc.length) {t t' : TT4} (r : RelF t t') (h1 : NodeAt doc t.1 t.2.1 t.2.2.1 t.2.2.2) (h2 : NodeAt other t'.1 t'.2.1 t'.2.2.1 t'.2.2.2) : MOk doc other (pairM t t') := by
  have l1 := h1.lt
  have l2 := h2.lt
  refine ⟨Nat.le_of_lt l1, by show t'.1 ≤ _; omega, t.1 + 1, t.2.2.1 + 1, t'.2.2.1 + 1, ?_, h1.kids, ?_, ?_⟩
  · show rowA doc doc.length (if t.1 = doc.length then none else some t.1) = _
    rw [if_neg (by omega)]
    exact rowA_node ok h1
  · show rowA other other.length (if t'.1 = doc.length then none else some t'.1) = (t.2.2.2.flip.trees (t'.1 + 1) _).map _
    rw [if_neg (by omega), ← r.2]
    exact rowA_node ok2 h2
  · show ∀ x ∈ t.2.2.2.flip.trees (t'.1 + 1) _, _
    rw [← r.2]
    exact h2.kids
def Ent2 (H : Hp) (v : V) (e : MT) : Prop := ∃ a, v = .ref a ∧ H a = some (.tup [.int (e.1 : Nat), .int (e.2.1 : Nat)])
theorem Ent2.mono {H H' : Hp} (k : ∀ b xs, H b = some (.tup xs) → H' b = some (.tup xs)) {v : V} {e : MT} : Ent2 H v e → Ent2 H' v e := fun ⟨a, e1, e2⟩ => ⟨a, e1, k _ _ e2⟩
theorem rows_oI {doc : Doc} {as : List Addr} {H : Hp} (h : LRowsAt doc as H) {i : Nat} (hi : i ≤ doc.length) : ∃ a, as[i]? = some a ∧ (as.map V.ref)[i]? = some (.ref a) ∧ H a = some (.lst (nV (rowA doc doc.length (oI doc.length i)))) := by
  have l : i < as.length := by have := h.1; omega
  have e : as[i]? = some as[i] := List.getElem?_eq_getElem l
  exact ⟨as[i], e, by rw [List.getElem?_map, e]; rfl, h.2 _ _ e⟩
abbrev nMirr : List Str := ["document", "rows", "other", "turned", "waiting", "turn", "here", "there", "one", "two", "node", "image"]
def spLMirr : Sp := fun vs H Q _ => ∃ (p r : Addr) (doc : Doc) (as : List Addr), vs = [.ref p, .ref r] ∧ DocAt H p doc ∧ okFrom 0 doc ∧ doc.length ≤ 62 ∧ H r = some (.lst (as.map V.ref)) ∧ LRowsAt doc as H ∧ ∀ (H' : Hp), Q (.bl true) H'
section
variable {P : Program} {w : World} {K : PySem.W.Frag} {mg : Str → Option Value} {base : Heap}
theorem ok_lmirr (S : Docs K mg) (Dp : Dn K mg "parents_in" sParents pDocu) (Drs : Dn K mg "rows_in" sRows pDocu) (Dno : Dn K mg "is_node" sNode pNode) (Dck : Dn K mg "check_node" sChkNode pNode)
    (Db : Dn K mg "depth_below" sBelow pPar) (Df : Dn K mg "first_below" sFirst ["parent"]) (Dr : Dn K mg "row_of" sRow pPar) (Dki : Dn K mg "children" sKids pNode')
    (Dlr : Dn K mg "_law_row" sLRow pRowL) (Dlrs : Dn K mg "_law_rows" sLRows pDocu) (Dfl : Dn K mg "flipped" sFlip pDocu)
    (D : Dn K mg "_law_mirrored" sLMirrored pWalk) : GOk P w K mg base CX0 9 D.f D.fd pWalk spLMirr := by
  have T := S.T
  have GI : FnOk P w K mg base CX0 4 S.isdoc.f S.isdoc.fd pThing spIsDocV := ok_isdocV T S.hm S.hM S.whole S.number S.mark S.entry S.isdoc
  have GFl : FnOk P w K mg base CX0 6 Dfl.f Dfl.fd pDocu spFlip := ok_flip S Dp Drs Dfl
  have GLrs : FnOk P w K mg base CX0 8 Dlrs.f Dlrs.fd pDocu spLRows := ok_lrows S Dno Dck Db Df Dr Dki Dlr Dlrs
  have sc : FnScope nMirr pWalk (defScope sLMirrored) := ⟨rfl, rfl, rfl, by decide +kernel, rfl, by decide +kernel, by decide +kernel⟩
  refine gok0 D.F sc (fun vs H Q E h => ?_) (fun cdv A outer s H vs Q E hgd hr h => ?_)
  · obtain ⟨p, r, doc, as, rfl, _⟩ := h
    rfl
  · obtain ⟨p, r, doc, as, rfl, hd, ok, hl, er, rows, k⟩ := h
    refine ⟨_, (pss_cons (ps_set (i := 2) sc.nd rfl (.inl rfl) (de_call Dfl GFl hr (pa_cons (pv 0) pa_nil)))
      (pss_cons (ps_if (PW.pt (pw_or (pt_cmpR op_isnot_bl (de_call S.isdoc GI hr (pa_cons (pv 2) pa_nil)) pe_bl (nomark _)) (pw_or1 (pt_cmpR op_ne (pe_callB call_len_seq (by rfl) T.len b_len (pa_cons (pv 2) pa_nil)) (pe_callB call_len_seq (by rfl) T.len b_len (pa_cons (pv 0) pa_nil)) (nomark _))))) (pss_one (ps_ret pe_bl)) pss_nil)
      (pss_cons (ps_set (i := 3) sc.nd rfl (.inl rfl) (de_call Dlrs GLrs hr (pa_cons (pv 2) pa_nil)))
      (pss_cons (ps_if (pt_cmp (pc_isN (pv 3))) (pss_one (ps_ret pe_bl)) pss_nil)
      (pss_cons (ps_set (i := 4) sc.nd rfl (.inl rfl) (pe_lst (pa_cons (pe_tup (pa_cons (pe_callB call_len_seq (by rfl) T.len b_len (pa_cons (pv 0) pa_nil)) (pa_cons (pe_callB call_len_seq (by rfl) T.len b_len (pa_cons (pv 0) pa_nil)) pa_nil))) pa_nil)))
      (pss_cons (ps_for PassesOwn.never rfl (pi_range1 (by rfl) T.range (pa_cons (pe_op op_add (pe_callB call_len_seq (by rfl) T.len b_len (pa_cons (pv 0) pa_nil)) pe_int) pa_nil)) (pg_name (i := 5) sc.nd rfl (.inl rfl))
        (pss_cons (ps_if (pt_cmpR (op_eqE hr.units0) (pv 4) (pe_lst pa_nil) (nomark _)) (pss_one (ps_ret pe_bl)) pss_nil)
        (pss_cons (ps_asg (pe_bm0 PySem.F.plainAttrs_list PySem.F.slot_list_pop PySem.F.type_list_pop mt_pop (pv 4)) (pg_tup rfl (pgs_cons (pg_name (i := 6) sc.nd rfl (.inl rfl)) (pgs_cons (pg_name (i := 7) sc.nd rfl (.inl rfl)) pgs_nil))))
        (pss_cons (ps_par (i := 8) (j := 9) rfl sc.nd rfl rfl (by decide) rfl rfl (pa_cons (pe_ix ix_list (pv 1) (pv 6) (fun _ _ => rfl)) (pa_cons (pe_ix ix_list (pv 3) (pv 7) (fun _ _ => rfl)) pa_nil)) rfl)
        (pss_cons (ps_if (pt_cmpR op_ne (pe_callB call_len_seq (by rfl) T.len b_len (pa_cons (pv 8) pa_nil)) (pe_callB call_len_seq (by rfl) T.len b_len (pa_cons (pv 9) pa_nil)) (nomark _)) (pss_one (ps_ret pe_bl)) pss_nil)
        (pss_cons (ps_expr (pe_bm0 PySem.F.plainAttrs_list PySem.F.slot_list_reverse PySem.F.type_list_reverse mt_reverse (pv 9)))
        (pss_one (ps_for PassesOwn.never rfl (pi_zip (by rfl) T.zip (pa_cons (pv 8) (pa_cons (pv 9) pa_nil))) (pg_tup rfl (pgs_cons (pg_name (i := 10) sc.nd rfl (.inl rfl)) (pgs_cons (pg_name (i := 11) sc.nd rfl (.inl rfl)) pgs_nil)))
          (pss_cons (ps_if (pt_cmpR op_ne (pe_ix ix_tup (pe_ix ix_tup (pv 0) (pv 10) (fun _ _ => rfl)) pe_int (fun _ _ => rfl)) (pe_ix ix_tup (pe_ix ix_tup (pv 2) (pv 11) (fun _ _ => rfl)) pe_int (fun _ _ => rfl)) (nomark _)) (pss_one (ps_ret pe_bl)) pss_nil)
          (pss_one (ps_expr (pe_bm PySem.F.plainAttrs_list PySem.F.slot_list_append PySem.F.type_list_append mt_append (pv 4) (pa_cons (pe_tup (pa_cons (pv 10) (pa_cons (pv 11) pa_nil))) pa_nil)))))))))))))
      (pss_one (ps_ret (pe_and (pe_cmpR (op_eqE hr.units0) (pv 4) (pe_lst pa_nil) (nomark _)) (pe_one (pe_cmpR op_eq (pe_callB (call_repr hgd hr) (by rfl) T.repr b_repr (pa_cons (de_call Dfl GFl hr (pa_cons (pv 2) pa_nil)) pa_nil)) (pe_callB (call_repr hgd hr) (by rfl) T.repr b_repr (pa_cons (pv 0) pa_nil)) (nomark _)))))))))))), ?_⟩
    obtain ⟨f, hf⟩ := fo_ex ok
    subst hf
    obtain ⟨ws, ews, qws⟩ := id hd
    have len := Paired.length qws
    have line : 100000 ≤ sizeLine := by decide
    have l1 : 1 ≤ sizeLine := by decide
    have gg : f.good := by
      have : okFrom 0 (f.flat 0 ++ []) := by rw [List.append_nil]; exact ok
      exact fo_good f 0 0 [] this
    have okf := fo_ok (flip_good gg)
    have lf : (f.flip.flat 0).length = (f.flat 0).length := by rw [Fo.flat_len, Fo.flat_len, flip_size]
    have fs : (f.flat 0).length = f.size := Fo.flat_len f 0
    refine ⟨_, rfl, p, f, rfl, hd, ok, by omega, fun H1 q s1 hq hdq => ?_⟩
    obtain ⟨ws2, ews2, qws2⟩ := id hdq
    have len2 := Paired.length qws2
    refine ⟨_, rfl, q, _, rfl, hdq, okf, by omega, _, _, rfl, rfl, _, rfl, ?_⟩
    rw [decide_eq_true rfl]
    refine iteF ?_
    refine ⟨_, rfl, q, _, rfl, .inr (SqT.of ews2), _, rfl, p, _, rfl, .inr (SqT.of (s1 _ _ ews)), rfl, _, rfl, ?_⟩
    rw [decide_eq_true (show V.int (ws2.length : Nat) = V.int (ws.length : Nat) by rw [len, len2, lf])]
    refine iteF ?_
    refine ⟨_, rfl, q, _, rfl, hdq, okf, by omega, fun H2 tq as2 s2 htq etq rows2 nd2 new2 tn2 => ?_⟩
    refine ⟨_, rfl, _, rfl, iteF ?_⟩
    have s12 := s1.trans s2
    have hdq2 := hdq.same s2
    refine ⟨_, rfl, p, _, rfl, .inr (SqT.of (s12 _ _ ews)), _, rfl, p, _, rfl, .inr (SqT.of (s12 _ _ ews)), nilA ⟨by show 2 ≤ sizeLine; omega, fun t3 ht3 => nilA ⟨l1, fun wq hwq => ?_⟩⟩⟩
    have hwt : wq ≠ t3 := fun z => by subst z; rw [upd_same] at hwq; cases hwq
    have hw2 : H2 wq = none := by rw [upd_ne hwt] at hwq; exact hwq
    have hwH : H wq = none := s12.free hw2
    have s23 : Same H2 (upd (upd H2 t3 (.tup [.int (ws.length : Nat), .int (ws.length : Nat)])) wq (.lst [.ref t3])) := (Same.new ht3).trans (Same.new hwq)
    have e3w : (upd (upd H2 t3 (.tup [.int (ws.length : Nat), .int (ws.length : Nat)])) wq (.lst [.ref t3])) wq = some (.lst [.ref t3]) := upd_same
    have e3t : (upd (upd H2 t3 (.tup [.int (ws.length : Nat), .int (ws.length : Nat)])) wq (.lst [.ref t3])) t3 = some (.tup [.int (ws.length : Nat), .int (ws.length : Nat)]) := by rw [upd_ne hwt.symm, upd_same]
    generalize upd (upd H2 t3 (.tup [.int (ws.length : Nat), .int (ws.length : Nat)])) wq (.lst [.ref t3]) = H3 at s23 e3w e3t
    have wqa : wq ∉ as2 := fun z => by
      obtain ⟨i, hi⟩ := List.mem_iff_getElem?.mp z
      have := rows2.2 i wq hi
      rw [hw2] at this
      cases this
    have wtq : wq ≠ tq := fun z => by subst z; rw [etq] at hw2; cases hw2
    have aH : ∀ a ∈ as2, H a = none := fun a ha => s1.free (new2 a ha)
    have st3 : MOk (f.flat 0) (f.flip.flat 0) ((f.flat 0).length, (f.flat 0).length, 0, f) := by
      refine ⟨Nat.le_refl _, Nat.le_refl _, 0, 0, 0, ?_, ?_, ?_, ?_⟩
      · show rowA _ _ (if (f.flat 0).length = (f.flat 0).length then none else _) = _
        rw [if_pos rfl]
        exact rowA_top f ok
      · exact trees_at f 0 0 [] (by rw [List.drop_zero, List.append_nil]) (fun _ _ h => nomatch h)
      · show rowA _ _ (if (f.flat 0).length = (f.flat 0).length then none else _) = _
        rw [if_pos rfl]
        exact rowA_top f.flip okf
      · exact trees_at f.flip 0 0 [] (by rw [List.drop_zero, List.append_nil]) (fun _ _ h => nomatch h)
    have s03 := s12.trans s23
    dsimp only [gName]
    refine ⟨_, rfl, p, _, rfl, .inr (SqT.of (s03 _ _ ews)), _, _, rfl, rfl, _, rfl, by omega, by omega, for_range (lo := 0) (n := (((ws.length : Nat) : Int) + 1).toNat) (fun n σ H' => n ≤ (f.flat 0).length + 1 ∧ Same H H' ∧ DocAt H' q (f.flip.flat 0) ∧ H' tq = some (.lst (as2.map V.ref)) ∧
      ∃ (L : List MT) (us : List V) (x5 x6 x7 x8 x9 x10 x11 : Option V), σ = [some (.ref p), some (.ref r), some (.ref q), some (.ref tq), some (.ref wq), x5, x6, x7, x8, x9, x10, x11] ∧ H' wq = some (.lst us) ∧ Paired (Ent2 H') us L ∧
      (∀ e ∈ L, MOk (f.flat 0) (f.flip.flat 0) e) ∧ workU L + n = (f.flat 0).length + 1 ∧ (todoU L).Nodup ∧ (∀ w ∈ todoU L, ∀ a, as2[w]? = some a → H' a = some (.lst (nV (rowA (f.flip.flat 0) (f.flip.flat 0).length (oI (f.flat 0).length w)))))) ?_ ?_ ?_⟩
    · refine ⟨Nat.zero_le _, s03, hdq2.same s23, s23 _ _ etq, [((f.flat 0).length, (f.flat 0).length, 0, f)], [.ref t3], _, _, _, _, _, _, _, rfl, e3w, .cons ⟨t3, rfl, by rw [e3t, len]⟩ .nil, fun e he => ?_, ?_, ?_, ?_⟩
      · rw [List.mem_singleton.mp he]
        exact st3
      · show (1 + f.size) + 0 + 0 = _
        omega
      · show (((f.flat 0).length :: List.range' 0 f.size) ++ []).Nodup
        rw [List.append_nil, List.nodup_cons]
        refine ⟨fun h => ?_, List.nodup_range'⟩
        have := (List.mem_range'_1.mp h).2
        omega
      · intro w hw a ha
        have := rows2.2 w a ha
        rw [lf] at this
        rw [lf]
        exact s23 _ _ this
    · rintro n σ H4 hn ⟨nl, s4, hdq4, etq4, L, us, x5, x6, x7, x8, x9, x10, x11, rfl, ew, ents, all, wk, nd, fresh⟩
      clear e3w e3t s23 s03
      have lt : n < (f.flat 0).length + 1 := by omega
      rcases nil_or_snoc L with rfl | ⟨L', e0, rfl⟩
      · have : (0 : Nat) + n = (f.flat 0).length + 1 := wk
        omega
      obtain ⟨us', v, rfl, ents', hv⟩ := paired_snoc ents
      have mo := all e0 (List.mem_append_right _ List.mem_cons_self)
      obtain ⟨v0, u, b, kk⟩ := e0
      obtain ⟨le1, le2, s_, d, d', r1, n1, r2, n2⟩ := mo
      have le1' : v0 ≤ (f.flat 0).length := le1
      have le2' : u ≤ (f.flat 0).length := le2
      have r1' : rowA (f.flat 0) (f.flat 0).length (oI (f.flat 0).length v0) = (kk.trees s_ d).map Prod.fst := r1
      have n1' : ∀ t ∈ kk.trees s_ d, NodeAt (f.flat 0) t.1 t.2.1 t.2.2.1 t.2.2.2 := n1
      have r2' : rowA (f.flip.flat 0) (f.flip.flat 0).length (oI (f.flat 0).length u) = (kk.flip.trees b d').map Prod.fst := r2
      have n2' : ∀ t ∈ kk.flip.trees b d', NodeAt (f.flip.flat 0) t.1 t.2.1 t.2.2.1 t.2.2.2 := n2
      clear r1 n1 r2 n2 le1 le2
      have rel : Paired RelF (kk.trees s_ d) (kk.flip.trees b d').reverse := rel_of (trees_flip kk s_ b d d')
      have rlen := Paired.length rel
      rw [trees_len, List.length_reverse, trees_len] at rlen
      have tz := todo_zip rel
      have wz := work_zip rel
      rw [← trees_size kk s_ d] at wz
      have pz : (todoU (List.zipWith pairM (kk.trees s_ d) (kk.flip.trees b d').reverse)).Perm (List.range' b kk.size) := by
        rw [tz]
        have := comes_rev (kk.flip.trees b d')
        rw [comes_trees, flip_size] at this
        exact this
      have ndA : (todoU L' ++ (u :: List.range' b kk.size)).Nodup := by
        have : todoU [(v0, u, b, kk)] = u :: List.range' b kk.size := List.append_nil _
        rw [todo_appU, this] at nd
        exact nd
      obtain ⟨ndL, ndu, dis⟩ := List.nodup_append.mp ndA
      obtain ⟨unin, ndr⟩ := List.nodup_cons.mp ndu
      have frA : ∀ w ∈ todoU L' ++ (u :: List.range' b kk.size), ∀ a, as2[w]? = some a → H4 a = some (.lst (nV (rowA (f.flip.flat 0) (f.flip.flat 0).length (oI (f.flat 0).length w)))) := by
        have : todoU [(v0, u, b, kk)] = u :: List.range' b kk.size := List.append_nil _
        rw [todo_appU, this] at fresh
        exact fresh
      clear fresh nd
      have wk' : workU L' + (1 + kk.size) + n = (f.flat 0).length + 1 := by
        rw [work_app] at wk
        have : workU [(v0, u, b, kk)] = 1 + kk.size := rfl
        omega
      clear wk
      have lL : L'.length ≤ 62 + 1 := by have := work_len L'; omega
      have lus : us'.length = L'.length := Paired.length ents'
      have ck := trees_cnt_size kk
      -- not empty
      refine ⟨_, rfl, Nat.zero_le _, fun e he => ⟨wq, e, _, rfl, rfl, SqL.of ((Same.new he) _ _ ew), SqL.of upd_same, _, rfl, ?_⟩⟩
      have e1 : ((us' ++ [v]).isEmpty != false) = false := by cases us' <;> rfl
      rw [e1]
      refine iteF ?_
      have sn : Same H4 (upd H4 e (.lst [])) := Same.new he
      have s5 : Same H (upd H4 e (.lst [])) := s4.trans sn
      have ew5 := sn _ _ ew
      have etq5 := sn _ _ etq4
      have hdq5 := hdq4.same sn
      have ents5 := Paired.mapP ents' fun a b => Ent2.mono (H' := upd H4 e (.lst [])) (Same.tups sn)
      obtain ⟨a, rfl, ea⟩ := Ent2.mono (H' := upd H4 e (.lst [])) (Same.tups sn) hv
      have fr5 : ∀ w ∈ todoU L' ++ (u :: List.range' b kk.size), ∀ a, as2[w]? = some a → (upd H4 e (.lst [])) a = some (.lst (nV (rowA (f.flip.flat 0) (f.flip.flat 0).length (oI (f.flat 0).length w)))) := fun w hw a ha => sn _ _ (frA w hw a ha)
      generalize upd H4 e (.lst []) = H5 at s5 ew5 etq5 hdq5 ents5 ea fr5
      clear s4 ew etq4 hdq4 ents ents' hv frA sn he
      -- two nodes are taken
      refine ⟨_, rfl, .inl ⟨rfl, _, SqL.of ew5⟩, wq, _, _, rfl, rfl, ew5, last_snoc _ _, ?_⟩
      rw [List.dropLast_concat]
      have wo : ∀ b o, b ≠ wq → H5 b = some o → (upd H5 wq (.lst us')) b = some o := fun b o n q => by rw [upd_ne n]; exact q
      have s6 : Same H (upd H5 wq (.lst us')) := same_wr s5 hwH
      have ew6 : (upd H5 wq (.lst us')) wq = some (.lst us') := upd_same
      have etq6 := wo _ _ wtq.symm etq5
      have ea6 := upd_tups (u := .lst us') ew5 _ _ ea
      have hdq6 : DocAt (upd H5 wq (.lst us')) q (f.flip.flat 0) := by
        obtain ⟨x, y, z⟩ := hdq5
        exact ⟨x, upd_tups ew5 _ _ y, z.mono (upd_tups ew5)⟩
      have ents6 := Paired.mapP ents5 fun a b => Ent2.mono (upd_tups (u := .lst us') ew5)
      have fr6 : ∀ w ∈ todoU L' ++ (u :: List.range' b kk.size), ∀ a, as2[w]? = some a → (upd H5 wq (.lst us')) a = some (.lst (nV (rowA (f.flip.flat 0) (f.flip.flat 0).length (oI (f.flat 0).length w)))) :=
        fun w hw a ha => wo _ _ (fun z => wqa (z ▸ List.mem_of_getElem? ha)) (fr5 w hw a ha)
      generalize upd H5 wq (.lst us') = H6 at s6 ew6 etq6 ea6 hdq6 ents6 fr6
      clear s5 ew5 etq5 hdq5 ents5 ea fr5 wo
      refine ⟨a, _, rfl, SqT.of ea6, rfl, _, _, rfl, _, _, rfl, rfl, ?_⟩
      obtain ⟨a1, _, a1v, a1r⟩ := rows_oI rows le1'
      obtain ⟨a2, a2e, a2v, _⟩ := rows_oI rows2 (show u ≤ (f.flip.flat 0).length by omega)
      have a2r := fr6 u (List.mem_append_right _ List.mem_cons_self) a2 a2e
      have a2m : a2 ∈ as2 := List.mem_of_getElem? a2e
      refine ⟨_, rfl, _, rfl, r, _, _, _, rfl, rfl, SqL.of (s6 _ _ er), atI_nat a1v, _, rfl, _, rfl, tq, _, _, _, rfl, rfl, SqL.of etq6, atI_nat a2v, nilA ⟨_, _, rfl, ?_⟩⟩
      rw [r2'] at a2r
      rw [r1'] at a1r
      refine ⟨_, rfl, a1, _, rfl, .inl (SqL.of (s6 _ _ a1r)), _, rfl, a2, _, rfl, .inl (SqL.of a2r), rfl, _, rfl, ?_⟩
      rw [decide_eq_true (show V.int ((nV ((kk.trees s_ d).map Prod.fst)).length : Nat) = V.int ((nV ((kk.flip.trees b d').map Prod.fst)).length : Nat) by rw [nV_len, nV_len, List.length_map, List.length_map, trees_len, trees_len, rlen])]
      refine iteF ?_
      -- the one row turned
      refine ⟨_, rfl, .inl ⟨rfl, _, SqL.of a2r⟩, a2, _, rfl, rfl, a2r, ?_⟩
      have rv : (nV ((kk.flip.trees b d').map Prod.fst)).reverse = nV ((kk.flip.trees b d').reverse.map Prod.fst) := by
        unfold nV
        rw [← List.map_reverse, ← List.map_reverse]
      rw [rv]
      have a2H := aH a2 a2m
      have a2w : a2 ≠ wq := fun z => wqa (z ▸ a2m)
      have a2t : a2 ≠ tq := fun z => tn2 (z ▸ a2m)
      have s7 : Same H (upd H6 a2 (.lst (nV ((kk.flip.trees b d').reverse.map Prod.fst)))) := same_wr s6 a2H
      have e7 : (upd H6 a2 (.lst (nV ((kk.flip.trees b d').reverse.map Prod.fst)))) a2 = some (.lst (nV ((kk.flip.trees b d').reverse.map Prod.fst))) := upd_same
      have ew7 := (upd_ne (o := .lst (nV ((kk.flip.trees b d').reverse.map Prod.fst))) a2w.symm).trans ew6
      have etq7 := (upd_ne (o := .lst (nV ((kk.flip.trees b d').reverse.map Prod.fst))) a2t.symm).trans etq6
      have hdq7 : DocAt (upd H6 a2 (.lst (nV ((kk.flip.trees b d').reverse.map Prod.fst)))) q (f.flip.flat 0) := by
        obtain ⟨x, y, z⟩ := hdq6
        exact ⟨x, upd_tups a2r _ _ y, z.mono (upd_tups a2r)⟩
      have ents7 := Paired.mapP ents6 fun _ _ => Ent2.mono (upd_tups (u := .lst (nV ((kk.flip.trees b d').reverse.map Prod.fst))) a2r)
      have fr7 : ∀ w ∈ todoU L' ++ List.range' b kk.size, ∀ a, as2[w]? = some a → (upd H6 a2 (.lst (nV ((kk.flip.trees b d').reverse.map Prod.fst)))) a = some (.lst (nV (rowA (f.flip.flat 0) (f.flip.flat 0).length (oI (f.flat 0).length w)))) := fun w hw a ha => by
        have wu : w ≠ u := fun z => by
          subst z
          rcases List.mem_append.mp hw with h | h
          · exact dis w h w List.mem_cons_self rfl
          · exact unin h
        have na : a ≠ a2 := fun z => by
          subst z
          obtain ⟨b1, c1⟩ := List.getElem?_eq_some_iff.mp ha
          obtain ⟨b2, c2⟩ := List.getElem?_eq_some_iff.mp a2e
          rcases Nat.lt_or_gt_of_ne wu with q | q
          · exact (List.pairwise_iff_getElem.mp nd2) w u b1 b2 q (c1.trans c2.symm)
          · exact (List.pairwise_iff_getElem.mp nd2) u w b2 b1 q (c2.trans c1.symm)
        rw [upd_ne na]
        refine fr6 w ?_ a ha
        rcases List.mem_append.mp hw with h | h
        · exact List.mem_append_left _ h
        · exact List.mem_append_right _ (List.mem_cons_of_mem _ h)
      generalize upd H6 a2 (.lst (nV ((kk.flip.trees b d').reverse.map Prod.fst))) = H7 at s7 e7 ew7 etq7 hdq7 ents7 fr7
      clear s6 ew6 etq6 ea6 hdq6 ents6 fr6 a2r rv
      have lz : (List.zipWith pairM (kk.trees s_ d) (kk.flip.trees b d').reverse).length = kk.cnt := by
        rw [List.length_zipWith, List.length_reverse, trees_len, trees_len, ← rlen, Nat.min_self]
      refine ⟨_, rfl, _, rfl, a1, a2, _, _, rfl, SqL.of (s7 _ _ a1r), SqL.of e7, for_it (walk_zip (K := K) (a := a1) (b := a2) (xs := nV ((kk.trees s_ d).map Prod.fst)) (ys := nV ((kk.flip.trees b d').reverse.map Prod.fst)) (n := kk.cnt) (by rw [nV_len, nV_len, List.length_map, List.length_map, List.length_reverse, trees_len, trees_len, ← rlen, Nat.min_self]))
        (fun j σ H' => j ≤ kk.cnt ∧ Same H H' ∧ DocAt H' q (f.flip.flat 0) ∧ H' tq = some (.lst (as2.map V.ref)) ∧ H' a2 = some (.lst (nV ((kk.flip.trees b d').reverse.map Prod.fst))) ∧
          ∃ (us : List V) (x10 x11 : Option V), σ = [some (.ref p), some (.ref r), some (.ref q), some (.ref tq), some (.ref wq), some (.int (0 + (n : Int))), some (.int (v0 : Nat)), some (.int (u : Nat)), some (.ref a1), some (.ref a2), x10, x11] ∧ H' wq = some (.lst us) ∧
          Paired (Ent2 H') us (L' ++ (List.zipWith pairM (kk.trees s_ d) (kk.flip.trees b d').reverse).take j) ∧
          (∀ w ∈ todoU L' ++ List.range' b kk.size, ∀ a, as2[w]? = some a → H' a = some (.lst (nV (rowA (f.flip.flat 0) (f.flip.flat 0).length (oI (f.flat 0).length w)))))) ?_ ?_ ?_ ?_⟩
      · exact ⟨Nat.zero_le _, s7, hdq7, etq7, e7, us', _, _, rfl, ew7, by rw [List.take_zero, List.append_nil]; exact ents7, fr7⟩
      · rintro j σ H' hj ⟨_, s8, _, _, e8, _⟩
        exact ⟨SqL.of (s8 _ _ a1r), SqL.of e8⟩
      · rintro j y σ H8 H9 hj ⟨jl, s8, hdq8, etq8, e8, us, x10, x11, rfl, ew8, ents8, fr8⟩ ⟨t9, z1, z2, rfl, ht9, rfl, q1, q2⟩
        clear s7 e7 ew7 etq7 hdq7 ents7 fr7
        obtain ⟨tr, htr⟩ : ∃ tr, (kk.trees s_ d)[j]? = some tr := ⟨_, List.getElem?_eq_getElem (by rw [trees_len]; exact hj)⟩
        obtain ⟨tr', htr', rt⟩ := rel_get rel htr
        obtain ⟨m1, hm1, rfl⟩ := nV_at q1
        obtain ⟨m2, hm2, rfl⟩ := nV_at q2
        rw [List.getElem?_map, htr] at hm1
        rw [List.getElem?_map, htr'] at hm2
        have hm1' : tr.1 = m1 := Option.some.inj hm1
        have hm2' : tr'.1 = m2 := Option.some.inj hm2
        subst hm1'
        subst hm2'
        have nt := n1' tr (List.mem_of_getElem? htr)
        have nt' := n2' tr' (List.mem_reverse.mp (List.mem_of_getElem? htr'))
        have sn : Same H8 (upd H8 t9 (.tup [.int (tr.1 : Nat), .int (tr'.1 : Nat)])) := Same.new ht9
        have s9 := s8.trans sn
        have hdq9 := hdq8.same sn
        have etq9 := sn _ _ etq8
        have e9 := sn _ _ e8
        have ew9 := sn _ _ ew8
        have ents9 := Paired.mapP ents8 fun a b => Ent2.mono (H' := upd H8 t9 (.tup [.int (tr.1 : Nat), .int (tr'.1 : Nat)])) (Same.tups sn)
        have fr9 : ∀ w ∈ todoU L' ++ List.range' b kk.size, ∀ a, as2[w]? = some a → (upd H8 t9 (.tup [.int (tr.1 : Nat), .int (tr'.1 : Nat)])) a = some (.lst (nV (rowA (f.flip.flat 0) (f.flip.flat 0).length (oI (f.flat 0).length w)))) := fun w hw a ha => sn _ _ (fr8 w hw a ha)
        refine ⟨t9, _, rfl, SqT.of upd_same, rfl, _, _, rfl, _, _, rfl, rfl, ?_⟩
        generalize upd H8 t9 (.tup [.int (tr.1 : Nat), .int (tr'.1 : Nat)]) = H9 at s9 hdq9 etq9 e9 ew9 ents9 fr9
        clear s8 hdq8 etq8 e8 ew8 ents8 fr8 sn ht9
        obtain ⟨w1, b1, c1, g1, g2, g3, _, g5⟩ := (hd.same s9).ent nt.lt
        obtain ⟨w2, b2, c2, k1, k2, k3, _, k5⟩ := hdq9.ent nt'.lt
        have cc : c1 = c2 := by rw [g5, k5, nt.get, nt'.get]; exact rt.1
        refine ⟨_, rfl, _, rfl, p, w1, _, _, rfl, rfl, SqT.of g1, atI_nat g2, b1, _, 0, _, rfl, rfl, SqT.of g3, rfl, _, rfl, _, rfl, q, w2, _, _, rfl, rfl, SqT.of k1, atI_nat k2, b2, _, 0, _, rfl, rfl, SqT.of k3, rfl, rfl, _, rfl, ?_⟩
        rw [decide_eq_true (show V.str ⟨#[c1]⟩ = V.str ⟨#[c2]⟩ by rw [cc])]
        refine iteF ?_
        have lu : us.length = L'.length + j := by
          rw [Paired.length ents9, List.length_append, List.length_take, lz]
          omega
        have c62 : kk.cnt ≤ 62 := by omega
        refine ⟨_, rfl, .inl ⟨rfl, _, SqL.of ew9⟩, _, rfl, _, rfl, nilA ⟨by show 2 ≤ sizeLine; omega, fun ta hta => ?_⟩⟩
        have taw : ta ≠ wq := fun z => by subst z; rw [ew9] at hta; cases hta
        have sa := Same.new (o := .tup [.int (tr.1 : Nat), .int (tr'.1 : Nat)]) hta
        have ewa := sa _ _ ew9
        have sHa := s9.trans sa
        have eta : (upd H9 ta (.tup [.int (tr.1 : Nat), .int (tr'.1 : Nat)])) ta = some (.tup [.int (tr.1 : Nat), .int (tr'.1 : Nat)]) := upd_same
        have hdqa := hdq9.same sa
        have etqa := sa _ _ etq9
        have e9a := sa _ _ e9
        have entsa := Paired.mapP ents9 fun a b => Ent2.mono (H' := upd H9 ta (.tup [.int (tr.1 : Nat), .int (tr'.1 : Nat)])) (Same.tups sa)
        have fra : ∀ w ∈ todoU L' ++ List.range' b kk.size, ∀ a, as2[w]? = some a → (upd H9 ta (.tup [.int (tr.1 : Nat), .int (tr'.1 : Nat)])) a = some (.lst (nV (rowA (f.flip.flat 0) (f.flip.flat 0).length (oI (f.flat 0).length w)))) := fun w hw a ha => sa _ _ (fr9 w hw a ha)
        generalize upd H9 ta (.tup [.int (tr.1 : Nat), .int (tr'.1 : Nat)]) = Ha at ewa sHa eta hdqa etqa e9a entsa fra
        clear ew9 s9 hdq9 etq9 e9 ents9 fr9 sa
        refine nilA ⟨wq, _, _, rfl, rfl, ewa, by omega, hj, same_wr sHa hwH, ?_, (upd_ne wtq.symm).trans etqa, (upd_ne a2w).trans e9a, us ++ [.ref ta], _, _, rfl, upd_same, ?_, fun w hw a ha => ?_⟩
        · obtain ⟨x, y, z⟩ := hdqa
          exact ⟨x, upd_tups ewa _ _ y, z.mono (upd_tups ewa)⟩
        · have zl : j < (List.zipWith pairM (kk.trees s_ d) (kk.flip.trees b d').reverse).length := by rw [lz]; exact hj
          have ze : (List.zipWith pairM (kk.trees s_ d) (kk.flip.trees b d').reverse)[j] = pairM tr tr' := by
            have := zip_get htr htr'
            rw [List.getElem?_eq_getElem zl] at this
            exact Option.some.inj this
          rw [List.take_succ_eq_append_getElem zl, ze, ← List.append_assoc]
          refine Paired.snoc (Paired.mapP entsa fun a b => Ent2.mono (upd_tups ewa)) ⟨ta, rfl, ?_⟩
          rw [upd_ne taw]
          exact eta
        · rw [upd_ne (show a ≠ wq from fun z => wqa (by rw [← z]; exact List.mem_of_getElem? ha))]
          exact fra w hw a ha
      · rintro σ H8 ⟨_, s8, hdq8, etq8, e8, us, x10', x11', rfl, ew8, ents8, fr8⟩
        rw [List.take_of_length_le (by rw [lz]; exact Nat.le_refl _)] at ents8
        refine ⟨by omega, s8, hdq8, etq8, L' ++ List.zipWith pairM (kk.trees s_ d) (kk.flip.trees b d').reverse, us, _, _, _, _, _, _, _, rfl, ew8, ents8, fun e he => ?_, ?_, ?_, fun w hw a ha => ?_⟩
        · rcases List.mem_append.mp he with h | h
          · exact all e (List.mem_append_left _ h)
          · obtain ⟨j, hj⟩ := List.mem_iff_getElem?.mp h
            have jl : j < kk.cnt := by
              have := (List.getElem?_eq_some_iff.mp hj).1
              rwa [lz] at this
            obtain ⟨tr, htr⟩ : ∃ tr, (kk.trees s_ d)[j]? = some tr := ⟨_, List.getElem?_eq_getElem (by rw [trees_len]; exact jl)⟩
            obtain ⟨tr', htr', rt⟩ := rel_get rel htr
            rw [zip_get htr htr'] at hj
            have : pairM tr tr' = e := Option.some.inj hj
            rw [← this]
            exact kid_ok ok okf lf rt (n1' tr (List.mem_of_getElem? htr)) (n2' tr' (List.mem_reverse.mp (List.mem_of_getElem? htr')))
        · rw [work_app, wz]
          omega
        · rw [todo_appU]
          refine ((pz.append_left (todoU L')).nodup_iff).mpr ?_
          exact List.Pairwise.sublist (List.Sublist.append (List.Sublist.refl _) (List.sublist_cons_self _ _)) ndA
        · rw [todo_appU] at hw
          refine fr8 w ?_ a ha
          exact ((pz.append_left (todoU L')).mem_iff).mp hw
    · rintro σ H4 ⟨_, s4, hdq4, etq4, L, us, x5, x6, x7, x8, x9, x10, x11, rfl, ew, ents, all, wk, nd, fresh⟩
      clear e3w e3t s23 s03
      have e0 : (((ws.length : Nat) : Int) + 1).toNat = (f.flat 0).length + 1 := by omega
      rw [e0] at wk
      have L0 : L = [] := by
        have := work_len L
        exact List.length_eq_zero_iff.mp (by omega)
      subst L0
      cases ents
      refine ⟨_, rfl, Nat.zero_le _, fun e he => ⟨wq, e, _, rfl, rfl, SqL.of ((Same.new he) _ _ ew), SqL.of upd_same, _, rfl, iteT ?_⟩⟩
      have sn : Same H4 (upd H4 e (.lst [])) := Same.new he
      have hdq5 := hdq4.same sn
      have s5 := s4.trans sn
      generalize upd H4 e (.lst []) = H5 at hdq5 s5
      refine ⟨_, rfl, q, f.flip, rfl, hdq5, okf, by omega, fun H6 q6 s6 hq6 hd6 => ?_⟩
      rw [Fo.flip_flip] at hd6
      have tdd : ∀ H' q', DocAt H' q' (f.flat 0) → Told K H' (.ref q') (docD (f.flat 0)) := fun H' q' h => (td_doc h ok (by omega)).told
      refine ⟨_, _, rfl, tdd _ _ hd6, _, rfl, nilA ⟨_, _, rfl, tdd _ _ (hd.same (s5.trans s6)), rfl, ?_⟩⟩
      rw [decide_eq_true rfl]
      exact k _
end

/-! ### the law of walks -/
section
variable {P : Program} {w : World} {K : PySem.W.Frag} {mg : Str → Option Value} {base : Heap}
theorem ok_law (S : Docs K mg) (eP : Err K mg "BadPlace") (Dp : Dn K mg "parents_in" sParents pDocu) (Drs : Dn K mg "rows_in" sRows pDocu) (Dno : Dn K mg "is_node" sNode pNode) (Dck : Dn K mg "check_node" sChkNode pNode) (Db : Dn K mg "depth_below" sBelow pPar) (Df : Dn K mg "first_below" sFirst ["parent"]) (Dr : Dn K mg "row_of" sRow pPar)
    (Deo : Dn K mg "end_of" sEndOf pNode') (Dsh : Dn K mg "shifted" sShift ["entries", "by"]) (Dpi : Dn K mg "piece_in" sPieceIn pNode') (Dpl : Dn K mg "place_in" sPlaceIn pNode')
    (Dpa : Dn K mg "parents" sPars pDocu) (Dsz : Dn K mg "sizes" sSizes pDocu) (Dki : Dn K mg "children" sKids pNode') (Dplo : Dn K mg "place_of" sPlaceOf pNode') (Dpo : Dn K mg "piece_of" sPiece pNode') (Dna : Dn K mg "node_at" sNodeAt ["document", "place"])
    (Dwr : Dn K mg "write_document" sWrite pDocu) (Drd : Dn K mg "read_document" sRead pText) (Dfl : Dn K mg "flipped" sFlip pDocu) (Ddo : Dn K mg "depth_of" sDepthOf pDocu) (Dbo : Dn K mg "breadth_of" sBreadthOf pDocu)
    (Dd : Dn K mg "_law_draw" sDraw pDraw) (D1 : Dn K mg "_law_one" sOne pOne) (Dfe : Dn K mg "_law_feed" sFeed pFeed) (Dg : Dn K mg "_law_grown" sGrown pGrown) (Dc : Dn K mg "_law_document" sDoc pDoc) (Ddr : Dn K mg "_law_drawn" sDrawn pDrawn)
    (Dlr : Dn K mg "_law_row" sLRow pRowL) (Dlrs : Dn K mg "_law_rows" sLRows pDocu) (Dlw : Dn K mg "_law_walked" sLWalked pWalk) (Dlp : Dn K mg "_law_pieces" sLPieces pWalk) (Dlm : Dn K mg "_law_mirrored" sLMirrored pWalk)
    (D : Dn K mg "law" sLaw ["script"]) : GOk P w K mg base CX0 10 D.f D.fd ["script"] (spLaw K) := by
  have T := S.T
  have GF : FnOk P w K mg base CX0 1 Dfe.f Dfe.fd pFeed (spFeed K) := ok_feed T Dfe
  have GW : FnOk P w K mg base CX0 4 Ddr.f Ddr.fd pDrawn (spDrawn K) := ok_drawn T Dd D1 Dfe Dg Dc Ddr
  have GI : FnOk P w K mg base CX0 4 S.isdoc.f S.isdoc.fd pThing spIsDocV := ok_isdocV T S.hm S.hM S.whole S.number S.mark S.entry S.isdoc
  have GPa : FnOk P w K mg base CX0 6 Dpa.f Dpa.fd pDocu spPars := ok_pars S Dp Dpa
  have GLrs : FnOk P w K mg base CX0 8 Dlrs.f Dlrs.fd pDocu spLRows := ok_lrows S Dno Dck Db Df Dr Dki Dlr Dlrs
  have GLw : GOk P w K mg base CX0 7 Dlw.f Dlw.fd pWalk spLWalked := ok_lwalked S eP Dno Dck Db Df Dr Dpl Dplo Dna Dlw
  have GLp : GOk P w K mg base CX0 7 Dlp.f Dlp.fd pWalk spLPieces := ok_lpieces S Dp Drs Dno Dck Deo Dsh Dpi Dsz Dpo Dwr Drd Ddo Dbo Dlp
  have GLm : GOk P w K mg base CX0 9 Dlm.f Dlm.fd pWalk spLMirr := ok_lmirr S Dp Drs Dno Dck Db Df Dr Dki Dlr Dlrs Dfl Dlm
  have sc : FnScope ["script", "document", "rows", "above"] ["script"] (defScope sLaw) := ⟨rfl, rfl, rfl, by decide +kernel, rfl, by decide +kernel, by decide +kernel⟩
  refine gok0 D.F sc (fun vs H Q E h => ?_) (fun cdv A outer s H vs Q E hgd hr h => ?_)
  · obtain ⟨a, ns, rfl, _⟩ := h
    rfl
  · obtain ⟨a, ns, rfl, ha, hl, hb, k⟩ := h
    refine ⟨_, (pss_cons (ps_set (i := 1) sc.nd rfl (.inl rfl) (de_call Ddr GW hr (pa_cons (de_call Dfe GF hr (pa_cons (pv 0) (pa_cons pe_int pa_nil))) (pa_cons (pv 0) (pa_cons pe_int pa_nil)))))
      (pss_cons (ps_if (pt_cmpR op_isnot_bl (de_call S.isdoc GI hr (pa_cons (pv 1) pa_nil)) pe_bl (nomark _)) (pss_one (ps_ret pe_bl)) pss_nil)
      (pss_cons (ps_set (i := 2) sc.nd rfl (.inl rfl) (de_call Dlrs GLrs hr (pa_cons (pv 1) pa_nil)))
      (pss_cons (ps_if (pt_cmp (pc_isN (pv 2))) (pss_one (ps_ret pe_bl)) pss_nil)
      (pss_cons (ps_set (i := 3) sc.nd rfl (.inl rfl) (de_callG Dlw GLw hgd hr (pa_cons (pv 1) (pa_cons (pv 2) pa_nil))))
      (pss_cons (ps_if (PW.pt (pw_or (pt_cmp (pc_isN (pv 3))) (pw_or1 (pt_cmpR op_ne (pe_callB (call_repr hgd hr) (by rfl) T.repr b_repr (pa_cons (de_call Dpa GPa hr (pa_cons (pv 1) pa_nil)) pa_nil)) (pe_callB (call_repr hgd hr) (by rfl) T.repr b_repr (pa_cons (pe_callTy call_tuple_of (by rfl) T.tuple b_tuple (pa_cons (pv 3) pa_nil)) pa_nil)) (nomark _))))) (pss_one (ps_ret pe_bl)) pss_nil)
      (pss_one (ps_ret (pe_and (de_callG Dlp GLp hgd hr (pa_cons (pv 1) (pa_cons (pv 2) pa_nil))) (pe_one (de_callG Dlm GLm hgd hr (pa_cons (pv 1) (pa_cons (pv 2) pa_nil))))))))))))), ?_⟩
    refine ⟨_, rfl, a, 0, ns, rfl, ha.sq, hl, hb, by decide, by decide, fun H1 f o s1 f0 e1 fo => ?_⟩
    refine ⟨_, rfl, consC (nilA ⟨f, a, 30, ns, 700000000000, o, rfl, e1, fo.less (by omega), ha.same s1, hl, hb, by decide, fun H2 q doc o2 b2 e2 f2 q00 hd ok len => ?_⟩)⟩
    refine ⟨_, rfl, q, doc, rfl, hd, ok, by omega, _, _, rfl, rfl, _, rfl, ?_⟩
    rw [decide_eq_true rfl]
    refine iteF ?_
    refine ⟨_, rfl, q, doc, rfl, hd, ok, by omega, fun H3 r as s3 hr3 er rows _ _ _ => ?_⟩
    refine ⟨_, rfl, _, rfl, iteF ?_⟩
    have hd3 := hd.same s3
    refine ⟨_, rfl, _, rfl, q, r, doc, as, rfl, hd3, ok, by omega, er, rows, fun H4 g s4 eg => ?_⟩
    refine ⟨_, rfl, _, rfl, iteF ?_⟩
    have eps : parV doc = (parsOf doc).map vO := by rw [parsOf_eq ok]
    have tps : ∀ H' x, H' x = some (.tup (parV doc)) → Told K H' (.ref x) (.tuple ((parsOf doc).map dO)) := fun H' x e => by
      rw [eps] at e
      refine (td_nums e ?_ ?_).told
      · rw [parsOf_eq ok, List.length_map, List.length_range]; omega
      · rw [parsOf_eq ok]
        intro j hj
        obtain ⟨x, hx, e⟩ := List.mem_map.mp hj
        have := par_lt e
        have := List.mem_range.mp hx
        omega
    refine ⟨_, rfl, q, doc, rfl, hd3.same s4, ok, by omega, fun H5 q5 s5 hq5 e5 => ?_⟩
    rw [← eps] at e5
    refine ⟨_, _, rfl, tps _ _ e5, _, rfl, g, _, rfl, .inl ⟨SqL.of (s5 _ _ eg), fun q6 hq6 => ?_⟩⟩
    refine nilA ⟨_, _, rfl, tps _ _ upd_same, rfl, _, rfl, ?_⟩
    rw [decide_eq_true rfl]
    refine iteF ?_
    have s36 := s4.trans (s5.trans (Same.new (o := .tup (parV doc)) hq6))
    generalize upd H5 q6 (.tup (parV doc)) = H6 at s36
    refine ⟨_, rfl, _, rfl, q, r, doc, as, rfl, hd3.same s36, ok, by omega, s36 _ _ er, rows.same s36, fun H7 s7 => ?_⟩
    refine ⟨_, rfl, iteT ?_⟩
    have s37 := s36.trans s7
    exact ⟨_, rfl, _, rfl, q, r, doc, as, rfl, hd3.same s37, ok, by omega, s37 _ _ er, rows.same s37, fun H8 => k H8⟩
end


/-! ### what the top has written, the head -/
theorem all_mk {l : PySem.W.OpenLaw} {w : World} {K : PySem.W.Frag} {h : Heap} {mg : Str → Option Value} {fa f0 f1 f2 f3 f4 f5 f6 f7 f8 f9 f10 f11 f12 f13 f14 f15 f16 f17 f18 f19 f20 f21 f22 f23 f24 f25 f26 f27 f28 f29 f30 f31 f32 f33 f34 f35 f36 f37 f38 f39 fM : Addr} (X : K.In h) (G : h.Ns mainGlobals mg) (hfa : mg "law" = some (.ref fa))
    {od0 an0 od1 an1 od2 an2 od3 an3 od4 an4 od5 an5 od6 an6 od7 an7 od8 an8 od9 an9 od10 an10 od11 an11 od12 an12 od13 an13 od14 an14 od15 an15 od16 an16 od17 an17 od18 an18 od19 an19 od20 an20 od21 an21 od22 an22 od23 an23 od24 an24 od25 an25 od26 an26 od27 an27 od28 an28 od29 an29 od30 an30 od31 an31 od32 an32 od33 an33 od34 an34 od35 an35 od36 an36 od37 an37 od38 an38 od39 an39 dM : Option Addr} {sl0 sl1 sl2 sl3 sl4 sl5 sl6 sl7 sl8 sl9 sl10 sl11 sl12 sl13 sl14 sl15 sl16 sl17 sl18 sl19 sl20 sl21 sl22 sl23 sl24 sl25 sl26 sl27 sl28 sl29 sl30 sl31 sl32 sl33 sl34 sl35 sl36 sl37 sl38 sl39 sM : Array (Option Value)} {oc0 kV0 dc0 pm0 cd0 ct0 oc1 kV1 dc1 pm1 cd1 ct1 oc2 kV2 dc2 pm2 cd2 ct2 oc3 kV3 dc3 pm3 cd3 ct3 oc4 kV4 dc4 pm4 cd4 ct4 oc5 kV5 dc5 pm5 cd5 ct5 oc6 kV6 dc6 pm6 cd6 ct6 oc7 kV7 dc7 pm7 cd7 ct7 oc8 kV8 dc8 pm8 cd8 ct8 oc9 kV9 dc9 pm9 cd9 ct9 oc10 kV10 dc10 pm10 cd10 ct10 oc11 kV11 dc11 pm11 cd11 ct11 oc12 kV12 dc12 pm12 cd12 ct12 oc13 kV13 dc13 pm13 cd13 ct13 oc14 kV14 dc14 pm14 cd14 ct14 oc15 kV15 dc15 pm15 cd15 ct15 oc16 kV16 dc16 pm16 cd16 ct16 oc17 kV17 dc17 pm17 cd17 ct17 oc18 kV18 dc18 pm18 cd18 ct18 oc19 kV19 dc19 pm19 cd19 ct19 oc20 kV20 dc20 pm20 cd20 ct20 oc21 kV21 dc21 pm21 cd21 ct21 oc22 kV22 dc22 pm22 cd22 ct22 oc23 kV23 dc23 pm23 cd23 ct23 oc24 kV24 dc24 pm24 cd24 ct24 oc25 kV25 dc25 pm25 cd25 ct25 oc26 kV26 dc26 pm26 cd26 ct26 oc27 kV27 dc27 pm27 cd27 ct27 oc28 kV28 dc28 pm28 cd28 ct28 oc29 kV29 dc29 pm29 cd29 ct29 oc30 kV30 dc30 pm30 cd30 ct30 oc31 kV31 dc31 pm31 cd31 ct31 oc32 kV32 dc32 pm32 cd32 ct32 oc33 kV33 dc33 pm33 cd33 ct33 oc34 kV34 dc34 pm34 cd34 ct34 oc35 kV35 dc35 pm35 cd35 ct35 oc36 kV36 dc36 pm36 cd36 ct36 oc37 kV37 dc37 pm37 cd37 ct37 oc38 kV38 dc38 pm38 cd38 ct38 oc39 kV39 dc39 pm39 cd39 ct39 : Value} {t1 t2 t3 t4 t5 t6 t7 t8 tN : Tok} {nM : Nat} {Cp : Addr}
    (a0 : PySem.W.nsIn K mainGlobals "is_whole" = some (some (.ref f0)))
    (l0 : K.lookup f0 = some ⟨oc0, od0, .func (PySem.W.fnOf "is_whole" "is_whole" (defArgs sWhole) (defBody sWhole) (defScope sWhole) .none kV0 dc0 pm0 an0 cd0 ct0), sl0⟩)
    (c0 : PySem.W.codeIn K cd0 "is_whole" = true) (k0 : PySem.W.keepIn K (.ref f0) = true)
    (a1 : PySem.W.nsIn K mainGlobals "is_number" = some (some (.ref f1)))
    (l1 : K.lookup f1 = some ⟨oc1, od1, .func (PySem.W.fnOf "is_number" "is_number" (defArgs sNumber) (defBody sNumber) (defScope sNumber) .none kV1 dc1 pm1 an1 cd1 ct1), sl1⟩)
    (c1 : PySem.W.codeIn K cd1 "is_number" = true) (k1 : PySem.W.keepIn K (.ref f1) = true)
    (a2 : PySem.W.nsIn K mainGlobals "is_mark" = some (some (.ref f2)))
    (l2 : K.lookup f2 = some ⟨oc2, od2, .func (PySem.W.fnOf "is_mark" "is_mark" (defArgs sMark) (defBody sMark) (defScope sMark) .none kV2 dc2 pm2 an2 cd2 ct2), sl2⟩)
    (c2 : PySem.W.codeIn K cd2 "is_mark" = true) (k2 : PySem.W.keepIn K (.ref f2) = true)
    (a3 : PySem.W.nsIn K mainGlobals "is_document" = some (some (.ref f3)))
    (l3 : K.lookup f3 = some ⟨oc3, od3, .func (PySem.W.fnOf "is_document" "is_document" (defArgs sIsDoc) (defBody sIsDoc) (defScope sIsDoc) .none kV3 dc3 pm3 an3 cd3 ct3), sl3⟩)
    (c3 : PySem.W.codeIn K cd3 "is_document" = true) (k3 : PySem.W.keepIn K (.ref f3) = true)
    (a4 : PySem.W.nsIn K mainGlobals "_is_entry" = some (some (.ref f4)))
    (l4 : K.lookup f4 = some ⟨oc4, od4, .func (PySem.W.fnOf "_is_entry" "_is_entry" (defArgs sEntry) (defBody sEntry) (defScope sEntry) .none kV4 dc4 pm4 an4 cd4 ct4), sl4⟩)
    (c4 : PySem.W.codeIn K cd4 "_is_entry" = true) (k4 : PySem.W.keepIn K (.ref f4) = true)
    (a5 : PySem.W.nsIn K mainGlobals "check_document" = some (some (.ref f5)))
    (l5 : K.lookup f5 = some ⟨oc5, od5, .func (PySem.W.fnOf "check_document" "check_document" (defArgs sChkDoc) (defBody sChkDoc) (defScope sChkDoc) .none kV5 dc5 pm5 an5 cd5 ct5), sl5⟩)
    (c5 : PySem.W.codeIn K cd5 "check_document" = true) (k5 : PySem.W.keepIn K (.ref f5) = true)
    (a6 : PySem.W.nsIn K mainGlobals "_law_feed" = some (some (.ref f6)))
    (l6 : K.lookup f6 = some ⟨oc6, od6, .func (PySem.W.fnOf "_law_feed" "_law_feed" (defArgs sFeed) (defBody sFeed) (defScope sFeed) .none kV6 dc6 pm6 an6 cd6 ct6), sl6⟩)
    (c6 : PySem.W.codeIn K cd6 "_law_feed" = true) (k6 : PySem.W.keepIn K (.ref f6) = true)
    (a7 : PySem.W.nsIn K mainGlobals "_law_draw" = some (some (.ref f7)))
    (l7 : K.lookup f7 = some ⟨oc7, od7, .func (PySem.W.fnOf "_law_draw" "_law_draw" (defArgs sDraw) (defBody sDraw) (defScope sDraw) .none kV7 dc7 pm7 an7 cd7 ct7), sl7⟩)
    (c7 : PySem.W.codeIn K cd7 "_law_draw" = true) (k7 : PySem.W.keepIn K (.ref f7) = true)
    (a8 : PySem.W.nsIn K mainGlobals "_law_one" = some (some (.ref f8)))
    (l8 : K.lookup f8 = some ⟨oc8, od8, .func (PySem.W.fnOf "_law_one" "_law_one" (defArgs sOne) (defBody sOne) (defScope sOne) .none kV8 dc8 pm8 an8 cd8 ct8), sl8⟩)
    (c8 : PySem.W.codeIn K cd8 "_law_one" = true) (k8 : PySem.W.keepIn K (.ref f8) = true)
    (a9 : PySem.W.nsIn K mainGlobals "_law_document" = some (some (.ref f9)))
    (l9 : K.lookup f9 = some ⟨oc9, od9, .func (PySem.W.fnOf "_law_document" "_law_document" (defArgs sDoc) (defBody sDoc) (defScope sDoc) .none kV9 dc9 pm9 an9 cd9 ct9), sl9⟩)
    (c9 : PySem.W.codeIn K cd9 "_law_document" = true) (k9 : PySem.W.keepIn K (.ref f9) = true)
    (a10 : PySem.W.nsIn K mainGlobals "_law_grown" = some (some (.ref f10)))
    (l10 : K.lookup f10 = some ⟨oc10, od10, .func (PySem.W.fnOf "_law_grown" "_law_grown" (defArgs sGrown) (defBody sGrown) (defScope sGrown) .none kV10 dc10 pm10 an10 cd10 ct10), sl10⟩)
    (c10 : PySem.W.codeIn K cd10 "_law_grown" = true) (k10 : PySem.W.keepIn K (.ref f10) = true)
    (a11 : PySem.W.nsIn K mainGlobals "_law_drawn" = some (some (.ref f11)))
    (l11 : K.lookup f11 = some ⟨oc11, od11, .func (PySem.W.fnOf "_law_drawn" "_law_drawn" (defArgs sDrawn) (defBody sDrawn) (defScope sDrawn) .none kV11 dc11 pm11 an11 cd11 ct11), sl11⟩)
    (c11 : PySem.W.codeIn K cd11 "_law_drawn" = true) (k11 : PySem.W.keepIn K (.ref f11) = true)
    (a12 : PySem.W.nsIn K mainGlobals "parents_in" = some (some (.ref f12)))
    (l12 : K.lookup f12 = some ⟨oc12, od12, .func (PySem.W.fnOf "parents_in" "parents_in" (defArgs sParents) (defBody sParents) (defScope sParents) .none kV12 dc12 pm12 an12 cd12 ct12), sl12⟩)
    (c12 : PySem.W.codeIn K cd12 "parents_in" = true) (k12 : PySem.W.keepIn K (.ref f12) = true)
    (a13 : PySem.W.nsIn K mainGlobals "rows_in" = some (some (.ref f13)))
    (l13 : K.lookup f13 = some ⟨oc13, od13, .func (PySem.W.fnOf "rows_in" "rows_in" (defArgs sRows) (defBody sRows) (defScope sRows) .none kV13 dc13 pm13 an13 cd13 ct13), sl13⟩)
    (c13 : PySem.W.codeIn K cd13 "rows_in" = true) (k13 : PySem.W.keepIn K (.ref f13) = true)
    (a14 : PySem.W.nsIn K mainGlobals "is_node" = some (some (.ref f14)))
    (l14 : K.lookup f14 = some ⟨oc14, od14, .func (PySem.W.fnOf "is_node" "is_node" (defArgs sNode) (defBody sNode) (defScope sNode) .none kV14 dc14 pm14 an14 cd14 ct14), sl14⟩)
    (c14 : PySem.W.codeIn K cd14 "is_node" = true) (k14 : PySem.W.keepIn K (.ref f14) = true)
    (a15 : PySem.W.nsIn K mainGlobals "check_node" = some (some (.ref f15)))
    (l15 : K.lookup f15 = some ⟨oc15, od15, .func (PySem.W.fnOf "check_node" "check_node" (defArgs sChkNode) (defBody sChkNode) (defScope sChkNode) .none kV15 dc15 pm15 an15 cd15 ct15), sl15⟩)
    (c15 : PySem.W.codeIn K cd15 "check_node" = true) (k15 : PySem.W.keepIn K (.ref f15) = true)
    (a16 : PySem.W.nsIn K mainGlobals "depth_below" = some (some (.ref f16)))
    (l16 : K.lookup f16 = some ⟨oc16, od16, .func (PySem.W.fnOf "depth_below" "depth_below" (defArgs sBelow) (defBody sBelow) (defScope sBelow) .none kV16 dc16 pm16 an16 cd16 ct16), sl16⟩)
    (c16 : PySem.W.codeIn K cd16 "depth_below" = true) (k16 : PySem.W.keepIn K (.ref f16) = true)
    (a17 : PySem.W.nsIn K mainGlobals "first_below" = some (some (.ref f17)))
    (l17 : K.lookup f17 = some ⟨oc17, od17, .func (PySem.W.fnOf "first_below" "first_below" (defArgs sFirst) (defBody sFirst) (defScope sFirst) .none kV17 dc17 pm17 an17 cd17 ct17), sl17⟩)
    (c17 : PySem.W.codeIn K cd17 "first_below" = true) (k17 : PySem.W.keepIn K (.ref f17) = true)
    (a18 : PySem.W.nsIn K mainGlobals "row_of" = some (some (.ref f18)))
    (l18 : K.lookup f18 = some ⟨oc18, od18, .func (PySem.W.fnOf "row_of" "row_of" (defArgs sRow) (defBody sRow) (defScope sRow) .none kV18 dc18 pm18 an18 cd18 ct18), sl18⟩)
    (c18 : PySem.W.codeIn K cd18 "row_of" = true) (k18 : PySem.W.keepIn K (.ref f18) = true)
    (a19 : PySem.W.nsIn K mainGlobals "end_of" = some (some (.ref f19)))
    (l19 : K.lookup f19 = some ⟨oc19, od19, .func (PySem.W.fnOf "end_of" "end_of" (defArgs sEndOf) (defBody sEndOf) (defScope sEndOf) .none kV19 dc19 pm19 an19 cd19 ct19), sl19⟩)
    (c19 : PySem.W.codeIn K cd19 "end_of" = true) (k19 : PySem.W.keepIn K (.ref f19) = true)
    (a20 : PySem.W.nsIn K mainGlobals "shifted" = some (some (.ref f20)))
    (l20 : K.lookup f20 = some ⟨oc20, od20, .func (PySem.W.fnOf "shifted" "shifted" (defArgs sShift) (defBody sShift) (defScope sShift) .none kV20 dc20 pm20 an20 cd20 ct20), sl20⟩)
    (c20 : PySem.W.codeIn K cd20 "shifted" = true) (k20 : PySem.W.keepIn K (.ref f20) = true)
    (a21 : PySem.W.nsIn K mainGlobals "piece_in" = some (some (.ref f21)))
    (l21 : K.lookup f21 = some ⟨oc21, od21, .func (PySem.W.fnOf "piece_in" "piece_in" (defArgs sPieceIn) (defBody sPieceIn) (defScope sPieceIn) .none kV21 dc21 pm21 an21 cd21 ct21), sl21⟩)
    (c21 : PySem.W.codeIn K cd21 "piece_in" = true) (k21 : PySem.W.keepIn K (.ref f21) = true)
    (a22 : PySem.W.nsIn K mainGlobals "place_in" = some (some (.ref f22)))
    (l22 : K.lookup f22 = some ⟨oc22, od22, .func (PySem.W.fnOf "place_in" "place_in" (defArgs sPlaceIn) (defBody sPlaceIn) (defScope sPlaceIn) .none kV22 dc22 pm22 an22 cd22 ct22), sl22⟩)
    (c22 : PySem.W.codeIn K cd22 "place_in" = true) (k22 : PySem.W.keepIn K (.ref f22) = true)
    (a23 : PySem.W.nsIn K mainGlobals "parents" = some (some (.ref f23)))
    (l23 : K.lookup f23 = some ⟨oc23, od23, .func (PySem.W.fnOf "parents" "parents" (defArgs sPars) (defBody sPars) (defScope sPars) .none kV23 dc23 pm23 an23 cd23 ct23), sl23⟩)
    (c23 : PySem.W.codeIn K cd23 "parents" = true) (k23 : PySem.W.keepIn K (.ref f23) = true)
    (a24 : PySem.W.nsIn K mainGlobals "sizes" = some (some (.ref f24)))
    (l24 : K.lookup f24 = some ⟨oc24, od24, .func (PySem.W.fnOf "sizes" "sizes" (defArgs sSizes) (defBody sSizes) (defScope sSizes) .none kV24 dc24 pm24 an24 cd24 ct24), sl24⟩)
    (c24 : PySem.W.codeIn K cd24 "sizes" = true) (k24 : PySem.W.keepIn K (.ref f24) = true)
    (a25 : PySem.W.nsIn K mainGlobals "children" = some (some (.ref f25)))
    (l25 : K.lookup f25 = some ⟨oc25, od25, .func (PySem.W.fnOf "children" "children" (defArgs sKids) (defBody sKids) (defScope sKids) .none kV25 dc25 pm25 an25 cd25 ct25), sl25⟩)
    (c25 : PySem.W.codeIn K cd25 "children" = true) (k25 : PySem.W.keepIn K (.ref f25) = true)
    (a26 : PySem.W.nsIn K mainGlobals "place_of" = some (some (.ref f26)))
    (l26 : K.lookup f26 = some ⟨oc26, od26, .func (PySem.W.fnOf "place_of" "place_of" (defArgs sPlaceOf) (defBody sPlaceOf) (defScope sPlaceOf) .none kV26 dc26 pm26 an26 cd26 ct26), sl26⟩)
    (c26 : PySem.W.codeIn K cd26 "place_of" = true) (k26 : PySem.W.keepIn K (.ref f26) = true)
    (a27 : PySem.W.nsIn K mainGlobals "piece_of" = some (some (.ref f27)))
    (l27 : K.lookup f27 = some ⟨oc27, od27, .func (PySem.W.fnOf "piece_of" "piece_of" (defArgs sPiece) (defBody sPiece) (defScope sPiece) .none kV27 dc27 pm27 an27 cd27 ct27), sl27⟩)
    (c27 : PySem.W.codeIn K cd27 "piece_of" = true) (k27 : PySem.W.keepIn K (.ref f27) = true)
    (a28 : PySem.W.nsIn K mainGlobals "node_at" = some (some (.ref f28)))
    (l28 : K.lookup f28 = some ⟨oc28, od28, .func (PySem.W.fnOf "node_at" "node_at" (defArgs sNodeAt) (defBody sNodeAt) (defScope sNodeAt) .none kV28 dc28 pm28 an28 cd28 ct28), sl28⟩)
    (c28 : PySem.W.codeIn K cd28 "node_at" = true) (k28 : PySem.W.keepIn K (.ref f28) = true)
    (a29 : PySem.W.nsIn K mainGlobals "write_document" = some (some (.ref f29)))
    (l29 : K.lookup f29 = some ⟨oc29, od29, .func (PySem.W.fnOf "write_document" "write_document" (defArgs sWrite) (defBody sWrite) (defScope sWrite) .none kV29 dc29 pm29 an29 cd29 ct29), sl29⟩)
    (c29 : PySem.W.codeIn K cd29 "write_document" = true) (k29 : PySem.W.keepIn K (.ref f29) = true)
    (a30 : PySem.W.nsIn K mainGlobals "read_document" = some (some (.ref f30)))
    (l30 : K.lookup f30 = some ⟨oc30, od30, .func (PySem.W.fnOf "read_document" "read_document" (defArgs sRead) (defBody sRead) (defScope sRead) .none kV30 dc30 pm30 an30 cd30 ct30), sl30⟩)
    (c30 : PySem.W.codeIn K cd30 "read_document" = true) (k30 : PySem.W.keepIn K (.ref f30) = true)
    (a31 : PySem.W.nsIn K mainGlobals "flipped" = some (some (.ref f31)))
    (l31 : K.lookup f31 = some ⟨oc31, od31, .func (PySem.W.fnOf "flipped" "flipped" (defArgs sFlip) (defBody sFlip) (defScope sFlip) .none kV31 dc31 pm31 an31 cd31 ct31), sl31⟩)
    (c31 : PySem.W.codeIn K cd31 "flipped" = true) (k31 : PySem.W.keepIn K (.ref f31) = true)
    (a32 : PySem.W.nsIn K mainGlobals "depth_of" = some (some (.ref f32)))
    (l32 : K.lookup f32 = some ⟨oc32, od32, .func (PySem.W.fnOf "depth_of" "depth_of" (defArgs sDepthOf) (defBody sDepthOf) (defScope sDepthOf) .none kV32 dc32 pm32 an32 cd32 ct32), sl32⟩)
    (c32 : PySem.W.codeIn K cd32 "depth_of" = true) (k32 : PySem.W.keepIn K (.ref f32) = true)
    (a33 : PySem.W.nsIn K mainGlobals "breadth_of" = some (some (.ref f33)))
    (l33 : K.lookup f33 = some ⟨oc33, od33, .func (PySem.W.fnOf "breadth_of" "breadth_of" (defArgs sBreadthOf) (defBody sBreadthOf) (defScope sBreadthOf) .none kV33 dc33 pm33 an33 cd33 ct33), sl33⟩)
    (c33 : PySem.W.codeIn K cd33 "breadth_of" = true) (k33 : PySem.W.keepIn K (.ref f33) = true)
    (a34 : PySem.W.nsIn K mainGlobals "_law_row" = some (some (.ref f34)))
    (l34 : K.lookup f34 = some ⟨oc34, od34, .func (PySem.W.fnOf "_law_row" "_law_row" (defArgs sLRow) (defBody sLRow) (defScope sLRow) .none kV34 dc34 pm34 an34 cd34 ct34), sl34⟩)
    (c34 : PySem.W.codeIn K cd34 "_law_row" = true) (k34 : PySem.W.keepIn K (.ref f34) = true)
    (a35 : PySem.W.nsIn K mainGlobals "_law_rows" = some (some (.ref f35)))
    (l35 : K.lookup f35 = some ⟨oc35, od35, .func (PySem.W.fnOf "_law_rows" "_law_rows" (defArgs sLRows) (defBody sLRows) (defScope sLRows) .none kV35 dc35 pm35 an35 cd35 ct35), sl35⟩)
    (c35 : PySem.W.codeIn K cd35 "_law_rows" = true) (k35 : PySem.W.keepIn K (.ref f35) = true)
    (a36 : PySem.W.nsIn K mainGlobals "_law_walked" = some (some (.ref f36)))
    (l36 : K.lookup f36 = some ⟨oc36, od36, .func (PySem.W.fnOf "_law_walked" "_law_walked" (defArgs sLWalked) (defBody sLWalked) (defScope sLWalked) .none kV36 dc36 pm36 an36 cd36 ct36), sl36⟩)
    (c36 : PySem.W.codeIn K cd36 "_law_walked" = true) (k36 : PySem.W.keepIn K (.ref f36) = true)
    (a37 : PySem.W.nsIn K mainGlobals "_law_pieces" = some (some (.ref f37)))
    (l37 : K.lookup f37 = some ⟨oc37, od37, .func (PySem.W.fnOf "_law_pieces" "_law_pieces" (defArgs sLPieces) (defBody sLPieces) (defScope sLPieces) .none kV37 dc37 pm37 an37 cd37 ct37), sl37⟩)
    (c37 : PySem.W.codeIn K cd37 "_law_pieces" = true) (k37 : PySem.W.keepIn K (.ref f37) = true)
    (a38 : PySem.W.nsIn K mainGlobals "_law_mirrored" = some (some (.ref f38)))
    (l38 : K.lookup f38 = some ⟨oc38, od38, .func (PySem.W.fnOf "_law_mirrored" "_law_mirrored" (defArgs sLMirrored) (defBody sLMirrored) (defScope sLMirrored) .none kV38 dc38 pm38 an38 cd38 ct38), sl38⟩)
    (c38 : PySem.W.codeIn K cd38 "_law_mirrored" = true) (k38 : PySem.W.keepIn K (.ref f38) = true)
    (a39 : PySem.W.nsIn K mainGlobals "law" = some (some (.ref f39)))
    (l39 : K.lookup f39 = some ⟨oc39, od39, .func (PySem.W.fnOf "law" "law" (defArgs sLaw) (defBody sLaw) (defScope sLaw) .none kV39 dc39 pm39 an39 cd39 ct39), sl39⟩)
    (c39 : PySem.W.codeIn K cd39 "law" = true) (k39 : PySem.W.keepIn K (.ref f39) = true)
    (z_int : PySem.W.nsIn K mainGlobals "int" = some none)
    (z_len : PySem.W.nsIn K mainGlobals "len" = some none)
    (z_sum : PySem.W.nsIn K mainGlobals "sum" = some none)
    (z_max : PySem.W.nsIn K mainGlobals "max" = some none)
    (z_min : PySem.W.nsIn K mainGlobals "min" = some none)
    (z_range : PySem.W.nsIn K mainGlobals "range" = some none)
    (z_tuple : PySem.W.nsIn K mainGlobals "tuple" = some none)
    (z_list : PySem.W.nsIn K mainGlobals "list" = some none)
    (z_repr : PySem.W.nsIn K mainGlobals "repr" = some none)
    (z_isinstance : PySem.W.nsIn K mainGlobals "isinstance" = some none)
    (z_enumerate : PySem.W.nsIn K mainGlobals "enumerate" = some none)
    (z_reversed : PySem.W.nsIn K mainGlobals "reversed" = some none)
    (z_sorted : PySem.W.nsIn K mainGlobals "sorted" = some none)
    (z_str : PySem.W.nsIn K mainGlobals "str" = some none)
    (z_all : PySem.W.nsIn K mainGlobals "all" = some none)
    (z_zip : PySem.W.nsIn K mainGlobals "zip" = some none)
    (z_set : PySem.W.nsIn K mainGlobals "set" = some none)
    (z_bool : PySem.W.nsIn K mainGlobals "bool" = some none)
    (aM : PySem.W.nsIn K mainGlobals "MARKS" = some (some (.ref fM)))
    (lM : K.lookup fM = some ⟨.type "tuple", dM, .seq #[.str "a" t1, .str "b" t2, .str "c" t3, .str "d" t4, .str "e" t5, .str "f" t6, .str "g" t7, .str "h" t8] nM, sM⟩)
    (aN : PySem.W.nsIn K mainGlobals "MOST_NODES" = some (some (.int 20000 tN)))
    (qpg : PySem.W.nsIn K mainGlobals "BadPlace" = some (some (.ref Cp)))
    (qpx : PySem.W.excIn K Cp [.type "ValueError", .type "Exception", .type "BaseException", .type "object"] "ValueError.__new__" = true)
    (qpk : PySem.W.keepIn K (.ref Cp) = true)
    (qpb : PySem.W.subIn K (.ref Cp) (.type "BaseException") = some true)
    (qpt : PySem.W.typeIn K (.ref Cp) = some (.type "type"))
    (qpi : PySem.W.isClsIn K Cp = true)
    (qps : PySem.W.subIn K (.ref Cp) (.ref Cp) = some true) :
    ∃ fd : FuncData, (∀ (s : Shared) (v : Value), BindsTo s fd ⟨[v], []⟩ [("script", v)]) ∧ ∀ base : Heap, K.In base → base.Ns mainGlobals mg → GOk l.prog w K mg base CX0 10 fa fd ["script"] (spLaw K) := by
  have e := hfa.symm.trans (PySem.W.mg_of X G a39)
  cases e
  have T : Bl mg := { int := PySem.W.mg_none_of X G z_int, len := PySem.W.mg_none_of X G z_len, sum := PySem.W.mg_none_of X G z_sum, max := PySem.W.mg_none_of X G z_max, min := PySem.W.mg_none_of X G z_min, range := PySem.W.mg_none_of X G z_range, tuple := PySem.W.mg_none_of X G z_tuple, list := PySem.W.mg_none_of X G z_list, repr := PySem.W.mg_none_of X G z_repr, isinstance := PySem.W.mg_none_of X G z_isinstance, enumerate := PySem.W.mg_none_of X G z_enumerate, reversed := PySem.W.mg_none_of X G z_reversed, sorted := PySem.W.mg_none_of X G z_sorted, str := PySem.W.mg_none_of X G z_str, all := PySem.W.mg_none_of X G z_all, zip := PySem.W.mg_none_of X G z_zip, set := PySem.W.mg_none_of X G z_set, bool := PySem.W.mg_none_of X G z_bool }
  have hm : MarksAt K mg := ⟨fM, PySem.W.mg_of X G aM, fun H => .inr ⟨_, _, _, lM, rfl, rfl, by show 8 ≤ sizeLine; decide,
    .cons ⟨_, rfl⟩ (.cons ⟨_, rfl⟩ (.cons ⟨_, rfl⟩ (.cons ⟨_, rfl⟩ (.cons ⟨_, rfl⟩ (.cons ⟨_, rfl⟩ (.cons ⟨_, rfl⟩ (.cons ⟨_, rfl⟩ .nil)))))))⟩⟩
  have hM : MostAt mg := ⟨tN, PySem.W.mg_of X G aN⟩
  have F0 := fun_mk (st := sWhole) l0 c0 k0
  have g0 := PySem.W.mg_of X G a0
  have b0 := F0.binds (ps := ["thing"]) fun _ _ _ _ _ _ us hl => match us, hl with | [_], _ => rfl
  let Dw : Dn K mg "is_whole" sWhole ["thing"] := ⟨_, _, F0, g0, b0⟩
  have F1 := fun_mk (st := sNumber) l1 c1 k1
  have g1 := PySem.W.mg_of X G a1
  have b1 := F1.binds (ps := ["thing"]) fun _ _ _ _ _ _ us hl => match us, hl with | [_], _ => rfl
  let Dnu : Dn K mg "is_number" sNumber ["thing"] := ⟨_, _, F1, g1, b1⟩
  have F2 := fun_mk (st := sMark) l2 c2 k2
  have g2 := PySem.W.mg_of X G a2
  have b2 := F2.binds (ps := ["thing"]) fun _ _ _ _ _ _ us hl => match us, hl with | [_], _ => rfl
  let Dm : Dn K mg "is_mark" sMark ["thing"] := ⟨_, _, F2, g2, b2⟩
  have F3 := fun_mk (st := sIsDoc) l3 c3 k3
  have g3 := PySem.W.mg_of X G a3
  have b3 := F3.binds (ps := ["thing"]) fun _ _ _ _ _ _ us hl => match us, hl with | [_], _ => rfl
  let Di : Dn K mg "is_document" sIsDoc ["thing"] := ⟨_, _, F3, g3, b3⟩
  have F4 := fun_mk (st := sEntry) l4 c4 k4
  have g4 := PySem.W.mg_of X G a4
  have b4 := F4.binds (ps := ["thing"]) fun _ _ _ _ _ _ us hl => match us, hl with | [_], _ => rfl
  let De : Dn K mg "_is_entry" sEntry ["thing"] := ⟨_, _, F4, g4, b4⟩
  have F5 := fun_mk (st := sChkDoc) l5 c5 k5
  have g5 := PySem.W.mg_of X G a5
  have b5 := F5.binds (ps := ["thing"]) fun _ _ _ _ _ _ us hl => match us, hl with | [_], _ => rfl
  let Dk : Dn K mg "check_document" sChkDoc ["thing"] := ⟨_, _, F5, g5, b5⟩
  have F6 := fun_mk (st := sFeed) l6 c6 k6
  have g6 := PySem.W.mg_of X G a6
  have b6 := F6.binds (ps := ["script", "k"]) fun _ _ _ _ _ _ us hl => match us, hl with | [_, _], _ => rfl
  let Dfe : Dn K mg "_law_feed" sFeed ["script", "k"] := ⟨_, _, F6, g6, b6⟩
  have F7 := fun_mk (st := sDraw) l7 c7 k7
  have g7 := PySem.W.mg_of X G a7
  have b7 := F7.binds (ps := ["feed", "many"]) fun _ _ _ _ _ _ us hl => match us, hl with | [_, _], _ => rfl
  let Dd : Dn K mg "_law_draw" sDraw ["feed", "many"] := ⟨_, _, F7, g7, b7⟩
  have F8 := fun_mk (st := sOne) l8 c8 k8
  have g8 := PySem.W.mg_of X G a8
  have b8 := F8.binds (ps := ["feed", "things"]) fun _ _ _ _ _ _ us hl => match us, hl with | [_, _], _ => rfl
  let D1 : Dn K mg "_law_one" sOne ["feed", "things"] := ⟨_, _, F8, g8, b8⟩
  have F9 := fun_mk (st := sDoc) l9 c9 k9
  have g9 := PySem.W.mg_of X G a9
  have b9 := F9.binds (ps := ["feed", "most"]) fun _ _ _ _ _ _ us hl => match us, hl with | [_, _], _ => rfl
  let Dc : Dn K mg "_law_document" sDoc ["feed", "most"] := ⟨_, _, F9, g9, b9⟩
  have F10 := fun_mk (st := sGrown) l10 c10 k10
  have g10 := PySem.W.mg_of X G a10
  have b10 := F10.binds (ps := ["cells"]) fun _ _ _ _ _ _ us hl => match us, hl with | [_], _ => rfl
  let Dg : Dn K mg "_law_grown" sGrown ["cells"] := ⟨_, _, F10, g10, b10⟩
  have F11 := fun_mk (st := sDrawn) l11 c11 k11
  have g11 := PySem.W.mg_of X G a11
  have b11 := F11.binds (ps := ["feed", "script", "most"]) fun _ _ _ _ _ _ us hl => match us, hl with | [_, _, _], _ => rfl
  let Ddr : Dn K mg "_law_drawn" sDrawn ["feed", "script", "most"] := ⟨_, _, F11, g11, b11⟩
  have F12 := fun_mk (st := sParents) l12 c12 k12
  have g12 := PySem.W.mg_of X G a12
  have b12 := F12.binds (ps := ["document"]) fun _ _ _ _ _ _ us hl => match us, hl with | [_], _ => rfl
  let Dp : Dn K mg "parents_in" sParents ["document"] := ⟨_, _, F12, g12, b12⟩
  have F13 := fun_mk (st := sRows) l13 c13 k13
  have g13 := PySem.W.mg_of X G a13
  have b13 := F13.binds (ps := ["document"]) fun _ _ _ _ _ _ us hl => match us, hl with | [_], _ => rfl
  let Drs : Dn K mg "rows_in" sRows ["document"] := ⟨_, _, F13, g13, b13⟩
  have F14 := fun_mk (st := sNode) l14 c14 k14
  have g14 := PySem.W.mg_of X G a14
  have b14 := F14.binds (ps := ["document", "thing"]) fun _ _ _ _ _ _ us hl => match us, hl with | [_, _], _ => rfl
  let Dno : Dn K mg "is_node" sNode ["document", "thing"] := ⟨_, _, F14, g14, b14⟩
  have F15 := fun_mk (st := sChkNode) l15 c15 k15
  have g15 := PySem.W.mg_of X G a15
  have b15 := F15.binds (ps := ["document", "thing"]) fun _ _ _ _ _ _ us hl => match us, hl with | [_, _], _ => rfl
  let Dck : Dn K mg "check_node" sChkNode ["document", "thing"] := ⟨_, _, F15, g15, b15⟩
  have F16 := fun_mk (st := sBelow) l16 c16 k16
  have g16 := PySem.W.mg_of X G a16
  have b16 := F16.binds (ps := ["document", "parent"]) fun _ _ _ _ _ _ us hl => match us, hl with | [_, _], _ => rfl
  let Db : Dn K mg "depth_below" sBelow ["document", "parent"] := ⟨_, _, F16, g16, b16⟩
  have F17 := fun_mk (st := sFirst) l17 c17 k17
  have g17 := PySem.W.mg_of X G a17
  have b17 := F17.binds (ps := ["parent"]) fun _ _ _ _ _ _ us hl => match us, hl with | [_], _ => rfl
  let Df : Dn K mg "first_below" sFirst ["parent"] := ⟨_, _, F17, g17, b17⟩
  have F18 := fun_mk (st := sRow) l18 c18 k18
  have g18 := PySem.W.mg_of X G a18
  have b18 := F18.binds (ps := ["document", "parent"]) fun _ _ _ _ _ _ us hl => match us, hl with | [_, _], _ => rfl
  let Dr : Dn K mg "row_of" sRow ["document", "parent"] := ⟨_, _, F18, g18, b18⟩
  have F19 := fun_mk (st := sEndOf) l19 c19 k19
  have g19 := PySem.W.mg_of X G a19
  have b19 := F19.binds (ps := ["document", "node"]) fun _ _ _ _ _ _ us hl => match us, hl with | [_, _], _ => rfl
  let Deo : Dn K mg "end_of" sEndOf ["document", "node"] := ⟨_, _, F19, g19, b19⟩
  have F20 := fun_mk (st := sShift) l20 c20 k20
  have g20 := PySem.W.mg_of X G a20
  have b20 := F20.binds (ps := ["entries", "by"]) fun _ _ _ _ _ _ us hl => match us, hl with | [_, _], _ => rfl
  let Dsh : Dn K mg "shifted" sShift ["entries", "by"] := ⟨_, _, F20, g20, b20⟩
  have F21 := fun_mk (st := sPieceIn) l21 c21 k21
  have g21 := PySem.W.mg_of X G a21
  have b21 := F21.binds (ps := ["document", "node"]) fun _ _ _ _ _ _ us hl => match us, hl with | [_, _], _ => rfl
  let Dpi : Dn K mg "piece_in" sPieceIn ["document", "node"] := ⟨_, _, F21, g21, b21⟩
  have F22 := fun_mk (st := sPlaceIn) l22 c22 k22
  have g22 := PySem.W.mg_of X G a22
  have b22 := F22.binds (ps := ["document", "node"]) fun _ _ _ _ _ _ us hl => match us, hl with | [_, _], _ => rfl
  let Dpl : Dn K mg "place_in" sPlaceIn ["document", "node"] := ⟨_, _, F22, g22, b22⟩
  have F23 := fun_mk (st := sPars) l23 c23 k23
  have g23 := PySem.W.mg_of X G a23
  have b23 := F23.binds (ps := ["document"]) fun _ _ _ _ _ _ us hl => match us, hl with | [_], _ => rfl
  let Dpa : Dn K mg "parents" sPars ["document"] := ⟨_, _, F23, g23, b23⟩
  have F24 := fun_mk (st := sSizes) l24 c24 k24
  have g24 := PySem.W.mg_of X G a24
  have b24 := F24.binds (ps := ["document"]) fun _ _ _ _ _ _ us hl => match us, hl with | [_], _ => rfl
  let Dsz : Dn K mg "sizes" sSizes ["document"] := ⟨_, _, F24, g24, b24⟩
  have F25 := fun_mk (st := sKids) l25 c25 k25
  have g25 := PySem.W.mg_of X G a25
  have b25 := F25.binds (ps := ["document", "node"]) fun _ _ _ _ _ _ us hl => match us, hl with | [_, _], _ => rfl
  let Dki : Dn K mg "children" sKids ["document", "node"] := ⟨_, _, F25, g25, b25⟩
  have F26 := fun_mk (st := sPlaceOf) l26 c26 k26
  have g26 := PySem.W.mg_of X G a26
  have b26 := F26.binds (ps := ["document", "node"]) fun _ _ _ _ _ _ us hl => match us, hl with | [_, _], _ => rfl
  let Dplo : Dn K mg "place_of" sPlaceOf ["document", "node"] := ⟨_, _, F26, g26, b26⟩
  have F27 := fun_mk (st := sPiece) l27 c27 k27
  have g27 := PySem.W.mg_of X G a27
  have b27 := F27.binds (ps := ["document", "node"]) fun _ _ _ _ _ _ us hl => match us, hl with | [_, _], _ => rfl
  let Dpo : Dn K mg "piece_of" sPiece ["document", "node"] := ⟨_, _, F27, g27, b27⟩
  have F28 := fun_mk (st := sNodeAt) l28 c28 k28
  have g28 := PySem.W.mg_of X G a28
  have b28 := F28.binds (ps := ["document", "place"]) fun _ _ _ _ _ _ us hl => match us, hl with | [_, _], _ => rfl
  let Dna : Dn K mg "node_at" sNodeAt ["document", "place"] := ⟨_, _, F28, g28, b28⟩
  have F29 := fun_mk (st := sWrite) l29 c29 k29
  have g29 := PySem.W.mg_of X G a29
  have b29 := F29.binds (ps := ["document"]) fun _ _ _ _ _ _ us hl => match us, hl with | [_], _ => rfl
  let Dwr : Dn K mg "write_document" sWrite ["document"] := ⟨_, _, F29, g29, b29⟩
  have F30 := fun_mk (st := sRead) l30 c30 k30
  have g30 := PySem.W.mg_of X G a30
  have b30 := F30.binds (ps := ["text"]) fun _ _ _ _ _ _ us hl => match us, hl with | [_], _ => rfl
  let Drd : Dn K mg "read_document" sRead ["text"] := ⟨_, _, F30, g30, b30⟩
  have F31 := fun_mk (st := sFlip) l31 c31 k31
  have g31 := PySem.W.mg_of X G a31
  have b31 := F31.binds (ps := ["document"]) fun _ _ _ _ _ _ us hl => match us, hl with | [_], _ => rfl
  let Dfl : Dn K mg "flipped" sFlip ["document"] := ⟨_, _, F31, g31, b31⟩
  have F32 := fun_mk (st := sDepthOf) l32 c32 k32
  have g32 := PySem.W.mg_of X G a32
  have b32 := F32.binds (ps := ["document"]) fun _ _ _ _ _ _ us hl => match us, hl with | [_], _ => rfl
  let Ddo : Dn K mg "depth_of" sDepthOf ["document"] := ⟨_, _, F32, g32, b32⟩
  have F33 := fun_mk (st := sBreadthOf) l33 c33 k33
  have g33 := PySem.W.mg_of X G a33
  have b33 := F33.binds (ps := ["document"]) fun _ _ _ _ _ _ us hl => match us, hl with | [_], _ => rfl
  let Dbo : Dn K mg "breadth_of" sBreadthOf ["document"] := ⟨_, _, F33, g33, b33⟩
  have F34 := fun_mk (st := sLRow) l34 c34 k34
  have g34 := PySem.W.mg_of X G a34
  have b34 := F34.binds (ps := ["document", "holder"]) fun _ _ _ _ _ _ us hl => match us, hl with | [_, _], _ => rfl
  let Dlr : Dn K mg "_law_row" sLRow ["document", "holder"] := ⟨_, _, F34, g34, b34⟩
  have F35 := fun_mk (st := sLRows) l35 c35 k35
  have g35 := PySem.W.mg_of X G a35
  have b35 := F35.binds (ps := ["document"]) fun _ _ _ _ _ _ us hl => match us, hl with | [_], _ => rfl
  let Dlrs : Dn K mg "_law_rows" sLRows ["document"] := ⟨_, _, F35, g35, b35⟩
  have F36 := fun_mk (st := sLWalked) l36 c36 k36
  have g36 := PySem.W.mg_of X G a36
  have b36 := F36.binds (ps := ["document", "rows"]) fun _ _ _ _ _ _ us hl => match us, hl with | [_, _], _ => rfl
  let Dlw : Dn K mg "_law_walked" sLWalked ["document", "rows"] := ⟨_, _, F36, g36, b36⟩
  have F37 := fun_mk (st := sLPieces) l37 c37 k37
  have g37 := PySem.W.mg_of X G a37
  have b37 := F37.binds (ps := ["document", "rows"]) fun _ _ _ _ _ _ us hl => match us, hl with | [_, _], _ => rfl
  let Dlp : Dn K mg "_law_pieces" sLPieces ["document", "rows"] := ⟨_, _, F37, g37, b37⟩
  have F38 := fun_mk (st := sLMirrored) l38 c38 k38
  have g38 := PySem.W.mg_of X G a38
  have b38 := F38.binds (ps := ["document", "rows"]) fun _ _ _ _ _ _ us hl => match us, hl with | [_, _], _ => rfl
  let Dlm : Dn K mg "_law_mirrored" sLMirrored ["document", "rows"] := ⟨_, _, F38, g38, b38⟩
  have F39 := fun_mk (st := sLaw) l39 c39 k39
  have g39 := PySem.W.mg_of X G a39
  have b39 := F39.binds (ps := ["script"]) fun _ _ _ _ _ _ us hl => match us, hl with | [_], _ => rfl
  let Dl : Dn K mg "law" sLaw ["script"] := ⟨_, _, F39, g39, b39⟩
  let ep : Err K mg "BadPlace" := ⟨Cp, PySem.W.mg_of X G qpg, qpx, qpk, qpb, qpt, qpi, qps⟩

  exact ⟨_, fun s v => .of_eq rfl, fun base _ _ => ok_law ⟨T, hm, hM, Dw, Dnu, Dm, De, Di, Dk⟩ ep Dp Drs Dno Dck Db Df Dr Deo Dsh Dpi Dpl Dpa Dsz Dki Dplo Dpo Dna Dwr Drd Dfl Ddo Dbo Dd D1 Dfe Dg Dc Ddr Dlr Dlrs Dlw Dlp Dlm Dl⟩
theorem walk {l : PySem.W.OpenLaw} {q : Program} {loose : List Str} {XP : (Str → Option Value) → Heap → Prop} {YP : World → Heap → Prop} {d : DefRec} {K : Params → PySem.W.Frag} (hn : l.most = some 63) (hdf : d.params.defaults = [])
    (hY : ∀ (w : World) (h : Heap), YP w h → (K w.params).In h)
    (F : ∀ (w : World) (mg : Str → Option Value) (fa : Addr) (h : Heap), (K w.params).In h → h.Ns mainGlobals mg → mg d.name = some (.ref fa) →
      ∃ fd : FuncData, (∀ (s : Shared) (u : Value), BindsTo s fd ⟨[u], []⟩ [("script", u)]) ∧ ∀ base : Heap, (K w.params).In base → base.Ns mainGlobals mg → GOk l.prog w (K w.params) mg base CX0 10 fa fd ["script"] (spLaw (K w.params))) :
    PySem.W.WalkO q loose XP YP l.row.toRowW d [] (fun f vs => PySem.call f vs) :=
  walk_top (n := 63) (k := 10) (x := "script") (sp := fun w => spLaw (K w.params)) hn (by decide) hdf ⟨rfl, by decide, by decide⟩ hY F
    fun w H a ns hl hb only sq => ⟨a, ns, rfl, ScrAt.of only sq, hl, hb, fun _ => rfl⟩
end W

open PySem PySem.W PyProof.Rows in
set_option maxRecDepth 100000 in
set_option maxHeartbeats 0 in
theorem PySem.Challenge.cw_everymatch_k11_whole_documents_walked_holds : PySem.Challenge.rw_everymatch_k11_whole_documents_walked.Holds := by
  w_on; o_law; k_head; (case hw => w_witness2)
  k_fill
  refine W.walk (l := PySem.Challenge.rw_everymatch_k11_whole_documents_walked) rfl rfl (fun w h Y => PySem.W.kIn_of Y) ?F
  case F =>
    intro w mg fa h KX G hmg
    refine' W.all_mk KX G hmg ?a0 ?l0 ?c0 ?k0 ?a1 ?l1 ?c1 ?k1 ?a2 ?l2 ?c2 ?k2 ?a3 ?l3 ?c3 ?k3 ?a4 ?l4 ?c4 ?k4 ?a5 ?l5 ?c5 ?k5 ?a6 ?l6 ?c6 ?k6 ?a7 ?l7 ?c7 ?k7 ?a8 ?l8 ?c8 ?k8 ?a9 ?l9 ?c9 ?k9 ?a10 ?l10 ?c10 ?k10 ?a11 ?l11 ?c11 ?k11 ?a12 ?l12 ?c12 ?k12 ?a13 ?l13 ?c13 ?k13 ?a14 ?l14 ?c14 ?k14 ?a15 ?l15 ?c15 ?k15 ?a16 ?l16 ?c16 ?k16 ?a17 ?l17 ?c17 ?k17 ?a18 ?l18 ?c18 ?k18 ?a19 ?l19 ?c19 ?k19 ?a20 ?l20 ?c20 ?k20 ?a21 ?l21 ?c21 ?k21 ?a22 ?l22 ?c22 ?k22 ?a23 ?l23 ?c23 ?k23 ?a24 ?l24 ?c24 ?k24 ?a25 ?l25 ?c25 ?k25 ?a26 ?l26 ?c26 ?k26 ?a27 ?l27 ?c27 ?k27 ?a28 ?l28 ?c28 ?k28 ?a29 ?l29 ?c29 ?k29 ?a30 ?l30 ?c30 ?k30 ?a31 ?l31 ?c31 ?k31 ?a32 ?l32 ?c32 ?k32 ?a33 ?l33 ?c33 ?k33 ?a34 ?l34 ?c34 ?k34 ?a35 ?l35 ?c35 ?k35 ?a36 ?l36 ?c36 ?k36 ?a37 ?l37 ?c37 ?k37 ?a38 ?l38 ?c38 ?k38 ?a39 ?l39 ?c39 ?k39 ?z_int ?z_len ?z_sum ?z_max ?z_min ?z_range ?z_tuple ?z_list ?z_repr ?z_isinstance ?z_enumerate ?z_reversed ?z_sorted ?z_str ?z_all ?z_zip ?z_set ?z_bool ?aM ?lM ?aN ?qpg ?qpx ?qpk ?qpb ?qpt ?qpi ?qps
    (case a0 => k_is)
    (case l0 => k_is)
    (case c0 => k_is)
    (case k0 => k_is)
    (case a1 => k_is)
    (case l1 => k_is)
    (case c1 => k_is)
    (case k1 => k_is)
    (case a2 => k_is)
    (case l2 => k_is)
    (case c2 => k_is)
    (case k2 => k_is)
    (case a3 => k_is)
    (case l3 => k_is)
    (case c3 => k_is)
    (case k3 => k_is)
    (case a4 => k_is)
    (case l4 => k_is)
    (case c4 => k_is)
    (case k4 => k_is)
    (case a5 => k_is)
    (case l5 => k_is)
    (case c5 => k_is)
    (case k5 => k_is)
    (case a6 => k_is)
    (case l6 => k_is)
    (case c6 => k_is)
    (case k6 => k_is)
    (case a7 => k_is)
    (case l7 => k_is)
    (case c7 => k_is)
    (case k7 => k_is)
    (case a8 => k_is)
    (case l8 => k_is)
    (case c8 => k_is)
    (case k8 => k_is)
    (case a9 => k_is)
    (case l9 => k_is)
    (case c9 => k_is)
    (case k9 => k_is)
    (case a10 => k_is)
    (case l10 => k_is)
    (case c10 => k_is)
    (case k10 => k_is)
    (case a11 => k_is)
    (case l11 => k_is)
    (case c11 => k_is)
    (case k11 => k_is)
    (case a12 => k_is)
    (case l12 => k_is)
    (case c12 => k_is)
    (case k12 => k_is)
    (case a13 => k_is)
    (case l13 => k_is)
    (case c13 => k_is)
    (case k13 => k_is)
    (case a14 => k_is)
    (case l14 => k_is)
    (case c14 => k_is)
    (case k14 => k_is)
    (case a15 => k_is)
    (case l15 => k_is)
    (case c15 => k_is)
    (case k15 => k_is)
    (case a16 => k_is)
    (case l16 => k_is)
    (case c16 => k_is)
    (case k16 => k_is)
    (case a17 => k_is)
    (case l17 => k_is)
    (case c17 => k_is)
    (case k17 => k_is)
    (case a18 => k_is)
    (case l18 => k_is)
    (case c18 => k_is)
    (case k18 => k_is)
    (case a19 => k_is)
    (case l19 => k_is)
    (case c19 => k_is)
    (case k19 => k_is)
    (case a20 => k_is)
    (case l20 => k_is)
    (case c20 => k_is)
    (case k20 => k_is)
    (case a21 => k_is)
    (case l21 => k_is)
    (case c21 => k_is)
    (case k21 => k_is)
    (case a22 => k_is)
    (case l22 => k_is)
    (case c22 => k_is)
    (case k22 => k_is)
    (case a23 => k_is)
    (case l23 => k_is)
    (case c23 => k_is)
    (case k23 => k_is)
    (case a24 => k_is)
    (case l24 => k_is)
    (case c24 => k_is)
    (case k24 => k_is)
    (case a25 => k_is)
    (case l25 => k_is)
    (case c25 => k_is)
    (case k25 => k_is)
    (case a26 => k_is)
    (case l26 => k_is)
    (case c26 => k_is)
    (case k26 => k_is)
    (case a27 => k_is)
    (case l27 => k_is)
    (case c27 => k_is)
    (case k27 => k_is)
    (case a28 => k_is)
    (case l28 => k_is)
    (case c28 => k_is)
    (case k28 => k_is)
    (case a29 => k_is)
    (case l29 => k_is)
    (case c29 => k_is)
    (case k29 => k_is)
    (case a30 => k_is)
    (case l30 => k_is)
    (case c30 => k_is)
    (case k30 => k_is)
    (case a31 => k_is)
    (case l31 => k_is)
    (case c31 => k_is)
    (case k31 => k_is)
    (case a32 => k_is)
    (case l32 => k_is)
    (case c32 => k_is)
    (case k32 => k_is)
    (case a33 => k_is)
    (case l33 => k_is)
    (case c33 => k_is)
    (case k33 => k_is)
    (case a34 => k_is)
    (case l34 => k_is)
    (case c34 => k_is)
    (case k34 => k_is)
    (case a35 => k_is)
    (case l35 => k_is)
    (case c35 => k_is)
    (case k35 => k_is)
    (case a36 => k_is)
    (case l36 => k_is)
    (case c36 => k_is)
    (case k36 => k_is)
    (case a37 => k_is)
    (case l37 => k_is)
    (case c37 => k_is)
    (case k37 => k_is)
    (case a38 => k_is)
    (case l38 => k_is)
    (case c38 => k_is)
    (case k38 => k_is)
    (case a39 => k_is)
    (case l39 => k_is)
    (case c39 => k_is)
    (case k39 => k_is)
    (case z_int => k_is)
    (case z_len => k_is)
    (case z_sum => k_is)
    (case z_max => k_is)
    (case z_min => k_is)
    (case z_range => k_is)
    (case z_tuple => k_is)
    (case z_list => k_is)
    (case z_repr => k_is)
    (case z_isinstance => k_is)
    (case z_enumerate => k_is)
    (case z_reversed => k_is)
    (case z_sorted => k_is)
    (case z_str => k_is)
    (case z_all => k_is)
    (case z_zip => k_is)
    (case z_set => k_is)
    (case z_bool => k_is)
    (case aM => k_is)
    (case lM => k_is)
    (case aN => k_is)
    (case qpg => k_is)
    (case qpx => k_exc)
    (case qpk => k_is)
    (case qpb => k_is)
    (case qpt => k_is)
    (case qpi => k_is)
    (case qps => first | rfl | k_is)
