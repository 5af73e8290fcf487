import PyProof.Rows.All
import Wide.All
import OpenK.AllK
import Wide.FinOn
import HandS.ForMost
import HandS.EndBits
import HandS.WordsExc
import HandS.Wide
import HandS.WideBits
import HandS.IsInst
import KE.GoesMore
import KE.GoesEnum
import HandS.Flow
import HandS.SortKw
import KE.DataMinMax
import HandS.FltList
import KE.KDictCopyH
import HandS.Text
import PyProof.EnumMake
import HandS.SortInts
import HandS.TupLe
import HandS.ForExc
import HandS.TryMany
import HandS.TryOnly
import HandS.MakeKwOnly
import HandS.Star
import KE.KEqDict
import HandS.Style
import KE.KExcSuper
import HandS.ExcInit
import HandS.ExcField
import HandS.ExcSuper
import HandS.Nested
import HandS.ClsMeth
import HandS.Codes
import HandS.RevRange
import HandS.TupAny
import HandS.Conv
import HandS.Walk
import HandS.SetFor
import HandS.FStr
import PySem.Challenge.RW_everymatch_k05_first_wrong_sign
set_option Elab.async false
set_option linter.all false
set_option maxRecDepth 100000
set_option maxHeartbeats 4000000
/-! ## Defs that run where no repr is under way, and repr of plain data -/
namespace GX
open PySem PySem.Spec PyProof.Rows L2

/-- as FnOk, for callers of whom no repr is under way -/
structure GOk (P : Program) (w : World) (K : PySem.W.Frag) (mg : Str → Option Value) (base : Heap)
    (cx : CXT) (k : Nat) (f : Addr) (fd : FuncData) (ps : List Str) (sp : Sp) : Prop where
  many : ∀ vs H Q E, sp vs H Q E → vs.length = ps.length
  goes : ∀ (A : Around) (outer : List Env) (s : Shared) (H : Hp) (args : Args) (us : List Value) (vs : List V)
    (Q : VK) (E : XK), A.guards = some [] → Room k A → Env0 P w K mg base A outer s H →
    BindsTo s fd args (ps.zip us) → Vals vs us → sp vs H Q E →
    codeAny (model P w) A (.call (.ref f) args) (CR cx outer P w H s Q E) s

section
variable {P : Program} {w : World} {K : PySem.W.Frag} {mg : Str → Option Value} {base : Heap}

theorem GOk.of {cx : CXT} {k : Nat} {f : Addr} {fd : FuncData} {ps : List Str} {sp : Sp}
    (F : FnOk P w K mg base cx k f fd ps sp) : GOk P w K mg base cx k f fd ps sp :=
  ⟨F.len, fun A outer s H args us vs Q E _ hr => F.run A outer s H args us vs Q E hr⟩

/-- the rule for a def whose body may call repr -/
theorem gok {cx : CXT} {x qual : Str} {st : Stmt} {f : Addr} {fd : FuncData} {N ps : List Str} {k : Nat} {sp : Sp}
    (F : Fun K x qual st f fd) (S : FnScope N ps (defScope st))
    (many : ∀ vs H Q E, sp vs H Q E → vs.length = ps.length)
    (body : ∀ (cdv : Value) (A : Around) (outer : List Env) (s : Shared) (H : Hp) (vs : List V) (Q : VK) (E : XK),
      (A.deeper (envOfC qual (defScope st) s.heap.objs.size f cdv)).guards = some [] →
      Room k (A.deeper (envOfC qual (defScope st) s.heap.objs.size f cdv)) → sp vs H Q E →
      ∃ t, PSs (cxOf cx P w K mg base N qual (defScope st) f cdv A outer s H E) (defBody st) t ∧
        t { nx := fun _ H' => Q .non H', rt := Q } (start N vs) H) :
    GOk P w K mg base cx (k + 1) f fd ps sp := by
  obtain ⟨oc, od, kV, doc, pm, an, cdv, ct, osl, rfl, lk, hcd⟩ := F.ex
  refine ⟨many, fun A outer s H args us vs Q E hgd room e0 bnd rel want => ?_⟩
  have n1 := many _ _ _ _ want
  have inK : K.In s.heap := e0.mod.kin.keeps fun b o q => (e0.bs b o q).1
  have free : s.heap.NoLimit := e0.mod.nolimit.keeps fun b o q => (e0.bs b o q).1
  have kinds : ∀ y ∈ ps.zip us, (defScope st).names.lookup y.1 = some .local ∨
      ((defScope st).names.lookup y.1 = some .cell ∧
        ((cellsFrom (s.heap.objs.size + 1) (defScope st).names []).lookup y.1).isSome = true) := by
    rintro ⟨n, v⟩ hy
    rcases S.par n (List.of_mem_zip hy).1 with q | q
    · exact Or.inl q
    · exact Or.inr ⟨q, PySem.W.cellsFrom_some _ _ _ (.inl q)⟩
  refine codeAny_call_function room.depth (inK _ _ lk) rfl S.co S.gen rfl
    (PySem.W.codeRec_of inK hcd) (bnd _ _ _ _ ?_)
  refine wpAny_newFunctionEnv_cells S.kind kinds fun env same s1 x => ?_
  subst same
  refine ⟨free.keeps x.toInCall.keep, codeAny_func ?_⟩
  obtain ⟨t, ht, hq⟩ := body cdv A outer s H vs Q E hgd (room.deeper _) want
  have inv := inv_start (E := E) (CX := cx) S room.hd e0 n1 rel x
  refine wpAny_mono (ht.run [] s1 (start N vs) H _ inv hq) (fun fl s' hs => ?_) fun e s' hs => hs
  cases fl with
  | ret u =>
    obtain ⟨v, σ', H', J, rv, q⟩ := hs
    exact ⟨v, H', J.os, J.bare, J.base, J.hok, rv, q⟩
  | next =>
    obtain ⟨σ', H', J, q⟩ := hs
    exact ⟨V.non, H', J.os, J.bare, J.base, J.hok, rfl, q⟩
  | brk =>
    obtain ⟨_, _, _, q⟩ := hs
    exact False.elim q
  | cont =>
    obtain ⟨_, _, _, q⟩ := hs
    exact False.elim q

/-- .. of which no exception leaves -/
theorem gok0 {x qual : Str} {st : Stmt} {f : Addr} {fd : FuncData} {N ps : List Str} {k : Nat} {sp : Sp}
    (F : Fun K x qual st f fd) (S : FnScope N ps (defScope st))
    (many : ∀ vs H Q E, sp vs H Q E → vs.length = ps.length)
    (body : ∀ (cdv : Value) (A : Around) (outer : List Env) (s : Shared) (H : Hp) (vs : List V) (Q : VK) (E : XK),
      (A.deeper (envOfC qual (defScope st) s.heap.objs.size f cdv)).guards = some [] →
      Room k (A.deeper (envOfC qual (defScope st) s.heap.objs.size f cdv)) → sp vs H Q E →
      ∃ t, PSs (cxOf CX0 P w K mg base N qual (defScope st) f cdv A outer s H E).nox (defBody st) t ∧
        t { nx := fun _ H' => Q .non H', rt := Q } (start N vs) H) :
    GOk P w K mg base CX0 (k + 1) f fd ps sp :=
  gok F S many fun cdv A outer s H vs Q E hgd room want =>
    let ⟨t, h, q⟩ := body cdv A outer s H vs Q E hgd room want
    ⟨t, h.nox, q⟩
end

section
variable {X : Cx}
/-- a call of such a def -/
theorem ge_call {cx : CXT} {k : Nat} {f : Addr} {fd : FuncData} {ps : List Str} {sp : Sp} {dvs : List V} {ds : List Value}
    {E : XK} {x : Str} {p pos : Pos} {e : Expr} {es : List Expr} {t : TA}
    (F : GOk X.prog X.w X.K X.mg X.base cx k f fd ps sp) (hgd : X.A.guards = some []) (room : Room k X.A)
    (hg : Gl X x) (hm : X.mg x = some (.ref f)) (hk : PySem.W.keepIn X.K (.ref f) = true)
    (hb : Binds X.K fd ps ds) (hd : Vals dvs ds) (hx : Passes cx X E) (ha : PA X (e :: es) t)
    (hdb : (x == ("__debug__" : Str)) = false := by decide)
    (he : starEach (e :: es) X.env = (false, eval e X.env) :: starEach es X.env := by rfl)
    (hpl : (backTo pos (starEach es X.env)).any (·.1) = false := by rfl) :
    PE X (.Call (.Name x p) (e :: es) [] pos) (tCall sp dvs E t) := by
  refine ⟨fun pins s σ H Q I h => wpAny_Call_Name_kw (ld_glob I hg hm ?_ hdb)⟩
  refine PySem.W.callWith_K (h₀ := X.base) I.ok.mod.kin hk
    (thn (ha.run pos pins s σ H _ I h) fun us s1 got => ?_) he hpl
  obtain ⟨vs, H1, I1, rel, want⟩ := got
  refine ⟨I1.kIn, ?_⟩
  have rel2 : Vals (vs ++ dvs) (us ++ ds) := rel.append hd
  have n1 : (us ++ ds).length = ps.length := by
    rw [← rel2.length]
    exact F.many _ _ _ _ want
  refine wpAny_call (codeAny_mono (F.goes X.A X.stack s1 H1 ⟨us, []⟩ (us ++ ds) (vs ++ dvs) Q E hgd room
    I1.env0 (hb s1 us I1.kIn n1) rel2 want) fun r s' hq => ?_)
  match r, hq with
  | .error e, hq => exact hx pins σ H1 s1 e s' I1 hq
  | .ok (.ret u), hq => exact I1.after hq
end

/-! ### repr -/
mutual
def most : PyData → Nat
  | .none => 4
  | .bool _ => 5
  | .int _ => 2000
  | .str x => (reprText x).length
  | .list xs => mostAll xs + 4
  | .tuple xs => mostAll xs + 4
  | .dict _ => 20000000
def mostAll : List PyData → Nat
  | [] => 0
  | x :: xs => most x + 2 + mostAll xs
end
theorem join_most (ts : List Str) : (Str.join ", " ts).length ≤ (ts.map fun t => t.length + 2).sum := by
  cases ts with
  | nil => exact Nat.zero_le _
  | cons t ts =>
    have h := join_length_add (t :: ts) (by simp)
    have e : ∀ l : List Str, (l.map fun t => t.length + 2).sum = piled l := by
      intro l
      induction l with
      | nil => rfl
      | cons a l ih => rw [List.map_cons, List.sum_cons, ih, piled_cons]
    rw [e]
    omega
mutual
theorem shown_most : ∀ d : PyData, d.showable = true → d.hasDict = false → d.shown.length ≤ most d
  | .none, _, _ => by rw [PyData.shown_none]; decide +kernel
  | .bool b, _, _ => by rw [PyData.shown_bool]; cases b <;> decide +kernel
  | .int i, h, _ => by
    rw [PyData.shown_int]
    have q : i.natAbs.log2 < 1920 := by simpa [PyData.showable] using h
    show _ ≤ 2000
    have z := int_text_length_le (k := 1920) (by decide) q
    rw [PySem.ofString_length]
    omega
  | .str x, _, _ => by rw [PyData.shown_str]; exact Nat.le_refl _
  | .list xs, h, g => by
    have q := shownAll_most xs (by simpa [PyData.showable] using h) (by simpa [PyData.hasDict] using g)
    rw [PyData.shown_list, strLen_append, strLen_append]
    have e1 : ((("[" : String) : Str)).length = 1 := rfl
    have e2 : ((("]" : String) : Str)).length = 1 := rfl
    have := join_most (PyData.shownAll xs)
    rw [e1, e2]
    show _ ≤ mostAll xs + 4
    omega
  | .tuple xs, h, g => by
    have q := shownAll_most xs (by simpa [PyData.showable] using h) (by simpa [PyData.hasDict] using g)
    rw [PyData.shown_tuple, strLen_append, strLen_append]
    have e1 : ((("(" : String) : Str)).length = 1 := rfl
    have e2 : (((if xs.length == 1 then ",)" else ")" : String) : Str)).length ≤ 2 := by split <;> decide +kernel
    have := join_most (PyData.shownAll xs)
    rw [e1]
    show _ ≤ mostAll xs + 4
    omega
  | .dict _, _, g => by simp [PyData.hasDict] at g
theorem shownAll_most : ∀ xs : List PyData, PyData.showableAll xs = true → PyData.hasDictAll xs = false →
    ((PyData.shownAll xs).map fun t => t.length + 2).sum ≤ mostAll xs
  | [], _, _ => by rw [PyData.shownAll_nil]; exact Nat.le_refl _
  | x :: xs, h, g => by
    have h' : x.showable = true ∧ PyData.showableAll xs = true := by simpa [PyData.showableAll] using h
    have g' : x.hasDict = false ∧ PyData.hasDictAll xs = false := by simpa [PyData.hasDictAll] using g
    have a := shown_most x h'.1 g'.1
    have b := shownAll_most xs h'.2 g'.2
    rw [PyData.shownAll_cons, List.map_cons, List.sum_cons]
    show _ ≤ most x + 2 + mostAll xs
    omega
end
/-- what repr asks of data -/
structure Told (K : PySem.W.Frag) (H : Hp) (v : V) (d : PyData) : Prop where
  at_ : Dp K H v d
  show_ : d.showable = true
  plain : d.hasDict = false
  deep : d.depth ≤ 20
  short : most d ≤ 16000000
def rRepr (K : PySem.W.Frag) : List V → Hp → VK → Prop := fun xs H Q => ∃ v d, xs = [v] ∧ Told K H v d ∧ Q (.str d.shown) H
theorem call_repr {X : Cx} {k : Nat} (hgd : X.A.guards = some []) (room : Room k X.A) :
    CallR X (.builtin "repr") (rRepr X.K) := by
  intro pins s σ H xs us Q I r h
  obtain ⟨v, d, rfl, T, q⟩ := h
  have big : d.shown.length ≤ sizeLine := by
    have a := shown_most d T.show_ T.plain
    have b := T.short
    rw [sizeLine_eq]
    omega
  obtain ⟨u, rfl, ru⟩ := vals1 r
  obtain ⟨as, rd⟩ := Dp.reads I d v u T.at_ ru
  have un := room.units
  have dp := T.deep
  cases v with
  | ref a =>
    obtain rfl : u = Value.ref a := ru
    refine repr_of_reads' rd T.show_ (PyData.noDict_hsm T.plain) hgd (by omega) (fun _ _ e => e) (fun h' t tk keep => ?_) big
    exact ⟨.str d.shown, H, I.kept (t' := tk) keep, ⟨t, rfl⟩, q⟩
  | non =>
    obtain rfl : u = Value.none := ru
    cases rd
    rw [PyData.shown_none] at q
    exact PySem.P.repr_of_none ⟨.str _, H, I.tok _, ⟨_, rfl⟩, q⟩
  | bl b =>
    obtain rfl : u = Value.bool b := ru
    cases rd
    rw [PyData.shown_bool] at q
    refine PySem.P.repr_of_bool ⟨.str (if b then "True" else "False" : Str), H, I.tok _, ⟨s.toks, ?_⟩, q⟩
    cases b <;> rfl
  | int i =>
    obtain ⟨t, rfl⟩ := ru
    cases rd
    have z : i.natAbs.log2 < 1920 := by simpa [PyData.showable] using T.show_
    rw [PyData.shown_int] at q
    exact PySem.P.repr_of_int z ⟨.str _, H, I.tok _, ⟨_, rfl⟩, q⟩
  | str x =>
    obtain ⟨t, rfl⟩ := ru
    cases rd
    rw [PyData.shown_str] at q big
    exact PySem.P.repr_of_str ⟨.str _, H, I.tok _, ⟨_, rfl⟩, q⟩ big
  | byt b =>
    obtain ⟨t, rfl⟩ := ru
    cases rd
  | flt b =>
    obtain ⟨t, rfl⟩ := ru
    cases rd
  | ty n =>
    obtain rfl : u = Value.type n := ru
    cases rd

/-! ### wide ints -/
structure Wd (n : Nat) (x : Int) : Prop where
  lt : x.natAbs < 2 ^ n
theorem Wd.mono {m n : Nat} {x : Int} (h : Wd m x) (le : m ≤ n) : Wd n x := ⟨Nat.lt_of_lt_of_le h.lt (Nat.pow_le_pow_right (by decide) le)⟩
theorem Wd.mul {a b : Nat} {x y : Int} (h : Wd a x) (g : Wd b y) : Wd (a + b) (x * y) := ⟨wide_lt h.lt g.lt⟩
theorem Wd.ok {a b : Nat} {x y : Int} (h : Wd a x) (g : Wd b y) (le : a + b ≤ 134217728) : CMulX x y := mulx_ok h.lt g.lt le
theorem Wd.add {a b n : Nat} {x y : Int} (h : Wd a x) (g : Wd b y) (ha : a ≤ n) (hb : b ≤ n) : Wd (n + 1) (x + y) := by
  have p := (h.mono ha).lt
  have q := (g.mono hb).lt
  refine ⟨?_⟩
  rw [Nat.pow_succ]
  omega
theorem Wd.sub {a b n : Nat} {x y : Int} (h : Wd a x) (g : Wd b y) (ha : a ≤ n) (hb : b ≤ n) : Wd (n + 1) (x - y) := by
  have p := (h.mono ha).lt
  have q := (g.mono hb).lt
  refine ⟨?_⟩
  rw [Nat.pow_succ]
  omega
theorem Wd.div {n : Nat} {x m : Int} (h : Wd n x) (h0 : 0 ≤ x) (hm : 0 < m) : Wd n (x / m) := by
  have a : 0 ≤ x / m := Int.ediv_nonneg h0 (Int.le_of_lt hm)
  have b : x / m ≤ x := Int.ediv_le_self m h0
  have c := h.lt
  exact ⟨by omega⟩
theorem Wd.within {n : Nat} {x y : Int} (h : Wd n y) (h0 : 0 ≤ x) (le : x ≤ y) : Wd n x := by
  have c := h.lt
  exact ⟨by omega⟩
theorem Wd.cdiv {n : Nat} {x m : Int} (h : Wd n m) (hm : 0 < m) (h0 : 0 < n) (le : n ≤ 9000) : CDivW x m := wide_div hm h.lt h0 le
theorem Wd.bits {n : Nat} {x : Int} (h : Builtin.Int.intBits x ≤ n) : Wd (n + 1) x := by
  refine ⟨?_⟩
  unfold Builtin.Int.intBits at h
  split at h
  · rename_i z
    have z' : x.natAbs = 0 := by
      first
        | exact of_decide_eq_true z
        | (have := eq_of_beq z; omega)
        | omega
    rw [z']
    exact Nat.two_pow_pos _
  · have q : x.natAbs < 2 ^ (x.natAbs.log2 + 1) := Nat.lt_log2_self
    exact Nat.lt_of_lt_of_le q (Nat.pow_le_pow_right (by decide) (by omega))
section
variable {X : Cx}
def rTup (K : PySem.W.Frag) : List V → Hp → VK → Prop := fun xs H Q => ∃ p ys, xs = [.ref p] ∧
  ((SqL K H p ys ∧ ∀ l, H l = none → Q (.ref l) (upd H l (.tup ys))) ∨ (SqT K H p ys ∧ Q (.ref p) H))
theorem call_tup : CallR X (.type "tuple") (rTup X.K) := call_tuple_of
/-- int of an int -/
theorem call_intI : CallR X (.type "int") (fun xs H Q => ∃ i, xs = [.int i] ∧ Q (.int i) H) := by
  intro pins s σ H xs us Q I r h
  exact call_int1 pins s σ H xs us Q I r (.inl h)
end
/-! ### defs, built-ins -/
theorem b_int : bootBuiltins "int" = some (.type "int") := PyProof.Rows.boot_int
theorem b_len : bootBuiltins "len" = some (.builtin "len") := PySem.boot_len
theorem b_sum : bootBuiltins "sum" = some (.builtin "sum") := PyProof.Rows.boot_sum
theorem b_max : bootBuiltins "max" = some (.builtin "max") := PyProof.Rows.boot_max
theorem b_min : bootBuiltins "min" = some (.builtin "min") := PyProof.Rows.boot_min
theorem b_tuple : bootBuiltins "tuple" = some (.type "tuple") := PyProof.Rows.boot_tuple
theorem b_list : bootBuiltins "list" = some (.type "list") := PyProof.Rows.boot_list
theorem b_repr : bootBuiltins "repr" = some (.builtin "repr") := PyProof.Rows.boot_repr
theorem b_isinstance : bootBuiltins "isinstance" = some (.builtin "isinstance") := PyProof.Rows.boot_isinstance
theorem b_str : bootBuiltins "str" = some (.type "str") := PyProof.Rows.boot_str
theorem b_bool : bootBuiltins "bool" = some (.type "bool") := PyProof.Rows.boot_bool
theorem b_all : bootBuiltins "all" = some (.builtin "all") := PyProof.Rows.boot_all
theorem b_set : bootBuiltins "set" = some (.type "set") := PyProof.Rows.boot_set
theorem b_sorted : bootBuiltins "sorted" = some (.builtin "sorted") := PyProof.Rows.boot_sorted
structure Bl (mg : Str → Option Value) : Prop where
  int : mg "int" = none
  len : mg "len" = none
  sum : mg "sum" = none
  max : mg "max" = none
  min : mg "min" = none
  range : mg "range" = none
  tuple : mg "tuple" = none
  list : mg "list" = none
  repr : mg "repr" = none
  isinstance : mg "isinstance" = none
  enumerate : mg "enumerate" = none
  reversed : mg "reversed" = none
  sorted : mg "sorted" = none
  str : mg "str" = none
  all : mg "all" = none
  zip : mg "zip" = none
  set : mg "set" = none
  bool : mg "bool" = none
/-- a def of the text, where it stands -/
structure Dn (K : PySem.W.Frag) (mg : Str → Option Value) (x : Str) (st : Stmt) (ps : List Str) where
  f : Addr
  fd : FuncData
  F : Fun K x x st f fd
  g : mg x = some (.ref f)
  b : Binds K fd ps []
section
variable {X : Cx} {x : Str} {st : Stmt} {ps : List Str} {p pos : Pos} {e : Expr} {es : List Expr} {t : TA} {k j : Nat} {sp : Sp}
theorem de_call (D : Dn X.K X.mg x st ps) (G : FnOk X.prog X.w X.K X.mg X.base CX0 k D.f D.fd ps sp) (room : Room j X.A)
    (ha : PA X (e :: es) t) (le : k ≤ j := by decide) (hg : Gl X x := by rfl) (hdb : (x == ("__debug__" : Str)) = false := by decide)
    (he : starEach (e :: es) X.env = (false, eval e X.env) :: starEach es X.env := by rfl)
    (hpl : (backTo pos (starEach es X.env)).any (·.1) = false := by rfl) :
    PE X (.Call (.Name x p) (e :: es) [] pos) (tCall sp [] E0 t) :=
  pe_call G (room.mono le) hg D.g D.F.kp D.b .nil pass0 ha hdb he hpl
theorem de_callG (D : Dn X.K X.mg x st ps) (G : GOk X.prog X.w X.K X.mg X.base CX0 k D.f D.fd ps sp) (hgd : X.A.guards = some []) (room : Room j X.A)
    (ha : PA X (e :: es) t) (le : k ≤ j := by decide) (hg : Gl X x := by rfl) (hdb : (x == ("__debug__" : Str)) = false := by decide)
    (he : starEach (e :: es) X.env = (false, eval e X.env) :: starEach es X.env := by rfl)
    (hpl : (backTo pos (starEach es X.env)).any (·.1) = false := by rfl) :
    PE X (.Call (.Name x p) (e :: es) [] pos) (tCall sp [] E0 t) :=
  ge_call G hgd (room.mono le) hg D.g D.F.kp D.b .nil pass0 ha hdb he hpl
end
/-! ### any plain object -/
inductive Any (K : PySem.W.Frag) (H : Hp) : V → String → Prop
  | non : Any K H .non "NoneType"
  | bl (b : Bool) : Any K H (.bl b) "bool"
  | int (i : Int) : Any K H (.int i) "int"
  | str (z : Str) : Any K H (.str z) "str"
  | lst {a : Addr} {xs : List V} (e : H a = some (.lst xs)) : Any K H (.ref a) "list"
  | tup {a : Addr} {xs : List V} (e : SqT K H a xs) : Any K H (.ref a) "tuple"
  | dct {a : Addr} {kvs : List (Key × V)} (e : H a = some (.dK kvs)) : Any K H (.ref a) "dict"
  | dctT {a : Addr} {kvs : List (List Key × V)} (e : H a = some (.dT kvs)) : Any K H (.ref a) "dict"
theorem Any.ty {K : PySem.W.Frag} {H : Hp} {x : V} {T : String} (h : Any K H x T) : TyX K H x (.type T) := by
  cases h with
  | non => exact .base .non
  | bl b => exact .base (.bl b)
  | int i => exact .base (.int i)
  | str z => exact .base (.str z)
  | lst e => exact .base (.lst e)
  | tup e =>
    rcases e with (e | ⟨o, e⟩) | ⟨o, its, n, e, c, _⟩
    · exact .base (.tup e)
    · exact .fTuple e
    · exact .kTuple e c
  | dct e => exact .base (.dK e)
  | dctT e => exact .base (.dT e)
theorem Any.kit {K : PySem.W.Frag} {H : Hp} {x : V} {T : String} (h : Any K H x T) :
    PySem.W.kitOne K (.type T) (.type "int") = some (T == "int" || T == "bool") ∧ PySem.W.kitOne K (.type T) (.type "bool") = some (T == "bool") ∧
    PySem.W.kitOne K (.type T) (.type "str") = some (T == "str") ∧ PySem.W.kitOne K (.type T) (.type "tuple") = some (T == "tuple") := by
  cases h <;> exact ⟨kit_ty (by decide +kernel), kit_ty (by decide +kernel), kit_ty (by decide +kernel), kit_ty (by decide +kernel)⟩
/-! ### cuts -/
theorem cutV_to (xs : List V) (k : Nat) : cutV xs none (some (k : Int)) = xs.take k := by
  unfold cutV
  rw [HT.sIx_none, HT.sIx_nat, List.drop_zero, Nat.sub_zero]
  by_cases h : k ≤ xs.length
  · rw [Nat.min_eq_left h]
  · rw [Nat.min_eq_right (by omega), List.take_of_length_le (Nat.le_refl _), List.take_of_length_le (by omega)]
theorem cutV_from (xs : List V) (k : Nat) : cutV xs (some (k : Int)) none = xs.drop k := by
  unfold cutV
  rw [HT.sIx_none, HT.sIx_nat]
  by_cases h : k ≤ xs.length
  · rw [Nat.min_eq_left h, List.take_of_length_le (by rw [List.length_drop]; omega)]
  · rw [Nat.min_eq_right (by omega), List.drop_of_length_le (Nat.le_refl _), List.drop_of_length_le (by omega)]
    simp
theorem cutV_mid (xs : List V) (a b : Nat) : cutV xs (some (a : Int)) (some (b : Int)) = (xs.drop a).take (b - a) := by
  unfold cutV
  rw [HT.sIx_nat, HT.sIx_nat]
  by_cases h : a ≤ xs.length
  · rw [Nat.min_eq_left h]
    by_cases g : b ≤ xs.length
    · rw [Nat.min_eq_left g]
    · rw [Nat.min_eq_right (by omega), List.take_of_length_le (by rw [List.length_drop]; omega), List.take_of_length_le (by rw [List.length_drop]; omega)]
  · rw [Nat.min_eq_right (by omega : xs.length ≤ a), List.drop_of_length_le (Nat.le_refl _), List.drop_of_length_le (by omega)]
    simp

/-! ### the end of a law's row -/
theorem call_top {P : Program} {w : World} {K : PySem.W.Frag} {mg mb : Str → Option Value} {cx : CXT} {k : Nat} {fa a : Addr}
    {fd : FuncData} {x : Str} {sp : Sp} {s1 : Shared} {us : List Value} {ns : List Int}
    (inK : K.In s1.heap) (hns : s1.heap.Ns mainGlobals mg) (hb : s1.heap.Ns builtinsNs mb)
    (hbb : ∀ x : Str, x ≠ "__name__" → mb x = bootBuiltins x) (free : s1.heap.NoLimit) (hg : s1.gens = #[])
    (ha : s1.heap.get? a = some { cls := .type "list", data := .seq us.toArray }) (hi : IntsAre us ns)
    (hl : ns.length ≤ sizeLine) (room : Room k callerA)
    (F : ∀ base : Heap, K.In base → base.Ns mainGlobals mg → GOk P w K mg base cx k fa fd [x] sp)
    (bind : ∀ (s : Shared) (u : Value), BindsTo s fd ⟨[u], []⟩ [(x, u)])
    (want : ∀ H : Hp, Only H → SqL K H a (ns.map V.int) → sp [.ref a] H (fun v _ => v = .bl true) fun _ _ _ => False)
    (quiet : ∀ H e s', cx [] H s1 (fun _ _ _ => False) e s' → False) :
    codeAny (model P w) callerA (.call (.ref fa) ⟨[.ref a], []⟩)
      (fun r s' => r = .ok (.ret (.bool true)) ∧ OldK s1.heap s'.heap ∧ s'.os = s1.os ∧ AllBare s'.gens) s1 := by
  have rv := vals_ints hi
  have lenV := hi.length
  have core : ∀ H : Hp, Only H → SqL K H a (ns.map V.int) → HOk P w H s1.heap → (∀ b, H b ≠ none → b = a) →
      (H a ≠ none → K.lookup a = none) → codeAny (model P w) callerA (.call (.ref fa) ⟨[.ref a], []⟩)
        (fun r s' => r = .ok (.ret (.bool true)) ∧ OldK s1.heap s'.heap ∧ s'.os = s1.os ∧ AllBare s'.gens) s1 := by
    intro H only sq hok one offK
    have same : ∀ {b : Addr} {u : HO}, H b = some u → b = a := fun q => one _ (by rw [q]; simp)
    have under : ∀ {b : Addr} {o : Obj}, s1.heap.get? b = some o → H b = none → (hidT s1.heap H).get? b = some o :=
      fun e n => hidT_get e n
    have dicts : ∀ {b : Addr} {o : Obj} {es : Array DictEntry} {ep : Nat}, s1.heap.get? b = some o →
        o.data = .dict es ep → H b = none := by
      intro b o es ep e d
      cases q : H b with
      | none => rfl
      | some u =>
        have z := same q
        subst z
        rw [ha] at e
        cases e
        exact nomatch d
    have spaces : ∀ {b : Addr} {m : Str → Option Value}, s1.heap.Ns b m → (hidT s1.heap H).Ns b m :=
      fun {b m} ⟨o, es, ep, e, d, r⟩ => ⟨o, es, ep, under e (dicts e d), d, r⟩
    have inB : K.In (hidT s1.heap H) := by
      intro b o e
      refine under (inK b o e) ?_
      cases q : H b with
      | none => rfl
      | some u =>
        have z := same q
        subst z
        rw [offK (by rw [q]; simp)] at e
        cases e
    have mod : Mod K mg (hidT s1.heap H) :=
      ⟨inB, spaces hns, ⟨mb, spaces hb, hbb⟩, let ⟨mc, h1, h2⟩ := free; ⟨mc, spaces h1, h2⟩⟩
    have e0 : Env0 P w K mg (hidT s1.heap H) callerA [] s1 H :=
      { frames := rfl, mod := mod, bs := fun b o e => of_hidT e, bsz := Nat.le_of_eq (hidT_size _ _), funs := trivial,
        frf := fun b hb => absurd (show b ∈ ([] : List Addr) from hb) (by simp), hok := hok, bare := .of_eq hg }
    refine codeAny_mono ((F _ inB (spaces hns)).goes callerA [] s1 H ⟨[.ref a], []⟩ [.ref a] [.ref a] _ _ rfl room e0
      (bind s1 (.ref a)) (.cons rfl .nil) (want H only sq)) fun r s' h => ?_
    match r, h with
    | .error e, h => exact (quiet H e s' h).elim
    | .ok (.ret u), h =>
      obtain ⟨v, H', os, bare, un, hok', rel, q⟩ := h
      have q' : v = .bl true := q
      subst q'
      obtain rfl : u = Value.bool true := rel
      refine ⟨rfl, OldK.of_keep fun b o e => ?_, os, bare⟩
      cases q : H b with
      | none => exact un.keep b o e q (by intro z; exact absurd (show b ∈ ([] : List Addr) from z) (by simp)) (by simp)
      | some u =>
        rcases only b with z | ⟨ob, xs, z⟩
        · rw [q] at z
          cases z
        · have z2 := un.frzs b ob _ z
          obtain ⟨e1, _⟩ := hok b _ z
          obtain ⟨e2, _⟩ := hok' b _ z2
          rw [e] at e1
          cases e1
          exact e2
  cases hk : K.lookup a with
  | some o =>
    have e := inK a o hk
    rw [ha] at e
    cases e
    refine core (fun _ => none) (fun _ => .inl rfl) (.inr ⟨_, us.toArray, _, hk, rfl, rfl, rfl, ?_, ?_⟩) ?_ ?_ fun z => absurd rfl z
    · rw [List.size_toArray, lenV]
      exact hl
    · simpa using rv
    · intro b u z
      exact nomatch (show (none : Option HO) = some u from z)
    · exact fun b z => absurd rfl z
  | none =>
    let o : Obj := { cls := .type "list", data := .seq us.toArray }
    refine core (fun b => if b = a then some (.frz o (.lst (ns.map V.int))) else none) (fun b => ?_)
      (.inl (.inr ⟨o, if_pos rfl⟩)) (fun b u z => ?_) (fun b z => ?_) fun _ => hk
    · by_cases hb : b = a
      · exact .inr ⟨_, _, if_pos hb⟩
      · exact .inl (if_neg hb)
    · by_cases hb : b = a
      · have z' := (if_pos hb).symm.trans z
        cases z'
        subst hb
        exact ⟨ha, by rw [List.length_map]; exact hl, us, _, rv, ha⟩
      · have z' := (if_neg hb).symm.trans z
        cases z'
    · by_cases hb : b = a
      · exact hb
      · exact absurd (if_neg hb) z

theorem walk_top {l : PySem.W.OpenLaw} {n k : Nat} {q : Program} {loose : List Str} {XP : (Str → Option Value) → Heap → Prop}
    {YP : World → Heap → Prop} {d : DefRec} {K : Params → PySem.W.Frag} {sp : World → Sp} {x : Str}
    (hn : l.most = some n) (hn2 : n ≤ sizeLine) (hdf : d.params.defaults = []) (room : Room k callerA)
    (hY : ∀ (w : World) (h : Heap), YP w h → (K w.params).In h)
    (F : ∀ (w : World) (mg : Str → Option Value) (fa : Addr) (h : Heap), (K w.params).In h → h.Ns mainGlobals mg →
      mg d.name = some (.ref fa) → ∃ fd : FuncData, (∀ (s : Shared) (u : Value), BindsTo s fd ⟨[u], []⟩ [(x, u)]) ∧
        ∀ base : Heap, (K w.params).In base → base.Ns mainGlobals mg →
          GOk l.prog w (K w.params) mg base CX0 k fa fd [x] (sp w))
    (want : ∀ (w : World) (H : Hp) (a : Addr) (ns : List Int), ns.length ≤ n → (∀ z ∈ ns, Builtin.Int.intBits z ≤ 1048576) →
      Only H → SqL (K w.params) H a (ns.map V.int) → sp w [.ref a] H (fun v _ => v = .bl true) fun _ _ _ => False) :
    PySem.W.WalkO q loose XP YP l.row.toRowW d [] (fun f vs => PySem.call f vs) := by
  refine Att.attach_callB hn hdf fun w s₀ s₁ mg mb fa o pm cd doc a vs ns G Y ho hd hcd hmg hobj hints hlen hbits hg => ?_
  obtain ⟨fd, bind, hF⟩ := F w mg fa _ (hY w _ Y) G.T.g hmg
  exact call_top (hY w _ Y) G.T.g G.T.b G.T.builtins G.T.nolimit hg hobj hints (Nat.le_trans hlen hn2) room hF bind
    (fun H only sq => want w H a ns hlen hbits only sq) fun H e s' h => h
end GX
/-! ## for i, x in enumerate(t), t a tuple; del xs[a:b] -/
namespace GX
open PySem PySem.Spec PyProof.Rows L2

/-! ### enumerate of a tuple -/
theorem enum_newT (t : Addr) (items : Array Value) :
    Meets (Builtin.«enumerate.__new__» ⟨[.type "enumerate", .ref t], []⟩) (fun _ R s => s.heap.IsTuple t items ∧
      R (.ok (.ret (.ref (s.heap.push { cls := .type "tuple_iterator", data := .fields #[.ref t, .int 0 0] }).objs.size)))
        { s with heap := ((s.heap.push { cls := .type "tuple_iterator", data := .fields #[.ref t, .int 0 0] }).push
            { cls := .type "enumerate", data := .fields #[.none, .bool false, .ref s.heap.objs.size, rawInt 0, .none, .none] }) }) :=
  .of_wp fun prog w A R s h => by
    obtain ⟨hp, g, d, tk, os⟩ := s
    obtain ⟨ht, h⟩ := h
    have hsub := sub_enumerate
    have hT : Heap.IsTuple (Shared.heap ⟨hp, g, d, tk, os⟩) t items := ht
    wp_walk
    refine wpAny_stack_any fun st => wpAny_pure ?_
    split
    · rename_i c _ _ _ _ _
      cases (c == Value.type "enumerate")
      · wp_walk using wpAny_pyIter_tuple hT
        exact ⟨_, rfl, h⟩
      · wp_walk using wpAny_pyIter_tuple hT
        exact ⟨_, rfl, h⟩
    · wp_walk using wpAny_pyIter_tuple hT
      exact ⟨_, rfl, h⟩

theorem call_enumT {prog : Program} {w : World} {A : Around} {E : Value → Shared → Prop} {s : Shared}
    {t : Addr} {items : Array Value} {Q : Value → Shared → Prop} (hT : s.heap.IsTuple t items)
    (h : ∀ h', IsEnum h' (s.heap.objs.size + 1) s.heap.objs.size 0 .none → h'.IsTupleIter s.heap.objs.size t 0 →
      h'.objs.size = s.heap.objs.size + 2 → (∀ b o, s.heap.get? b = some o → h'.get? b = some o) →
      Q (.ref (s.heap.objs.size + 1)) { s with heap := h' }) :
    wpAny (model prog w) A (call (.type "enumerate") [.ref t]) Q E s := by
  refine callType_new F.called_enumerate (by decide) (F.typeCall_enumerate_1 _) (F.newCall_enumerate_1 _)
    (fun obj => F.args_object_init_2 obj _) F.entry_enumerate_new (enum_newT t items) ⟨hT, ?_⟩
  let o : Obj := { cls := .type "tuple_iterator", data := .fields #[.ref t, .int 0 0] }
  let e : Obj := { cls := .type "enumerate", data := .fields #[.none, .bool false, .ref s.heap.objs.size, rawInt 0, .none, .none] }
  have size1 : (s.heap.push o).objs.size = s.heap.objs.size + 1 := Heap.size_push ..
  show _ ∧ _
  rw [size1]
  have made : IsEnum ((s.heap.push o).push e) (s.heap.objs.size + 1) s.heap.objs.size 0 .none := by
    have z := Heap.get?_push_size (s.heap.push o) (o := e) rfl
    rw [size1] at z
    exact z
  refine ⟨⟨_, made, rfl⟩, h _ made ⟨_, Heap.get?_push_of_some _ (Heap.get?_push_size _ rfl), rfl, rfl⟩ ?_ ?_⟩
  · rw [Heap.size_push, size1]
  · exact fun b o x => Heap.get?_push_of_some _ (Heap.get?_push_of_some _ x)

/-- the tuple at a as it stands at each turn, each item in a new pair -/
def ItT (K : PySem.W.Frag) (a : Addr) : It :=
  ⟨fun i H => ∃ (xs : List V) (x : V), SqT K H a xs ∧ xs[i]? = some x,
   fun i H v H' => ∃ T x, v = .ref T ∧ H T = none ∧ H' = upd H T (.tup [.int (i : Nat), x]) ∧ ∀ xs, SqT K H a xs → xs[i]? = some x,
   fun i H => ∃ xs : List V, SqT K H a xs ∧ xs.length ≤ i⟩

theorem turn_enumT {P : Program} {w : World} {K : PySem.W.Frag} {elts : List Expr} {kk : Nat} {tpos : Pos} (a e it : Addr) :
    Turn P w K (.Tuple elts kk tpos) (ItT K a) [e, it] e
      (fun i h => (∃ old, IsEnum h e it ((i : Nat) : Int) old) ∧ h.IsTupleIter it a i ∧ e ≠ it ∧ e ≠ a ∧ a ≠ it) where
  mem := by simp
  obj := fun i h st b hb => by
    obtain ⟨⟨old, he⟩, ⟨o, ho, hc, hd⟩, _⟩ := st
    rcases (show b = e ∨ b = it by simpa using hb) with z | z
    · rw [z]; exact ⟨_, he, fun v q => nomatch q⟩
    · rw [z]; exact ⟨o, ho, fun v q => by rw [hd] at q; cases q⟩
  keep := fun i h h' st k =>
    let ⟨⟨old, he⟩, hi, n1, n2, n3⟩ := st
    ⟨⟨old, k e (by simp) _ he⟩, hi.at fun o q => k it (by simp) o q, n1, n2, n3⟩
  item := by
    intro X hP hw hK hc i pins s σ H E I hf st hg
    subst hP hw hK
    obtain ⟨⟨old, he⟩, hit, n1, n2, n3⟩ := st
    obtain ⟨xs, x, hq, hx⟩ := hg
    obtain ⟨its, rv, tp, hz⟩ := I.tuple hq
    obtain ⟨u, hu, ru⟩ := rv.get hx
    have elt : e < s.heap.objs.size := Heap.lt_size he
    have ilt : it < s.heap.objs.size := by obtain ⟨_, q, _⟩ := hit; exact Heap.lt_size q
    have some_u : its.toArray[i]? = some u := by simpa using hu
    have small : i < its.toArray.size := by
      obtain ⟨q, _⟩ := Array.getElem?_eq_some_iff.mp some_u
      exact q
    have hH : X.A.in1.handled = none := I.ok.hd hc
    refine wpAny_pyNext_enum_itemD (Draws.tuple hH it a n3 its.toArray) he ⟨hit, tp⟩ small n1 ?_ fun y h' tk hy ho hst hT hsz hk => ?_
    · intro z
      rcases (show e = it ∨ e = a by simpa using z) with z | z
      · exact n1 z
      · exact n2 z
    have hy' : y = u := by
      rw [some_u] at hy
      exact (Option.some.inj hy).symm
    subst hy'
    refine ⟨_, rfl, wpAny_letOwnedTupleGo_enum (s := { s with heap := h', toks := tk + 1 }) ho fun h'' he' sb => ?_⟩
    have hT2 : h''.get? s.heap.objs.size = some { cls := .type "tuple", data := .seq #[.int i tk, y] } :=
      (sb.2 _ (Nat.ne_of_gt elt)).trans hT
    have new : ObjOk X.prog X.w (upd H s.heap.objs.size (.tup [.int (i : Nat), x])) h'' s.heap.objs.size (.tup [.int (i : Nat), x]) :=
      ⟨by show 2 ≤ sizeLine; decide, [.int i tk, y], .cons ⟨_, rfl⟩ (.cons ru .nil), ⟨_, hT2, rfl, _, rfl⟩⟩
    have I1 : Inv X pins σ (upd H s.heap.objs.size (.tup [.int (i : Nat), x])) { s with heap := h'', toks := tk + 1 } := by
      refine I.turnedNew (ch := [e, it]) (fun b ob hb q => ?_) hf (Nat.le_refl _) new
      have b1 : b ≠ e := fun z => hb (by simp [z])
      have b2 : b ≠ it := fun z => hb (by simp [z])
      exact (sb.2 b b1).trans (hk b ob b1 b2 q)
    refine ⟨.ref s.heap.objs.size, _, I1, rfl, ⟨_, x, rfl, I.hok.fresh (Nat.le_refl _), rfl, fun ys hy => ?_⟩, ⟨⟨y, ?_⟩, ?_, n1, n2, n3⟩, fun b hb => ?_⟩
    · rw [I.tuple_inj hy hq]
      exact hx
    · have e1 : ((i + 1 : Nat) : Int) = (i : Int) + 1 := by omega
      rw [e1]
      exact he'
    · exact hst.1.at fun o q => (sb.2 it (Ne.symm n1)).trans q
    · have lt : b < s.heap.objs.size := by
        rcases (show b = e ∨ b = it by simpa using hb) with z | z
        · rw [z]; exact elt
        · rw [z]; exact ilt
      rw [upd_ne (Nat.ne_of_lt lt)]
      exact (hf b hb).1
  done := by
    intro X hP hw hK hc i pins s σ H E I hf st hg
    subst hP hw hK
    obtain ⟨⟨old, he⟩, hit, n1, n2, n3⟩ := st
    obtain ⟨xs, hq, hx⟩ := hg
    obtain ⟨its, rv, tp, hz⟩ := I.tuple hq
    obtain ⟨f0, f1, f2, f3, f4, f5⟩ := hf it (by simp)
    have len := rv.length
    have hT : s.TypeIs (.ref e) "enumerate" := ⟨_, he, rfl⟩
    have hH : X.A.in1.handled = none := I.ok.hd hc
    unfold pyNext
    refine wpAny_bind (wpAny_attempt (wpAny_callSpecial?_slot (name := Str.ofString "__next__") hT F.slot_enumerate_next
      (wpAny_call_entry F.slot_enumerate_next hT F.entry_enumerate_next ?_ (F.args_enumerate_next_1 _))))
    show wpAny _ _ (field (.ref e) 2 >>= _) _ _ _
    refine wpAny_bind (wpAny_field he rfl (x := .ref it) rfl ?_)
    refine wpAny_bind (wpAny_nextOf_tuple_end hH hit tp (by simp; omega) fun h' x eb hx' => ?_)
    obtain ⟨o, ho, hcl⟩ := hx'
    refine wpAny_bind (wpAny_isInstance (T := "StopIteration") (b := true) ⟨o, ho, hcl⟩ isSubtype_stop ?_)
    exact wpAny_pure ⟨rfl, I.turned (t' := s.toks) (fun b o hb q => eb b o hb q) f0 f1 f3 f4 f5⟩
  self := fun A i s Q E st h => let ⟨⟨_, he⟩, _⟩ := st; wpAny_pyIter_enum he h

def iEnumT (K : PySem.W.Frag) (ta : TA) : TI := fun σ H R => ta σ H fun vs H1 => ∃ a xs, vs = [.ref a] ∧ SqT K H1 a xs ∧ R (ItT K a) H1
theorem pi_enumT {X : Cx} {e : Expr} {ta : TA} {p pos tpos : Pos} {elts : List Expr} {kk : Nat}
    (hg : Gl X "enumerate") (hm : X.mg "enumerate" = none) (ha : PA X [e] ta)
    (hs : starEach [e] X.env = [(false, eval e X.env)] := by rfl) :
    PI X (.Tuple elts kk tpos) (.Call (.Name "enumerate" p) [e] [] pos) (iEnumT X.K ta) := by
  refine ⟨fun pins s σ H R I h => ?_⟩
  refine Call_ (ld_blt I hg hm boot_enumerate (PyProof.Rows.callWith_type1 (thn (ha.run pos pins s σ H _ I h) fun us s1 got => ?_) hs rfl))
  obtain ⟨vs, H1, I1, r1, a, xs, ex, hq, q⟩ := got
  subst ex
  cases r1 with
  | cons r rr =>
    cases rr
    cases r
    obtain ⟨its, rv, tp, hz⟩ := I1.tuple hq
    have alt : a < s1.heap.objs.size := tp.lt
    refine call_enumT tp fun h' he hit hsz hk => wpAny_pyIter_enum he ?_
    have I2 : Inv X pins σ H1 { s1 with heap := h' } := I1.kept (t' := s1.toks) hk
    refine ⟨s1.heap.objs.size + 1, [s1.heap.objs.size + 1, s1.heap.objs.size], _, _, H1, rfl, I2,
      turn_enumT a (s1.heap.objs.size + 1) s1.heap.objs.size,
      ⟨⟨.none, he⟩, hit, Nat.succ_ne_self _, Nat.ne_of_gt (Nat.lt_succ_of_lt alt), Nat.ne_of_lt alt⟩, fun b hb => ?_, q⟩
    have le : s1.heap.objs.size ≤ b := by
      rcases (show b = s1.heap.objs.size + 1 ∨ b = s1.heap.objs.size by simpa using hb) with z | z
      · rw [z]; exact Nat.le_succ _
      · rw [z]; exact Nat.le_refl _
    exact I1.fpOk le (I1.hok.fresh le)

/-- a loop over it -/
theorem for_enumT {K : PySem.W.Frag} {a : Addr} {xs : List V} {g : TG} {tb : TS} {D : Ends} {σ : L2.St} {H : Hp}
    (Pv : Nat → L2.St → Hp → Prop) (h0 : Pv 0 σ H) (hq : ∀ i σ H, Pv i σ H → SqT K H a xs)
    (hs : ∀ (i : Nat) (x : V) (T : Addr) (σ : L2.St) (H : Hp), xs[i]? = some x → Pv i σ H → H T = none →
      g (.ref T) σ (upd H T (.tup [.int (i : Nat), x])) fun σ2 H2 => tb { D with nx := Pv (i + 1), ct := Pv (i + 1), bk := D.nx } σ2 H2)
    (hd : ∀ σ H, Pv xs.length σ H → D.nx σ H) :
    ∃ W : Nat → Nat → L2.St → Hp → Prop, (∃ m, W 0 m σ H) ∧ ∀ i m σ H, W i m σ H →
      ((ItT K a).stop i H ∧ D.nx σ H) ∨ ((ItT K a).go i H ∧ ∃ N : L2.St → Hp → Prop, (∀ σ' H', N σ' H' → ∃ m', m' < m ∧ W (i + 1) m' σ' H') ∧
        ∀ v H', (ItT K a).yld i H v H' → g v σ H' fun σ2 H2 => tb { D with nx := N, ct := N, bk := D.nx } σ2 H2) := by
  refine ⟨fun i m σ H => m = xs.length - i ∧ i ≤ xs.length ∧ Pv i σ H, ⟨_, rfl, Nat.zero_le _, h0⟩, ?_⟩
  rintro i m σ H ⟨rfl, le, p⟩
  have q := hq i σ H p
  by_cases lt : i < xs.length
  · refine .inr ⟨⟨xs, _, q, List.getElem?_eq_getElem lt⟩, Pv (i + 1), fun σ' H' p' => ⟨_, by omega, rfl, lt, p'⟩, fun v H' y => ?_⟩
    obtain ⟨T, x, rfl, hT, rfl, f⟩ := y
    exact hs i x T σ H (f xs q) p hT
  · have e : i = xs.length := by omega
    subst e
    exact .inl ⟨⟨xs, q, Nat.le_refl _⟩, hd σ H p⟩

/-! ### del xs[lo:hi] -/
def sel (start stop step : Int) (i : Nat) : Bool :=
  if step > 0 then start ≤ i && i < stop && (i - start) % step == 0
  else stop < i && i ≤ start && (start - i) % (-step) == 0
theorem sel_one (a c : Nat) (i : Nat) : sel a c 1 i = (decide (a ≤ i) && decide (i < c)) := by
  unfold sel
  rw [if_pos (by decide)]
  have e : ((i : Int) - (a : Int)) % 1 = 0 := Int.emod_one _
  rw [e]
  have e1 : decide ((a : Int) ≤ (i : Int)) = decide (a ≤ i) := by simp
  have e2 : decide ((i : Int) < (c : Int)) = decide (i < c) := by simp
  rw [e1, e2]
  simp
theorem cut_by {F : Value × Nat → Option Value} {a c : Nat} (hF : ∀ x k, F (x, k) = if decide (a ≤ k) && decide (k < c) then none else some x) :
    ∀ (l : List Value) (k : Nat), (l.zipIdx k).filterMap F = l.take (a - k) ++ l.drop (max (a - k) (c - k))
  | [], k => by simp
  | x :: l, k => by
    rw [List.zipIdx_cons, List.filterMap_cons]
    have ih := cut_by hF l (k + 1)
    rw [hF x k, ih]
    by_cases h1 : k < a
    · have f : (decide (a ≤ k) && decide (k < c)) = false := by simp; omega
      rw [f]
      have e1 : a - k = (a - (k + 1)) + 1 := by omega
      have e2 : max (a - k) (c - k) = max (a - (k + 1)) (c - (k + 1)) + 1 := by omega
      rw [e2, e1]
      simp
    · by_cases h2 : k < c
      · have f : (decide (a ≤ k) && decide (k < c)) = true := by simp; omega
        rw [f]
        have e1 : a - k = 0 := by omega
        have e3 : a - (k + 1) = 0 := by omega
        have e2 : max 0 (c - k) = max 0 (c - (k + 1)) + 1 := by omega
        rw [e1, e3, e2]
        simp
      · have f : (decide (a ≤ k) && decide (k < c)) = false := by simp; omega
        rw [f]
        have e1 : a - k = 0 := by omega
        have e3 : a - (k + 1) = 0 := by omega
        have e2 : max 0 (c - k) = 0 := by omega
        have e4 : max 0 (c - (k + 1)) = 0 := by omega
        rw [e1, e3, e2, e4]
        simp
theorem delItem_slice {prog : Program} {w : World} {A : Around} {E : Value → Shared → Prop} {s : Shared}
    {l sl : Addr} {its : List Value} {n : Nat} {vl vu : Value} {lo hi : Option Int} {Q : Unit → Shared → Prop}
    (e : s.heap.get? l = some { cls := .type "list", data := .seq its.toArray n })
    (hs : s.heap.IsSliceOf sl vl vu .none) (pl : IsPart vl lo) (pu : IsPart vu hi) (hsz : its.length ≤ sizeLine)
    (h : ∀ f : Array Value → Array Value,
      f its.toArray = (its.take (HT.sIx its.length 0 lo) ++ its.drop (max (HT.sIx its.length 0 lo) (HT.sIx its.length its.length hi))).toArray →
      Q () { s with heap := s.heap.update l (Obj.mapSeq f) }) :
    wpAny (model prog w) A (delItem (.ref l) (.ref sl)) Q E s := by
  have hl : s.heap.IsList l its.toArray := PySem.IsL.isList e
  obtain ⟨os, hos, hcs, hds⟩ := id hs
  have tySl : s.TypeIs (.ref sl) "slice" := ⟨os, hos, hcs⟩
  have noStep : ¬ ((rawPart none == rawInt 0) = true) := Bool.false_ne_true
  refine wpAny_delItem_slot hl.typeIs (by decide) F.slot_list_delitem ?_
  refine wpAny_call_entry F.slot_list_delitem hl.typeIs F.entry_list_delitem ?_ (F.args_list_delitem_2 _ _)
  show wpAny _ _ (Builtin.List.listSubscript? (.ref sl) >>= _) _ _ s
  refine wpAny_bind ?_
  unfold Builtin.List.listSubscript?
  refine wpAny_bind (wpAny_specialOf tySl slice_no_index ?_)
  simp only [Option.isNone_none, if_true]
  refine wpAny_pure ?_
  show wpAny _ _ (typeOf (.ref sl) >>= _) _ _ s
  refine wpAny_bind (wpAny_typeOf tySl ?_)
  refine PySem.W.KFB.if_not (by decide) ?_
  rw [listSliceParts_eq]
  refine wpAny_bind (wpAny_bind (wpAny_field hos hds (x := .none) rfl (wpAny_bind (wpAny_listPart .none ?_))))
  rw [if_neg noStep]
  refine wpAny_bind (wpAny_field hos hds (x := vl) rfl (wpAny_bind (wpAny_listPart pl ?_)))
  refine wpAny_bind (wpAny_field hos hds (x := vu) rfl (wpAny_bind (wpAny_listPart pu (wpAny_pure ?_))))
  unfold Builtin.List.listItems
  refine wpAny_bind (wpAny_bind (wpAny_seqItems e rfl (wpAny_pure ?_)))
  obtain ⟨b1, b2, b3⟩ := slice_bounds lo hi its.length
  have bd : sliceBounds lo hi none its.toArray.size = (((HT.sIx its.length 0 lo : Nat) : Int), ((HT.sIx its.length its.length hi : Nat) : Int), 1) := by
    rw [List.size_toArray]
    exact Prod.ext b1 (Prod.ext b2 b3)
  refine wpAny_bind (wpAny_of_eq ((sliceIndices_raw lo hi none its.toArray.size (by simp)).trans
    (congrArg (pure : Int × Int × Int → Sem (Int × Int × Int)) bd)) ?_)
  refine wpAny_bind (wpAny_rule ?_)
  have size_ok : ∀ ys : List Value, ys = its.take (HT.sIx its.length 0 lo) ++ its.drop (max (HT.sIx its.length 0 lo) (HT.sIx its.length its.length hi)) →
      ys.toArray.size ≤ sizeLine + 1 := by
    intro ys q
    rw [q, List.size_toArray, List.length_append, List.length_take, List.length_drop]
    omega
  refine wpAny_bind (wpAny_updateSeq (hz := by rw [List.size_toArray]; exact hsz) (_hz' := ?z) e rfl ?m)
  case m =>
    refine wpAny_bind (wpAny_letGo ?_)
    refine wpAny_pure ⟨.none, rfl, h _ ?_⟩
    refine congrArg List.toArray ((cut_by (a := HT.sIx its.length 0 lo) (c := HT.sIx its.length its.length hi) (fun x k => ?_) its 0))
    have one := sel_one (HT.sIx its.length 0 lo) (HT.sIx its.length its.length hi) k
    rw [← one]
    rfl
  case z =>
    refine size_ok _ ((cut_by (a := HT.sIx its.length 0 lo) (c := HT.sIx its.length its.length hi) (fun x k => ?_) its 0))
    have one := sel_one (HT.sIx its.length 0 lo) (HT.sIx its.length its.length hi) k
    rw [← one]
    rfl

section
variable {X : Cx}
/-- del xs[lo:hi] of a list -/
def tDelS (to : TE) (tl th : TO) : TS := fun D σ H => to σ H fun x H1 => tl σ H1 fun lo H2 => th σ H2 fun hi H3 =>
  ∃ (l : Addr) (xs : List V), x = .ref l ∧ H3 l = some (.lst xs) ∧
    D.nx σ (upd H3 l (.lst (xs.take (HT.sIx xs.length 0 lo) ++ xs.drop (max (HT.sIx xs.length 0 lo) (HT.sIx xs.length xs.length hi)))))
theorem ps_delS {o : Expr} {lo hi : Option Expr} {to : TE} {tl th : TO} {p2 tpos pos : Pos}
    (ho : PE X o to) (hl : PO X lo tl) (hu : PO X hi th) :
    PS X (.Delete [.Subscript o (.Slice lo hi none p2) tpos] pos) (tDelS to tl th) := by
  refine ⟨fun pins s σ H D I h => ?_⟩
  refine wpAny_Delete (wpAny_deleteEach_cons (wpAny_delete_Subscript (thn (ho.run pins s σ H _ I h) fun u s1 got => ?_)))
  obtain ⟨x, H1, I1, rx, q1⟩ := got
  refine wpAny_Slice (thn (hl.run pins s1 σ H1 _ I1 q1) fun vl s2 got2 => ?_)
  obtain ⟨l, H2, I2, pl, q2⟩ := got2
  refine thn (hu.run pins s2 σ H2 _ I2 q2) fun vu s3 got3 => ?_
  obtain ⟨r, H3, I3, pu, a, xs, ex, hH, q3⟩ := got3
  rw [evalPart_none]
  refine wpAny_pure ?_
  subst ex
  cases (show u = Value.ref a from rx)
  have I4 : Inv X pins σ H3 { s3 with heap := s3.heap.push { cls := .type "slice", data := .fields #[vl, vu, .none] } } :=
    I3.kept (t' := s3.toks) fun b ob q => Heap.get?_push_of_some _ q
  obtain ⟨z, its, n, rv, len, e⟩ := I4.lstM hH
  refine delItem_slice e (Heap.IsSliceOf.new ..) pl pu (by rw [← len]; exact z) fun f hf => ?_
  refine wpAny_deleteEach_nil ⟨σ, _, ?_, q3⟩
  rw [← len] at hf
  refine I4.lset (t' := s3.toks) hH e hf (Vals.append (rv.take _) (rv.drop _)) ?_
  rw [List.length_append, List.length_take, List.length_drop]
  omega
end

def rIxN (K : PySem.W.Frag) : V → V → Hp → VK → Prop := fun x y H Q => ∃ p xs, ∃ (j : Nat) (v : V), x = .ref p ∧ y = .int j ∧ SqL K H p xs ∧ xs[j]? = some v ∧ Q v H
section
variable {X : Cx}
/-- xs[i] op= e reads xs[i] -/
theorem get_list : PGet X (rIxN X.K) := by
  intro pins s σ H o i ov iv Q I ro ri h
  obtain ⟨p, xs, j, z, rfl, rfl, hq, he, q⟩ := h
  cases (show ov = Value.ref p from ro)
  obtain ⟨t, rfl⟩ := (show ∃ t, iv = Value.int (j : Nat) t from ri)
  obtain ⟨its, r, pl, hz⟩ := I.list hq
  obtain ⟨u, eu, ru⟩ := r.get he
  have lt : j < its.length := (List.getElem?_eq_some_iff.mp eu).1
  have line := line63
  have len := r.length
  refine wpAny_getItem_list pl.isList (by omega) (by omega) (x := u) ?_ ⟨z, H, I, ru, q⟩
  rw [Int.toNat_natCast]
  simpa using eu
end
end GX
namespace GX
open PySem PySem.Spec PyProof.Rows L2
/-! ## the greatest of a list of ints; dicts whose keys are ints and None -/
def nthI (l : List Int) (i : Nat) : Int := l.getD i 0
theorem best_lt (bt : Nat → Nat → Bool) : ∀ n, argBest bt n ≤ n
  | 0 => Nat.le_refl _
  | n + 1 => by
    unfold argBest
    split
    · exact Nat.le_refl _
    · exact Nat.le_succ_of_le (best_lt bt n)
theorem best_max (l : List Int) : ∀ n i, i ≤ n → nthI l i ≤ nthI l (argBest (fun i j => decide (nthI l i > nthI l j)) n)
  | 0, i, h => by
    have : i = 0 := Nat.le_zero.mp h
    subst this
    exact Int.le_refl _
  | n + 1, i, h => by
    unfold argBest
    by_cases c : nthI l (n + 1) > nthI l (argBest (fun i j => decide (nthI l i > nthI l j)) n)
    · rw [if_pos (decide_eq_true c)]
      by_cases e : i = n + 1
      · subst e
        exact Int.le_refl _
      · have := best_max l n i (by omega)
        omega
    · rw [if_neg (by rw [decide_eq_true_iff]; exact c)]
      by_cases e : i = n + 1
      · subst e
        omega
      · exact best_max l n i (by omega)
theorem ints_nth : ∀ {l : List Int} {its : List Value} {i : Nat} {v : Value}, Vals (l.map V.int) its → its[i]? = some v → ∃ t, v = .int (nthI l i) t
  | [], its, i, v, r, h => by
    rw [List.map_nil] at r
    cases r
    simp at h
  | x :: l, its, i, v, r, h => by
    rw [List.map_cons] at r
    cases r with
    | @cons a b as bs q t =>
      cases i with
      | zero =>
        have : b = v := by simpa using h
        subst this
        exact q
      | succ i => exact ints_nth (l := l) (i := i) t (by simpa using h)
def rMaxL (K : PySem.W.Frag) : List V → Hp → VK → Prop := fun xs H Q => ∃ (p : Addr) (l : List Int), xs = [.ref p] ∧ SqL K H p (l.map V.int) ∧ l ≠ [] ∧ ∀ m, m ∈ l → (∀ x ∈ l, x ≤ m) → Q (.int m) H
theorem nth_mem {l : List Int} {i : Nat} (h : i < l.length) : nthI l i ∈ l := by
  unfold nthI
  rw [List.getD_eq_getElem?_getD, List.getElem?_eq_getElem h]
  exact List.getElem_mem h
theorem best_is {l : List Int} (h : l ≠ []) {v : Value} {t : Tok} (e : v = .int (nthI l (argBest (fun i j => decide (nthI l i > nthI l j)) (l.length - 1))) t) : ∃ m, m ∈ l ∧ (∀ x ∈ l, x ≤ m) ∧ v = .int m t := by
  have pos : 0 < l.length := List.length_pos_iff.mpr h
  refine ⟨_, nth_mem ?_, fun x hx => ?_, e⟩
  · have := best_lt (fun i j => decide (nthI l i > nthI l j)) (l.length - 1)
    omega
  · obtain ⟨i, hi, rfl⟩ := List.getElem_of_mem hx
    have := best_max l (l.length - 1) i (by omega)
    have z : nthI l i = l[i] := by
      unfold nthI
      rw [List.getD_eq_getElem?_getD, List.getElem?_eq_getElem hi]
      rfl
    rw [z] at this
    exact this
theorem call_maxL {X : Cx} (hc : X.calm = true) : CallR X (.builtin "max") (rMaxL X.K) := by
  intro pins s σ H vs us Q I r h
  obtain ⟨p, l, rfl, hs, hn, q⟩ := h
  obtain ⟨its, rv, hl, _⟩ := I.list hs
  rw [Vals.ref1 r]
  have pos : 0 < l.length := List.length_pos_iff.mpr hn
  have len : l.length = its.length := by rw [← rv.length, List.length_map]
  refine call_max_walk (iter_anyList hl.isList fun s₂ e st hfp hlI => ?_)
  subst e
  refine ⟨_, _, _, _, _, _, _, rfl, Walks.list (A := X.A.in1) (I.ok.hd hc) _ p hlI its.toArray, st, hfp, by simpa [← len] using pos, CmpOf.ints_gt (nthI l) (fun i v hv => ints_nth rv (by simpa using hv)), fun v h' tk hP hk => ?_⟩
  have hP' : its[argBest (fun i j => decide (nthI l i > nthI l j)) (l.length - 1)]? = some v := by simpa [← len] using hP
  obtain ⟨t, e⟩ := ints_nth rv hP'
  obtain ⟨m, hm, hx, rfl⟩ := best_is hn e
  exact ⟨.int m, H, I.kept (PySem.old_kept hk), ⟨_, rfl⟩, q m hm hx⟩
def rMaxD (K : PySem.W.Frag) : List V → List V → Hp → VK → Prop := fun xs zs H Q => ∃ (p : Addr) (l : List Int) (d : V), xs = [.ref p] ∧ zs = [d] ∧ SqL K H p (l.map V.int) ∧ (l = [] → Q d H) ∧ ∀ m, m ∈ l → (∀ x ∈ l, x ≤ m) → Q (.int m) H
theorem call_maxD {X : Cx} (hc : X.calm = true) : CallRK X (.builtin "max") [Str.ofString "default"] (rMaxD X.K) := by
  intro pins s σ H vs zs us ws Q I r rz h
  obtain ⟨p, l, d, rfl, rfl, hs, q0, q⟩ := h
  obtain ⟨its, rv, hl, _⟩ := I.list hs
  rw [Vals.ref1 r]
  obtain ⟨dv, rfl, rd⟩ := vals1 rz
  have len : l.length = its.length := by rw [← rv.length, List.length_map]
  refine call_max_walkD (iter_anyList hl.isList fun s₂ e st hfp hlI => ?_)
  subst e
  refine ⟨_, _, _, _, _, _, _, s.heap, fun i j => decide (nthI l i > nthI l j), rfl, (Walks.list (A := X.A.in1) (I.ok.hd hc) _ p hlI its.toArray).toS, st, hfp, fun b o e hb => ?_, fun b o e => Heap.get?_push_of_some _ e, fun z s' mv => ?_, fun z => ⟨fun i j vi vj s Q E _ => CmpOf.ints_gt (P := fun i v => its.toArray[i]? = some v) (nthI l) (fun i v hv => ints_nth rv (by simpa using hv)) i j vi vj s Q E, fun v s' hP mv => ?_⟩⟩
  · have e1 := Heap.lt_size e
    have : b = s.heap.objs.size := by simpa using hb
    rw [this] at e1
    exact absurd e1 (Nat.lt_irrefl _)
  · have ln : l = [] := List.length_eq_zero_iff.mp (by rw [len]; simpa using z)
    have k : ∀ b u, s.heap.get? b = some u → s'.heap.get? b = some u := fun b u e => mv.heap b u (fun hb => by
      have e1 := Heap.lt_size e
      have : b = s.heap.objs.size := by simpa using hb
      rw [this] at e1
      exact absurd e1 (Nat.lt_irrefl _)) (Heap.get?_push_of_some _ e)
    obtain ⟨hp, g, dd, tk, os⟩ := s'
    have e1 : g = s.gens := mv.gens
    have e2 : dd = s.drawn := mv.drawn
    have e3 : os = s.os := mv.os
    subst e1 e2 e3
    exact ⟨d, H, I.kept k, rd, q0 ln⟩
  · have pos : 0 < its.length := by simpa using z
    have hn : l ≠ [] := fun e => by rw [e, List.length_nil] at len; omega
    have hP' : its[argBest (fun i j => decide (nthI l i > nthI l j)) (l.length - 1)]? = some v := by simpa [← len] using hP
    obtain ⟨t, e⟩ := ints_nth rv hP'
    obtain ⟨m, hm, hx, rfl⟩ := best_is hn e
    have k : ∀ b u, s.heap.get? b = some u → s'.heap.get? b = some u := fun b u e => mv.heap b u (fun hb => by
      have e1 := Heap.lt_size e
      have : b = s.heap.objs.size := by simpa using hb
      rw [this] at e1
      exact absurd e1 (Nat.lt_irrefl _)) (Heap.get?_push_of_some _ e)
    obtain ⟨hp, g, dd, tk, os⟩ := s'
    have e1 : g = s.gens := mv.gens
    have e2 : dd = s.drawn := mv.drawn
    have e3 : os = s.os := mv.os
    subst e1 e2 e3
    exact ⟨.int m, H, I.kept k, ⟨_, rfl⟩, q m hm hx⟩

/-! ### dicts by ints and None -/
def lfV : Leaf → V
  | .none => .non
  | .num i => .int i
  | .text x => .str x
theorem lf_is {k : Leaf} {u : Value} (r : RelV (lfV k) u) : Leaf.isOf k u = true := by
  cases k with
  | none => cases (show u = Value.none from r); rfl
  | num i => obtain ⟨t, rfl⟩ := r; exact decide_eq_true rfl
  | text x => obtain ⟨t, rfl⟩ := r; exact decide_eq_true rfl
def DN (P : Program) (w : World) (a : Addr) (ep : Nat) (kvs : List (Leaf × V)) : HO :=
  .ext fun h => kvs.length ≤ sizeLine ∧ (a == sysModules) = false ∧ ∃ vs, KV kvs vs ∧ h.DictAt (leafKind P w) a vs ep
section
variable {P : Program} {w : World} {a : Addr} {ep : Nat} {kvs : List (Leaf × V)}
theorem dn_new {H : Hp} {h : Heap} {vs : List (Leaf × Value)} (z : kvs.length ≤ sizeLine) (hd : (a == sysModules) = false) (rel : KV kvs vs) (dd : h.DictAt (leafKind P w) a vs ep) : ObjOk P w H h a (DN P w a ep kvs) := by
  have ⟨o, _, ho, _⟩ := dd
  refine ⟨⟨z, hd, vs, rel, dd⟩, ⟨o, ho⟩, fun h1 h2 p k => ?_⟩
  obtain ⟨z, hd, vs, rel, o, es, ho, r⟩ := p
  exact ⟨z, hd, vs, rel, o, es, k o ho, r⟩
theorem dn_get {X : Cx} {pins : List (Addr × Obj)} {σ : L2.St} {H : Hp} {s : Shared} (I : Inv X pins σ H s) (ha : H a = some (DN X.prog X.w a ep kvs)) :
    kvs.length ≤ sizeLine ∧ (a == sysModules) = false ∧ ∃ vs, KV kvs vs ∧ s.heap.DictAt (leafKind X.prog X.w) a vs ep := (I.hok a _ ha).1
end
def tDGetN (P : Program) (w : World) (td ty : TE) : TE := fun σ H Q => td σ H fun x H1 => ty σ H1 fun y H2 => ∃ (a : Addr) (ep : Nat) (kvs : List (Leaf × V)) (k : Leaf) (v : V), x = .ref a ∧ H2 a = some (DN P w a ep kvs) ∧ y = lfV k ∧ valV kvs k = some v ∧ Q v H2
def sDPutN (P : Program) (w : World) (td ty tv : TE) : TS := fun D σ H => tv σ H fun v H1 => td σ H1 fun x H2 => ty σ H2 fun y H3 => ∃ (a : Addr) (ep : Nat) (kvs : List (Leaf × V)) (k : Leaf), x = .ref a ∧ H3 a = some (DN P w a ep kvs) ∧ y = lfV k ∧ kvs.length < sizeLine ∧
  ∀ ep', D.nx σ (upd H3 a (DN P w a ep' (putK kvs k v)))
section
variable {X : Cx} {o i e value : Expr} {pos pos' tpos apos cpos : Pos} {td ty tv : TE} {tg : Expr}
theorem pe_dgetN (P : Program) (w : World) (ho : PE X o td) (hi : PE X i ty) (hs : NoSl i) (hP : X.prog = P := by rfl) (hw : X.w = w := by rfl) : PE X (.Subscript o i pos) (tDGetN P w td ty) := by
  subst hP hw
  refine ⟨fun pins s σ H Q I h => ?_⟩
  refine subD_of PySem.F.slot_dict_getitem.lookup hs (thn (ho.run pins s σ H _ I h) fun u s1 ⟨x, H1, I1, rx, q1⟩ => thn (hi.run pins s1 σ H1 _ I1 q1) fun iv s2 ⟨y, H2, I2, ry, a, ep, kvs, k, v, ex, ha, ey, l, q2⟩ => ?_)
  subst ex ey
  obtain rfl : u = Value.ref a := rx
  obtain ⟨z, hd, vs, rel, dd⟩ := dn_get I2 ha
  obtain ⟨w', hw, rw'⟩ := RelO.some_of (v := v) (o := valueAt vs k) (by rw [← l]; exact rel.val k)
  exact ⟨dd.dictOf.typeIs, wpAny_getItem_of (knd := leafKind X.prog X.w) (lf_is ry) dd.dictOf.mapOf hw ⟨v, H2, I2.tok _, rw', q2⟩⟩
theorem ps_dputN (P : Program) (w : World) (ho : PE X o td) (hi : PE X i ty) (hv : PE X value tv) (hs : swapsWith value (some (.Subscript o i pos')) pos.line X.env = pure false) (hP : X.prog = P := by rfl) (hw : X.w = w := by rfl) :
    PS X (.Assign [.Subscript o i pos'] value pos) (sDPutN P w td ty tv) := by
  subst hP hw
  refine ⟨fun pins s σ H D I h => ?_⟩
  refine wpAny_Assign_Subscript (thn (hv.run pins s σ H _ I h) fun r s1 ⟨v, H1, I1, rv, q1⟩ => thn (ho.run pins s1 σ H1 _ I1 q1) fun u s2 ⟨x, H2, I2, rx, q2⟩ => thn (hi.run pins s2 σ H2 _ I2 q2) fun iv s3 ⟨y, H3, I3, ry, a, ep, kvs, k, ex, ha, ey, l, q3⟩ => ?_) hs
  subst ex ey
  obtain rfl : u = Value.ref a := rx
  obtain ⟨z, hd, vs, rel, dd⟩ := dn_get I3 ha
  have hz : vs.length ≤ sizeLine := by rw [← rel.length]; exact z
  have hl : (putK kvs k v).length ≤ sizeLine := by have := length_putK kvs k v; omega
  refine wpAny_setItem_pairs (knd := leafKind X.prog X.w) (hsz := hz) (lf_is ry) dd.dictOf fun h' dd' hs => ?_
  obtain ⟨q, es, ep', hq, rr⟩ := dd'
  have dd2 : h'.DictAt (leafKind X.prog X.w) a (stored vs k r) ep' := ⟨q, es, hq, rr⟩
  exact ⟨σ, _, d_write I3 (by rw [ha]; exact True.intro) hs ⟨q, hq⟩ (dn_new hl hd (rel.put k rv) dd2), q3 ep'⟩
end
def mergeN (kvs more : List (Leaf × V)) : List (Leaf × V) := more.foldl (fun acc kv => putK acc kv.1 kv.2) kvs
theorem kv_merge : ∀ {more : List (Leaf × V)} {rs : List (Leaf × Value)} {kvs : List (Leaf × V)} {vs : List (Leaf × Value)}, KV more rs → KV kvs vs → KV (mergeN kvs more) (merged vs rs) := by
  intro more rs kvs vs r
  unfold KV at r
  induction r generalizing kvs vs with
  | nil => intro q; exact q
  | @cons p q ps qs h t ih =>
    intro r0
    have e : KV (putK kvs p.1 p.2) (stored vs q.1 q.2) := by
      have := r0.put p.1 h.2
      rw [← h.1]; exact this
    exact ih e
theorem mergeN_len : ∀ (more kvs : List (Leaf × V)), (mergeN kvs more).length ≤ kvs.length + more.length
  | [], kvs => by show kvs.length ≤ kvs.length + 0; omega
  | p :: r, kvs => by
    have h1 := mergeN_len r (putK kvs p.1 p.2)
    have h2 := length_putK kvs p.1 p.2
    show (mergeN (putK kvs p.1 p.2) r).length ≤ _
    rw [List.length_cons]; omega
theorem carriesN {P : Program} {w : World} : ∀ {kvs : List (Leaf × V)} {ws : List (Value × Value)}, VV (kvs.map fun kv => (lfV kv.1, kv.2)) ws → ∃ rs, Carries (leafKind P w) ws rs ∧ KV kvs rs
  | [], _, r => by rw [List.map_nil] at r; cases r; exact ⟨[], True.intro, .nil⟩
  | p :: kvs, _, r => by
    rw [List.map_cons] at r
    cases r with
    | @cons a b as bs h t =>
      obtain ⟨rs, c, q⟩ := carriesN (P := P) (w := w) t
      obtain ⟨b1, b2⟩ := b
      exact ⟨(p.1, b2) :: rs, ⟨lf_is h.1, rfl, c⟩, .cons ⟨rfl, h.2⟩ q⟩
def tDispN (P : Program) (w : World) (trs : List (TE × TE)) : TE := fun σ H Q => ∀ p ep, H p = none → tPairs trs σ (upd H p (DN P w p ep [])) fun ps H2 => H2 p = some (DN P w p ep []) ∧
  ∃ kvs : List (Leaf × V), ps = kvs.map (fun kv => (lfV kv.1, kv.2)) ∧ kvs.length ≤ 15 ∧ ∀ ep', Q (.ref p) (upd H2 p (DN P w p ep' (mergeN [] kvs)))
theorem dn_empty {P : Program} {w : World} (h : Heap) : ∃ ep, (h.push { cls := .type "dict", data := .dict #[] }).DictAt (leafKind P w) h.objs.size [] ep := by
  obtain ⟨o, es, ep, r⟩ := (Heap.DictOf.new (knd := leafKind P w) h)
  exact ⟨ep, o, es, r⟩
section
variable {X : Cx} {pos : Pos}
theorem pe_dispN (P : Program) (w : World) {keys : List (Option Expr)} {values : List Expr} {trs : List (TE × TE)} (h : PPs X pos keys values trs) (hall : keys.all (·.isSome) = true) (hl : keys.length = values.length) (h0 : keys ≠ [])
    (h15 : keys.length ≤ 15) (hP : X.prog = P := by rfl) (hw : X.w = w := by rfl) : PE X (.Dict keys values pos) (tDispN P w trs) := by
  subst hP hw
  refine ⟨fun pins s σ H Q I q => ?_⟩
  have hn := I.hok.fresh (Nat.le_refl s.heap.objs.size)
  obtain ⟨ep, d0⟩ := dn_empty (P := X.prog) (w := X.w) s.heap
  have hb : (s.heap.objs.size == sysModules) = false := beq_eq_false_iff_ne.mpr (Ne.symm (Nat.ne_of_lt I.big))
  have I1 := I.laid (a := s.heap.objs.size) (o := DN X.prog X.w s.heap.objs.size ep []) (h' := s.heap.push { cls := .type "dict", data := .dict #[] }) (t' := s.toks) (fun _ _ q => Heap.get?_push_of_some _ q) (Nat.le_refl _) (dn_new (Nat.zero_le _) hb .nil d0)
  refine wpAny_Dict_walk (knd := leafKind X.prog X.w) hall hl h0 h15 (thn (h.run pins _ σ _ _ I1 (q _ ep hn)) fun ws s2 ⟨ps, H2, I2, rel, e, kvs, eps, lk, q2⟩ => ?_)
  subst eps
  obtain ⟨rs, c, rk⟩ := carriesN (P := X.prog) (w := X.w) rel
  obtain ⟨z, hd, vs0, r0, dd⟩ := dn_get I2 e
  cases r0
  refine ⟨rs, c, dd.dictOf, fun h' dd' hs => ?_⟩
  have hz : (mergeN [] kvs).length ≤ sizeLine := by
    have h1 := mergeN_len kvs []
    rw [List.length_nil] at h1
    rw [sizeLine_eq]; omega
  obtain ⟨q', es, ep', hq, rr⟩ := dd'
  have dd2 : h'.DictAt (leafKind X.prog X.w) s.heap.objs.size (merged [] rs) ep' := ⟨q', es, hq, rr⟩
  exact ⟨.ref s.heap.objs.size, _, d_write I2 (by rw [e]; exact True.intro) hs ⟨q', hq⟩ (dn_new hz hd (kv_merge rk .nil) dd2), rfl, q2 ep'⟩
end
/-- the values of the dict at d, which stands as it is while they are walked -/
def Itn (P : Program) (w : World) (d : Addr) (ep : Nat) (kvs : List (Leaf × V)) : It :=
  ⟨fun i H => H d = some (DN P w d ep kvs) ∧ i < kvs.length, fun i H x H' => H' = H ∧ ∃ k, kvs[i]? = some (k, x), fun i H => H d = some (DN P w d ep kvs) ∧ kvs.length ≤ i⟩
theorem turn_valsN {P : Program} {w : World} {K : PySem.W.Frag} {tg : Expr} {d : Addr} {ep : Nat} {kvs : List (Leaf × V)} (it : Addr) : Turn P w K tg (Itn P w d ep kvs) [it] it (fun i h => h.IsValIter it d i kvs.length ep) where
  mem := by simp
  obj := fun i h st b hb => by
    have e : b = it := by simpa using hb
    subst e
    obtain ⟨oi, e, c, dd⟩ := st
    exact ⟨oi, e, fun v z => by rw [dd] at z; cases z⟩
  keep := fun i h h' st k => st.at fun oi e => k it (by simp) oi e
  item := by
    intro X hP hw hK hc i pins s σ H E I hf st hg
    subst hP hw hK
    obtain ⟨hd, hi⟩ := hg
    obtain ⟨f0, f1, f2, f3, f4, f5⟩ := hf it (by simp)
    obtain ⟨z, hs, vs, kv, hm⟩ := dn_get I hd
    obtain ⟨⟨k, v⟩, hkv⟩ : ∃ p, kvs[i]? = some p := ⟨kvs[i], List.getElem?_eq_getElem hi⟩
    obtain ⟨u, hu, ru⟩ := kv_get kv hkv
    have hl : kvs.length = vs.length := Paired.length kv
    rw [hl] at st
    refine wpAny_pyNext_values_item st hm hu fun h' st' sb => ?_
    have I1 : Inv X pins σ H { s with heap := h' } := I.turned (t' := s.toks) (fun b ob hb e => (sb.2 b hb).trans e) f0 f1 f3 f4 f5
    obtain ⟨oi, e, c, dd⟩ := id st'
    refine ⟨u, rfl, go_of (s := { s with heap := h' }) e c dd (by decide) ⟨v, H, I1, ru, ⟨rfl, k, hkv⟩, ?_, fun b hb => (hf b hb).1⟩⟩
    show h'.IsValIter it d (i + 1) kvs.length _
    rw [hl]
    exact st'
  done := by
    intro X hP hw hK hc i pins s σ H E I hf st hg
    subst hP hw hK
    obtain ⟨hd, hi⟩ := hg
    obtain ⟨f0, f1, f2, f3, f4, f5⟩ := hf it (by simp)
    obtain ⟨z, hs, vs, kv, hm⟩ := dn_get I hd
    have hl : kvs.length = vs.length := Paired.length kv
    rw [hl] at st
    exact wpAny_pyNext_values_end (I.ok.hd hc) st hm (List.getElem?_eq_none (by omega)) fun h' eb => ⟨rfl, I.turned (t' := s.toks) (fun b ob hb e => eb b ob hb e) f0 f1 f3 f4 f5⟩
  self := fun A i s Q E st h => wpAny_pyIter_valiter st h
def iValsN (P : Program) (w : World) (td : TE) : TI := fun σ H R => td σ H fun x H1 => ∃ d ep kvs, x = .ref d ∧ H1 d = some (DN P w d ep kvs) ∧ R (Itn P w d ep kvs) H1
theorem pi_valsN (P : Program) (w : World) {X : Cx} {tg e : Expr} {td : TE} {apos cpos : Pos} (he : PE X e td) (hbase : attributeBase e "values" X.env (eval e X.env) = eval e X.env := by rfl) (hline : (apos.endLine == cpos.line) = true := by rfl) (hP : X.prog = P := by rfl) (hw : X.w = w := by rfl) :
    PI X tg (.Call (.Attribute e "values" apos) [] [] cpos) (iValsN P w td) := by
  subst hP hw
  refine ⟨fun pins s σ H R I h => ?_⟩
  refine wpAny_Call_method (T := "dict") (id := "dict.values") hbase rfl hline F.plainAttrs_dict F.slot_dict_values F.type_dict_values (thn (he.run pins s σ H _ I h) fun u s1 ⟨x, H1, I1, rx, d, ep, kvs, ex, hd, q⟩ => ?_)
  subst ex
  obtain rfl : u = Value.ref d := rx
  obtain ⟨z, hs, vs, kv, hm⟩ := dn_get I1 hd
  have hl : kvs.length = vs.length := Paired.length kv
  refine ⟨hm.dictOf.typeIs, hm.dictOf.mapOf.noDict, ?_⟩
  have I2 : Inv X pins σ H1 { s1 with heap := s1.heap.push { cls := .type "dict_values", data := .fields #[.ref d] } } := I1.kept (t' := s1.toks) fun b ob q => Heap.get?_push_of_some _ q
  have fin : wpAny (model X.prog X.w) X.A (pyIter (.ref s1.heap.objs.size)) (PIE X pins σ tg R) X.xe { s1 with heap := s1.heap.push { cls := .type "dict_values", data := .fields #[.ref d] } } := by
    refine wpAny_pyIter_values (d := d) (knd := leafKind X.prog X.w) ⟨_, Heap.get?_push_size _ rfl, rfl, rfl⟩ (hm.push _) (pi_one (tk := s1.toks) I2 _ (turn_valsN _) ⟨_, Heap.get?_push_size _ rfl, rfl, ?_⟩ q)
    rw [hl] <;> rfl
  show wpAny _ _ (callWith cpos (.builtin "dict.values") [.ref d] [] []) _ X.xe s1
  exact method_meetsIn F.slot_dict_values F.entry_dict_values rfl (PySem.evalArgs_none ⟨rfl, hm.dictOf.typeIs, F.args_dict_values_1 _, _, meets_dict_values (leafKind X.prog X.w) d hs, ⟨vs, hm.dictOf⟩, fin⟩)
end GX
namespace GX
open PySem PySem.Spec PyProof.Rows L2
/-! ## enumerate of a text -/
/-- the signs of the text, each in a new pair -/
def ItS (z : Str) : It :=
  ⟨fun i _ => i < z.cps.size,
   fun i H v H' => ∃ T c, v = .ref T ∧ H T = none ∧ H' = upd H T (.tup [.int (i : Nat), .str ⟨#[c]⟩]) ∧ z.cps[i]? = some c,
   fun i _ => z.cps.size ≤ i⟩
theorem turn_enumS {P : Program} {w : World} {K : PySem.W.Frag} {elts : List Expr} {kk : Nat} {tpos : Pos} (z : Str) (tz : Tok) (e it : Addr) :
    Turn P w K (.Tuple elts kk tpos) (ItS z) [e, it] e
      (fun i h => (∃ old, IsEnum h e it ((i : Nat) : Int) old) ∧ h.IsStrIter it (strIterType z) z tz i ∧ e ≠ it) where
  mem := by simp
  obj := fun i h st b hb => by
    obtain ⟨⟨old, he⟩, ⟨o, ho, hc, hd⟩, _⟩ := st
    rcases (show b = e ∨ b = it by simpa using hb) with z | z
    · rw [z]; exact ⟨_, he, fun v q => nomatch q⟩
    · rw [z]; exact ⟨o, ho, fun v q => by rw [hd] at q; cases q⟩
  keep := fun i h h' st k =>
    let ⟨⟨old, he⟩, ⟨o, ho, r⟩, n1⟩ := st
    ⟨⟨old, k e (by simp) _ he⟩, ⟨o, k it (by simp) o ho, r⟩, n1⟩
  item := by
    intro X hP hw hK hc i pins s σ H E I hf st hg
    subst hP hw hK
    obtain ⟨⟨old, he⟩, hit, n1⟩ := st
    have elt : e < s.heap.objs.size := Heap.lt_size he
    have ilt : it < s.heap.objs.size := by obtain ⟨_, q, _⟩ := hit; exact Heap.lt_size q
    have hH : X.A.in1.handled = none := I.ok.hd hc
    refine wpAny_pyNext_enum_itemD (Draws.text hH it z tz) he hit hg n1 ?_ fun y h' tk hy ho hst hT hsz hk => ?_
    · intro z
      exact n1 (by simpa using z)
    obtain ⟨c, u, hcx, rfl⟩ := hy
    refine ⟨_, rfl, wpAny_letOwnedTupleGo_enum (s := { s with heap := h', toks := tk + 1 }) ho fun h'' he' sb => ?_⟩
    have hT2 : h''.get? s.heap.objs.size = some { cls := .type "tuple", data := .seq #[.int i tk, .str ⟨#[c]⟩ u] } :=
      (sb.2 _ (Nat.ne_of_gt elt)).trans hT
    have new : ObjOk X.prog X.w (upd H s.heap.objs.size (.tup [.int (i : Nat), .str ⟨#[c]⟩])) h'' s.heap.objs.size (.tup [.int (i : Nat), .str ⟨#[c]⟩]) :=
      ⟨by show 2 ≤ sizeLine; decide, [.int i tk, .str ⟨#[c]⟩ u], .cons ⟨_, rfl⟩ (.cons ⟨_, rfl⟩ .nil), ⟨_, hT2, rfl, _, rfl⟩⟩
    have I1 : Inv X pins σ (upd H s.heap.objs.size (.tup [.int (i : Nat), .str ⟨#[c]⟩])) { s with heap := h'', toks := tk + 1 } := by
      refine I.turnedNew (ch := [e, it]) (fun b ob hb q => ?_) hf (Nat.le_refl _) new
      have b1 : b ≠ e := fun z => hb (by simp [z])
      have b2 : b ≠ it := fun z => hb (by simp [z])
      exact (sb.2 b b1).trans (hk b ob b1 b2 q)
    refine ⟨.ref s.heap.objs.size, _, I1, rfl, ⟨_, c, rfl, I.hok.fresh (Nat.le_refl _), rfl, hcx⟩, ⟨⟨.str ⟨#[c]⟩ u, ?_⟩, ?_, n1⟩, fun b hb => ?_⟩
    · have e1 : ((i + 1 : Nat) : Int) = (i : Int) + 1 := by omega
      rw [e1]
      exact he'
    · obtain ⟨o, q, r⟩ := hst
      exact ⟨o, (sb.2 it (Ne.symm n1)).trans q, r⟩
    · have lt : b < s.heap.objs.size := by
        rcases (show b = e ∨ b = it by simpa using hb) with z | z
        · rw [z]; exact elt
        · rw [z]; exact ilt
      rw [upd_ne (Nat.ne_of_lt lt)]
      exact (hf b hb).1
  done := by
    intro X hP hw hK hc i pins s σ H E I hf st hg
    subst hP hw hK
    obtain ⟨⟨old, he⟩, hit, n1⟩ := st
    obtain ⟨f0, f1, f2, f3, f4, f5⟩ := hf it (by simp)
    have hT : s.TypeIs (.ref e) "enumerate" := ⟨_, he, rfl⟩
    have hH : X.A.in1.handled = none := I.ok.hd hc
    unfold pyNext
    refine wpAny_bind (wpAny_attempt (wpAny_callSpecial?_slot (name := Str.ofString "__next__") hT F.slot_enumerate_next
      (wpAny_call_entry F.slot_enumerate_next hT F.entry_enumerate_next ?_ (F.args_enumerate_next_1 _))))
    show wpAny _ _ (field (.ref e) 2 >>= _) _ _ _
    refine wpAny_bind (wpAny_field he rfl (x := .ref it) rfl ?_)
    have hn : z.cps[i]? = none := by
      have q : z.cps.size ≤ i := hg
      simp [q]
    refine wpAny_bind ?_
    cases ha : z.cps.all (· < 128)
    · have hit' : s.heap.IsStrIter it "str_iterator" z tz i := by simpa [strIterType, ha] using hit
      refine wpAny_nextOf_wide_end hH hit' hn (fun h' x eb hx' => ?_)
      obtain ⟨o, ho, hcl⟩ := hx'
      refine wpAny_bind (wpAny_isInstance (T := "StopIteration") (b := true) ⟨o, ho, hcl⟩ isSubtype_stop ?_)
      exact wpAny_pure ⟨rfl, I.turned (t' := s.toks) (fun b o hb q => eb b o hb q) f0 f1 f3 f4 f5⟩
    · have hit' : s.heap.IsStrIter it "str_ascii_iterator" z tz i := by simpa [strIterType, ha] using hit
      refine wpAny_nextOf_ascii_end hH hit' hn (fun h' x eb hx' => ?_)
      obtain ⟨o, ho, hcl⟩ := hx'
      refine wpAny_bind (wpAny_isInstance (T := "StopIteration") (b := true) ⟨o, ho, hcl⟩ isSubtype_stop ?_)
      exact wpAny_pure ⟨rfl, I.turned (t' := s.toks) (fun b o hb q => eb b o hb q) f0 f1 f3 f4 f5⟩
  self := fun A i s Q E st h => let ⟨⟨_, he⟩, _⟩ := st; wpAny_pyIter_enum he h
def iEnumS (ta : TA) : TI := fun σ H R => ta σ H fun vs H1 => ∃ z : Str, vs = [.str z] ∧ R (ItS z) H1
theorem pi_enumS {X : Cx} {e : Expr} {ta : TA} {p pos tpos : Pos} {elts : List Expr} {kk : Nat}
    (hg : Gl X "enumerate") (hm : X.mg "enumerate" = none) (ha : PA X [e] ta)
    (hs : starEach [e] X.env = [(false, eval e X.env)] := by rfl) :
    PI X (.Tuple elts kk tpos) (.Call (.Name "enumerate" p) [e] [] pos) (iEnumS ta) := by
  refine ⟨fun pins s σ H R I h => ?_⟩
  refine Call_ (ld_blt I hg hm boot_enumerate (PyProof.Rows.callWith_type1 (thn (ha.run pos pins s σ H _ I h) fun us s1 got => ?_) hs rfl))
  obtain ⟨vs, H1, I1, r1, z, ex, q⟩ := got
  subst ex
  obtain ⟨u, rfl, t, rfl⟩ := vals1 r1
  refine call_enumerate_str fun h' he hit hsz hk => wpAny_pyIter_enum he ?_
  have I2 : Inv X pins σ H1 { s1 with heap := h' } := I1.kept (t' := s1.toks) hk
  refine ⟨s1.heap.objs.size + 1, [s1.heap.objs.size + 1, s1.heap.objs.size], _, _, H1, rfl, I2,
    turn_enumS z t (s1.heap.objs.size + 1) s1.heap.objs.size, ⟨⟨.none, he⟩, hit, Nat.succ_ne_self _⟩, fun b hb => ?_, q⟩
  have le : s1.heap.objs.size ≤ b := by
    rcases (show b = s1.heap.objs.size + 1 ∨ b = s1.heap.objs.size by simpa using hb) with z | z
    · rw [z]; exact Nat.le_succ _
    · rw [z]; exact Nat.le_refl _
  exact I1.fpOk le (I1.hok.fresh le)
/-! ### c * n, c one sign -/
theorem rep_fold (c : Nat) : ∀ (n : Nat) (a : Array Nat), ((List.replicate n #[c]).foldl (· ++ ·) a).toList = a.toList ++ List.replicate n c
  | 0, a => by simp
  | n + 1, a => by
    rw [List.replicate_succ, List.foldl_cons, rep_fold c n, List.replicate_succ, Array.toList_append, List.append_assoc]
    rfl
def rRepS : R2 := fun x y H Q => ∃ (c n : Nat), x = .str ⟨#[c]⟩ ∧ y = .int (n : Nat) ∧ n ≤ 30000 ∧ Q (.str ⟨(List.replicate n c).toArray⟩) H
theorem op_repS {X : Cx} : OpR X (binaryOp .Mult) rRepS := by
  intro pins s σ H x y v u Q I rx ry h
  obtain ⟨c, n, rfl, rfl, hn, q⟩ := h
  obtain ⟨t, rfl⟩ := rx
  obtain ⟨t', rfl⟩ := ry
  have n0 : ¬ ((n : Nat) : Int) < -(2 ^ 63 : Int) := by omega
  have n1 : ¬ ((n : Nat) : Int) ≥ 2 ^ 63 := by omega
  have sl : 30000 ≤ sizeLine := by decide
  refine P.mul_str (by rw [decide_eq_false n0, decide_eq_false n1]; rfl) (fun _ _ => ?_) (fun _ _ => ?_) ?_
  · show ¬ ((1 : Int) > (2 ^ 63 - 1) / (n : Nat))
    rename_i h1 h2
    have hp : (0 : Int) < (n : Nat) := by omega
    have : (1 : Int) ≤ (2 ^ 63 - 1) / (n : Nat) := (Int.le_ediv_iff_mul_le hp).mpr (by omega)
    omega
  · show Builtin.Str.tooLong (1 * ((n : Nat) : Int).toNat) = false
    rw [Int.toNat_natCast, Nat.one_mul]
    unfold Builtin.Str.tooLong
    exact decide_eq_false (by omega)
  · by_cases z : n = 0
    · subst z
      rw [if_pos (by decide)]
      exact ⟨by decide, ⟨.str ⟨#[]⟩, H, I.tok _, ⟨_, rfl⟩, q⟩⟩
    · rw [if_neg (by omega)]
      by_cases o : n = 1
      · subst o
        rw [if_pos (by rfl)]
        exact ⟨.str ⟨#[c]⟩, H, I, ⟨_, rfl⟩, q⟩
      · have e : (((n : Nat) : Int) == 1 || (⟨#[c]⟩ : Str).length == 0) = false := by
          have a : (((n : Nat) : Int) == 1) = false := by
            rw [beq_eq_false_iff_ne]
            omega
          rw [a]
          rfl
        rw [if_neg (by rw [e]; exact Bool.false_ne_true)]
        have f : (⟨(List.replicate ((n : Nat) : Int).toNat (#[c] : Array Nat)).foldl (· ++ ·) #[]⟩ : Str) = ⟨(List.replicate n c).toArray⟩ := by
          rw [Int.toNat_natCast]
          congr 1
          apply Array.toList_inj.mp
          rw [rep_fold]
          rfl
        show Made.post (Made.str ⟨(List.replicate ((n : Nat) : Int).toNat (#[c] : Array Nat)).foldl (· ++ ·) #[]⟩) _ _
        rw [f]
        exact ⟨by show _ ≤ _; simp [Str.length]; omega, ⟨.str _, H, I.tok _, ⟨_, rfl⟩, q⟩⟩
end GX
/-! ## sorted of pairs of (tuple of ints, int) -/
namespace GX
open PySem PySem.Spec PyProof.Rows L2
def ltL : List Int → List Int → Bool
  | [], [] => false
  | [], _ :: _ => true
  | _ :: _, [] => false
  | a :: r, b :: t => if a = b then ltL r t else decide (a < b)
def ltW (p q : List Int × Int) : Bool := if p.1 = q.1 then decide (p.2 < q.2) else ltL p.1 q.1
theorem ltL_cons (a b : Int) (r t : List Int) : ltL (a :: r) (b :: t) = if a = b then ltL r t else decide (a < b) := rfl
theorem ltL_asym : ∀ {a b : List Int}, ltL a b = true → ltL b a = false
  | [], [], _ => rfl
  | [], _ :: _, _ => rfl
  | _ :: _, [], h => by cases h
  | a :: r, b :: t, h => by
    rw [ltL_cons] at h ⊢
    by_cases e : a = b
    · subst e
      rw [if_pos rfl] at h ⊢
      exact ltL_asym h
    · rw [if_neg e] at h
      rw [if_neg (fun z => e z.symm)]
      have := of_decide_eq_true h
      exact decide_eq_false (by omega)
theorem ltL_anti : ∀ {a b : List Int}, ltL a b = false → ltL b a = false → a = b
  | [], [], _, _ => rfl
  | [], _ :: _, h, _ => by cases h
  | _ :: _, [], _, h => by cases h
  | a :: r, b :: t, h, h2 => by
    rw [ltL_cons] at h h2
    by_cases e : a = b
    · subst e
      rw [if_pos rfl] at h h2
      rw [ltL_anti h h2]
    · rw [if_neg e] at h
      rw [if_neg (fun z => e z.symm)] at h2
      have := of_decide_eq_false h
      have := of_decide_eq_false h2
      omega
/-- not above, one behind the other -/
theorem ltL_tr : ∀ {a b c : List Int}, ltL b a = false → ltL c b = false → ltL c a = false
  | [], [], [], _, _ => rfl
  | [], [], _ :: _, _, _ => rfl
  | [], _ :: _, [], _, h => by cases h
  | [], _ :: _, _ :: _, _, _ => rfl
  | _ :: _, [], _, h, _ => by cases h
  | _ :: _, _ :: _, [], _, h => by cases h
  | a :: r, b :: t, c :: u, h1, h2 => by
    rw [ltL_cons] at h1 h2 ⊢
    by_cases e1 : b = a
    · subst e1
      rw [if_pos rfl] at h1
      by_cases e2 : c = b
      · subst e2
        rw [if_pos rfl] at h2 ⊢
        exact ltL_tr h1 h2
      · rw [if_neg e2] at h2 ⊢
        exact h2
    · rw [if_neg e1] at h1
      have q1 := of_decide_eq_false h1
      by_cases e2 : c = b
      · subst e2
        rw [if_neg e1]
        exact h1
      · rw [if_neg e2] at h2
        have q2 := of_decide_eq_false h2
        rw [if_neg (show ¬ c = a by omega)]
        exact decide_eq_false (by omega)
theorem ltL_irr (a : List Int) : ltL a a = false := by
  cases h : ltL a a with
  | false => rfl
  | true => have := ltL_asym h; rw [h] at this; cases this
theorem ltW_pos {p q : List Int × Int} (e : p.1 = q.1) : ltW p q = decide (p.2 < q.2) := if_pos e
theorem ltW_neg {p q : List Int × Int} (e : ¬ p.1 = q.1) : ltW p q = ltL p.1 q.1 := if_neg e
theorem swo_W {α : Type} (k : α → List Int × Int) : SrtO.Swo fun v u => ltW (k v) (k u) := by
  refine ⟨fun x y h => ?_, fun x y z h1 h2 => ?_⟩
  · by_cases e : (k x).1 = (k y).1
    · rw [ltW_pos e] at h
      rw [ltW_pos e.symm]
      have := of_decide_eq_true h
      exact decide_eq_false (by omega)
    · rw [ltW_neg e] at h
      rw [ltW_neg (fun z => e z.symm)]
      exact ltL_asym h
  · by_cases e1 : (k y).1 = (k x).1
    · rw [ltW_pos e1] at h1
      have q1 := of_decide_eq_false h1
      by_cases e2 : (k z).1 = (k y).1
      · rw [ltW_pos e2] at h2
        have q2 := of_decide_eq_false h2
        rw [ltW_pos (e2.trans e1)]
        exact decide_eq_false (by omega)
      · rw [ltW_neg e2] at h2
        rw [ltW_neg (fun q => e2 (q.trans e1.symm)), ← e1]
        exact h2
    · rw [ltW_neg e1] at h1
      by_cases e2 : (k z).1 = (k y).1
      · rw [ltW_neg (fun q => e1 (e2.symm.trans q)), e2]
        exact h1
      · rw [ltW_neg e2] at h2
        by_cases e3 : (k z).1 = (k x).1
        · rw [e3] at h2
          exact absurd (ltL_anti h1 h2) e1
        · rw [ltW_neg e3]
          exact ltL_tr h1 h2
/-! as the machine compares -/
theorem lexAt_shift (e r : Nat → Bool) (z : Bool) : ∀ (k i : Nat), Ob.lexAt (fun j => e (j + 1)) (fun j => r (j + 1)) z i k = Ob.lexAt e r z (i + 1) k
  | 0, _ => rfl
  | k + 1, i => by
    rw [Ob.lexAt_succ, Ob.lexAt_succ, lexAt_shift e r z k (i + 1)]
theorem lexAt_ltL : ∀ ns ms : List Int, Ob.lexAt (fun j => decide (ns.getD j 0 = ms.getD j 0)) (fun j => decide (ns.getD j 0 < ms.getD j 0)) (decide (ns.length < ms.length)) 0 (min ns.length ms.length) = ltL ns ms
  | [], [] => rfl
  | [], _ :: _ => by
    rw [show min ([] : List Int).length _ = 0 from Nat.zero_min _, Ob.lexAt_zero]
    exact decide_eq_true (Nat.zero_lt_succ _)
  | _ :: _, [] => by
    rw [show min _ ([] : List Int).length = 0 from Nat.min_zero _, Ob.lexAt_zero]
    rfl
  | a :: r, b :: t => by
    have e : min (a :: r).length (b :: t).length = min r.length t.length + 1 := by
      rw [List.length_cons, List.length_cons]
      omega
    rw [e, Ob.lexAt_succ, ltL_cons]
    have e2 : decide ((a :: r).length < (b :: t).length) = decide (r.length < t.length) := by
      by_cases q : r.length < t.length
      · rw [decide_eq_true q, decide_eq_true (by rw [List.length_cons, List.length_cons]; omega)]
      · rw [decide_eq_false q, decide_eq_false (by rw [List.length_cons, List.length_cons]; omega)]
    rw [e2, ← lexAt_shift]
    by_cases c : a = b
    · rw [if_pos c, if_pos (show decide ((a :: r).getD 0 0 = (b :: t).getD 0 0) = true from decide_eq_true c)]
      exact lexAt_ltL r t
    · rw [if_neg c, if_neg (show ¬ decide ((a :: r).getD 0 0 = (b :: t).getD 0 0) = true from fun z => c (of_decide_eq_true z))]
      rfl
theorem eq_all (w v : List Int) : ((List.range (min w.length v.length)).all (fun j => decide (w.getD j 0 = v.getD j 0)) && w.length == v.length) = decide (w = v) := by
  rw [Bool.eq_iff_iff]
  constructor
  · intro h
    obtain ⟨h1, h2⟩ := (Bool.and_eq_true _ _).mp h |> fun z => z
    have l := eq_of_beq h2
    refine decide_eq_true (List.ext_getElem l fun i q1 q2 => ?_)
    have := (List.all_eq_true.mp h1) i (List.mem_range.mpr (by omega))
    have := of_decide_eq_true this
    rw [List.getD_eq_getElem?_getD, List.getD_eq_getElem?_getD, List.getElem?_eq_getElem q1, List.getElem?_eq_getElem q2] at this
    exact this
  · intro h
    have e := of_decide_eq_true h
    subst e
    rw [Bool.and_eq_true]
    exact ⟨List.all_eq_true.mpr fun j _ => decide_eq_true rfl, beq_self_eq_true _⟩
/-- a pair of a tuple of ints and an int -/
def IsW (h : Heap) (v : Value) (p : List Int × Int) : Prop := ∃ (a b : Addr) (t : Tok) (its : List Value), v = .ref a ∧ h.IsTuple a #[.ref b, .int p.2 t] ∧ h.IsTuple b its.toArray ∧ IntsAre its p.1
theorem tup_keeps {h h' : Heap} {a : Addr} {xs : Array Value} (p : h.IsTuple a xs) (k : ∀ b o, h.get? b = some o → o.cls = .type "tuple" → h'.get? b = some o) : h'.IsTuple a xs := by
  obtain ⟨o, ho, hc, hd⟩ := p
  exact ⟨o, k _ _ ho hc, hc, hd⟩
theorem IsW.keeps {h h' : Heap} {v : Value} {p : List Int × Int} (q : IsW h v p) (k : ∀ b o, h.get? b = some o → o.cls = .type "tuple" → h'.get? b = some o) : IsW h' v p := by
  obtain ⟨a, b, t, its, e, h1, h2, h3⟩ := q
  exact ⟨a, b, t, its, e, tup_keeps h1 k, tup_keeps h2 k, h3⟩
theorem tup_uniq {h : Heap} {a : Addr} {xs ys : Array Value} (p : h.IsTuple a xs) (q : h.IsTuple a ys) : xs = ys := by
  obtain ⟨o, e, _, n, d⟩ := p
  obtain ⟨o', e', _, n', d'⟩ := q
  rw [e] at e'
  cases e'
  rw [d] at d'
  injection d'
theorem ways_eq {A : Around} {s : Shared} {b c : Addr} {its jts : List Value} {w v : List Int} (h1 : s.heap.IsTuple b its.toArray) (h2 : s.heap.IsTuple c jts.toArray) (i1 : IntsAre its w) (i2 : IntsAre jts v) (hu : A.units < cLine) :
    SeqAt.EqAt A s (.ref b) (.ref c) (decide (w = v)) := by
  by_cases e : b = c
  · subst e
    have q := tup_uniq h1 h2
    have q2 : its = jts := by simpa using q
    subst q2
    have : w = v := (SrtO.iv_ints i1).symm.trans (SrtO.iv_ints i2)
    rw [decide_eq_true this]
    exact SeqAt.EqAt.same _
  · have e1 : its.toArray.size = w.length := by rw [List.size_toArray]; exact i1.length
    have e2 : jts.toArray.size = v.length := by rw [List.size_toArray]; exact i2.length
    have at1 : ∀ j (q1 : j < its.toArray.size), ∃ t, its.toArray[j] = .int (w.getD j 0) t := fun j q1 => PyProof.Rows.IntsAre.int_at i1 _ _ (by simp at q1; simp [q1])
    have at2 : ∀ j (q1 : j < jts.toArray.size), ∃ t, jts.toArray[j] = .int (v.getD j 0) t := fun j q1 => PyProof.Rows.IntsAre.int_at i2 _ _ (by simp at q1; simp [q1])
    have R := SeqAt.RcAt.tuples (A := A) (s := s) (e := fun j => decide (w.getD j 0 = v.getD j 0)) h1 h2 hu (fun j q1 q2 => by
      obtain ⟨t, et⟩ := at1 j q1
      obtain ⟨t', et'⟩ := at2 j q2
      rw [et, et']
      have z : (w.getD j 0 == v.getD j 0) = decide (w.getD j 0 = v.getD j 0) := by
        by_cases q : w.getD j 0 = v.getD j 0
        · rw [decide_eq_true q]; exact beq_iff_eq.mpr q
        · rw [decide_eq_false q]; exact beq_eq_false_iff_ne.mpr q
      rw [← z]
      exact SeqAt.EqAt.int_int _ _ _ _)
    rw [e1, e2, eq_all] at R
    exact SeqAt.EqAt.of_refs e R
theorem ways_lt {A : Around} {s : Shared} {b c : Addr} {its jts : List Value} {w v : List Int} (h1 : s.heap.IsTuple b its.toArray) (h2 : s.heap.IsTuple c jts.toArray) (i1 : IntsAre its w) (i2 : IntsAre jts v) (hu : A.units < cLine) :
    Ob.RcOp .Lt A s (.ref b) (.ref c) (ltL w v) := by
  have e1 : its.toArray.size = w.length := by rw [List.size_toArray]; exact i1.length
  have e2 : jts.toArray.size = v.length := by rw [List.size_toArray]; exact i2.length
  have at1 : ∀ j (q1 : j < its.toArray.size), ∃ t, its.toArray[j] = .int (w.getD j 0) t := fun j q1 => PyProof.Rows.IntsAre.int_at i1 _ _ (by simp at q1; simp [q1])
  have at2 : ∀ j (q1 : j < jts.toArray.size), ∃ t, jts.toArray[j] = .int (v.getD j 0) t := fun j q1 => PyProof.Rows.IntsAre.int_at i2 _ _ (by simp at q1; simp [q1])
  have R := Ob.RcOp.tuples_lt (A := A) (s := s) (e := fun j => decide (w.getD j 0 = v.getD j 0)) (r := fun j => decide (w.getD j 0 < v.getD j 0)) h1 h2 hu (fun j q1 q2 => by
    obtain ⟨t, et⟩ := at1 j q1
    obtain ⟨t', et'⟩ := at2 j q2
    rw [et, et']
    have z : (w.getD j 0 == v.getD j 0) = decide (w.getD j 0 = v.getD j 0) := by
      by_cases q : w.getD j 0 = v.getD j 0
      · rw [decide_eq_true q]; exact beq_iff_eq.mpr q
      · rw [decide_eq_false q]; exact beq_eq_false_iff_ne.mpr q
    rw [← z]
    exact SeqAt.EqAt.int_int _ _ _ _) (fun j q1 q2 _ => by
    obtain ⟨t, et⟩ := at1 j q1
    obtain ⟨t', et'⟩ := at2 j q2
    rw [et, et']
    exact Ob.RcOp.lt_int _ _ _ _)
  rw [e1, e2, lexAt_ltL] at R
  exact R
section
variable {prog : Program} {w : World} {A : Around} {E : Value → Shared → Prop} {s : Shared}
open Srt SrtO
theorem ways_cmp {vs : List Value} {k : Value → List Int × Int} (hu : A.units < cLine) (hp : ∀ v ∈ vs, IsW s.heap v (k v)) : Cmp prog w A s (tuples' false) (fun p => p.1 ∈ vs) (lt2 fun v u => ltW (k v) (k u)) := by
  intro p q hm hm'
  have h1 := hp _ hm
  have h2 := hp _ hm'
  show wpAny (model prog w) A (keyLt' (tuples' false) p.1 q.1) (fun r s' => s' = s ∧ r = ltW (k p.1) (k q.1)) (fun _ _ => False) s
  generalize k p.1 = x at h1 ⊢
  generalize k q.1 = y at h2 ⊢
  obtain ⟨a, b, t, its, e, ⟨o, ho, hc, n, hd⟩, hb, ib⟩ := h1
  obtain ⟨a', b', t', its', e', ⟨o', ho', hc', n', hd'⟩, hb', ib'⟩ := h2
  rw [e, e']
  refine PySem.W.kat_lt ho hd ho' hd' ?_
  show PySem.W.KatLex prog w A false (decide (2 < 2)) _ [(.ref b, .ref b'), (.int x.2 t, .int y.2 t')] 0 s
  refine PySem.W.kat_cons (ways_eq hb hb' ib ib' hu prog w _ _ ?_)
  refine PySem.W.kat_go (fun e1 => ?_) (fun e1 => ?_)
  · have ex : x.1 = y.1 := of_decide_eq_true e1
    refine PySem.W.kat_yes (PySem.W.kat_cons (SeqAt.EqAt.int_int _ _ _ _ prog w _ _ ?_))
    refine PySem.W.kat_go (fun e2 => ?_) (fun e2 => ?_)
    · have ey : x.2 = y.2 := by simpa using e2
      have e3 : ltW x y = false := by
        rw [ltW_pos ex, ey]
        exact decide_eq_false (Int.lt_irrefl _)
      exact PySem.W.kat_yes (PySem.W.kat_nil ⟨rfl, e3.symm⟩)
    · refine PySem.W.kat_no (PySem.W.kat_one _ _ (PyProof.Rows.lt_int ?_))
      exact (show s = s ∧ decide (x.2 < y.2) = ltW x y from ⟨rfl, (ltW_pos ex).symm⟩)
  · have ex : ¬ x.1 = y.1 := of_decide_eq_false e1
    refine PySem.W.kat_no (PySem.W.kat_one _ _ ?_)
    refine ways_lt hb hb' ib ib' hu prog w _ _ ?_
    exact (show s = s ∧ ltL x.1 y.1 = ltW x y from ⟨rfl, (ltW_neg ex).symm⟩)
theorem ways_firsts {h : Heap} : ∀ {vs : List Value}, (∀ v ∈ vs, ∃ p, IsW h v p) → ∃ fs : List Value, PySem.W.KatTups h vs fs ∧ fs.length = vs.length ∧ ∀ f ∈ fs, ∃ b xs, f = Value.ref b ∧ h.IsTuple b xs
  | [], _ => ⟨[], PySem.W.KatTups.nil, rfl, fun _ hf => absurd hf (List.not_mem_nil)⟩
  | v :: vs, H => by
    obtain ⟨p, a, b, t, its, rfl, ⟨o, ho, hc, n, hd⟩, hb, _⟩ := H v List.mem_cons_self
    obtain ⟨fs, h1, h2, h3⟩ := ways_firsts (vs := vs) fun u hu => H u (List.mem_cons_of_mem _ hu)
    refine ⟨.ref b :: fs, PySem.W.KatTups.cons ho hc hd rfl h1, by rw [List.length_cons, List.length_cons, h2], fun f hf => ?_⟩
    rcases List.mem_cons.mp hf with e | hf
    · exact ⟨b, _, e, hb⟩
    · exact h3 f hf
theorem ways_sortable {a : Addr} {vs : List Value} {k : Value → List Int × Int} (hu : A.units < cLine) (h0 : 0 < vs.length) (hp : ∀ v ∈ vs, IsW s.heap v (k v)) (ha : ∀ o, s.heap.get? a = some o → o.cls ≠ .type "tuple") : SortableO prog w A s a vs fun v u => ltW (k v) (k u) := by
  intro h' keep
  have hp' : ∀ v ∈ vs, IsW h' v (k v) := fun v hm => (hp v hm).keeps fun b o e c => keep b o (fun z => by subst z; exact ha o e c) e
  obtain ⟨fs, h1, h2, h3⟩ := ways_firsts fun v hm => ⟨_, hp' v hm⟩
  refine ⟨tuples' false, fun Q E hq => ?_, ways_cmp hu hp'⟩
  refine PySem.W.kat_kind (T := .type "tuple") h1 (by omega) (fun f hm => ?_) (by rfl) ?_
  · obtain ⟨b, xs, rfl, ⟨o, ho, hc, _⟩⟩ := h3 f hm
    have this : PySem.W.Looks (model prog w) h' (typeOf (.ref b)) o.cls := (PySem.W.Looks.ld ho).andThen .now
    rw [hc] at this
    exact this
  · have e : (Value.type "tuple" != Value.type "tuple") = false := by first | decide +kernel | rfl | decide
    rw [e]
    exact hq
end
end GX
namespace L2
open PySem PySem.Spec PyProof.Rows GX
/-- sorted(xs), xs a list of pairs of a tuple of ints and an int -/
def rSortedW (K : PySem.W.Frag) : List V → Hp → VK → Prop := fun vs H Q => ∃ (a : Addr) (ys : List V) (k : V → List Int × Int), vs = [V.ref a] ∧ SqL K H a ys ∧
  (∀ y ∈ ys, ∃ t u, y = V.ref t ∧ H t = some (.tup [.ref u, .int (k y).2]) ∧ H u = some (.tup ((k y).1.map V.int))) ∧
  ∀ (zs : List V) (p : Addr), SrtO.Srtd (fun v u => ltW (k v) (k u)) zs → zs.Perm ys → H p = none → Q (.ref p) (upd H p (.lst zs))
theorem cr_sortedW {X : Cx} (hu : X.A.units + 64 < cLine) : CallR X (.builtin "sorted") (rSortedW X.K) := by
  intro pins s σ H vs us Q I r h
  obtain ⟨a, ys, k, rfl, hs, hx, q⟩ := h
  obtain ⟨its, rv, hl, hz⟩ := I.list hs
  rw [Vals.ref1 r]
  obtain ⟨e1, e2⟩ := refs_back rv fun x m => by
    obtain ⟨t, _, e, _⟩ := hx x m
    exact ⟨t, e⟩
  have hp : ∀ v ∈ its, IsW s.heap v (k (backV v)) := fun v hv => by
    obtain ⟨t, rfl⟩ := e2 v hv
    have hm : V.ref t ∈ ys := by rw [e1]; exact List.mem_map.mpr ⟨_, hv, rfl⟩
    obtain ⟨t', u, e, ht, hu2⟩ := hx _ hm
    cases e
    obtain ⟨its1, rv1, ht1, _⟩ := I.tuple (SqT.of ht)
    obtain ⟨u1, u2, rfl, ri, rj⟩ := vals2 rv1
    obtain ⟨its2, rv2, ht2, _⟩ := I.tuple (SqT.of hu2)
    obtain rfl : u1 = Value.ref u := ri
    obtain ⟨t2, rfl⟩ := rj
    exact ⟨t, u, t2, its2, rfl, ht1, ht2, Vals.ints rv2⟩
  refine SrtO.sorted_ord (swo_W fun u => k (backV u)) hl.isList (by rw [← rv.length]; exact hz) (fun h2 h₁ a' ha kk => ?_) fun out h1 h2 => ?_
  · refine ways_sortable (s := { s with heap := h₁ }) (by show X.A.units + 1 + 1 < cLine; omega) (by omega) (fun v hm => (hp v hm).keeps fun b o e _ => (kk b o e).2) fun o e => ?_
    have e' : some o = some (seqObj "list" its.toArray 0) := e.symm.trans ha
    cases e'
    intro c
    exact absurd (Value.type.inj c) (by decide)
  · have h3 : ∀ u ∈ out, ∃ a, u = Value.ref a := fun u hu => e2 u (h2.perm.mem_iff.mp hu)
    obtain ⟨ep, he'⟩ := PyProof.Rows.sortedAll_at s.heap its out.toArray
    have hpm : (out.map backV).Perm ys := by
      rw [e1]
      exact h2.perm.map backV
    have hlen : (out.map backV).length ≤ sizeLine := by
      rw [hpm.length_eq]
      exact hz
    exact ⟨.ref _, upd H (s.heap.objs.size + 1) (.lst (out.map backV)), I.laid (t' := s.toks) (fun _ _ => PyProof.Rows.sortedAll_old) (Nat.le_succ _) ⟨hlen, out, ep, vals_back h3, he'⟩, rfl, q _ _ (SrtO.srtd_map h1) hpm (I.hok.fresh (Nat.le_succ _))⟩
end L2
/-! ## errors of the package's own; repr of the empty dict -/
namespace GX
open PySem PySem.Spec PyProof.Rows L2
/-- a class of an error without an __init__ of its own -/
structure Err (K : PySem.W.Frag) (mg : Str → Option Value) (x : Str) where
  C : Addr
  g : mg x = some (.ref C)
  xi : PySem.W.excIn K C [.type "ValueError", .type "Exception", .type "BaseException", .type "object"] "ValueError.__new__" = true
  kp : PySem.W.keepIn K (.ref C) = true
  b : PySem.W.subIn K (.ref C) (.type "BaseException") = some true
  t : PySem.W.typeIn K (.ref C) = some (.type "type")
  i : PySem.W.isClsIn K C = true
  s : PySem.W.subIn K (.ref C) (.ref C) = some true
theorem exm_by {K : PySem.W.Frag} {S C : Addr} {b : Bool} (h1 : PySem.W.subIn K (.ref S) (.type "BaseException") = some true) (h2 : PySem.W.isClsIn K S = true) (h3 : PySem.W.typeIn K (.ref S) = some (.type "type")) (h4 : PySem.W.subIn K (.ref C) (.ref S) = some b) :
    PySem.W.exmOne K (.ref C) (.ref S) = some b := by
  have e1 : (PySem.W.subIn K (.ref S) (.type "BaseException") == some true) = true := by rw [h1] <;> rfl
  have e2 : ((PySem.W.clsIn K S).isSome && PySem.W.typeIn K (.ref S) == some (.type "type")) = true := by
    have h2' : (PySem.W.clsIn K S).isSome = true := h2
    rw [h2', h3] <;> rfl
  show (if (PySem.W.subIn K (.ref S) (.type "BaseException") == some true) = true then (if ((PySem.W.clsIn K S).isSome && PySem.W.typeIn K (.ref S) == some (.type "type")) = true then PySem.W.subIn K (.ref C) (.ref S) else none) else none) = some b
  rw [if_pos e1, if_pos e2]
  exact h4
theorem Err.self {K : PySem.W.Frag} {mg : Str → Option Value} {x : Str} (e : Err K mg x) : PySem.W.exmOne K (.ref e.C) (.ref e.C) = some true := exm_by e.b e.i e.t e.s
theorem Err.not {K : PySem.W.Frag} {mg : Str → Option Value} {x y : Str} (e : Err K mg x) (d : Err K mg y) (h : PySem.W.subIn K (.ref d.C) (.ref e.C) = some false) : PySem.W.exmOne K (.ref d.C) (.ref e.C) = some false := exm_by e.b e.i e.t h

section
variable {X : Cx} {x m : Str} {st : Stmt} {ps : List Str} {p p2 pos pos2 : Pos} {e : Expr} {es : List Expr} {t : TA} {k j jj : Nat} {sp : Sp} {W : WX}
/-- a call that may raise -/
theorem dx_call (D : Dn X.K X.mg x st ps) (G : FnOk X.prog X.w X.K X.mg X.base (L2.CX X.prog X.w) k D.f D.fd ps sp) (room : Room j X.A) (tk : Takes X W)
    (ha : PA X (e :: es) t) (le : k ≤ j := by decide) (hg : Gl X x := by rfl) (hdb : (x == ("__debug__" : Str)) = false := by decide)
    (he : starEach (e :: es) X.env = (false, eval e X.env) :: starEach es X.env := by rfl)
    (hpl : (backTo pos (starEach es X.env)).any (·.1) = false := by rfl) :
    PE X (.Call (.Name x p) (e :: es) [] pos) (tCallS sp (WE W) t) :=
  pe_callS G (room.mono le) hg D.g D.F.kp D.b (fun σ => passAt tk σ) ha hdb he hpl
/-- raise X("..") -/
theorem ps_err (E : Err X.K X.mg x) (tk : Takes X W) (hc : X.calm = true := by rfl) (hg : Gl X x := by rfl) (hdb : (x == ("__debug__" : Str)) = false := by decide) :
    PS X (.Raise (some (.Call (.Name x p) [.Constant (.str m) jj p2] [] pos)) none pos2) (fun _ σ H => W (.ref E.C) none σ H) :=
  ps_raise hc tk (pmk_own PySem.F.excBase_ValueError E.xi E.g E.kp (raises_own E.b E.t) hg hdb)
end
section
variable {P : Program} {w : World} {K : PySem.W.Frag} {mg : Str → Option Value} {base : Heap} {k : Nat} {f : Addr} {fd : FuncData} {ps : List Str}
/-- a def that raises nothing, where one that may raise is asked -/
theorem fn_up {sp : Sp} (F : FnOk P w K mg base CX0 k f fd ps sp) : FnOk P w K mg base (L2.CX P w) k f fd ps sp :=
  ⟨F.len, fun A outer s H args us vs Q E hr he hb hv hs => codeAny_mono (F.run A outer s H args us vs Q E hr he hb hv hs) fun r s' h => by
    cases r with
    | ok fl => cases fl <;> exact h
    | error e => exact (show False from h).elim⟩
theorem fn_or {CX : CXT} {s1 s2 : Sp} (F : FnOk P w K mg base CX k f fd ps s1) (G : FnOk P w K mg base CX k f fd ps s2) : FnOk P w K mg base CX k f fd ps (fun vs H Q E => s1 vs H Q E ∨ s2 vs H Q E) :=
  ⟨fun vs H Q E h => h.elim (F.len vs H Q E) (G.len vs H Q E), fun A outer s H args us vs Q E hr he hb hv hs =>
    hs.elim (F.run A outer s H args us vs Q E hr he hb hv) (G.run A outer s H args us vs Q E hr he hb hv)⟩
end
/-! ### repr, the empty dict too -/
inductive Tld (K : PySem.W.Frag) (H : Hp) : V → Str → Prop
  | told {v : V} {d : PyData} : Told K H v d → Tld K H v d.shown
  | dct {a : Addr} : H a = some (.dK []) → Tld K H (.ref a) (PyData.dict []).shown
def rReprT (K : PySem.W.Frag) : List V → Hp → VK → Prop := fun xs H Q => ∃ v z, xs = [v] ∧ Tld K H v z ∧ Q (.str z) H
theorem call_reprT {X : Cx} {k : Nat} (hgd : X.A.guards = some []) (room : Room k X.A) : CallR X (.builtin "repr") (rReprT X.K) := by
  intro pins s σ H xs us Q I r h
  obtain ⟨v, z, rfl, T, q⟩ := h
  cases T with
  | told T => exact call_repr hgd room pins s σ H _ us Q I r ⟨v, _, rfl, T, q⟩
  | dct ha =>
    rename_i a
    obtain ⟨u, rfl, ru⟩ := vals1 r
    obtain rfl : u = Value.ref a := ru
    have un := room.units
    obtain ⟨hz, hS, vs, rv, mm⟩ : ([] : List (Key × V)).length ≤ sizeLine ∧ (a == sysModules) = false ∧ ∃ vs, KV ([] : List (Key × V)) vs ∧ s.heap.DictOf (mixKind X.prog X.w) a vs := I.hok a _ ha
    cases rv
    obtain ⟨o, es, ep, ho, hc, hd, _, pr, _⟩ := mm
    have e0 : es.toList = [] := by
      generalize es.toList = l at pr
      cases pr
      rfl
    have rd : Reads s.heap (.ref a) (.dict []) (a :: [] ++ []) := Reads.dict ho hc.1 hd (by rw [e0]; exact ReadsAll.nil) (by rw [e0]; exact ReadsAll.nil)
    refine repr_of_reads' rd (by simp [PyData.showable, PyData.showableKv]) (fun _ hm => ?_) hgd (by
      have : (PyData.dict []).depth ≤ 1 := by simp [PyData.depth, PyData.depthKv]
      omega) (fun _ _ e => e) (fun h' t tk keep => ?_) (by decide +kernel)
    · have : sysModules = a := by simpa using hm
      rw [this] at hS
      simp at hS
    · exact ⟨.str (PyData.dict []).shown, H, I.kept (t' := tk) keep, ⟨t, rfl⟩, q⟩
end GX
/-! ## calls by keywords alone -/
namespace GX
open PySem PySem.Spec PyProof.Rows L2
def kw1 {α : Type} : List α → List α → List α
  | [], [a] => [a]
  | _, _ => []
/-- two, the second one ahead -/
def kw2 {α : Type} : List α → List α → List α
  | [], [a, b] => [b, a]
  | _, _ => []
theorem kw1_rel {vs zs : List V} {us ws : List Value} (h : Vals vs us) (g : Vals zs ws) : Vals (kw1 vs zs) (kw1 us ws) := by
  cases h with
  | nil => cases g with
    | nil => exact .nil
    | cons r t => cases t with
      | nil => exact .cons r .nil
      | cons _ _ => exact .nil
  | cons _ _ => exact .nil
theorem kw2_rel {vs zs : List V} {us ws : List Value} (h : Vals vs us) (g : Vals zs ws) : Vals (kw2 vs zs) (kw2 us ws) := by
  cases h with
  | nil => cases g with
    | nil => exact .nil
    | cons r t => cases t with
      | nil => exact .nil
      | cons r2 t2 => cases t2 with
        | nil => exact .cons r2 (.cons r .nil)
        | cons _ _ => exact .nil
  | cons _ _ => exact .nil
section
variable {K : PySem.W.Frag} {x qual : Str} {st : Stmt} {f : Addr} {fd : FuncData} {a b : Str}
theorem kb1 (F : Fun K x qual st f fd)
    (h : ∀ (kV doc pm : Value) (an : Option Addr) (cdv ct : Value) (u : Value), bindArgs (PySem.W.fnOf x qual (defArgs st) (defBody st) (defScope st) .none kV doc pm an cdv ct) ⟨[], [(a, u)]⟩ = pure [(a, u)]) : KBinds K fd [a] [a] kw1 kw1 := by
  obtain ⟨oc, od, kV, doc, pm, an, cdv, ct, osl, rfl, lk, hcd⟩ := F.ex
  refine ⟨fun s us ws _ l => ?_, kw1_rel⟩
  match us, ws, l with
  | [], [u], _ => exact .of_eq (h kV doc pm an cdv ct u)
theorem kb2 (F : Fun K x qual st f fd)
    (h : ∀ (kV doc pm : Value) (an : Option Addr) (cdv ct : Value) (u v : Value), bindArgs (PySem.W.fnOf x qual (defArgs st) (defBody st) (defScope st) .none kV doc pm an cdv ct) ⟨[], [(b, v), (a, u)]⟩ = pure [(a, u), (b, v)]) : KBinds K fd [a, b] [b, a] kw2 kw2 := by
  obtain ⟨oc, od, kV, doc, pm, an, cdv, ct, osl, rfl, lk, hcd⟩ := F.ex
  refine ⟨fun s us ws _ l => ?_, kw2_rel⟩
  match us, ws, l with
  | [], [v, u], _ => exact .of_eq (h kV doc pm an cdv ct u v)
end
section
variable {X : Cx} {x : Str} {st : Stmt} {ps ks : List Str} {p pos : Pos} {kws : List Keyword} {tk : TA} {k j : Nat} {sp : Sp} {g : List Value → List Value → List Value} {gV : List V → List V → List V}
theorem de_callK (D : Dn X.K X.mg x st ps) (G : FnOk X.prog X.w X.K X.mg X.base CX0 k D.f D.fd ps sp) (room : Room j X.A) (hb : KBinds X.K D.fd ps ks g gV) (hkw : PK X kws tk) (le : k ≤ j := by decide)
    (hall : (backToKw pos (keywordEach kws X.env)).all (·.1.isSome) = true := by rfl) (hks : (backToKw pos (keywordEach kws X.env)).filterMap (·.1) = ks := by rfl) (hg : Gl X x := by rfl) (hdb : (x == ("__debug__" : Str)) = false := by decide)
    (hpl : ((backTo pos (starEach [] X.env)).any (·.1) || (backToKw pos (keywordEach kws X.env)).any (·.1.isNone)) = false := by rfl) :
    PE X (.Call (.Name x p) [] kws pos) (tCallK sp gV E0 tNil tk) := by
  refine ⟨fun pins s σ H Q I h => ?_⟩
  refine wpAny_Call_Name_kw (ld_glob I hg D.g ?_ hdb)
  refine PySem.W.callWith_KW0 (h₀ := X.base) I.ok.mod.kin D.F.kp hall ?_ hpl
  refine thn (hkw.run pos pins s σ H _ I h) fun ws s2 ⟨zs, H2, I2, rz, q2⟩ => ⟨I2.kIn, ?_⟩
  rw [hks]
  exact run_fnk (us := []) (vs := []) G (room.mono le) hb pass0 I2 .nil rz q2
end
end GX
/-! ## lists beside the empty list; None in a list of lists -/
namespace GX
open PySem PySem.Spec PyProof.Rows L2
def rEqE (K : PySem.W.Frag) (neg : Bool) : R2 := fun x y H Q => ∃ (a b : Addr) (xs : List V), x = .ref a ∧ y = .ref b ∧ SqL K H a xs ∧ SqL K H b [] ∧ Q (.bl (xs.isEmpty != neg)) H
theorem op_eqE {X : Cx} (hu : X.A.units < cLine) : OpR X (compareOp .Eq) (rEqE X.K false) := by
  intro pins s σ H x y v u Q I rx ry h
  obtain ⟨a, b, xs, rfl, rfl, ha, hb, q⟩ := h
  cases rx
  cases ry
  obtain ⟨its, r1, p1, _⟩ := I.list ha
  obtain ⟨its2, r2, p2, _⟩ := I.list hb
  cases r2
  cases r1 with
  | nil =>
    have R := SeqAt.RcAt.lists (A := X.A) (s := s) (e := fun _ => true) p1.isList p2.isList rfl hu (fun j h1 h2 => absurd h2 (by simp))
    exact R X.prog X.w X.xe (EP X pins σ Q) ⟨.bl _, H, I, rfl, q⟩
  | cons r t =>
    have R := SeqAt.RcAt.lists_lengths (A := X.A) (s := s) p1.isList p2.isList (by simp) hu
    exact R X.prog X.w X.xe (EP X pins σ Q) ⟨.bl _, H, I, rfl, q⟩
theorem op_neE {X : Cx} (hu : X.A.units < cLine) : OpR X (compareOp .NotEq) (rEqE X.K true) := by
  intro pins s σ H x y v u Q I rx ry h
  obtain ⟨a, b, xs, rfl, rfl, ha, hb, q⟩ := h
  cases rx
  cases ry
  obtain ⟨its, r1, p1, _⟩ := I.list ha
  obtain ⟨its2, r2, p2, _⟩ := I.list hb
  cases r2
  cases r1 with
  | nil =>
    have R := SeqAt.RcNeAt.lists (A := X.A) (s := s) (e := fun _ => true) p1.isList p2.isList rfl hu (fun j h1 h2 => absurd h2 (by simp))
    exact R X.prog X.w X.xe (EP X pins σ Q) ⟨.bl _, H, I, rfl, q⟩
  | cons r t =>
    have R := SeqAt.RcNeAt.lists_lengths (A := X.A) (s := s) p1.isList p2.isList (by simp) hu
    exact R X.prog X.w X.xe (EP X pins σ Q) ⟨.bl _, H, I, rfl, q⟩
/-- None in a list of lists -/
def rInN (K : PySem.W.Frag) : R2 := fun x y H Q => ∃ (p : Addr) (as : List Addr), x = .non ∧ y = .ref p ∧ SqL K H p (as.map V.ref) ∧ (∀ a ∈ as, ∃ ys, SqL K H a ys) ∧ Q (.bl false) H
theorem op_inN {X : Cx} (hu : X.A.units + 64 < cLine) : OpR X (compareOp .In) (rInN X.K) := by
  intro pins s σ H x y v u Q I rx ry h
  obtain ⟨p, as, rfl, rfl, hp, all, q⟩ := h
  cases rx
  cases ry
  obtain ⟨its, r, pl, hz⟩ := I.list hp
  have key : ∀ {as : List Addr} {its : List Value}, (∀ a ∈ as, ∃ ys, SqL X.K H a ys) → Vals (as.map V.ref) its → ∀ y ∈ its, SeqAt.EqAt X.A.in1 s y .none false := by
    intro as
    induction as with
    | nil => intro its _ r y hy; cases r; cases hy
    | cons a as ih =>
      intro its all r y hy
      cases r with
      | cons r1 r2 =>
        rcases List.mem_cons.mp hy with rfl | hy
        · obtain ⟨ys, hy⟩ := all a List.mem_cons_self
          obtain ⟨its', _, pl', _⟩ := I.list hy
          cases r1
          exact SeqAt.EqAt.list_none pl'.isList (show X.A.units + 1 < cLine by omega)
        · exact ih (fun b hb => all b (List.mem_cons_of_mem _ hb)) r2 y hy
  refine SeqAt.in_listAt (fun _ => false) pl.isList (fun w hw => key all r w (by simpa using hw)) ⟨.bl _, H, I, rfl, ?_⟩
  rw [show its.toArray.any (fun _ => false) = false by simp]
  exact q
/-! lists of texts compared -/
theorem strs_at : ∀ {xs : List Str} {its : List Value}, Vals (xs.map V.str) its → ∀ j (h : j < its.length), ∃ (z : Str) (t : Tok), xs[j]? = some z ∧ its[j] = .str z t
  | [], _, .nil, j, h => absurd h (Nat.not_lt_zero _)
  | x :: xs, u :: us, .cons r t, 0, _ => by
    obtain ⟨tk, e⟩ : ∃ tk, u = .str x tk := r
    exact ⟨x, tk, rfl, e⟩
  | x :: xs, u :: us, .cons r t, j + 1, h => strs_at t j (Nat.lt_of_succ_lt_succ h)
theorem all_eqs {xs ys : List Str} (l : xs.length = ys.length) : ((List.range xs.length).all fun j => xs.getD j "" == ys.getD j "") = decide (xs = ys) := by
  by_cases e : xs = ys
  · subst e
    rw [decide_eq_true rfl, List.all_eq_true]
    intro j _
    exact beq_self_eq_true _
  · rw [decide_eq_false e, ← Bool.not_eq_true]
    intro z
    rw [List.all_eq_true] at z
    apply e
    apply List.ext_getElem l
    intro j h1 h2
    have := eq_of_beq (z j (List.mem_range.mpr h1))
    rw [List.getD_eq_getElem?_getD, List.getD_eq_getElem?_getD, List.getElem?_eq_getElem h1, List.getElem?_eq_getElem h2] at this
    exact this
def rStrs (K : PySem.W.Frag) (neg : Bool) : R2 := fun x y H Q => ∃ (a b : Addr) (xs ys : List Str), x = .ref a ∧ y = .ref b ∧ SqL K H a (xs.map V.str) ∧ SqL K H b (ys.map V.str) ∧ Q (.bl (decide (xs = ys) != neg)) H
theorem strs_eqAt {A : Around} {s : Shared} {xs ys : List Str} {its its2 : List Value} (r1 : Vals (xs.map V.str) its) (r2 : Vals (ys.map V.str) its2) :
    ∀ j (h1 : j < its.toArray.size) (h2 : j < its2.toArray.size), SeqAt.EqAt A s its.toArray[j] its2.toArray[j] (xs.getD j "" == ys.getD j "") := by
  intro j h1 h2
  obtain ⟨z, t, e1, e2⟩ := strs_at r1 j (by simpa using h1)
  obtain ⟨z', t', e3, e4⟩ := strs_at r2 j (by simpa using h2)
  rw [List.getD_eq_getElem?_getD, List.getD_eq_getElem?_getD, e1, e3]
  simp only [List.getElem_toArray]
  rw [e2, e4]
  exact SeqAt.EqAt.str_str z t z' t'
theorem op_eqS {X : Cx} (hu : X.A.units < cLine) : OpR X (compareOp .Eq) (rStrs X.K false) := by
  intro pins s σ H x y v u Q I rx ry h
  obtain ⟨a, b, xs, ys, rfl, rfl, ha, hb, q⟩ := h
  cases rx
  cases ry
  obtain ⟨its, r1, p1, _⟩ := I.list ha
  obtain ⟨its2, r2, p2, _⟩ := I.list hb
  have l1 : xs.length = its.length := by have := r1.length; rwa [List.length_map] at this
  have l2 : ys.length = its2.length := by have := r2.length; rwa [List.length_map] at this
  by_cases l : xs.length = ys.length
  · have R := SeqAt.RcAt.lists (A := X.A) (s := s) p1.isList p2.isList (by simp; omega) hu (strs_eqAt r1 r2)
    refine R X.prog X.w X.xe (EP X pins σ Q) ⟨.bl _, H, I, rfl, ?_⟩
    rw [show its.toArray.size = xs.length by simp; omega, all_eqs l]
    simpa using q
  · have R := SeqAt.RcAt.lists_lengths (A := X.A) (s := s) p1.isList p2.isList (by simp; omega) hu
    refine R X.prog X.w X.xe (EP X pins σ Q) ⟨.bl _, H, I, rfl, ?_⟩
    rw [decide_eq_false (fun z => l (by rw [z]))] at q
    exact q
theorem op_neS {X : Cx} (hu : X.A.units < cLine) : OpR X (compareOp .NotEq) (rStrs X.K true) := by
  intro pins s σ H x y v u Q I rx ry h
  obtain ⟨a, b, xs, ys, rfl, rfl, ha, hb, q⟩ := h
  cases rx
  cases ry
  obtain ⟨its, r1, p1, _⟩ := I.list ha
  obtain ⟨its2, r2, p2, _⟩ := I.list hb
  have l1 : xs.length = its.length := by have := r1.length; rwa [List.length_map] at this
  have l2 : ys.length = its2.length := by have := r2.length; rwa [List.length_map] at this
  by_cases l : xs.length = ys.length
  · have R := SeqAt.RcNeAt.lists (A := X.A) (s := s) p1.isList p2.isList (by simp; omega) hu (strs_eqAt r1 r2)
    refine R X.prog X.w X.xe (EP X pins σ Q) ⟨.bl _, H, I, rfl, ?_⟩
    rw [show its.toArray.size = xs.length by simp; omega, all_eqs l]
    simpa using q
  · have R := SeqAt.RcNeAt.lists_lengths (A := X.A) (s := s) p1.isList p2.isList (by simp; omega) hu
    refine R X.prog X.w X.xe (EP X pins σ Q) ⟨.bl _, H, I, rfl, ?_⟩
    rw [decide_eq_false (fun z => l (by rw [z]))] at q
    exact q
theorem call_isiC {X : Cx} {K : PySem.W.Frag} (h : X.K = K) : CallR X (.builtin "isinstance") (rIsi K) := by
  subst h
  exact call_isi
end GX
/-! ## dicts with None among the keys: the empty one, get with a default -/
namespace GX
open PySem PySem.Spec PyProof.Rows L2
def tDNewN (P : Program) (w : World) : TE := fun σ H Q => ∀ p ep, H p = none → Q (.ref p) (upd H p (DN P w p ep []))
def tDGetN2 (P : Program) (w : World) (td ty tx : TE) : TE := fun σ H Q => td σ H fun x H1 => ∃ (a : Addr) (ep0 : Nat) (kvs0 : List (Leaf × V)), x = .ref a ∧ H1 a = some (DN P w a ep0 kvs0) ∧ ty σ H1 fun y H2 => tx σ H2 fun z H3 =>
  ∃ (ep : Nat) (kvs : List (Leaf × V)) (k : Leaf), H3 a = some (DN P w a ep kvs) ∧ y = lfV k ∧ Q ((valV kvs k).getD z) H3
section
variable {X : Cx} {o e f : Expr} {pos apos cpos : Pos} {td ty tx : TE}
theorem pe_dnewN (P : Program) (w : World) (hP : X.prog = P := by rfl) (hw : X.w = w := by rfl) : PE X (.Dict [] [] pos) (tDNewN P w) := by
  subst hP hw
  refine ⟨fun pins s σ H Q I h => ?_⟩
  have hn := I.hok.fresh (Nat.le_refl s.heap.objs.size)
  obtain ⟨ep, d0⟩ := dn_empty (P := X.prog) (w := X.w) s.heap
  have hb : (s.heap.objs.size == sysModules) = false := beq_eq_false_iff_ne.mpr (Ne.symm (Nat.ne_of_lt I.big))
  have I1 := I.laid (a := s.heap.objs.size) (o := DN X.prog X.w s.heap.objs.size ep []) (h' := s.heap.push { cls := .type "dict", data := .dict #[] }) (t' := s.toks) (fun _ _ q => Heap.get?_push_of_some _ q) (Nat.le_refl _) (dn_new (Nat.zero_le _) hb .nil d0)
  exact wpAny_Dict_empty ⟨.ref s.heap.objs.size, _, I1, rfl, h _ ep hn⟩
theorem pe_dgetN2 (P : Program) (w : World) (ho : PE X o td) (he : PE X e ty) (hf : PE X f tx) (m : M2 X o "get" apos e f cpos) (hP : X.prog = P := by rfl) (hw : X.w = w := by rfl) : PE X (.Call (.Attribute o "get" apos) [e, f] [] cpos) (tDGetN2 P w td ty tx) := by
  subst hP hw
  refine ⟨fun pins s σ H Q I h => ?_⟩
  refine wpAny_Call_method m.base m.few m.line PySem.F.plainAttrs_dict PySem.F.slot_dict_get PySem.F.type_dict_get (thn (ho.run pins s σ H _ I h) fun u s1 ⟨x, H1, I1, rx, a, ep0, kvs0, ex, d, q1⟩ => ?_)
  subst ex
  obtain rfl : u = Value.ref a := rx
  obtain ⟨z0, hd0, vs0, rel0, dd0⟩ := dn_get I1 d
  refine ⟨dd0.dictOf.typeIs, fun b q => ?_, ?_⟩
  · cases q
    obtain ⟨ob, _, _, h1, h2, _⟩ := dd0.dictOf
    exact ⟨ob, h1, h2.2.1⟩
  rw [m.trees]
  refine Calls.callWith_builtin rfl (Calls.evalArgs_plain (Calls.spliced_cons (thn (he.run pins s1 σ H1 _ I1 q1) fun iv s2 ⟨y, H2, I2, ry, q2⟩ =>
    Calls.spliced_cons (thn (hf.run pins s2 σ H2 _ I2 q2) fun fv s3 ⟨z, H3, I3, rz, ep, kvs, k, hk, ey, q3⟩ => Calls.spliced_nil ?_))))
  subst ey
  obtain ⟨zz, hd, vs, rel, dd⟩ := dn_get I3 hk
  refine call_meetsIn PySem.F.slot_dict_get dd.dictOf.typeIs PySem.F.entry_dict_get (PySem.F.args_dict_get_3 _ _ _) (meets_dict_get_default (leafKind X.prog X.w) a (lf_is ry) hd fv) ⟨_, dd.dictOf.mapOf, ⟨_, H3, I3.tok _, ?_, q3⟩⟩
  exact (rel.val k).getD rz
end
end GX
namespace GX
open PySem L2
/-! ### C() of a class without an __init__ -/
structure Mk0 (K : PySem.W.Frag) (C : Addr) : Prop where
  makes : PySem.W.makesIn K C = true
  init : PySem.W.findIn K (.ref C) "__init__" = some (some (.builtin "object.__init__"))
  kp : PySem.W.keepIn K (.ref C) = true
def tMk0 (C : Addr) : TE := fun σ H Q => ∀ x dx, H x = none → H dx = none → dx ≠ x → Q (.ref x) (upd (upd H dx (.own x)) x (.ins C dx []))
section
variable {X : Cx} {C : Addr}
theorem run_mk0 {pins : List (Addr × Obj)} {σ : L2.St} {H : Hp} {s : Shared} {Q : VK} (M : Mk0 X.K C) (I : Inv X pins σ H s)
    (h : ∀ x dx, H x = none → H dx = none → dx ≠ x → Q (.ref x) (upd (upd H dx (.own x)) x (.ins C dx []))) :
    wpAny (model X.prog X.w) X.A (call (.ref C) []) (EP X pins σ Q) X.xe s := by
  have hq := h (s.heap.objs.size + 1) s.heap.objs.size (I.hok.fresh (Nat.le_succ _)) (I.hok.fresh (Nat.le_refl _)) (Nat.ne_of_lt (Nat.lt_succ_self _))
  have I2 := Inv.made (C := C) I
  have Y := PySem.W.makes_of (M := model X.prog X.w) I.kIn M.makes
  refine wpAny_call (make_map0 I.kIn M.makes M.init (fun self => PySem.W.Looks.of_pure (PySem.W.oi_bind self)) ?_)
  have hx : ((s.heap.push PySem.W.emptyDict).push (PySem.W.instObj C s.heap.objs.size)).get? (s.heap.objs.size + 1) = some (PySem.W.instObj C s.heap.objs.size) := by
    have := Heap.get?_push_at (h := s.heap.push PySem.W.emptyDict) (o := PySem.W.instObj C s.heap.objs.size) rfl rfl
    rw [Heap.size_push] at this
    exact this
  have t1 : PySem.W.Looks (model X.prog X.w) ((s.heap.push PySem.W.emptyDict).push (PySem.W.instObj C s.heap.objs.size)) (typeOf (.ref (s.heap.objs.size + 1))) (.ref C) := (PySem.W.Looks.ld hx).andThen .now
  have t2 : PySem.W.Looks (model X.prog X.w) ((s.heap.push PySem.W.emptyDict).push (PySem.W.instObj C s.heap.objs.size)) (isInstance (.ref (s.heap.objs.size + 1)) (.type "object")) true := t1.andThen (Y.top.keeps fun b o e => Heap.get?_push_of_some _ (Heap.get?_push_of_some _ e))
  refine codeAny_call_builtin PySem.W.oi_plain PySem.W.entry_oi (@PySem.W.check_slot (model X.prog X.w) _ _ _ "object.__init__" "object" "__init__" (.ref (s.heap.objs.size + 1)) [] [] _ PySem.W.oi_kind PySem.W.oi_split t2 (PySem.W.oi_args (.ref (s.heap.objs.size + 1))) ?_)
  rw [PySem.W.oi_run]
  exact wpAny_pure (And.intro rfl ⟨V.ref (s.heap.objs.size + 1), _, I2, rfl, hq⟩)
theorem pe_make00 {x : Str} {p pos : Pos} (M : Mk0 X.K C) (hg : Gl X x) (hm : X.mg x = some (.ref C)) (hdb : (x == ("__debug__" : Str)) = false := by decide) : PE X (.Call (.Name x p) [] [] pos) (tMk0 C) := by
  refine ⟨fun pins s σ H Q I h => ?_⟩
  refine wpAny_Call_Name_kw (ld_glob I hg hm ?_ hdb)
  exact PySem.W.callWith_K0 I.kIn M.kp (run_mk0 M I h)
end
end GX
namespace GX
open PySem PySem.Spec PyProof.Rows L2
/-! ### xs[lo:hi] = ys, ys another list -/
def gSlS (to : TE) (tl th : TO) : TG := fun v σ H Q => to σ H fun x H1 => tl σ H1 fun lo H2 => th σ H2 fun hi H3 =>
  ∃ (l b : Addr) (xs ys : List V) (a c : Nat), x = .ref l ∧ v = .ref b ∧ lo = some (a : Int) ∧ hi = some (c : Int) ∧ l ≠ b ∧ H3 l = some (.lst xs) ∧ H3 b = some (.lst ys) ∧ a ≤ c ∧ c ≤ xs.length ∧ xs.length + ys.length ≤ sizeLine ∧
    Q σ (upd H3 l (.lst (xs.take a ++ ys ++ xs.drop c)))
section
variable {X : Cx}
theorem part_rel {v : Value} {a : Int} (h : IsPart v (some a)) : RelV (.int a) v := by
  cases h with
  | int _ t => exact ⟨_, rfl⟩
theorem pg_slS {o : Expr} {lo hi : Option Expr} {to : TE} {tl th : TO} {p2 pos : Pos} (ho : PE X o to) (hl : PO X lo tl) (hu : PO X hi th)
    (ha : ∀ v, assign (.Subscript o (.Slice lo hi none p2) pos) X.env v = (do
      let ov ← holding [v] (eval o X.env)
      let iv ← holding [v, ov] (eval (.Slice lo hi none p2) X.env)
      standAt pos
      holding [v, ov, iv] (setItem ov iv v)
      release [iv, v, ov] []) := by intro _; rfl) : PG X (.Subscript o (.Slice lo hi none p2) pos) (gSlS to tl th) := by
  refine ⟨fun pins s σ H v u Q I r h => ?_⟩
  rw [ha]
  refine wpAny_bind (wpAny_holding (thn (ho.run pins s σ H _ I h) fun ov s1 got => ?_))
  obtain ⟨x, H1, I1, rx, q1⟩ := got
  refine wpAny_bind (wpAny_holding (wpAny_Slice (thn (hl.run pins s1 σ H1 _ I1 q1) fun vl s2 got2 => ?_)))
  obtain ⟨l0, H2, I2, pl, q2⟩ := got2
  refine thn (hu.run pins s2 σ H2 _ I2 q2) fun vu s3 got3 => ?_
  obtain ⟨r0, H3, I3, pu, l, b, xs, ys, a, c, ex, ev, el, eh, hne, hH, hB, hac, hc, hz, q3⟩ := got3
  rw [evalPart_none]
  refine wpAny_pure ?_
  subst ex
  subst ev
  subst el
  subst eh
  cases (show ov = Value.ref l from rx)
  cases (show u = Value.ref b from r)
  have I4 : Inv X pins σ H3 { s3 with heap := s3.heap.push { cls := .type "slice", data := .fields #[vl, vu, .none] } } :=
    I3.kept (t' := s3.toks) fun b ob q => Heap.get?_push_of_some _ q
  refine wpAny_bind (wpAny_standAt (wpAny_bind (wpAny_holding (set_slice I4 hH hB hne (Heap.IsSliceOf.new ..) (part_rel pl) (part_rel pu) (by omega) (by omega) (by omega) hz fun s' I5 => ?_))))
  simp only [Int.toNat_natCast] at I5
  exact wpAny_release ⟨σ, _, I5, q3⟩
end
end GX
namespace GX
open PySem PySem.Spec PyProof.Rows L2
/-! ### thing == (), whatever thing is -/
theorem tuple_eq_declines_dict (l b : Addr) (items : Array Value) (n : Nat) (dd dd2 : Option Addr) (sl sl2 : Array (Option Value)) (dt : Data) :
    Meets (Builtin.«tuple.__eq__» ⟨[.ref l, .ref b], []⟩) (fun _ R s => s.heap.get? l = some { cls := .type "tuple", dict := dd, data := .seq items n, slots := sl } ∧ s.heap.get? b = some { cls := .type "dict", dict := dd2, data := dt, slots := sl2 } ∧ R (.ok (.ret .notImplemented)) s) :=
  .of_wp fun prog w A R s h => by obtain ⟨hp, g, d, tk, os⟩ := s; obtain ⟨hl, hb, h⟩ := h; have f1 := PySem.F.sub_dict_tuple; wp_walk using wpAny_loadPart' hl, wpAny_loadPart' hb; exact ⟨_, rfl, h⟩
section
variable {A : Around} {s : Shared}
theorem RcAt_dict_tuple {l b : Addr} {o : Obj} {items : Array Value} (ho : s.heap.get? l = some o) (hc : o.cls = .type "dict") (hb : s.heap.IsTuple b items) (hu : A.units < cLine) : SeqAt.RcAt A s (.ref l) (.ref b) false := fun prog w E Q h => by
  obtain ⟨⟨cls2, dd2, data2, sl2⟩, ho2, hc2, n2, hd2⟩ := id hb
  obtain ⟨cls, dd, data, sl⟩ := o
  simp only at hc hc2 hd2
  subst hc hc2 hd2
  have hne : l ≠ b := fun e => by
    subst e
    rw [ho] at ho2
    simp at ho2
  have ta : s.TypeIs (.ref l) "dict" := ⟨_, ho, rfl⟩
  have tb : s.TypeIs (.ref b) "tuple" := ⟨_, ho2, rfl⟩
  refine SeqAt.rc_eq_decline_or (k := false) ta tb (by decide) PySem.F.sub_tuple_dict PySem.F.slot_dict_eq PySem.F.slot_tuple_eq_refl
    (fun _ hq => ?_)
    (fun _ hq => call_meets PySem.F.slot_tuple_eq_refl tb PySem.F.entry_tuple_eq (PySem.F.args_tuple_eq_2 _ _) (tuple_eq_declines_dict b l items n2 dd2 dd sl2 sl data) ⟨ho2, ho, hq⟩)
    (fun _ hq => wpAny_isSame_ref_other hne ho ho2 (by simp) hq) (.inr hu) h
  refine wpAny_call_entry PySem.F.slot_dict_eq ta PySem.F.entry_dict_eq ?_ (PySem.F.args_dict_eq_2 _ _)
  show wpAny _ _ (Builtin.Dict.dictSlotArgs "__eq__" ⟨[.ref l, .ref b], []⟩ >>= _) _ _ s
  refine wpAny_bind ?_
  unfold Builtin.Dict.dictSlotArgs
  refine wpAny_bind (wpAny_notOrdered_dict ta ?_)
  show wpAny _ _ (pure (Value.ref l, Value.ref b)) _ _ s
  refine wpAny_pure ?_
  refine wpAny_bind (wpAny_isInstance tb PySem.F.sub_tuple_dict ?_)
  show wpAny _ _ (if (!false) = true then _ else _) _ _ s
  rw [if_pos (by decide)]
  refine wpAny_bind (wpAny_rule ?_)
  exact wpAny_pure ⟨_, rfl, hq⟩
end
def rEqNT (K : PySem.W.Frag) : R2 := fun x y H Q => ∃ (b : Addr) (k : Bool), y = .ref b ∧ SqT K H b [] ∧ ((∃ T, Any K H x T ∧ T ≠ "tuple" ∧ k = false) ∨ ∃ a xs, x = .ref a ∧ SqT K H a xs ∧ k = xs.isEmpty) ∧ Q (.bl k) H
theorem op_eqNT {X : Cx} (hu : X.A.units < cLine) : OpR X (compareOp .Eq) (rEqNT X.K) := by
  intro pins s σ H x y v u Q I rx ry h
  obtain ⟨b, k, rfl, hb, alt, q⟩ := h
  cases ry
  obtain ⟨its, rv, tp, hz⟩ := I.tuple hb
  cases rv
  have fin : ∀ {v : Value}, SeqAt.RcAt X.A s v (.ref b) k → wpAny (model X.prog X.w) X.A (compareOp .Eq v (.ref b)) (EP X pins σ Q) X.xe s := fun R => R X.prog X.w X.xe (EP X pins σ Q) ⟨.bl _, H, I, rfl, q⟩
  rcases alt with ⟨T, any, nt, rfl⟩ | ⟨a, xs, rfl, ha, rfl⟩
  · cases any with
    | non => cases rx; exact fin (SeqAt.RcAt.none_tuple tp hu)
    | bl c => cases rx; exact fin (SeqAt.RcAt.bool_tuple _ tp hu)
    | int i => obtain ⟨t, rfl⟩ := rx; exact fin (SeqAt.RcAt.int_tuple _ _ tp hu)
    | str z => obtain ⟨t, rfl⟩ := rx; exact fin (SeqAt.RcAt.str_tuple _ _ tp hu)
    | lst e =>
      cases rx
      obtain ⟨its2, r2, p2, _⟩ := I.list (SqL.of e)
      exact fin (SeqAt.RcAt.list_tuple p2.isList tp hu)
    | tup e => exact absurd rfl nt
    | dct e =>
      cases rx
      obtain ⟨_, _, vs, _, d⟩ := dk_of I.hok e
      obtain ⟨o, es, ep, ho, hx, _⟩ := d
      exact fin (RcAt_dict_tuple ho hx.1 tp hu)
    | dctT e =>
      cases rx
      obtain ⟨_, _, vs, _, d⟩ := dt_of I.hok e
      obtain ⟨o, es, ep, ho, hx, _⟩ := d
      exact fin (RcAt_dict_tuple ho hx.1 tp hu)
  · cases rx
    obtain ⟨its2, r2, p2, _⟩ := I.tuple ha
    have R := SeqAt.RcAt.tuples (A := X.A) (s := s) (e := fun _ => true) p2 tp hu (fun j h1 h2 => absurd h2 (by simp))
    have e : ((List.range (min its2.toArray.size ([] : List Value).toArray.size)).all (fun _ => true) && its2.toArray.size == ([] : List Value).toArray.size) = xs.isEmpty := by
      have l := r2.length
      cases xs with
      | nil => cases r2; rfl
      | cons x xs => cases r2 with | cons _ _ => simp
    rw [e] at R
    exact fin R
end GX
namespace GX
open PySem PySem.Spec PyProof.Rows L2
/-! ### xs[:0:-1] of a list that is not empty -/
theorem rev0_bounds (n : Nat) (h : 1 ≤ n) : sliceBounds none (some 0) (some (-1)) n = ((n : Int) - 1, 0, -1) := by
  first
    | rfl
    | (simp [sliceBounds]; omega)
    | (simp [sliceBounds])
theorem rev0_range (n : Nat) (h : 1 ≤ n) : sliceRange ((n : Int) - 1) 0 (-1) = (List.range (n - 1)).map fun k => n - 1 - k := by
  unfold sliceRange
  have h1 : ¬ ((-1 : Int) > 0) := by decide
  by_cases g : (n : Int) - 1 > 0
  · have e : ((n : Int) - 1 - 0 - -1 - 1) / (- -1) = ((n - 1 : Nat) : Int) := by
      rw [show (- -1 : Int) = 1 by decide, Int.ediv_one]
      omega
    simp only [h1, if_false, g, if_true, e, Int.toNat_natCast]
    apply List.map_congr_left
    intro k hk
    have := List.mem_range.mp hk
    omega
  · have e : n = 1 := by omega
    subst e
    simp
theorem rev0_map (m : Nat) : ((List.range m).map fun k => m - k) = ((List.range m).map (1 + ·)).reverse := by
  apply List.ext_getElem
  · simp
  · intro i h1 h2
    simp only [List.getElem_map, List.getElem_range, List.getElem_reverse, List.length_map, List.length_range]
    simp at h1
    omega
theorem rev0_pick (items : Array Value) (h : 1 ≤ items.size) : slicePick items none (some 0) (some (-1)) = (items.toList.drop 1).reverse.toArray := by
  unfold slicePick
  rw [rev0_bounds _ h]
  show ((sliceRange ((items.size : Int) - 1) 0 (-1)).filterMap (items[·]?)).toArray = _
  rw [rev0_range _ h, rev0_map, List.filterMap_reverse]
  have p := pick_run items 1 (items.size - 1)
  rw [p, List.take_of_length_le (by rw [List.length_drop, Array.length_toList]; exact Nat.le_refl _)]
def tRev0 (K : PySem.W.Frag) (te : TE) : TE := fun σ H Q => te σ H fun x H1 => ∃ a xs, x = .ref a ∧ SqL K H1 a xs ∧ xs ≠ [] ∧ ∀ p, H1 p = none → Q (.ref p) (upd H1 p (.lst (xs.drop 1).reverse))
theorem pe_rev0 {X : Cx} {te : TE} {e : Expr} {k k0 : Nat} {p0 p1 p2 p3 pos : Pos} (he : PE X e te) : PE X (.Subscript e (.Slice none (some (.Constant (.int 0) k0 p0)) (some (.UnaryOp .USub (.Constant (.int 1) k p1) p2)) p3) pos) (tRev0 X.K te) := by
  refine ⟨fun pins s σ H Q I h => ?_⟩
  refine Subscript_ (thn (he.run pins s σ H _ I h) fun v s1 ⟨x, H1, I1, r1, q1⟩ => ?_)
  obtain ⟨a, xs, ex, hx, ne, q⟩ := q1
  subst ex
  cases r1
  have hst : PO X (some (.UnaryOp .USub (.Constant (.int 1) k p1) p2)) (tPart (tUn (rU fun i => .int (-i)) (tC (.int 1)))) := po_some (pe_un un_neg pe_int)
  have hmi : PO X (some (.Constant (.int 0) k0 p0)) (tPart (tC (.int 0))) := po_some pe_int
  refine wpAny_Slice (thn (po_none.run pins s1 σ H1 (fun o H2 => o = none ∧ H2 = H1) I1 ⟨rfl, rfl⟩) fun vl s2 ⟨l, H2, I2, pl, el, e2⟩ => ?_)
  subst el e2
  refine thn (hmi.run pins s2 σ H2 (fun o H3 => o = some 0 ∧ H3 = H2) I2 ⟨0, rfl, rfl, rfl⟩) fun vu s3 ⟨u, H3, I3, pu, eu, e3⟩ => ?_
  subst eu e3
  refine thn (hst.run pins s3 σ H3 (fun o H4 => o = some (-1) ∧ H4 = H3) I3 ⟨1, rfl, -1, rfl, rfl, rfl⟩) fun vs s4 ⟨o, H4, I4, ps, eo, e4⟩ => ?_
  subst eo e4
  have I5 : Inv X pins σ H4 { s4 with heap := s4.heap.push { cls := .type "slice", data := .fields #[vl, vu, vs] } } := I4.kept (t' := s4.toks) fun b ob q => Heap.get?_push_of_some _ q
  obtain ⟨its, r, ht, hz⟩ := I5.list hx
  have hlen := r.length
  have n1 : 1 ≤ its.toArray.size := by
    rw [List.size_toArray, ← hlen]
    cases xs with
    | nil => exact absurd rfl ne
    | cons _ _ => simp
  show wpAny (model X.prog X.w) X.A (subscriptTail e (.Slice none (some (.Constant (.int 0) k0 p0)) (some (.UnaryOp .USub (.Constant (.int 1) k p1) p2)) p3) (.ref a) (.ref s4.heap.objs.size)) (EP X pins σ Q) X.xe { s4 with heap := s4.heap.push { cls := .type "slice", data := .fields #[vl, vu, vs] } }
  refine tail_any (ops := [.ref a, .ref s4.heap.objs.size]) ht.isList.typeIs (PySem.slot_list_getitem.lookup) ?_ (by with_unfolding_all rfl)
  refine wpAny_getItem_list_slice ht.isList (Heap.IsSliceOf.new _ vl vu vs) pl pu ps (by decide) ?_ (by rw [List.size_toArray]; omega)
  rw [rev0_pick _ n1]
  refine ⟨.ref _, _, I5.laid (t' := s4.toks) (o := .lst (xs.drop 1).reverse) (fun b ob q => Heap.get?_push_of_some _ q) (Nat.le_refl _) ?_, rfl, q _ (I5.hok.fresh (Nat.le_refl _))⟩
  refine ⟨by rw [List.length_reverse, List.length_drop]; omega, _, 0, ?_, Heap.get?_push_size _ rfl⟩
  exact (r.drop 1).reverse
end GX
namespace GX
open PySem PySem.Spec PyProof.Rows L2
/-! ## an own exception under ValueError whose __init__ begins with super().__init__(e) -/
section
variable {prog : Program} {w : World} {A : Around} {E : Value → Shared → Prop} {h : Heap} {g : Array GenState} {d : Drawn} {t : Nat} {os : OsState}
variable {nm q : Str} {C N : Addr} {bs bm : List Value} {hdct : Bool} {sn : List Str} {sub : List Value} {ab : Bool} {col : Option Bool} {dd : Option Addr} {k0 k1 k2 k3 k5 : Option Value}
theorem call_mw {u e t0 : Addr} {rest : List Value} {Q : Value → Shared → Prop}
    (hC : h.get? C = some (excClassObj nm q C N bs bm hdct sn sub ab col dd k0 k1 k2 k3 k5 "ValueError.__new__")) (he : h.get? e = some (HandSPX.excO C t0)) (hu : h.get? u = some (PySem.W.kxs_mw "ValueError.__init__" e)) (hrest : rest.length ≤ sizeLine)
    (hq : ∀ h' t1, (∀ b o, b ≠ e → h.get? b = some o → h'.get? b = some o) → h'.get? e = some (HandSPX.excO C t1) → Q .none ⟨h', g, d, t, os⟩) :
    wpAny (model prog w) A (call (.ref u) rest) Q E ⟨h, g, d, t, os⟩ := by
  refine wpAny_call (codeAny_of_tree ?_)
  show wpAny _ A.in1 (callAny (.ref u) ⟨rest, []⟩) _ _ _
  simp only [callAny]
  refine wpAny_bind (wpAny_load hu ?_)
  simp only [PySem.W.kxs_mw, show (Value.type "method-wrapper" == Value.type "method" || Value.type "method-wrapper" == Value.type "builtin_function_or_method" || Value.type "method-wrapper" == Value.type "method-wrapper") = true by decide, if_true]
  refine PySem.W.KFB.if_so (by decide) ?_
  refine wpAny_bind (PySem.ESX.check_bound F.excBase_ValueError hC he rfl ?_)
  refine wpAny_bind (wpAny_pure (wpAny_pure ?_))
  refine ⟨Code.quiet_builtin _ (by decide +kernel), codeAny_builtin F.excBase_ValueError.initEntry ?_⟩
  rw [Around.under_plainId F.excBase_ValueError.init.plain _]
  wp_walk
  refine hq _ h.objs.size (fun b o hb ho => ?_) ?_
  · rw [Heap.get?_update_other _ _ (Ne.symm hb)]
    exact Heap.get?_push_of_some _ ho
  · rw [Heap.get?_update_self _ (Heap.get?_push_of_some _ he) rfl]
    rfl
end
section
variable {X : Cx} {pins : List (Addr × Obj)} {σ : L2.St} {H : Hp} {s : Shared} {a C u : Addr} {E : Value → Shared → Prop} {A : Around}
/-- super().__init__(..), the bound one called: nothing of it is told -/
theorem mw_ok {us : List Value} {Q : Value → Shared → Prop} (T : OexC X.K C) (I : Inv X pins σ H s) (e : H a = some (exo a C none)) (hu : s.heap.get? u = some (PySem.W.kxs_mw "ValueError.__init__" a)) (hl : us.length ≤ sizeLine) (h : ∀ s', Inv X pins σ H s' → Q .none s') :
    wpAny (model X.prog X.w) A (call (.ref u) us) Q E s := by
  obtain ⟨nm, q, N, bs, bm, sn, sub, ab, col, dd, k0, k1, k2, k3, k5, hC, hbm⟩ := T.cls
  obtain ⟨t1, ho⟩ := exo_at I.hok e
  obtain ⟨hp, g, d, t, os⟩ := s
  refine call_mw (I.kIn _ _ hC) ho hu hl fun h' t2 k hx => ?_
  have J := I.write (t' := t) (x := a) (e := a) (o := exo a C none) (by rw [e]; exact True.intro) (.inl rfl) k ⟨_, hx⟩ (exo_ok hx)
  have eu : upd H a (exo a C none) = H := by
    funext b
    by_cases hb : b = a
    · rw [hb, upd_same, e]
    · rw [upd_ne hb]
  rw [eu] at J
  exact h _ J
end

section
open NdefX
variable {CX : CXT} {P : Program} {w : World} {K : PySem.W.Frag} {mg : Str → Option Value} {base : Heap} {N ps : List Str} {F : NF} {f C cc : Addr} {k : Nat} {sp : Sp}
/-- what the written part says of such an __init__: its cell is __class__, its code's file is the program's -/
structure SupF (P : Program) (K : PySem.W.Frag) (mg : Str → Option Value) (F : NF) (f cc C : Addr) (doc pm ctv : Value) : Prop where
  lk : ∃ oc od osl, K.lookup f = some (⟨oc, od, .func (F.fd doc pm ctv), osl⟩ : Obj)
  hcd : PySem.W.codeIn K (.ref F.c) F.qual = true
  hcl : F.cl = [(("__class__" : Str), cc)]
  cell : ∃ cl cd sl, K.lookup cc = some (⟨cl, cd, .cell (some (.ref C)), sl⟩ : Obj)
  file : ∃ cl cd vs sl fl tf, K.lookup F.c = some (⟨cl, cd, .fields vs, sl⟩ : Obj) ∧ vs[2]? = some (.str fl tf) ∧ (P.main.file == fl) = true
  top : (P.main.scope.names.lookup ("super" : Str)).isSome = false
  T : OexC K C
  sup : PySem.W.ks_superIn K C C "__init__" = some (some (.builtin "ValueError.__init__"))
  third : PySem.W.nsIn K cStatics "thirdparty.any" = some none
  ve : PySem.W.subIn K (.ref C) (.type "ValueError") = some true
  self : PySem.W.mroIn K C (.ref C) = some true
  nsup : mg "super" = none
theorem fn_ofS {pl : Addr → Sem Bool} {doc pm ctv : Value} {ar : Arg} {e : Expr} {rest : List Stmt} {p0 p1 p2 pos pos' : Pos} (Z : SupF P K mg F f cc C doc pm ctv) (S : NScope N ps ["__class__"] F.scope)
    (hp : (F.params.posonlyargs ++ F.params.args).head? = some ar) (har : N[0]? = some ar.arg) (hself : F.scope.names.lookup ar.arg = some .local) (hps : ps[0]? = some ar.arg)
    (hks : F.scope.names.lookup ("super" : Str) = some .globalImplicit)
    (hb : F.body = .Expr (.Call (.Attribute (.Call (.Name "super" p0) [] [] p1) "__init__" p2) [e] [] pos) pos' :: rest)
    (len : ∀ vs H Q E, sp vs H Q E → vs.length = ps.length)
    (hbody : ∀ (A : Around) (outer : List Env) (s : Shared) (H : Hp) (vs : List V) (Q : VK) (E : XK), Room k (A.deeper (envF F f s.heap.objs.size)) → sp vs H Q E →
      ∃ (a : Addr) (ta : TA) (t : TS), vs[0]? = some (.ref a) ∧ H a = some (exo a C none) ∧ PA (ncx CX P w K mg base N F f A outer s H E) [e] ta ∧ PSs (ncx CX P w K mg base N F f A outer s H E) rest t ∧
        ta (startF N vs [none]) H fun ws H1 => ws.length ≤ 1000 ∧ H1 a = some (exo a C none) ∧ t { nx := fun _ H' => Q .non H', rt := Q } (startF N vs [none]) H1)
    (hs1 : ∀ env : Env, starEach [e] env = [(false, eval e env)] := by intro _; rfl)
    (hcall : ∀ L : Addr, eval (.Call (.Attribute (.Call (.Name "super" p0) [] [] p1) "__init__" p2) [e] [] pos) (envF F f L) = (do
      let ov ← attributeBase (.Call (.Name "super" p0) [] [] p1) "__init__" (envF F f L) (eval (.Call (.Name "super" p0) [] [] p1) (envF F f L))
      standAt p2.atName
      let (f1, first) ← holding [ov] (getMethod ov "__init__" (pl L))
      callWith pos f1 first (backTo pos (starEach [e] (envF F f L))) []) := by intro _; rfl)
    (hsw : ∀ env : Env, swapsWith (.Call (.Attribute (.Call (.Name "super" p0) [] [] p1) "__init__" p2) [e] [] pos) none pos'.line env = pure false := by intro _; rfl) :
    FnOk P w K mg base CX (k + 1) f (F.fd doc pm ctv) ps sp := by
  refine ⟨len, fun A outer s H args us vs Q E hr e0 hbd r hsp => ?_⟩
  have KX : K.In s.heap := e0.mod.kin.keeps fun b o e => (e0.bs b o e).1
  have hl := len _ _ _ _ hsp
  have lim : s.heap.NoLimit := e0.mod.nolimit.keeps fun b o e => (e0.bs b o e).1
  obtain ⟨oc, od, osl, lk⟩ := Z.lk
  obtain ⟨ccl, ccd, ccs, lcc⟩ := Z.cell
  have hcc : s.heap.IsCell cc (some (.ref C)) := ⟨_, KX _ _ lcc, rfl⟩
  have C0 : CellsAt F.cl ["__class__"] [none] s.heap H := by
    have one : ∀ {y : Str} {c : Addr}, F.cl.lookup y = some c → y = ("__class__" : Str) ∧ c = cc := fun {y c} z => by
      rw [Z.hcl] at z
      by_cases hy : y = ("__class__" : Str)
      · subst hy
        exact ⟨rfl, (Option.some.inj z).symm⟩
      · rw [List.lookup_cons, beq_false_of_ne hy] at z
        cases z
    refine ⟨rfl, fun y c z => ?_, fun x y c z1 z2 => (one z1).1.trans (one z2).1.symm, fun i y hi => ?_⟩
    · rw [(one z).2]
      exact ⟨(e0.bs _ _ (e0.mod.kin _ _ lcc)).2, _, hcc⟩
    · cases i with
      | zero =>
        have : y = ("__class__" : Str) := (Option.some.inj hi).symm
        subst this
        exact ⟨cc, by rw [Z.hcl]; rfl, fun v z => by cases z⟩
      | succ i => cases hi
  refine ks_codeAny_call_defAt (body := F.body) hr.depth (KX _ _ lk) rfl lim (PySem.W.codeRec_of KX Z.hcd) rfl hbd S.nocell (fun ⟨n, _⟩ hy => S.par n (List.of_mem_zip hy).1) (fun h₁ hns kp => ?_) S.co S.gen S.kind
  have I : L2.Inv (ncx CX P w K mg base N F f A outer s H E) [] (startF N vs [none]) H { s with heap := h₁, toks := s.toks + (ps.zip us).length } := inv_startN S hr.hd e0 hl r C0 hns kp
  obtain ⟨a, ta, t, ea, eH, hta, ht, hq⟩ := hbody A outer s H vs Q E (hr.deeper _) hsp
  show _root_.PySem.wpAt (model P w) (A.deeper (envF F f s.heap.objs.size)) (.func F.body (envF F f s.heap.objs.size)) (execs F.body (envF F f s.heap.objs.size)) _ _ _
  rw [hb]
  have hi : interactive (envF F f s.heap.objs.size) = false := by
    unfold interactive
    rw [show (envF F f s.heap.objs.size).scope.kind = .function from S.kind]
    rfl
  refine ks_wpAt_execs_cons (ks_wpAt_Expr_any ?_ hi (hsw _))
  refine ks_wpAt_MethodCall (pl := pl s.heap.objs.size) ?_ (hcall _)
  · obtain ⟨kcl, kcd, kvs, ksl, fl, tf, lcode, hvs, hfile⟩ := Z.file
    have X1 : K.In h₁ := KX.keeps kp
    have hkc : F.scope.names.lookup ("__class__" : Str) = some .free := S.frk _ List.mem_cons_self
    obtain ⟨nm, q, N', bs, bm, sn, sub, ab, col, dd, k0, k1, k2, k3, k5, hC, hbm⟩ := Z.T.cls
    have hcl : PySem.W.clsIn K C = some { name := nm, bases := bs, mro := .ref C :: bm, ns := N', qualname := q, hasDict := true, slotNames := sn, subclasses := sub, abstract := ab, collection := col, hasDel := false } := by unfold PySem.W.clsIn; rw [hC] <;> rfl
    obtain ⟨u0, hu0, ru0⟩ := r.get ea
    obtain rfl : u0 = Value.ref a := ru0
    have ndP : ps.Nodup := by
      have q := S.nd.sublist (List.take_sublist (ps.length + [Str.ofString "__class__"].length) N)
      rw [S.pre] at q
      exact (List.nodup_append.mp q).1
    obtain ⟨t1, ho⟩ := exo_at I.hok eH
    obtain ⟨mb, b1, b2⟩ := I.mod.blt
    refine ks_wpAt_super_base (env := envF F f s.heap.objs.size) hks hkc (by decide) rfl (X1 _ _ lk) rfl hp rfl (X1 _ _ lcode) rfl hvs hfile Z.top ?_
    refine PySem.W.ks_loadName_global S.kind hks (Calls.loadGlobal_builtin (env := envF F f s.heap.objs.size) (I.mod.glob.keeps I.bk) Z.nsup (b1.keeps I.bk) ((b2 _ (by decide)).trans (show bootBuiltins "super" = some (.type "super") from rfl)) ⟨rfl, ?_⟩)
    refine wpAny_loadName_free S.kind hkc (c := cc) (by show F.cl.lookup _ = _; rw [Z.hcl]; rfl) ⟨_, X1 _ _ lcc, rfl⟩ ?_
    refine wpAny_loadName_local S.kind hself hns (zip_look ndP hps hu0) ?_
    refine ks_wpAny_isType_cls (X1 _ _ hC) rfl ⟨rfl, ?_⟩
    refine ks_wpAny_call_super (X1 _ _ hC) rfl ho rfl (fun c z => nomatch z) (PySem.W.looks_mroIn X1 Z.self) (fun h2 e2 k2 => ?_)
    have X2 : K.In h2 := X1.keeps k2
    have I2 : PySem.W.InstAt h2 a ({ cls := .ref C, dict := none, data := .fields #[.ref t1, .none, .none, .none, .bool false, .none] } : Obj) C none := ⟨k2 _ _ ho, rfl, rfl, trivial⟩
    have hsup := Z.sup
    unfold PySem.W.ks_superIn at hsup
    rw [hcl] at hsup
    refine PySem.W.kxs_getMethod PySem.W.kxs_ValueError e2 (PySem.W.looks_opaque X2 Z.third) (l₀ := .ref C :: bm) ?_ rfl X2 hsup (I2.type.andThen (PySem.W.looks_subIn X2 Z.ve)) (PySem.W.ks_ne X2 I2 hcl) (by decide) ?_
    · exact fun A Q E s k q => wpAny_bind ((PySem.W.looks_clsIn X2 hcl) A _ E s k (wpAny_pure q))
    have J := ClX.pin_new (t' := s.toks + (ps.zip us).length + 1) (o := PySem.W.kxs_mw "ValueError.__init__" a) I (h' := h2.push (PySem.W.kxs_mw "ValueError.__init__" a)) (a := h2.objs.size) (fun b u z => Heap.get?_push_of_some _ (k2 b u z)) (Nat.le_of_lt (Heap.lt_size e2)) (Heap.get?_push_size h2 rfl) (fun v z => nomatch z)
    have hq2 := hta.run pos _ _ _ H _ J hq
    rw [show (ncx CX P w K mg base N F f A outer s H E).env = envF F f s.heap.objs.size from rfl] at hq2
    have one : starEach [e] (envF F f s.heap.objs.size) = (false, eval e (envF F f s.heap.objs.size)) :: starEach [] (envF F f s.heap.objs.size) := (hs1 _).trans rfl
    rw [one] at hq2
    show wpAny _ _ (callWith pos (.ref h2.objs.size) [] (backTo pos (starEach [e] (envF F f s.heap.objs.size))) []) _ _ _
    rw [one]
    refine PySem.W.kxs_callWith (i := "ValueError.__init__") (x := a) rfl (Calls.evalArgs_plain ?_)
    refine thn hq2 fun ws s3 ⟨vs3, H3, I3, r3, l3, e3, q3⟩ => ⟨ClX.pin_at I3, ?_⟩
    refine mw_ok Z.T I3 e3 (ClX.pin_at I3) (by show ws.length ≤ sizeLine; rw [← Paired.length r3, sizeLine_eq]; omega) fun s4 I4 => ?_
    refine wpAt_of_wpAny (thn (ht.run [] s4 _ H3 _ (ClX.unpin I4) q3) fun fl s' hs => ?_)
    have fin : ∀ {σ' : L2.St} {H' : Hp} {v : V} {u : Value}, L2.Inv (ncx CX P w K mg base N F f A outer s H E) [] σ' H' s' → L2.RelV v u → Q v H' → CE outer P w H s Q u s' :=
      fun {σ' H' v u} J rv q => ⟨v, H', J.os, J.bare, J.base, J.hok, rv, q⟩
    cases fl with
    | ret u =>
      obtain ⟨v, σ', H', J, rv, q⟩ := hs
      exact fin J rv q
    | next =>
      obtain ⟨σ', H', J, q⟩ := hs
      exact fin (v := V.non) (u := Value.none) J rfl q
    | brk =>
      obtain ⟨_, _, _, q⟩ := hs
      exact False.elim q
    | cont =>
      obtain ⟨_, _, _, q⟩ := hs
      exact False.elim q
end
end GX
namespace W
open PySem L2 GX
def tp (i : Nat) : Stmt := PySem.Challenge.pw_everymatch_k05_first_wrong_sign.main.body.getD i (.Pass ⟨0, 0, 0, 0⟩)
abbrev sLOpen : Stmt := tp 19
abbrev sLWrong : Stmt := tp 20
abbrev sLWritten : Stmt := tp 18
abbrev sMark : Stmt := tp 3
abbrev sRead : Stmt := tp 8
abbrev sFeed : Stmt := tp 10
abbrev sDraw : Stmt := tp 11
abbrev sOne : Stmt := tp 12
abbrev sDoc : Stmt := tp 13
abbrev sGrown : Stmt := tp 14
abbrev sDrawn : Stmt := tp 15
abbrev sLaw : Stmt := tp 23
abbrev sLPars : Stmt := tp 16
abbrev sLKids : Stmt := tp 17
abbrev sLAsked : Stmt := tp 22
abbrev sLSpoilt : Stmt := tp 21
abbrev sCBad : Stmt := tp 6
/-! ### a feed of draws -/
/-- what a feed holds, with m draws left that we answer for -/
def FeedOk (m : Nat) (o : List V) : Prop := ∃ x y c : Int, o = [.int x, .int y, .int c] ∧ 0 ≤ x ∧ Wd 2000000 x ∧
  0 ≤ y ∧ Wd 200 y ∧ 0 ≤ c ∧ c + m ≤ 1000000000000
theorem FeedOk.less {m n : Nat} {o : List V} (h : FeedOk m o) (le : n ≤ m) : FeedOk n o := by
  obtain ⟨x, y, c, e, h1, h2, h3, h4, h5, h6⟩ := h
  exact ⟨x, y, c, e, h1, h2, h3, h4, h5, by omega⟩
/-- the draw: some integer from 0 to below many, the feed used -/
def spDraw : Sp := fun vs H Q _ => ∃ (p : Addr) (many : Int) (m : Nat) (o : List V), vs = [.ref p, .int many] ∧ H p = some (.lst o) ∧ FeedOk (m + 1) o ∧
  0 < many ∧ Wd 1000 many ∧ ∀ (o' : List V) (r : Int), FeedOk m o' → 0 ≤ r → r < many → Q (.int r) (upd H p (.lst o'))
abbrev pDraw : List Str := ["feed", "many"]
/-- a new feed -/
def spFeed (K : PySem.W.Frag) : Sp := fun vs H Q _ => ∃ (a : Addr) (k : Int) (ns : List Int), vs = [.ref a, .int k] ∧ SqL K H a (ns.map V.int) ∧
  ns.length ≤ 63 ∧ (∀ z ∈ ns, Builtin.Int.intBits z ≤ 1048576) ∧ 0 ≤ k ∧ k ≤ 1000 ∧
  ∀ (H' : Hp) (p : Addr) (o : List V), Same H H' → H p = none → H' p = some (.lst o) → FeedOk 900000000000 o → Q (.ref p) H'
abbrev pFeed : List Str := ["script", "k"]
/-- what one may be drawn of: the signs of a text, the items of a list -/
def Things (K : PySem.W.Frag) (p : Addr) (H : Hp) (v : V) (zs : List V) : Prop :=
  (∃ z : Str, v = .str z ∧ zs = z.cps.toList.map fun c => V.str ⟨#[c]⟩) ∨ ∃ a, v = .ref a ∧ a ≠ p ∧ SqL K H a zs
def spOne (K : PySem.W.Frag) : Sp := fun vs H Q _ => ∃ (p : Addr) (v : V) (zs : List V) (m : Nat) (o : List V), vs = [.ref p, v] ∧ H p = some (.lst o) ∧
  FeedOk (m + 1) o ∧ Things K p H v zs ∧ 0 < zs.length ∧ zs.length ≤ 1000 ∧ ∀ (o' : List V) (y : V), FeedOk m o' → y ∈ zs → Q y (upd H p (.lst o'))
abbrev pOne : List Str := ["feed", "things"]
def SameBut (p : Addr) (H H' : Hp) : Prop := ∀ b o, b ≠ p → H b = some o → H' b = some o
theorem SameBut.refl {p : Addr} {H : Hp} : SameBut p H H := fun _ _ _ e => e
theorem SameBut.trans {p : Addr} {H H1 H2 : Hp} (a : SameBut p H H1) (b : SameBut p H1 H2) : SameBut p H H2 := fun c o n e => b c o n (a c o n e)
theorem SameBut.put {p : Addr} {H H1 : Hp} {o : HO} (a : SameBut p H H1) : SameBut p H (upd H1 p o) := fun c u n e => by
  rw [upd_ne n]
  exact a c u n e
theorem SameBut.new {p q : Addr} {H H1 : Hp} {o : HO} (a : SameBut p H H1) (f : H1 q = none) : SameBut p H (upd H1 q o) := fun c u n e => by
  have z := a c u n e
  rw [upd_ne (ne_of_none z f)]
  exact z
/-- an object that came later was not there -/
theorem SameBut.free {p q : Addr} {H H1 : Hp} {u : HO} (a : SameBut p H H1) (hp : H p = some u) (hp1 : ∃ u1, H1 p = some u1) (f : H1 q = none) : H q = none := by
  cases e : H q with
  | none => rfl
  | some o =>
    by_cases n : q = p
    · subst n
      obtain ⟨u1, z⟩ := hp1
      rw [z] at f
      cases f
    · rw [a q o n e] at f
      cases f
theorem SameBut.same {p : Addr} {H H1 H2 : Hp} (a : Same H H1) (hn : H p = none) (b : SameBut p H1 H2) : Same H H2 := fun c o e =>
  b c o (ne_of_none e hn) (a c o e)

theorem sq_put {K : PySem.W.Frag} {H : Hp} {a p : Addr} {xs : List V} {o : HO} (ne : a ≠ p) (h : SqL K H a xs) : SqL K (upd H p o) a xs := by
  rcases h with (h | ⟨ob, h⟩) | h
  · exact .inl (.inl (by rw [upd_ne ne]; exact h))
  · exact .inl (.inr ⟨ob, by rw [upd_ne ne]; exact h⟩)
  · exact .inr h

/-! ### documents -/
abbrev Doc := List (Nat × Nat)
def EntAt (H : Hp) (v : V) (e : Nat × Nat) : Prop := ∃ r : Addr, v = .ref r ∧ H r = some (.tup [.str ⟨#[e.1]⟩, .int (e.2 : Nat)])
def EntsAt (H : Hp) (vs : List V) (doc : Doc) : Prop := Paired (EntAt H) vs doc
def DocAt (H : Hp) (p : Addr) (doc : Doc) : Prop := ∃ vs, H p = some (.tup vs) ∧ EntsAt H vs doc
theorem EntAt.mono {H H' : Hp} {v : V} {e : Nat × Nat} (k : ∀ b xs, H b = some (.tup xs) → H' b = some (.tup xs)) (h : EntAt H v e) : EntAt H' v e := by
  obtain ⟨r, e1, e2⟩ := h
  exact ⟨r, e1, k _ _ e2⟩
theorem EntsAt.mono {H H' : Hp} {vs : List V} {doc : Doc} (k : ∀ b xs, H b = some (.tup xs) → H' b = some (.tup xs)) (h : EntsAt H vs doc) : EntsAt H' vs doc :=
  Paired.mapP h fun _ _ q => q.mono k
theorem DocAt.mono {H H' : Hp} {p : Addr} {doc : Doc} (k : ∀ b xs, H b = some (.tup xs) → H' b = some (.tup xs)) (h : DocAt H p doc) : DocAt H' p doc := by
  obtain ⟨vs, e, q⟩ := h
  exact ⟨vs, k _ _ e, q.mono k⟩
theorem Same.tups {H H' : Hp} (s : Same H H') : ∀ b xs, H b = some (.tup xs) → H' b = some (.tup xs) := fun b xs e => s b _ e
theorem DocAt.same {H H' : Hp} {p : Addr} {doc : Doc} (h : DocAt H p doc) (s : Same H H') : DocAt H' p doc := h.mono (Same.tups s)
theorem SameBut.tups {p : Addr} {H H' : Hp} {o : List V} (s : SameBut p H H') (hp : H p = some (.lst o)) : ∀ b xs, H b = some (.tup xs) → H' b = some (.tup xs) := fun b xs e =>
  s b _ (fun z => by subst z; rw [hp] at e; cases e) e
theorem upd_tups {H : Hp} {p : Addr} {o : List V} {u : HO} (hp : H p = some (.lst o)) : ∀ b xs, H b = some (.tup xs) → upd H p u b = some (.tup xs) := fun b xs e => by
  rw [upd_ne (fun z => by subst z; rw [hp] at e; cases e)]
  exact e
theorem new_tups {H : Hp} {p : Addr} {u : HO} (hp : H p = none) : ∀ b xs, H b = some (.tup xs) → upd H p u b = some (.tup xs) := fun b xs e => by
  rw [upd_ne (ne_of_none e hp)]
  exact e
theorem Paired.snoc {α β : Type} {F : α → β → Prop} : ∀ {l₁ : List α} {l₂ : List β} {a : α} {b : β}, Paired F l₁ l₂ → F a b → Paired F (l₁ ++ [a]) (l₂ ++ [b])
  | _, _, _, _, .nil, q => .cons q .nil
  | _, _, _, _, .cons r t, q => .cons r (Paired.snoc t q)
/-- marks a to h, no depth more than one below the one ahead -/
def okFrom : Nat → Doc → Prop
  | _, [] => True
  | m, (c, d) :: r => 97 ≤ c ∧ c ≤ 104 ∧ d ≤ m ∧ okFrom (d + 1) r
def endOf : Nat → Doc → Nat
  | m, [] => m
  | _, (_, d) :: r => endOf (d + 1) r
theorem okFrom_snoc {c d : Nat} : ∀ {m : Nat} {doc : Doc}, okFrom m doc → 97 ≤ c → c ≤ 104 → d ≤ endOf m doc → okFrom m (doc ++ [(c, d)])
  | _, [], _, h1, h2, h3 => ⟨h1, h2, h3, trivial⟩
  | _, (_, _) :: _, h, h1, h2, h3 => ⟨h.1, h.2.1, h.2.2.1, okFrom_snoc h.2.2.2 h1 h2 h3⟩
theorem endOf_snoc {c d : Nat} : ∀ {m : Nat} {doc : Doc}, endOf m (doc ++ [(c, d)]) = d + 1
  | _, [] => rfl
  | _, (_, e) :: r => endOf_snoc (m := e + 1) (doc := r)
theorem endOf_le : ∀ {m : Nat} {doc : Doc}, okFrom m doc → endOf m doc ≤ m + doc.length
  | _, [], _ => Nat.le_refl _
  | m, (_, d) :: r, h => by
    have q := endOf_le h.2.2.2
    have l := h.2.2.1
    show endOf (d + 1) r ≤ m + (r.length + 1)
    omega

section
variable {P : Program} {w : World} {K : PySem.W.Frag} {mg : Str → Option Value} {base : Heap}
theorem scDraw : FnScope ["feed", "many", "rest", "got", "stir"] pDraw (defScope sDraw) := ⟨rfl, rfl, rfl, by decide +kernel, rfl, by decide +kernel, by decide +kernel⟩
theorem ok_draw (T : Bl mg) (D : Dn K mg "_law_draw" sDraw pDraw) : FnOk P w K mg base CX0 1 D.f D.fd pDraw spDraw := by
  refine D.F.ok scDraw (fun vs H Q E h => ?_) (fun cdv A outer s H vs Q E hr h => ?_)
  · obtain ⟨p, many, m, o, rfl, _⟩ := h
    rfl
  · obtain ⟨p, many, m, o, rfl, hp, ⟨x, y, c, rfl, x0, xb, y0, yb, c0, cm⟩, h0, hb, k⟩ := h
    refine ⟨_, pss_cons (ps_if (pt_cmpR op_gt (pe_ix ix_list (pv 0) pe_int (fun _ _ => rfl)) pe_int (nomark _))
      (pss_cons (ps_set (i := 2) scDraw.nd rfl (.inl rfl) (pe_op op_fdivW (pe_ix ix_list (pv 0) pe_int (fun _ _ => rfl)) (pv 1)))
      (pss_cons (ps_set (i := 3) scDraw.nd rfl (.inl rfl) (pe_op op_sub (pe_ix ix_list (pv 0) pe_int (fun _ _ => rfl)) (pe_op op_mulX (pv 2) (pv 1))))
      (pss_cons (ps_asg (pv 2) (pg_sub (pv 0) pe_int set_list))
      (pss_one (ps_ret (pv 3)))))) pss_nil)
      (pss_cons (ps_asg (pe_op op_add (pe_ix ix_list (pv 0) pe_int (fun _ _ => rfl)) pe_int) (pg_sub (pv 0) pe_int set_list))
      (pss_cons (ps_set (i := 4) scDraw.nd rfl (.inl rfl) (pe_op op_add (pe_ix ix_list (pv 0) pe_int (fun _ _ => rfl)) (pe_op op_mulX pe_int (pe_ix ix_list (pv 0) pe_int (fun _ _ => rfl)))))
      (pss_cons (ps_set (i := 4) scDraw.nd rfl (.inl rfl) (pe_op op_mod (pe_callTy call_intI (by rfl) T.int b_int (pa_cons (pe_op op_add (pe_op op_mulX (pe_op op_mulX (pv 4) (pv 4)) (pv 4)) (pe_op op_mulX pe_int (pe_ix ix_list (pv 0) pe_int (fun _ _ => rfl))))  pa_nil)) (pe_op op_add (pe_op op_pow pe_int pe_int) pe_int)))
      (pss_cons (ps_set (i := 4) scDraw.nd rfl (.inl rfl) (pe_op op_mod (pe_callTy call_intI (by rfl) T.int b_int (pa_cons (pe_op op_add (pe_op op_mulX (pv 4) (pv 4)) pe_int)  pa_nil)) (pe_op op_add (pe_op op_pow pe_int pe_int) pe_int)))
      (pss_one (ps_ret (pe_op op_mod (pe_callTy call_intI (by rfl) T.int b_int (pa_cons (pe_op op_fdivW (pv 4) (pe_op op_pow pe_int pe_int))  pa_nil)) (pv 1)))))))), ?_⟩
    have sq0 : SqL K H p [.int x, .int y, .int c] := SqL.of hp
    refine ⟨_, rfl, p, _, 0, _, rfl, rfl, sq0, rfl, _, _, rfl, rfl, _, rfl, ?_⟩
    refine ite2 (fun hx => ?_) (fun hx => ?_)
    · have rb : Wd 2000000 (x / many) := xb.div x0 h0
      refine ⟨_, rfl, p, _, 0, _, rfl, rfl, sq0, rfl, _, rfl, _, _, rfl, rfl, hb.cdiv h0 (by decide) (by decide), ?_⟩
      refine ⟨_, rfl, p, _, 0, _, rfl, rfl, sq0, rfl, _, rfl, _, rfl, _, _, rfl, rfl, rb.ok hb (by decide), _, _, rfl, rfl, ?_⟩
      refine ⟨_, rfl, _, rfl, p, _, 0, 0, rfl, rfl, hp, rfl, ?_⟩
      refine ⟨_, rfl, ?_⟩
      have r1 : x - x / many * many = x % many := by
        have := Int.mul_ediv_add_emod x many
        rw [Int.mul_comm] at this
        omega
      refine k _ _ ⟨x / many, y, c, rfl, Int.ediv_nonneg x0 (Int.le_of_lt h0), rb, y0, yb, c0, by omega⟩ ?_ ?_
      · rw [r1]; exact Int.emod_nonneg _ (by omega)
      · rw [r1]; exact Int.emod_lt_of_pos _ h0
    · have cw : Wd 41 (c + 1) := ⟨by omega⟩
      have sq1 : SqL K (upd H p (.lst [.int x, .int y, .int (c + 1)])) p [.int x, .int y, .int (c + 1)] := SqL.of upd_same
      have w1 : Wd 80 (6700417 * (c + 1)) := ⟨by omega⟩
      have w2 : Wd 201 (y + 6700417 * (c + 1)) := yb.add w1 (n := 200) (by decide) (by decide)
      have k1 : Wd 24 (6700417 : Int) := ⟨by decide⟩
      have k2 : Wd 24 (15485863 : Int) := ⟨by decide⟩
      refine ⟨_, rfl, p, _, 2, _, rfl, rfl, sq0, rfl, _, _, rfl, rfl, _, rfl, p, _, 2, 2, rfl, rfl, hp, rfl, ?_⟩
      refine ⟨_, rfl, p, _, 1, _, rfl, rfl, sq1, rfl, _, rfl, p, _, 2, _, rfl, rfl, sq1, rfl, _, _, rfl, rfl, k1.ok cw (by decide), _, _, rfl, rfl, ?_⟩
      refine ⟨_, rfl, _, rfl, _, _, rfl, rfl, w2.ok w2 (by decide), _, rfl, _, _, rfl, rfl, (w2.mul w2).ok w2 (by decide), _, rfl, p, _, 2, _, rfl, rfl, sq1, rfl, _, _, rfl, rfl, k2.ok cw (by decide), _, _, rfl, rfl, _, rfl, ?_⟩
      have m43 : (0 : Int) < 10 ^ 43 + 57 := by decide +kernel
      have m38 : (0 : Int) < 10 ^ 38 + 133 := by decide +kernel
      have b43 : Wd 200 ((10 : Int) ^ 43 + 57) := ⟨by decide +kernel⟩
      refine ⟨_, _, rfl, rfl, ⟨by decide, by decide, by decide⟩, _, _, rfl, rfl, _, _, rfl, rfl, m43, ?_⟩
      generalize hz : ((y + 6700417 * (c + 1)) * (y + 6700417 * (c + 1)) * (y + 6700417 * (c + 1)) + 15485863 * (c + 1)) = z
      have z0 : 0 ≤ z % (10 ^ 43 + 57) := Int.emod_nonneg _ (by omega)
      have zw : Wd 200 (z % (10 ^ 43 + 57)) := b43.within z0 (Int.le_of_lt (Int.emod_lt_of_pos _ m43))
      refine ⟨_, rfl, _, rfl, _, _, rfl, rfl, zw.ok zw (by decide), _, _, rfl, rfl, _, rfl, _, _, rfl, rfl, ⟨by decide, by decide, by decide⟩, _, _, rfl, rfl, _, _, rfl, rfl, m38, ?_⟩
      refine ⟨_, rfl, _, _, rfl, rfl, ⟨by decide, by decide, by decide⟩, _, _, rfl, rfl, (Wd.mk (n := 40) (by decide)).cdiv (by decide) (by decide) (by decide), _, rfl, _, rfl, _, _, rfl, rfl, h0, ?_⟩
      exact k _ _ ⟨x, y, c + 1, rfl, x0, xb, y0, yb, by omega, by omega⟩ (Int.emod_nonneg _ (by omega)) (Int.emod_lt_of_pos _ h0)

theorem scFeed : FnScope ["script", "k", "cell"] pFeed (defScope sFeed) := ⟨rfl, rfl, rfl, by decide +kernel, rfl, by decide +kernel, by decide +kernel⟩
theorem ok_feed (T : Bl mg) (D : Dn K mg "_law_feed" sFeed pFeed) : FnOk P w K mg base CX0 1 D.f D.fd pFeed (spFeed K) := by
  refine D.F.ok scFeed (fun vs H Q E h => ?_) (fun cdv A outer s H vs Q E hr h => ?_)
  · obtain ⟨a, n, ns, rfl, _⟩ := h
    rfl
  · obtain ⟨a, n, ns, rfl, hs, hl, hbits, n0, n1, k⟩ := h
    refine ⟨_, pss_cons (ps_set (i := 2) scFeed.nd rfl (.inl rfl) (pe_op op_add (pe_op op_mul pe_int (pv 1)) (pe_callB (cr_sum rfl) (by rfl) T.sum b_sum (pa_cons (pe_slice sl_list (pv 0) po_none (po_some pe_int)) pa_nil))))
      (pss_cons (ps_if (pt_cmpR op_lt (pv 1) (pe_callB call_len_seq (by rfl) T.len b_len (pa_cons (pv 0) pa_nil)) (nomark _)) (pss_one (ps_set (i := 2) scFeed.nd rfl (.inl rfl) (pe_ix ix_list (pv 0) (pv 1) (fun _ _ => rfl)))) pss_nil)
      (pss_one (ps_ret (pe_lst (pa_cons (pe_callB (call_max2 rfl) (by rfl) T.max b_max (pa_cons pe_int (pa_cons (pe_op op_sub (pv 2) (pe_op op_pow pe_int pe_int)) pa_nil)))
        (pa_cons (pe_op op_mod (pe_callTy call_intI (by rfl) T.int b_int (pa_cons (pe_op op_add (pe_op op_mulX (pv 2) pe_int) (pe_op op_mul pe_int (pv 1)))  pa_nil)) (pe_op op_add (pe_op op_pow pe_int pe_int) pe_int)) (pa_cons pe_int pa_nil))))))), ?_⟩
    have wide : ∀ z ∈ ns, Wd 1048577 z := fun z hz => Wd.bits (hbits z hz)
    have sumw : Wd 1048577 (ns.take 1).sum := by
      cases ns with
      | nil => exact ⟨by show (0 : Int).natAbs < _; exact Nat.two_pow_pos _⟩
      | cons z r =>
        have q := wide z List.mem_cons_self
        have e : ((z :: r).take 1).sum = z := by simp
        rw [e]
        exact q
    have m39 : (0 : Int) < 10 ^ 39 + 23 := by decide +kernel
    have b39 : Wd 200 ((10 : Int) ^ 39 + 23) := ⟨by decide +kernel⟩
    have k19 : Wd 5 (19 : Int) := ⟨by decide⟩
    have nw : Wd 20 (977 * n) := ⟨by omega⟩
    have w0 : Wd 1048578 (977 * n + (ns.take 1).sum) := nw.add sumw (n := 1048577) (by decide) (by decide)
    have fin : ∀ (H1 : Hp) (cell : Int), Same H H1 → Wd 1048578 cell → ∀ p, H1 p = none →
        Q (.ref p) (upd H1 p (.lst [.int (if cell - 10 ^ 18 > 0 then cell - 10 ^ 18 else 0), .int ((cell * 19 + 7 * n) % (10 ^ 39 + 23)), .int 0])) := by
      intro H1 cell s1 cw p hp
      have e18 : Wd 100 ((10 : Int) ^ 18) := ⟨by decide +kernel⟩
      have d : Wd 1048579 (cell - 10 ^ 18) := cw.sub e18 (n := 1048578) (by decide) (by decide)
      have z0 := Int.emod_nonneg (cell * 19 + 7 * n) (show (10 : Int) ^ 39 + 23 ≠ 0 by omega)
      refine k _ p _ (fun b o e => ?_) (s1.free hp) upd_same ⟨_, _, _, rfl, ?_, ?_, z0, ?_, Int.le_refl _, by omega⟩
      · rw [upd_ne (ne_of_none (s1 b o e) hp)]
        exact s1 b o e
      · split <;> omega
      · split
        · exact d.mono (by decide)
        · exact ⟨by show (0 : Int).natAbs < _; exact Nat.two_pow_pos _⟩
      · exact b39.within z0 (Int.le_of_lt (Int.emod_lt_of_pos _ m39))
    refine ⟨_, rfl, _, _, rfl, rfl, .inr ⟨by omega, by omega⟩, _, rfl, _, rfl, a, _, rfl, hs, fun q hq => ?_⟩
    have ce : cutV (ns.map V.int) none (some 1) = (ns.take 1).map V.int := by
      have := cutV_to (ns.map V.int) 1
      rw [← List.map_take] at this
      exact this
    have s1 : Same H (upd H q (.lst ((ns.take 1).map V.int))) := fun b o e => by
      rw [upd_ne (ne_of_none e hq)]
      exact e
    rw [ce]
    refine ⟨q, ns.take 1, rfl, SqL.of upd_same, _, _, rfl, rfl, ?_⟩
    refine ⟨_, rfl, _, rfl, a, _, rfl, .inl (s1.seq hs), _, _, rfl, rfl, _, rfl, ?_⟩
    refine ite2 (fun hlt => ?_) (fun hlt => ?_)
    · have lt : n < (ns.length : Int) := by
        have := of_decide_eq_true hlt
        rw [List.length_map] at this
        exact this
      obtain ⟨j, rfl⟩ := Int.eq_ofNat_of_zero_le n0
      have jl : j < ns.length := by omega
      have at_ : atI (ns.map V.int) (j : Int) = some (V.int ns[j]) := atI_nat (by rw [List.getElem?_map, List.getElem?_eq_getElem jl]; rfl)
      have cw : Wd 1048578 ns[j] := (wide _ (List.getElem_mem jl)).mono (by decide)
      refine ⟨_, rfl, _, rfl, a, _, _, _, rfl, rfl, s1.seq hs, at_, ?_⟩
      refine ⟨_, rfl, _, _, rfl, rfl, ⟨by decide, by decide, by decide⟩, _, _, rfl, rfl, _, _, rfl, ?_⟩
      refine ⟨_, rfl, _, _, rfl, rfl, cw.ok k19 (by decide), _, rfl, _, _, rfl, rfl, .inl ⟨by decide, by decide⟩, _, _, rfl, rfl, _, rfl, _, _, rfl, rfl, ⟨by decide, by decide, by decide⟩, _, _, rfl, rfl, _, _, rfl, rfl, m39, ?_⟩
      exact ⟨by show 3 ≤ sizeLine; decide, fun p hp => fin _ _ s1 cw p hp⟩
    · refine ⟨_, rfl, _, _, rfl, rfl, ⟨by decide, by decide, by decide⟩, _, _, rfl, rfl, _, _, rfl, ?_⟩
      refine ⟨_, rfl, _, _, rfl, rfl, w0.ok k19 (by decide), _, rfl, _, _, rfl, rfl, .inl ⟨by decide, by decide⟩, _, _, rfl, rfl, _, rfl, _, _, rfl, rfl, ⟨by decide, by decide, by decide⟩, _, _, rfl, rfl, _, _, rfl, rfl, m39, ?_⟩
      exact ⟨by show 3 ≤ sizeLine; decide, fun p hp => fin _ _ s1 w0 p hp⟩

theorem scOne : FnScope ["feed", "things"] pOne (defScope sOne) := ⟨rfl, rfl, rfl, by decide +kernel, rfl, by decide +kernel, by decide +kernel⟩
theorem ok_one (T : Bl mg) (Dd : Dn K mg "_law_draw" sDraw pDraw) (D : Dn K mg "_law_one" sOne pOne) : FnOk P w K mg base CX0 2 D.f D.fd pOne (spOne K) := by
  have GD : FnOk P w K mg base CX0 1 Dd.f Dd.fd pDraw spDraw := ok_draw T Dd
  refine D.F.ok scOne (fun vs H Q E h => ?_) (fun cdv A outer s H vs Q E hr h => ?_)
  · obtain ⟨p, v, zs, m, o, rfl, _⟩ := h
    rfl
  · obtain ⟨p, v, zs, m, o, rfl, hp, hf, ht, h0, h1, k⟩ := h
    refine ⟨_, pss_one (ps_ret (pe_ix ix_seq (pv 1) (de_call Dd GD hr (pa_cons (pv 0) (pa_cons (pe_callB (CallR.or call_len_seq call_len_str) (by rfl) T.len b_len (pa_cons (pv 1) pa_nil)) pa_nil))) (fun _ _ => rfl))), ?_⟩
    have room : Wd 1000 (zs.length : Int) := ⟨Nat.lt_of_le_of_lt (show ((zs.length : Int)).natAbs ≤ 1000 by omega) (by decide +kernel)⟩
    rcases ht with ⟨z, rfl, rfl⟩ | ⟨a, rfl, hne, hsq⟩
    · have zl : z.cps.toList.length = z.length := by first | rfl | exact Array.length_toList | simp [Str.length]
      have small : z.length ≤ 1000 := by rw [List.length_map, zl] at h1; exact h1
      have pos : 0 < z.length := by rw [List.length_map, zl] at h0; exact h0
      have zw : Wd 1000 ((z.length : Nat) : Int) := by rw [List.length_map, zl] at room; exact room
      refine ⟨_, rfl, _, rfl, _, rfl, .inr ⟨z, rfl, Nat.le_of_lt (small1000 small), ?_⟩⟩
      refine ⟨p, _, m, o, rfl, hp, hf, by omega, zw, fun o' r fo r0 r1 => ?_⟩
      obtain ⟨j, rfl⟩ := Int.eq_ofNat_of_zero_le r0
      have jl : j < z.cps.toList.length := by rw [zl]; omega
      refine .inr (.inr ⟨z, _, z.cps.toList[j], rfl, rfl, Nat.le_of_lt (small1000 small), atI_nat (List.getElem?_eq_getElem jl), ?_⟩)
      exact k o' _ fo (List.mem_map.mpr ⟨_, List.getElem_mem jl, rfl⟩)
    · refine ⟨_, rfl, _, rfl, _, rfl, .inl ⟨a, zs, rfl, .inl hsq, ?_⟩⟩
      refine ⟨p, _, m, o, rfl, hp, hf, by omega, room, fun o' r fo r0 r1 => ?_⟩
      obtain ⟨j, rfl⟩ := Int.eq_ofNat_of_zero_le r0
      have jl : j < zs.length := by omega
      refine .inl ⟨a, zs, _, zs[j], rfl, rfl, ?_, atI_nat (List.getElem?_eq_getElem jl), k o' _ fo (List.getElem_mem jl)⟩
      exact sq_put hne hsq
end

theorem endOf_pos : ∀ {m : Nat} {e : Nat × Nat} {r : Doc}, 1 ≤ endOf m (e :: r)
  | _, (_, d), [] => Nat.le_add_left _ _
  | _, (_, d), e :: r => endOf_pos (m := d + 1) (e := e) (r := r)
/-- texts of marks -/
def MarksOk (z : Str) : Prop := 0 < z.cps.toList.length ∧ z.cps.toList.length ≤ 8 ∧ ∀ c ∈ z.cps.toList, 97 ≤ c ∧ c ≤ 104
def spDoc : Sp := fun vs H Q _ => ∃ (p : Addr) (most : Nat) (m : Nat) (o : List V), vs = [.ref p, .int most] ∧ H p = some (.lst o) ∧ FeedOk (m + 200) o ∧ most ≤ 62 ∧
  ∀ (H' : Hp) (q : Addr) (doc : Doc) (o' : List V), SameBut p H H' → H' p = some (.lst o') → FeedOk m o' → H q = none → DocAt H' q doc → okFrom 0 doc → doc.length ≤ most → Q (.ref q) H'
abbrev pDoc : List Str := ["feed", "most"]
/-- where the loop of a drawn document stands -/
structure DocInv (H : Hp) (p : Addr) (g : Addr) (i : Nat) (m : Nat) (d : Int) (H' : Hp) : Prop where
  but : SameBut p H H'
  new : H g = none
  ex : ∃ (o : List V) (vs : List V) (doc : Doc), H' p = some (.lst o) ∧ FeedOk m o ∧ H' g = some (.lst vs) ∧ EntsAt H' vs doc ∧ okFrom 0 doc ∧ doc.length = i ∧ d + 1 = (endOf 0 doc : Nat)
section
variable {P : Program} {w : World} {K : PySem.W.Frag} {mg : Str → Option Value} {base : Heap}
theorem scDoc : FnScope ["feed", "most", "marks", "many", "way", "got", "depth", "turn", "steps"] pDoc (defScope sDoc) := ⟨rfl, rfl, rfl, by decide +kernel, rfl, by decide +kernel, by decide +kernel⟩
theorem ok_doc (T : Bl mg) (Dd : Dn K mg "_law_draw" sDraw pDraw) (D1 : Dn K mg "_law_one" sOne pOne) (D : Dn K mg "_law_document" sDoc pDoc) : FnOk P w K mg base CX0 3 D.f D.fd pDoc spDoc := by
  have GD : FnOk P w K mg base CX0 1 Dd.f Dd.fd pDraw spDraw := ok_draw T Dd
  have G1 : FnOk P w K mg base CX0 2 D1.f D1.fd pOne (spOne K) := ok_one T Dd D1
  refine D.F.ok scDoc (fun vs H Q E h => ?_) (fun cdv A outer s H vs Q E hr h => ?_)
  · obtain ⟨p, most, m, o, rfl, _⟩ := h
    rfl
  · obtain ⟨p, most, m, o, rfl, hp, hf, hm, k⟩ := h
    refine ⟨_, pss_cons (ps_par3 (i := 2) (j := 3) (l := 4) rfl scDoc.nd rfl rfl rfl (by decide) (by decide) (by decide) rfl rfl rfl
        (pa_cons (de_call D1 G1 hr (pa_cons (pv 0) (pa_cons (pe_lst (pa_cons pe_str (pa_cons pe_str (pa_cons pe_str (pa_cons pe_str (pa_cons pe_str pa_nil)))))) pa_nil)))
        (pa_cons (de_call Dd GD hr (pa_cons (pv 0) (pa_cons (pe_op op_add (pv 1) pe_int) pa_nil)))
        (pa_cons (de_call Dd GD hr (pa_cons (pv 0) (pa_cons pe_int pa_nil))) pa_nil))) rfl)
      (pss_cons (ps_par (i := 5) (j := 6) rfl scDoc.nd rfl rfl (by decide) rfl rfl (pa_cons (pe_lst pa_nil) (pa_cons (pe_un un_neg pe_int) pa_nil)) rfl)
      (pss_cons (ps_for PassesOwn.never rfl (pi_range1 (by rfl) T.range (pa_cons (pv 3) pa_nil)) (pg_name (i := 7) scDoc.nd rfl (.inl rfl))
        (C8.pss_cut (ps_if (pt_cmpR op_eq (pv 4) pe_int (nomark _))
            (pss_one (ps_set (i := 6) scDoc.nd rfl (.inl rfl) (pe_ifExp (pt_cmpR op_eq (pv 7) pe_int (nomark _)) pe_int pe_int)))
            (pss_one (ps_if (pt_cmpR op_eq (pv 4) pe_int (nomark _))
              (pss_one (ps_set (i := 6) scDoc.nd rfl (.inl rfl) (pe_ifExp (pt_cmpR op_gt (de_call Dd GD hr (pa_cons (pv 0) (pa_cons pe_int pa_nil))) pe_int (nomark _)) (pe_op op_add (pv 6) pe_int)
                 (de_call Dd GD hr (pa_cons (pv 0) (pa_cons (pe_op op_add (pv 6) pe_int) pa_nil))))))
              (pss_cons (ps_set (i := 8) scDoc.nd rfl (.inl rfl) (pe_lst (pa_cons (pe_op op_add (pv 6) pe_int) (pa_cons (pe_op op_add (pv 6) pe_int) (pa_cons (pv 6) (pa_cons (pv 6) (pa_cons (pe_op op_sub (pv 6) pe_int) (pa_cons pe_int
                  (pa_cons (de_call Dd GD hr (pa_cons (pv 0) (pa_cons (pe_op op_add (pv 6) pe_int) pa_nil))) pa_nil)))))))))
              (pss_one (ps_set (i := 6) scDoc.nd rfl (.inl rfl) (pe_callB (call_max2 rfl) (by rfl) T.max b_max (pa_cons pe_int (pa_cons (pe_callB (call_min2 rfl) (by rfl) T.min b_min (pa_cons (pe_op op_add (pv 6) pe_int) (pa_cons (de_call D1 G1 hr (pa_cons (pv 0) (pa_cons (pv 8) pa_nil))) pa_nil))) pa_nil)))))))))
        (pss_one (ps_expr (pe_bm PySem.F.plainAttrs_list PySem.F.slot_list_append PySem.F.type_list_append mt_append (pv 5) (pa_cons (pe_tup (pa_cons (de_call D1 G1 hr (pa_cons (pv 0) (pa_cons (pv 2) pa_nil))) (pa_cons (pv 6) pa_nil))) pa_nil))))))
      (pss_one (ps_ret (pe_callTy call_tuple_of (by rfl) T.tuple b_tuple (pa_cons (pv 5) pa_nil)))))), ?_⟩
    -- the draws ahead of the loop
    refine ⟨_, rfl, by show 5 ≤ sizeLine; decide, fun l0 hl0 => ?_⟩
    have n0 : l0 ≠ p := fun z => by subst z; rw [hp] at hl0; cases hl0
    have b1 : SameBut p H (upd H l0 (.lst [.str "a", .str "ab", .str "ab", .str "abc", .str "abcdefgh"])) := SameBut.refl.new hl0
    have p1 : (upd H l0 (.lst [.str "a", .str "ab", .str "ab", .str "abc", .str "abcdefgh"])) p = some (.lst o) := by rw [upd_ne n0.symm]; exact hp
    refine ⟨p, _, [.str "a", .str "ab", .str "ab", .str "abc", .str "abcdefgh"], m + 199, o, rfl, p1, hf, .inr ⟨l0, rfl, n0, SqL.of upd_same⟩, by decide, by decide, fun o1 y1 f1 m1 => ?_⟩
    obtain ⟨mk, rfl, mok⟩ : ∃ z : Str, y1 = .str z ∧ MarksOk z := by
      simp only [List.mem_cons, List.not_mem_nil, or_false] at m1
      rcases m1 with e | e | e | e | e <;> exact ⟨_, e, by decide +kernel, by decide +kernel, by decide +kernel⟩
    have mw : Wd 1000 ((most : Int) + 1) := ⟨Nat.lt_of_le_of_lt (show ((most : Int) + 1).natAbs ≤ 63 by omega) (by decide +kernel)⟩
    refine ⟨_, rfl, _, rfl, _, _, rfl, rfl, p, _, m + 198, o1, rfl, upd_same, f1, by omega, mw, fun o2 r2 f2 r20 r21 => ?_⟩
    rw [upd_upd]
    refine ⟨_, rfl, p, _, m + 197, o2, rfl, upd_same, f2, by decide, ⟨by decide +kernel⟩, fun o3 r3 f3 r30 r31 => ?_⟩
    rw [upd_upd]
    refine ⟨_, _, _, rfl, ?_⟩
    obtain ⟨many, rfl⟩ := Int.eq_ofNat_of_zero_le r20
    -- got, depth
    refine ⟨Nat.zero_le _, fun g hg => ?_⟩
    have g0 : g ≠ p := fun z => by subst z; rw [upd_same] at hg; cases hg
    have bp : SameBut p H (upd (upd H l0 (.lst [.str "a", .str "ab", .str "ab", .str "abc", .str "abcdefgh"])) p (.lst o3)) := b1.put
    have gn : H g = none := bp.free hp ⟨_, upd_same⟩ hg
    refine ⟨_, rfl, _, _, rfl, ?_⟩
    -- the loop
    refine ⟨_, rfl, _, rfl, by omega, by omega, for_range (lo := 0) (n := many) (fun i σ H' => ∃ (d : Int) (t st : Option V),
      σ = [some (.ref p), some (.int most), some (.str mk), some (.int many), some (.int r3), some (.ref g), some (.int d), t, st] ∧ DocInv H p g i (m + 3 * (many - i)) d H') ?_ ?_ ?_⟩
    · refine ⟨-1, none, none, rfl, bp.new hg, gn, o3, [], [], ?_, f3.less (by omega), upd_same, .nil, trivial, rfl, rfl⟩
      rw [upd_ne g0.symm]
      exact upd_same
    · rintro i σ H1 hi ⟨d, t, st, rfl, but, _, o4, vs, doc, hp1, hf1, hg1, ents, ok, len, hd⟩
      have up : endOf 0 doc ≤ 62 := by
        have := endOf_le ok
        omega
      -- what follows the if: depth is e
      refine ⟨fun σ' H' => ∃ (e : Nat) (st' : Option V) (o' : List V), σ' = [some (.ref p), some (.int most), some (.str mk), some (.int many), some (.int r3), some (.ref g), some (.int e), some (.int (0 + (i : Int))), st'] ∧
        e ≤ endOf 0 doc ∧ SameBut p H1 H' ∧ H' p = some (.lst o') ∧ FeedOk (m + 3 * (many - (i + 1)) + 1) o', ?_, ?_⟩
      · have fd2 : FeedOk (m + 3 * (many - (i + 1)) + 3) o4 := hf1.less (by omega)
        refine ⟨_, rfl, rfl, _, rfl, ?_⟩
        refine ite2 (fun way => ?_) (fun way => ?_)
        · refine ⟨_, rfl, rfl, _, rfl, ?_⟩
          refine ite2 (fun first => ?_) (fun first => ?_)
          · exact ⟨0, st, o4, rfl, Nat.zero_le _, SameBut.refl, hp1, fd2.less (by omega)⟩
          · refine ⟨1, st, o4, rfl, ?_, SameBut.refl, hp1, fd2.less (by omega)⟩
            have i0 : i ≠ 0 := fun z => by
              subst z
              exact first (decide_eq_true rfl)
            cases doc with
            | nil => exact absurd len.symm i0
            | cons e r => exact endOf_pos
        · refine ⟨_, rfl, rfl, _, rfl, ?_⟩
          refine ite2 (fun way => ?_) (fun way => ?_)
          · refine ⟨_, rfl, p, 9, m + 3 * (many - (i + 1)) + 2, o4, rfl, hp1, fd2, by decide, ⟨by decide +kernel⟩, fun o5 r5 f5 r50 r51 => ?_⟩
            refine ⟨_, _, rfl, rfl, _, rfl, ?_⟩
            refine ite2 (fun up1 => ?_) (fun up1 => ?_)
            · refine ⟨_, rfl, _, _, rfl, rfl, ?_⟩
              refine ⟨endOf 0 doc, st, o5, ?_, Nat.le_refl _, SameBut.refl.put, upd_same, f5.less (by omega)⟩
              rw [← hd]
              rfl
            · have dw : Wd 1000 (d + 2) := ⟨Nat.lt_of_le_of_lt (show (d + 2).natAbs ≤ 100 by omega) (by decide +kernel)⟩
              refine ⟨_, rfl, _, rfl, _, _, rfl, rfl, p, _, m + 3 * (many - (i + 1)) + 1, o5, rfl, upd_same, f5, by omega, dw, fun o6 r6 f6 r60 r61 => ?_⟩
              obtain ⟨e, rfl⟩ := Int.eq_ofNat_of_zero_le r60
              refine ⟨e, st, o6, rfl, by omega, ?_, upd_same, f6⟩
              exact SameBut.refl.put.put
          · have dw : Wd 1000 (d + 2) := ⟨Nat.lt_of_le_of_lt (show (d + 2).natAbs ≤ 100 by omega) (by decide +kernel)⟩
            refine ⟨_, rfl, _, _, rfl, rfl, _, rfl, _, _, rfl, rfl, _, rfl, _, rfl, _, rfl, _, _, rfl, rfl, ?_⟩
            refine ⟨_, rfl, _, rfl, _, _, rfl, rfl, p, _, m + 3 * (many - (i + 1)) + 2, o4, rfl, hp1, fd2, by omega, dw, fun o5 r5 f5 r50 r51 => ?_⟩
            refine ⟨by show 7 ≤ sizeLine; decide, fun l1 hl1 => ?_⟩
            have n1 : l1 ≠ p := fun z => by subst z; rw [upd_same] at hl1; cases hl1
            have b5 : SameBut p H1 (upd (upd H1 p (.lst o5)) l1 (.lst [.int (d + 1), .int (d + 1), .int d, .int d, .int (d - 1), .int 0, .int r5])) := (SameBut.refl.put).new hl1
            have p5 : (upd (upd H1 p (.lst o5)) l1 (.lst [.int (d + 1), .int (d + 1), .int d, .int d, .int (d - 1), .int 0, .int r5])) p = some (.lst o5) := by
              rw [upd_ne n1.symm]
              exact upd_same
            refine ⟨_, rfl, _, _, rfl, rfl, ?_⟩
            refine ⟨_, rfl, _, rfl, p, _, [.int (d + 1), .int (d + 1), .int d, .int d, .int (d - 1), .int 0, .int r5], m + 3 * (many - (i + 1)) + 1, o5, rfl, p5, f5, .inr ⟨l1, rfl, n1, SqL.of upd_same⟩, by show 0 < 7; decide, by show 7 ≤ 1000; decide, fun o6 y6 f6 m6 => ?_⟩
            obtain ⟨u, rfl⟩ : ∃ u : Int, y6 = .int u := by
              simp only [List.mem_cons, List.not_mem_nil, or_false] at m6
              rcases m6 with z | z | z | z | z | z | z <;> exact ⟨_, z⟩
            refine ⟨_, _, rfl, _, _, rfl, ?_⟩
            have q0 : ∃ e : Nat, (if (if u < d + 1 then u else d + 1) > 0 then (if u < d + 1 then u else d + 1) else 0) = (e : Int) ∧ e ≤ endOf 0 doc := by
              by_cases c1 : u < d + 1
              · rw [if_pos c1]
                by_cases c2 : u > 0
                · rw [if_pos c2]
                  exact ⟨u.toNat, by omega, by omega⟩
                · rw [if_neg c2]
                  exact ⟨0, rfl, Nat.zero_le _⟩
              · rw [if_neg c1]
                by_cases c2 : d + 1 > 0
                · rw [if_pos c2]
                  exact ⟨endOf 0 doc, by omega, Nat.le_refl _⟩
                · rw [if_neg c2]
                  exact ⟨0, rfl, Nat.zero_le _⟩
            obtain ⟨e, ee, el⟩ := q0
            refine ⟨e, some (.ref l1), o6, ?_, el, b5.put, upd_same, f6⟩
            show [some (V.ref p), some (V.int most), some (V.str mk), some (V.int many), some (V.int r3), some (V.ref g), some (V.int (if (if u < d + 1 then u else d + 1) > 0 then (if u < d + 1 then u else d + 1) else 0)), some (V.int (0 + (i : Int))), some (V.ref l1)] = _
            rw [ee]
      · rintro σ' H' ⟨e, st', o', rfl, el, b6, hp6, f6⟩
        have hg6 : H' g = some (.lst vs) := b6 g _ g0 hg1
        have en6 : EntsAt H' vs doc := ents.mono (b6.tups hp1)
        have vl : vs.length = i := by rw [Paired.length en6]; exact len
        refine ⟨_, rfl, .inl ⟨rfl, _, SqL.of hg6⟩, ?_⟩
        refine ⟨_, rfl, _, rfl, p, _, mk.cps.toList.map (fun c => V.str ⟨#[c]⟩), m + 3 * (many - (i + 1)), o', rfl, hp6, f6, .inl ⟨mk, rfl, rfl⟩, by rw [List.length_map]; exact mok.1, by rw [List.length_map]; exact Nat.le_trans mok.2.1 (by decide), fun o7 y7 f7 m7 => ?_⟩
        obtain ⟨c, hc, rfl⟩ := List.mem_map.mp m7
        refine ⟨_, rfl, by show 2 ≤ sizeLine; decide, fun t7 ht7 => ?_⟩
        have tp7 : t7 ≠ p := fun z => by subst z; rw [upd_same] at ht7; cases ht7
        have ht6 : H' t7 = none := by rw [upd_ne tp7] at ht7; exact ht7
        have tg : t7 ≠ g := fun z => by subst z; rw [hg6] at ht6; cases ht6
        have hg7 : (upd (upd H' p (.lst o7)) t7 (.tup [.str ⟨#[c]⟩, .int (e : Nat)])) g = some (.lst vs) := by
          rw [upd_ne tg.symm, upd_ne g0]
          exact hg6
        refine ⟨g, vs, _, rfl, rfl, hg7, by rw [vl]; exact Nat.lt_of_lt_of_le (show i < 63 by omega) (by decide), ?_⟩
        refine ⟨e, _, _, rfl, ?_, gn, o7, vs ++ [.ref t7], doc ++ [(c, e)], ?_, f7, upd_same, ?_, okFrom_snoc ok (mok.2.2 c hc).1 (mok.2.2 c hc).2 el, ?_, ?_⟩
        · intro b ob nb eb
          have z := b6 b ob nb (but b ob nb eb)
          have z1 : (upd H' p (.lst o7)) b = some ob := by rw [upd_ne nb]; exact z
          rw [upd_ne (fun q => by subst q; rw [gn] at eb; cases eb), upd_ne (ne_of_none z1 ht7)]
          exact z1
        · rw [upd_ne g0.symm, upd_ne tp7.symm]
          exact upd_same
        · have k1 : ∀ b xs, H' b = some (.tup xs) → (upd (upd (upd H' p (.lst o7)) t7 (.tup [.str ⟨#[c]⟩, .int (e : Nat)])) g (.lst (vs ++ [.ref t7]))) b = some (.tup xs) := by
            intro b xs eb
            exact upd_tups hg7 b xs (new_tups ht7 b xs (upd_tups hp6 b xs eb))
          refine Paired.snoc (en6.mono k1) ⟨t7, rfl, ?_⟩
          rw [upd_ne tg]
          exact upd_same
        · rw [List.length_append, len]
          rfl
        · rw [endOf_snoc]
          rfl
    · rintro σ H1 ⟨d, t, st, rfl, but, _, o4, vs, doc, hp1, hf1, hg1, ents, ok, len, hd⟩
      refine ⟨_, rfl, g, vs, rfl, .inl ⟨SqL.of hg1, fun q hq => ?_⟩⟩
      have qp : q ≠ p := fun z => by subst z; rw [hp1] at hq; cases hq
      refine k _ q doc o4 (but.new hq) (by rw [upd_ne qp.symm]; exact hp1) (hf1.less (by omega)) (but.free hp ⟨_, hp1⟩ hq) ⟨vs, upd_same, ents.mono (new_tups hq)⟩ ok (by omega)
end

def spGrown (K : PySem.W.Frag) : Sp := fun vs H Q _ => ∃ (a : Addr) (ns : List Int), vs = [.ref a] ∧ SqL K H a (ns.map V.int) ∧ ns.length ≤ 62 ∧
  ∀ (H' : Hp) (q : Addr) (doc : Doc), Same H H' → H q = none → DocAt H' q doc → okFrom 0 doc → doc.length ≤ 62 → Q (.ref q) H'
abbrev pGrown : List Str := ["cells"]
/-- the script, which nothing changes -/
def ScrAt (K : PySem.W.Frag) (H : Hp) (a : Addr) (ns : List Int) : Prop := (∃ o, H a = some (.frz o (.lst (ns.map V.int)))) ∨
  ∃ (o : Obj) (its : Array Value) (n : Nat), K.lookup a = some o ∧ o.cls = .type "list" ∧ o.dict = none ∧ o.data = .seq its n ∧ its.size ≤ sizeLine ∧ Vals (ns.map V.int) its.toList
theorem ScrAt.sq {K : PySem.W.Frag} {H : Hp} {a : Addr} {ns : List Int} (h : ScrAt K H a ns) : SqL K H a (ns.map V.int) := by
  rcases h with h | h
  · exact .inl (.inr h)
  · exact .inr h
theorem ScrAt.same {K : PySem.W.Frag} {H H' : Hp} {a : Addr} {ns : List Int} (h : ScrAt K H a ns) (s : Same H H') : ScrAt K H' a ns := by
  rcases h with ⟨o, h⟩ | h
  · exact .inl ⟨o, s _ _ h⟩
  · exact .inr h
theorem ScrAt.but {K : PySem.W.Frag} {H H' : Hp} {a p : Addr} {ns : List Int} {l : List V} (h : ScrAt K H a ns) (s : SameBut p H H') (hp : H p = some (.lst l)) : ScrAt K H' a ns := by
  rcases h with ⟨o, h⟩ | h
  · exact .inl ⟨o, s _ _ (fun z => by subst z; rw [hp] at h; cases h) h⟩
  · exact .inr h
theorem ScrAt.of {K : PySem.W.Frag} {H : Hp} {a : Addr} {ns : List Int} (only : Only H) (h : SqL K H a (ns.map V.int)) : ScrAt K H a ns := by
  rcases h with (h | h) | h
  · rcases only a with z | ⟨o, xs, z⟩
    · rw [z] at h; cases h
    · rw [z] at h; cases h
  · exact .inl h
  · exact .inr h
def spDrawn (K : PySem.W.Frag) : Sp := fun vs H Q _ => ∃ (p a : Addr) (most : Nat) (ns : List Int) (m : Nat) (o : List V), vs = [.ref p, .ref a, .int most] ∧ H p = some (.lst o) ∧ FeedOk (m + 1) o ∧
  ScrAt K H a ns ∧ ns.length ≤ 63 ∧ (∀ z ∈ ns, Builtin.Int.intBits z ≤ 1048576) ∧ most ≤ 62 ∧
  ∀ (H' : Hp) (q : Addr) (doc : Doc) (o' : List V), SameBut p H H' → H' p = some (.lst o') → FeedOk m o' → H q = none → DocAt H' q doc → okFrom 0 doc → doc.length ≤ 62 → Q (.ref q) H'
abbrev pDrawn : List Str := ["feed", "script", "most"]
theorem eight (j : Int) : ∃ c : Nat, atI ("abcdefgh" : Str).cps.toList (j % 8) = some c ∧ 97 ≤ c ∧ c ≤ 104 := by
  have h0 := Int.emod_nonneg j (show (8 : Int) ≠ 0 by decide)
  have h1 := Int.emod_lt_of_pos j (show (0 : Int) < 8 by decide)
  generalize j % 8 = z at h0 h1
  obtain ⟨n, rfl⟩ := Int.eq_ofNat_of_zero_le h0
  have n8 : n < 8 := by omega
  have all : ∀ k : Nat, k < 8 → ∃ c : Nat, ("abcdefgh" : Str).cps.toList[k]? = some c ∧ 97 ≤ c ∧ c ≤ 104 := by
    intro k hk
    match k, hk with
    | 0, _ => exact ⟨97, by decide +kernel, by decide, by decide⟩
    | 1, _ => exact ⟨98, by decide +kernel, by decide, by decide⟩
    | 2, _ => exact ⟨99, by decide +kernel, by decide, by decide⟩
    | 3, _ => exact ⟨100, by decide +kernel, by decide, by decide⟩
    | 4, _ => exact ⟨101, by decide +kernel, by decide, by decide⟩
    | 5, _ => exact ⟨102, by decide +kernel, by decide, by decide⟩
    | 6, _ => exact ⟨103, by decide +kernel, by decide, by decide⟩
    | 7, _ => exact ⟨104, by decide +kernel, by decide, by decide⟩
    | n + 8, h => exact absurd h (by omega)
  obtain ⟨c, e, r⟩ := all n n8
  exact ⟨c, atI_nat e, r⟩
section
variable {P : Program} {w : World} {K : PySem.W.Frag} {mg : Str → Option Value} {base : Heap}
theorem scGrown : FnScope ["cells", "got", "most", "cell", "depth"] pGrown (defScope sGrown) := ⟨rfl, rfl, rfl, by decide +kernel, rfl, by decide +kernel, by decide +kernel⟩
theorem ok_grown (T : Bl mg) (D : Dn K mg "_law_grown" sGrown pGrown) : FnOk P w K mg base CX0 1 D.f D.fd pGrown (spGrown K) := by
  refine D.F.ok scGrown (fun vs H Q E h => ?_) (fun cdv A outer s H vs Q E hr h => ?_)
  · obtain ⟨a, ns, rfl, _⟩ := h
    rfl
  · obtain ⟨a, ns, rfl, hs, hl, k⟩ := h
    refine ⟨_, pss_cons (ps_par (i := 1) (j := 2) rfl scGrown.nd rfl rfl (by decide) rfl rfl (pa_cons (pe_lst pa_nil) (pa_cons pe_int pa_nil)) rfl)
      (pss_cons (ps_for PassesOwn.never rfl (pi_list (pv 0)) (pg_name (i := 3) scGrown.nd rfl (.inl rfl))
        (pss_cons (ps_set (i := 4) scGrown.nd rfl (.inl rfl) (pe_op op_mod (pe_callTy call_intI (by rfl) T.int b_int (pa_cons (pv 3)  pa_nil)) (pe_op op_add (pv 2) pe_int)))
        (pss_cons (ps_expr (pe_bm PySem.F.plainAttrs_list PySem.F.slot_list_append PySem.F.type_list_append mt_append (pv 1) (pa_cons (pe_tup (pa_cons (pe_ix ix_str pe_str (pe_op op_mod (pe_callTy call_intI (by rfl) T.int b_int (pa_cons (pe_op op_fdivW (pv 3) (pe_op op_add (pv 2) pe_int))  pa_nil)) pe_int) (fun _ _ => rfl)) (pa_cons (pv 4) pa_nil))) pa_nil)))
        (pss_one (ps_set (i := 2) scGrown.nd rfl (.inl rfl) (pe_op op_add (pv 4) pe_int))))))
      (pss_one (ps_ret (pe_callTy call_tuple_of (by rfl) T.tuple b_tuple (pa_cons (pv 1) pa_nil))))), ?_⟩
    refine ⟨Nat.zero_le _, fun g hg => ⟨_, _, rfl, ?_⟩⟩
    have ga : ∀ b o, H b = some o → b ≠ g := fun b o e => ne_of_none e hg
    refine ⟨_, rfl, a, rfl, ⟨_, (show Same H (upd H g (.lst [])) from fun b o e => by rw [upd_ne (ga b o e)]; exact e).seq hs⟩,
      for_list (K := K) (a := a) (xs := ns.map V.int) (fun i σ H' => ∃ (vs : List V) (doc : Doc) (c d : Option V),
        σ = [some (.ref a), some (.ref g), some (.int (endOf 0 doc : Nat)), c, d] ∧ Same H H' ∧ H' g = some (.lst vs) ∧ EntsAt H' vs doc ∧ okFrom 0 doc ∧ doc.length = i) ?_ ?_ ?_ ?_⟩
    · refine ⟨[], [], none, none, rfl, fun b o e => ?_, upd_same, .nil, trivial, rfl⟩
      rw [upd_ne (ga b o e)]
      exact e
    · rintro i σ H' hi ⟨vs, doc, c, d, rfl, s1, _⟩
      exact s1.seq hs
    · rintro i x σ H' hi ⟨vs, doc, c, d, rfl, s1, hg1, ents, ok, len⟩
      have il : i < ns.length := by
        have q := (List.getElem?_eq_some_iff.mp hi).1
        rw [List.length_map] at q
        exact q
      obtain ⟨u, rfl⟩ : ∃ u, x = V.int u := by
        rw [List.getElem?_map, List.getElem?_eq_getElem il] at hi
        exact ⟨_, (Option.some.inj hi).symm⟩
      have up := endOf_le ok
      have pos : (0 : Int) < (endOf 0 doc : Nat) + 1 := by omega
      have wd : Wd 1000 ((endOf 0 doc : Nat) + 1 : Int) := ⟨Nat.lt_of_le_of_lt (show (((endOf 0 doc : Nat) : Int) + 1).natAbs ≤ 100 by omega) (by decide +kernel)⟩
      have vl : vs.length = i := by rw [Paired.length ents]; exact len
      obtain ⟨ch, ech, c0, c1⟩ := eight (u / ((endOf 0 doc : Nat) + 1))
      refine ⟨_, rfl, _, rfl, _, rfl, _, _, rfl, rfl, _, _, rfl, rfl, pos, ?_⟩
      refine ⟨_, rfl, .inl ⟨rfl, _, SqL.of hg1⟩, ?_⟩
      refine ⟨_, rfl, _, rfl, _, _, rfl, rfl, _, _, rfl, rfl, wd.cdiv pos (by decide) (by decide), _, rfl, _, _, rfl, rfl, (by show (0 : Int) < 8; decide), _, _, ch, rfl, rfl, by decide +kernel, ech, ?_⟩
      refine ⟨_, rfl, by show 2 ≤ sizeLine; decide, fun t ht => ?_⟩
      have z0 := Int.emod_nonneg u (show ((endOf 0 doc : Nat) : Int) + 1 ≠ 0 by omega)
      have z1 := Int.emod_lt_of_pos u pos
      obtain ⟨e, ee⟩ := Int.eq_ofNat_of_zero_le z0
      have tg : t ≠ g := fun z => by subst z; rw [hg1] at ht; cases ht
      refine ⟨g, vs, _, rfl, rfl, by rw [upd_ne tg.symm]; exact hg1, by rw [vl]; exact Nat.lt_of_lt_of_le (show i < 63 by omega) (by decide), ?_⟩
      refine ⟨_, rfl, _, _, rfl, rfl, ?_⟩
      refine ⟨vs ++ [.ref t], doc ++ [(ch, e)], some (.int u), some (.int e), ?_, ?_, upd_same, ?_, okFrom_snoc ok c0 c1 (by omega), ?_⟩
      · rw [endOf_snoc]
        show [some (V.ref a), some (V.ref g), some (V.int (u % ((endOf 0 doc : Nat) + 1) + 1)), some (V.int u), some (V.int (u % ((endOf 0 doc : Nat) + 1)))] = _
        rw [ee]
        rfl
      · intro b o eb
        have z := s1 b o eb
        rw [upd_ne (ga b o eb), upd_ne (ne_of_none z ht)]
        exact z
      · have k1 : ∀ b xs, H' b = some (.tup xs) → (upd (upd H' t (.tup [.str ⟨#[ch]⟩, .int (u % ((endOf 0 doc : Nat) + 1))])) g (.lst (vs ++ [.ref t]))) b = some (.tup xs) := by
          intro b xs eb
          exact upd_tups (by rw [upd_ne tg.symm]; exact hg1) b xs (new_tups ht b xs eb)
        refine Paired.snoc (ents.mono k1) ⟨t, rfl, ?_⟩
        rw [upd_ne tg, upd_same]
        show some (HO.tup [V.str ⟨#[ch]⟩, V.int (u % ((endOf 0 doc : Nat) + 1))]) = _
        rw [ee]
      · rw [List.length_append, len]
        rfl
    · rintro σ H' ⟨vs, doc, c, d, rfl, s1, hg1, ents, ok, len⟩
      refine ⟨_, rfl, g, vs, rfl, .inl ⟨SqL.of hg1, fun q hq => ?_⟩⟩
      refine k _ q doc (fun b o e => ?_) (s1.free hq) ⟨vs, upd_same, ents.mono (new_tups hq)⟩ ok (by rw [len, List.length_map]; exact hl)
      have z := s1 b o e
      rw [upd_ne (ne_of_none z hq)]
      exact z

theorem scDrawn : FnScope ["feed", "script", "most"] pDrawn (defScope sDrawn) := ⟨rfl, rfl, rfl, by decide +kernel, rfl, by decide +kernel, by decide +kernel⟩
theorem ok_drawn (T : Bl mg) (Dd : Dn K mg "_law_draw" sDraw pDraw) (D1 : Dn K mg "_law_one" sOne pOne) (Df : Dn K mg "_law_feed" sFeed pFeed) (Dg : Dn K mg "_law_grown" sGrown pGrown)
    (Dc : Dn K mg "_law_document" sDoc pDoc) (D : Dn K mg "_law_drawn" sDrawn pDrawn) : FnOk P w K mg base CX0 4 D.f D.fd pDrawn (spDrawn K) := by
  have GD : FnOk P w K mg base CX0 1 Dd.f Dd.fd pDraw spDraw := ok_draw T Dd
  have GF : FnOk P w K mg base CX0 1 Df.f Df.fd pFeed (spFeed K) := ok_feed T Df
  have GG : FnOk P w K mg base CX0 1 Dg.f Dg.fd pGrown (spGrown K) := ok_grown T Dg
  have GC : FnOk P w K mg base CX0 3 Dc.f Dc.fd pDoc spDoc := ok_doc T Dd D1 Dc
  refine D.F.ok scDrawn (fun vs H Q E h => ?_) (fun cdv A outer s H vs Q E hr h => ?_)
  · obtain ⟨p, a, most, ns, m, o, rfl, _⟩ := h
    rfl
  · obtain ⟨p, a, most, ns, m, o, rfl, hp, hf, hs, hl, hb, hm, k⟩ := h
    refine ⟨_, pss_cons (ps_if (pt_cmpR op_eq (de_call Dd GD hr (pa_cons (pv 0) (pa_cons pe_int pa_nil))) pe_int (nomark _))
        (pss_one (ps_ret (de_call Dg GG hr (pa_cons (pe_slice sl_list (pv 1) (po_some pe_int) (po_some pe_int)) pa_nil)))) pss_nil)
      (pss_one (ps_ret (de_call Dc GC hr (pa_cons (de_call Df GF hr (pa_cons (pv 1) (pa_cons pe_int pa_nil))) (pa_cons (pv 2) pa_nil))))), ?_⟩
    refine ⟨_, rfl, p, 2, m, o, rfl, hp, hf, by decide, ⟨by decide +kernel⟩, fun o1 r1 f1 r10 r11 => ?_⟩
    have b1 : SameBut p H (upd H p (.lst o1)) := SameBut.refl.put
    have hs1 : SqL K (upd H p (.lst o1)) a (ns.map V.int) := (hs.but b1 hp).sq
    refine ⟨rfl, _, rfl, ite2 (fun c => ?_) (fun c => ?_)⟩
    · refine ⟨_, rfl, _, rfl, _, rfl, a, _, rfl, hs1, fun q hq => ?_⟩
      have ce : cutV (ns.map V.int) (some 1) (some 63) = ((ns.drop 1).take 62).map V.int := by
        have := cutV_mid (ns.map V.int) 1 63
        rw [← List.map_drop, ← List.map_take] at this
        exact this
      rw [ce]
      refine ⟨q, (ns.drop 1).take 62, rfl, SqL.of upd_same, by rw [List.length_take]; omega, fun H' t doc s1 ht hd ok len => ?_⟩
      have qp : q ≠ p := fun z => by subst z; rw [upd_same] at hq; cases hq
      have b2 := b1.new (o := HO.lst (((ns.drop 1).take 62).map V.int)) hq
      have ptr : (upd (upd H p (.lst o1)) q (.lst (((ns.drop 1).take 62).map V.int))) p = some (.lst o1) := by rw [upd_ne qp.symm]; exact upd_same
      exact k H' t doc o1 (fun b ob nb e => s1 b ob (b2 b ob nb e)) (s1 _ _ ptr) f1 (b2.free hp ⟨_, ptr⟩ ht) hd ok len
    · refine ⟨_, rfl, a, 1, ns, rfl, hs1, hl, hb, by decide, by decide, fun H2 p2 o2 s2 n2 h2 f2 => ?_⟩
      have hp2 : H2 p = some (.lst o1) := s2 _ _ upd_same
      refine ⟨_, rfl, p2, most, 800000000000, o2, rfl, h2, f2.less (by omega), hm, fun H3 t doc o3 b3 h3 f3 ht hd ok len => ?_⟩
      have pp2 : p ≠ p2 := fun z => by subst z; rw [upd_same] at n2; cases n2
      have b23 : SameBut p H H3 := fun b ob nb e => b3 b ob (fun z => by subst z; have := b1 b ob nb e; rw [n2] at this; cases this) (s2 b ob (b1 b ob nb e))
      have hp3 : H3 p = some (.lst o1) := b3 p _ pp2 hp2
      refine k H3 t doc o1 b23 hp3 f1 ?_ hd ok (Nat.le_trans len hm)
      have t1 : (upd H p (.lst o1)) t = none := s2.free ht
      exact b1.free hp ⟨_, upd_same⟩ t1
end

/-! ### basics: kinds of things -/
def markTexts : List Str := ["a", "b", "c", "d", "e", "f", "g", "h"]
def MarksAt (K : PySem.W.Frag) (mg : Str → Option Value) : Prop := ∃ a : Addr, mg "MARKS" = some (.ref a) ∧ ∀ H, SqT K H a (markTexts.map V.str)
def numberV : V → Bool
  | .int i => decide (0 ≤ i)
  | _ => false
def markV : V → Bool
  | .str z => decide (z ∈ markTexts)
  | _ => false
theorem any_text (z : Str) : ∀ l : List Str, (l.map V.str).any (fun y => eqV y (.str z)) = decide (z ∈ l)
  | [] => rfl
  | y :: l => by
    rw [List.map_cons, List.any_cons, any_text z l]
    show ((y == z) || decide (z ∈ l)) = _
    by_cases e : y = z
    · subst e
      simp
    · have e' : ¬ z = y := fun q => e q.symm
      simp [e, e']
def spWhole (K : PySem.W.Frag) : Sp := fun vs H Q _ => ∃ (x : V) (T : String), vs = [x] ∧ Any K H x T ∧ Q (.bl (T == "int")) H
def spNumber (K : PySem.W.Frag) : Sp := fun vs H Q _ => ∃ (x : V) (T : String), vs = [x] ∧ Any K H x T ∧ Q (.bl (numberV x)) H
def spMark (K : PySem.W.Frag) : Sp := fun vs H Q _ => ∃ (x : V) (T : String), vs = [x] ∧ Any K H x T ∧ Q (.bl (markV x)) H
def spNode (K : PySem.W.Frag) : Sp := fun vs H Q _ => ∃ (p : Addr) (xs : List V) (x : V) (T : String), vs = [.ref p, x] ∧ SqT K H p xs ∧ Any K H x T ∧
  Q (.bl (numberV x && (match x with | .int i => decide (i < xs.length) | _ => false))) H
abbrev pThing : List Str := ["thing"]
abbrev pNode : List Str := ["document", "thing"]
section
variable {P : Program} {w : World} {K : PySem.W.Frag} {mg : Str → Option Value} {base : Heap}
theorem ok_mark (T : Bl mg) (hm : MarksAt K mg) (D : Dn K mg "is_mark" sMark pThing) : FnOk P w K mg base CX0 1 D.f D.fd pThing (spMark K) := by
  have sc : FnScope ["thing"] pThing (defScope sMark) := ⟨rfl, rfl, rfl, by decide +kernel, rfl, by decide +kernel, by decide +kernel⟩
  refine D.F.ok sc (fun vs H Q E h => ?_) (fun cdv A outer s H vs Q E hr h => ?_)
  · obtain ⟨x, ty, rfl, _⟩ := h
    rfl
  · obtain ⟨x, ty, rfl, any, k⟩ := h
    obtain ⟨aM, gM, sM⟩ := hm
    refine ⟨_, pss_one (ps_ret (pe_and (pe_callB call_isi (by rfl) T.isinstance b_isinstance (pa_cons (pv 0) (pa_cons (pe_bltn (v := .ty "str") rfl T.str b_str rfl) pa_nil))) (pe_one (pe_cmpR op_in_seq (pv 0) (pe_glob (v := .ref aM) rfl gM rfl) (by rfl))))), ?_⟩
    obtain ⟨_, _, k3, _⟩ := any.kit
    refine ⟨_, rfl, _, _, _, _, _, rfl, .ty "str", any.ty, k3, _, rfl, ite2 (fun c => ?_) (fun c => ?_)⟩
    · cases any with
      | str z =>
        refine ⟨_, rfl, aM, _, rfl, .inr (sM _), rfl, by decide +kernel, ?_⟩
        have e : inV (.str z) (markTexts.map V.str) = markV (.str z) := by
          exact any_text z markTexts
        show Q (.bl (if false = true then _ else inV (.str z) (markTexts.map V.str))) H
        rw [if_neg Bool.false_ne_true, e]
        exact k
      | _ => exact absurd c (by decide)
    · cases any with
      | str i => exact absurd (by decide) c
      | _ => exact k
end

/-! ### basics: ways through a document -/
def dep (doc : Doc) (i : Nat) : Nat := (doc.getD i (0, 0)).2
def vO : Option Nat → V
  | none => .non
  | some i => .int (i : Nat)
def belowOf (doc : Doc) : Option Nat → Nat
  | none => 0
  | some i => dep doc i + 1
def firstOf : Option Nat → Nat
  | none => 0
  | some i => i + 1
def inDoc (doc : Doc) (o : Option Nat) : Prop := ∀ i, o = some i → i < doc.length
/-- the numbers, from k on, of the entries of the depth d, until one comes that is less deep -/
def rowL (d : Nat) : Nat → Doc → List Nat
  | _, [] => []
  | k, (_, e) :: r => if e < d then [] else if e = d then k :: rowL d (k + 1) r else rowL d (k + 1) r
def rowOf (doc : Doc) (o : Option Nat) : List Nat := rowL (belowOf doc o) (firstOf o) (doc.drop (firstOf o))
def nV (l : List Nat) : List V := l.map fun n => V.int (n : Nat)
/-- the parents: the path down to each node, shortened to its depth -/
def parL : List Nat → Nat → Doc → List (Option Nat)
  | _, _, [] => []
  | path, i, (_, d) :: r => (path.take d).getLast? :: parL (path.take d ++ [i]) (i + 1) r
def parsOf (doc : Doc) : List (Option Nat) := parL [] 0 doc
theorem DocAt.ent {H : Hp} {p : Addr} {doc : Doc} (h : DocAt H p doc) {i : Nat} (hi : i < doc.length) :
    ∃ vs r c, H p = some (.tup vs) ∧ vs[i]? = some (V.ref r) ∧ H r = some (.tup [.str ⟨#[c]⟩, .int (dep doc i : Nat)]) ∧ vs.length = doc.length ∧ c = (doc.getD i (0, 0)).1 := by
  obtain ⟨vs, e, q⟩ := h
  have len := Paired.length q
  have get : ∀ {vs : List V} {doc : Doc} {i : Nat}, EntsAt H vs doc → i < doc.length → ∃ v, vs[i]? = some v ∧ EntAt H v (doc.getD i (0, 0)) := by
    intro vs doc i q
    induction q generalizing i with
    | nil => intro h; exact absurd h (Nat.not_lt_zero _)
    | cons r t ih =>
      intro h
      cases i with
      | zero => exact ⟨_, rfl, r⟩
      | succ i =>
        obtain ⟨v, e1, e2⟩ := ih (Nat.lt_of_succ_lt_succ h)
        exact ⟨v, by simpa using e1, by simpa using e2⟩
  obtain ⟨v, e1, r, rfl, e2⟩ := get q hi
  exact ⟨vs, r, _, e, e1, e2, len, rfl⟩
def spBelow : Sp := fun vs H Q _ => ∃ (p : Addr) (doc : Doc) (o : Option Nat), vs = [.ref p, vO o] ∧ DocAt H p doc ∧ inDoc doc o ∧ Q (.int (belowOf doc o : Nat)) H
def spFirst : Sp := fun vs H Q _ => ∃ o : Option Nat, vs = [vO o] ∧ Q (.int (firstOf o : Nat)) H
def spRow : Sp := fun vs H Q _ => ∃ (p : Addr) (doc : Doc) (o : Option Nat), vs = [.ref p, vO o] ∧ DocAt H p doc ∧ inDoc doc o ∧ doc.length ≤ 20000 ∧
  ∀ q, H q = none → Q (.ref q) (upd H q (.lst (nV (rowOf doc o))))
def spParents : Sp := fun vs H Q _ => ∃ (p : Addr) (doc : Doc), vs = [.ref p] ∧ DocAt H p doc ∧ doc.length ≤ 20000 ∧
  ∀ (H' : Hp) (q : Addr), Same H H' → H q = none → H' q = some (.lst ((parsOf doc).map vO)) → Q (.ref q) H'
abbrev pPar : List Str := ["document", "parent"]
abbrev pDocu : List Str := ["document"]
section
variable {P : Program} {w : World} {K : PySem.W.Frag} {mg : Str → Option Value} {base : Heap}
theorem rowL_cons {d k : Nat} {doc : Doc} {i : Nat} (h : i < doc.length) : rowL d k (doc.drop i) =
    if dep doc i < d then [] else if dep doc i = d then k :: rowL d (k + 1) (doc.drop (i + 1)) else rowL d (k + 1) (doc.drop (i + 1)) := by
  rw [List.drop_eq_getElem_cons h]
  have e : doc[i] = ((doc[i]).1, dep doc i) := by
    unfold dep
    rw [List.getD_eq_getElem?_getD, List.getElem?_eq_getElem h]
    rfl
  rw [e]
  rfl
theorem delV (xs : List V) (d : Nat) : xs.take (HT.sIx xs.length 0 (some (d : Int))) ++ xs.drop (max (HT.sIx xs.length 0 (some (d : Int))) (HT.sIx xs.length xs.length none)) = xs.take d := by
  rw [HT.sIx_none, HT.sIx_nat, Nat.max_eq_right (Nat.min_le_right _ _), List.drop_length, List.append_nil]
  by_cases h : d ≤ xs.length
  · rw [Nat.min_eq_left h]
  · rw [Nat.min_eq_right (by omega), List.take_of_length_le (Nat.le_refl _), List.take_of_length_le (by omega)]
theorem parL_len : ∀ {path : List Nat} {i : Nat} {doc : Doc}, (parL path i doc).length = doc.length
  | _, _, [] => rfl
  | _, _, (_, _) :: r => congrArg (· + 1) (parL_len (doc := r))
end

/-! ### documents that are right -/
abbrev pNode' : List Str := ["document", "node"]
def MostAt (mg : Str → Option Value) : Prop := ∃ t, mg "MOST_NODES" = some (.int 20000 t)
theorem mark_ok {c : Nat} (h0 : 97 ≤ c) (h1 : c ≤ 104) : markV (.str ⟨#[c]⟩) = true := by
  obtain ⟨k, rfl⟩ : ∃ k, c = 97 + k := ⟨c - 97, by omega⟩
  have hk : k < 8 := by omega
  match k, hk with
  | 0, _ => decide +kernel
  | 1, _ => decide +kernel
  | 2, _ => decide +kernel
  | 3, _ => decide +kernel
  | 4, _ => decide +kernel
  | 5, _ => decide +kernel
  | 6, _ => decide +kernel
  | 7, _ => decide +kernel
  | n + 8, h => exact absurd h (by omega)
def spEntryV : Sp := fun vs H Q _ => ∃ (v : V) (e : Nat × Nat), vs = [v] ∧ EntAt H v e ∧ 97 ≤ e.1 ∧ e.1 ≤ 104 ∧ Q (.bl true) H
def spIsDocV : Sp := fun vs H Q _ => ∃ (p : Addr) (doc : Doc), vs = [.ref p] ∧ DocAt H p doc ∧ okFrom 0 doc ∧ doc.length ≤ 20000 ∧ Q (.bl true) H
def spChkDocV : Sp := fun vs H Q _ => ∃ (p : Addr) (doc : Doc), vs = [.ref p] ∧ DocAt H p doc ∧ okFrom 0 doc ∧ doc.length ≤ 20000 ∧ Q .non H
def spChkNodeV : Sp := fun vs H Q _ => ∃ (p : Addr) (doc : Doc) (i : Nat), vs = [.ref p, .int i] ∧ DocAt H p doc ∧ i < doc.length ∧ Q .non H
def sizStep (pars : List (Option Nat)) (l : List Nat) (k : Nat) : List Nat :=
  match pars.getD k none with
  | none => l
  | some a => l.set a (l.getD a 0 + l.getD k 0)
def sizL (pars : List (Option Nat)) : Nat → List Nat → List Nat
  | 0, l => l
  | k + 1, l => sizL pars k (sizStep pars l k)
def sizesOf (doc : Doc) : List Nat := sizL (parsOf doc) doc.length (List.replicate doc.length 1)
def spPars : Sp := fun vs H Q _ => ∃ (p : Addr) (doc : Doc), vs = [.ref p] ∧ DocAt H p doc ∧ okFrom 0 doc ∧ doc.length ≤ 20000 ∧
  ∀ (H' : Hp) (q : Addr), Same H H' → H q = none → H' q = some (.tup ((parsOf doc).map vO)) → Q (.ref q) H'
def spKids : Sp := fun vs H Q _ => ∃ (p : Addr) (doc : Doc) (o : Option Nat), vs = [.ref p, vO o] ∧ DocAt H p doc ∧ okFrom 0 doc ∧ doc.length ≤ 20000 ∧ inDoc doc o ∧
  ∀ (H' : Hp) (q : Addr), Same H H' → H q = none → H' q = some (.tup (nV (rowOf doc o))) → Q (.ref q) H'
def spSizes : Sp := fun vs H Q _ => ∃ (p : Addr) (doc : Doc), vs = [.ref p] ∧ DocAt H p doc ∧ okFrom 0 doc ∧ doc.length ≤ 20000 ∧
  ∀ (H' : Hp) (q : Addr), Same H H' → H q = none → H' q = some (.tup (nV (sizesOf doc))) → Q (.ref q) H'
theorem EntsAt.get {H : Hp} {vs : List V} {doc : Doc} (q : EntsAt H vs doc) : ∀ {i : Nat} {v : V}, vs[i]? = some v → ∃ e, doc[i]? = some e ∧ EntAt H v e := by
  induction q with
  | nil => intro i v h; simp at h
  | cons r t ih =>
    intro i v h
    cases i with
    | zero =>
      have q := h
      simp at q
      subst q
      exact ⟨_, rfl, r⟩
    | succ i =>
      obtain ⟨e, e1, e2⟩ := ih (i := i) (v := v) (by simpa using h)
      exact ⟨e, by simpa using e1, e2⟩
theorem okFrom_at : ∀ {m : Nat} {doc : Doc} {i : Nat} {e : Nat × Nat}, okFrom m doc → doc[i]? = some e → 97 ≤ e.1 ∧ e.1 ≤ 104 ∧ e.2 ≤ endOf m (doc.take i)
  | _, [], _, _, _, h => by simp at h
  | m, (c, d) :: r, 0, e, h, he => by
    have : (c, d) = e := by simpa using he
    subst this
    exact ⟨h.1, h.2.1, h.2.2.1⟩
  | m, (c, d) :: r, i + 1, e, h, he => okFrom_at (m := d + 1) h.2.2.2 (by simpa using he)
theorem endOf_take {m : Nat} {doc : Doc} {i : Nat} {e : Nat × Nat} (he : doc[i]? = some e) : endOf m (doc.take (i + 1)) = e.2 + 1 := by
  obtain ⟨lt, rfl⟩ := List.getElem?_eq_some_iff.mp he
  rw [List.take_succ_eq_append_getElem lt]
  have : doc[i] = ((doc[i]).1, (doc[i]).2) := rfl
  rw [this, endOf_snoc]
section
variable {P : Program} {w : World} {K : PySem.W.Frag} {mg : Str → Option Value} {base : Heap}
/-! ### parents, children, sizes -/
theorem sizStep_len {pars : List (Option Nat)} {l : List Nat} {k : Nat} : (sizStep pars l k).length = l.length := by
  unfold sizStep
  split
  · rfl
  · rw [List.length_set]
theorem parL_lt : ∀ {path : List Nat} {i : Nat} {doc : Doc}, (∀ a ∈ path, a < i) → ∀ {j a : Nat}, (parL path i doc)[j]? = some (some a) → a < i + j
  | _, _, [], _, _, _, h => by simp [parL] at h
  | path, i, (_, d) :: r, hp, 0, a, h => by
    have e : (path.take d).getLast? = some a := by simpa [parL] using h
    have m := List.mem_of_getLast? e
    exact hp a (List.mem_of_mem_take m)
  | path, i, (_, d) :: r, hp, j + 1, a, h => by
    have q := parL_lt (path := path.take d ++ [i]) (i := i + 1) (doc := r) (fun b hb => ?_) (j := j) (a := a) (by simpa [parL] using h)
    · omega
    · rcases List.mem_append.mp hb with hb | hb
      · exact Nat.lt_succ_of_lt (hp b (List.mem_of_mem_take hb))
      · rw [List.mem_singleton.mp hb]
        exact Nat.lt_succ_self _
theorem parsOf_lt {doc : Doc} {j a : Nat} (h : (parsOf doc)[j]? = some (some a)) : a < j := by
  have := parL_lt (path := []) (i := 0) (doc := doc) (fun b hb => absurd hb (List.not_mem_nil)) h
  omega
end

/-! ### the mathematics of parents, rows and sizes -/
/-- the last node ahead of k of the depth d -/
def lparTo (doc : Doc) (d : Int) : Nat → Option Nat
  | 0 => none
  | k + 1 => if (dep doc k : Int) = d then some k else lparTo doc d k
def lawPar (doc : Doc) (i : Nat) : Option Nat := lparTo doc ((dep doc i : Int) - 1) i
theorem dep_at {doc : Doc} {i : Nat} {e : Nat × Nat} (h : doc[i]? = some e) : dep doc i = e.2 := by
  unfold dep
  rw [List.getD_eq_getElem?_getD, h]
  rfl
theorem dep_le {doc : Doc} (ok : okFrom 0 doc) {i : Nat} (hi : i < doc.length) : dep doc i ≤ endOf 0 (doc.take i) := by
  have h := List.getElem?_eq_getElem hi
  rw [dep_at h]
  exact (okFrom_at ok h).2.2
theorem end_succ {doc : Doc} {i : Nat} (hi : i < doc.length) : endOf 0 (doc.take (i + 1)) = dep doc i + 1 := by
  have h := List.getElem?_eq_getElem hi
  rw [endOf_take h, dep_at h]
theorem dep_succ {doc : Doc} (ok : okFrom 0 doc) {i : Nat} (hi : i + 1 < doc.length) : dep doc (i + 1) ≤ dep doc i + 1 := by
  have := dep_le ok hi
  rwa [end_succ (by omega)] at this
/-- the path down to where i comes: the last nodes of the depths -/
structure PathOk (doc : Doc) (path : List Nat) (i : Nat) : Prop where
  len : path.length = endOf 0 (doc.take i)
  at_ : ∀ e, e < path.length → path[e]? = lparTo doc (e : Nat) i
theorem PathOk.next {doc : Doc} (ok : okFrom 0 doc) {path : List Nat} {i : Nat} (hi : i < doc.length) (h : PathOk doc path i) : PathOk doc (path.take (dep doc i) ++ [i]) (i + 1) := by
  have dl := dep_le ok hi
  have tl : (path.take (dep doc i)).length = dep doc i := by
    rw [List.length_take, h.len]
    omega
  refine ⟨?_, fun e he => ?_⟩
  · rw [List.length_append, tl, end_succ hi]
    rfl
  · rw [List.length_append, tl] at he
    have he' : e < dep doc i + 1 := he
    by_cases c : e < dep doc i
    · rw [List.getElem?_append_left (by rw [tl]; exact c), List.getElem?_take_of_lt c, h.at_ e (by rw [h.len]; omega)]
      show _ = if (dep doc i : Int) = (e : Nat) then some i else _
      rw [if_neg (by omega)]
    · have e1 : e = dep doc i := by omega
      subst e1
      rw [List.getElem?_append_right (by rw [tl]; exact Nat.le_refl _), tl, Nat.sub_self]
      show some i = if (dep doc i : Int) = (dep doc i : Nat) then some i else _
      rw [if_pos rfl]
theorem PathOk.par {doc : Doc} (ok : okFrom 0 doc) {path : List Nat} {i : Nat} (hi : i < doc.length) (h : PathOk doc path i) : (path.take (dep doc i)).getLast? = lawPar doc i := by
  have dl := dep_le ok hi
  unfold lawPar
  cases hd : dep doc i with
  | zero =>
    have none_of : ∀ k, lparTo doc (((0 : Nat) : Int) - 1) k = none := by
      intro k
      induction k with
      | zero => rfl
      | succ k ih =>
        show (if (dep doc k : Int) = _ then some k else _) = _
        rw [if_neg (by omega), ih]
    rw [none_of]
    rfl
  | succ d =>
    have e1 : (((d + 1 : Nat) : Int) - 1) = (d : Nat) := by omega
    rw [e1, ← h.at_ d (by rw [h.len]; omega), List.getLast?_eq_getElem?, List.length_take, h.len]
    have e2 : min (d + 1) (endOf 0 (doc.take i)) - 1 = d := by omega
    rw [e2, List.getElem?_take_of_lt (by omega)]
theorem drop_dep {doc : Doc} {i : Nat} (hi : i < doc.length) : doc.drop i = ((doc[i]).1, dep doc i) :: doc.drop (i + 1) := by
  rw [List.drop_eq_getElem_cons hi]
  have e := dep_at (List.getElem?_eq_getElem hi)
  rw [e]
theorem parL_eq {doc : Doc} (ok : okFrom 0 doc) : ∀ (m i : Nat) (path : List Nat), doc.length - i = m → i ≤ doc.length → PathOk doc path i →
    parL path i (doc.drop i) = (List.range' i m).map (lawPar doc)
  | 0, i, path, hm, hi, _ => by
    have e : doc.drop i = [] := List.drop_of_length_le (by omega)
    rw [e]
    rfl
  | m + 1, i, path, hm, hi, h => by
    have lt : i < doc.length := by omega
    rw [drop_dep lt, List.range'_succ, List.map_cons]
    show _ :: _ = _
    rw [h.par ok lt, parL_eq ok m (i + 1) _ (by omega) lt (h.next ok lt)]
theorem path0 (doc : Doc) : PathOk doc [] 0 := ⟨rfl, fun e he => absurd he (Nat.not_lt_zero _)⟩
theorem parsOf_eq {doc : Doc} (ok : okFrom 0 doc) : parsOf doc = (List.range doc.length).map (lawPar doc) := by
  rw [List.range_eq_range']
  exact parL_eq ok doc.length 0 [] (Nat.sub_zero _) (Nat.zero_le _) (path0 doc)
theorem path_to {doc : Doc} (ok : okFrom 0 doc) : ∀ i, i ≤ doc.length → ∃ path, PathOk doc path i
  | 0, _ => ⟨[], path0 doc⟩
  | i + 1, h => let ⟨p, hp⟩ := path_to ok i (by omega); ⟨_, hp.next ok h⟩
/-! what lparTo tells -/
theorem lparTo_some {doc : Doc} {d : Int} : ∀ {k j : Nat}, lparTo doc d k = some j → j < k ∧ (dep doc j : Int) = d ∧ ∀ m, j < m → m < k → (dep doc m : Int) ≠ d
  | 0, _, h => nomatch h
  | k + 1, j, h => by
    have h' : (if (dep doc k : Int) = d then some k else lparTo doc d k) = some j := h
    by_cases c : (dep doc k : Int) = d
    · rw [if_pos c] at h'
      cases h'
      exact ⟨Nat.lt_succ_self _, c, fun m h1 h2 => absurd h2 (by omega)⟩
    · rw [if_neg c] at h'
      obtain ⟨a, b, e⟩ := lparTo_some h'
      refine ⟨by omega, b, fun m h1 h2 => ?_⟩
      by_cases z : m = k
      · subst z
        exact c
      · exact e m h1 (by omega)
theorem lparTo_is {doc : Doc} {d : Int} : ∀ {k j : Nat}, j < k → (dep doc j : Int) = d → (∀ m, j < m → m < k → (dep doc m : Int) ≠ d) → lparTo doc d k = some j
  | 0, _, h, _, _ => absurd h (Nat.not_lt_zero _)
  | k + 1, j, h, hd, hn => by
    show (if (dep doc k : Int) = d then some k else lparTo doc d k) = some j
    by_cases z : j = k
    · subst z
      rw [if_pos hd]
    · rw [if_neg (hn k (by omega) (Nat.lt_succ_self _))]
      exact lparTo_is (by omega) hd fun m h1 h2 => hn m h1 (by omega)
theorem lawPar_none {doc : Doc} (ok : okFrom 0 doc) {i : Nat} (hi : i < doc.length) : lawPar doc i = none ↔ dep doc i = 0 := by
  obtain ⟨path, hp⟩ := path_to ok i (by omega)
  have dl := dep_le ok hi
  constructor
  · intro h
    cases hd : dep doc i with
    | zero => rfl
    | succ d =>
      unfold lawPar at h
      rw [hd] at h
      have e1 : (((d + 1 : Nat) : Int) - 1) = (d : Nat) := by omega
      rw [e1, ← hp.at_ d (by rw [hp.len]; omega)] at h
      have := List.getElem?_eq_none_iff.mp h
      rw [hp.len] at this
      omega
  · intro h
    cases hl : lawPar doc i with
    | none => rfl
    | some j =>
      obtain ⟨_, b, _⟩ := lparTo_some hl
      omega
/-- from a depth of at most d up to d + 1: the depth d is met on the way -/
theorem met {doc : Doc} (ok : okFrom 0 doc) {d : Nat} : ∀ (n k at_ : Nat), at_ - k = n → k < at_ → at_ < doc.length → dep doc k ≤ d → dep doc at_ = d + 1 → ∃ m, k ≤ m ∧ m < at_ ∧ dep doc m = d
  | 0, k, at_, hn, h, _, _, _ => absurd h (by omega)
  | n + 1, k, at_, hn, h, hl, hk, ha => by
    have st := dep_succ ok (i := k) (by omega)
    by_cases c : dep doc (k + 1) ≤ d
    · have ne : k + 1 ≠ at_ := fun z => by subst z; omega
      obtain ⟨m, m1, m2, m3⟩ := met ok n (k + 1) at_ (by omega) (by omega) hl c ha
      exact ⟨m, by omega, m2, m3⟩
    · exact ⟨k, Nat.le_refl _, h, by omega⟩
/-- behind the end of h's piece no node is its child -/
theorem no_child {doc : Doc} (ok : okFrom 0 doc) {h k at_ : Nat} (hk : h < k) (ka : k ≤ at_) (al : at_ < doc.length) (dk : dep doc k ≤ dep doc h) : lawPar doc at_ ≠ some h := by
  intro e
  obtain ⟨a, b, c⟩ := lparTo_some e
  have da : dep doc at_ = dep doc h + 1 := by omega
  have lt : k < at_ := by
    rcases Nat.lt_or_eq_of_le ka with z | z
    · exact z
    · subst z
      omega
  obtain ⟨m, m1, m2, m3⟩ := met ok (at_ - k) k at_ rfl lt al dk da
  exact c m (by omega) m2 (by omega)
theorem is_child {doc : Doc} {h k : Nat} (hk : h < k) (deep : ∀ m, h < m → m < k → dep doc h < dep doc m) (dk : dep doc k = dep doc h + 1) : lawPar doc k = some h :=
  lparTo_is hk (by omega) fun m m1 m2 z => by
    have := deep m m1 m2
    omega
theorem rowL_some {doc : Doc} (ok : okFrom 0 doc) {h : Nat} : ∀ (m k : Nat), doc.length - k = m → k ≤ doc.length → h < k → (∀ j, h < j → j < k → dep doc h < dep doc j) →
    rowL (dep doc h + 1) k (doc.drop k) = (List.range' k m).filter fun i => decide (lawPar doc i = some h)
  | 0, k, hm, hk, _, _ => by
    have e : doc.drop k = [] := List.drop_of_length_le (by omega)
    rw [e]
    rfl
  | m + 1, k, hm, hk, hh, deep => by
    have lt : k < doc.length := by omega
    rw [rowL_cons lt, List.range'_succ]
    by_cases c1 : dep doc k < dep doc h + 1
    · rw [if_pos c1]
      symm
      rw [← List.range'_succ, List.filter_eq_nil_iff]
      intro a ha
      obtain ⟨a1, a2⟩ := List.mem_range'_1.mp ha
      have := no_child ok hh a1 (by omega) (Nat.le_of_lt_succ c1)
      simpa using this
    · rw [if_neg c1]
      have deep' : ∀ j, h < j → j < k + 1 → dep doc h < dep doc j := fun j j1 j2 => by
        by_cases z : j = k
        · subst z
          omega
        · exact deep j j1 (by omega)
      have ih := rowL_some ok m (k + 1) (by omega) lt (by omega) deep'
      by_cases c2 : dep doc k = dep doc h + 1
      · rw [if_pos c2, ih, List.filter_cons_of_pos (by simpa using is_child hh deep c2)]
      · rw [if_neg c2, ih, List.filter_cons_of_neg]
        intro z
        obtain ⟨_, b, _⟩ := lparTo_some (of_decide_eq_true z)
        omega
theorem rowL_none {doc : Doc} (ok : okFrom 0 doc) : ∀ (m k : Nat), doc.length - k = m → k ≤ doc.length →
    rowL 0 k (doc.drop k) = (List.range' k m).filter fun i => decide (lawPar doc i = none)
  | 0, k, hm, hk => by
    have e : doc.drop k = [] := List.drop_of_length_le (by omega)
    rw [e]
    rfl
  | m + 1, k, hm, hk => by
    have lt : k < doc.length := by omega
    have ih := rowL_none ok m (k + 1) (by omega) lt
    rw [rowL_cons lt, List.range'_succ, if_neg (Nat.not_lt_zero _)]
    by_cases c : dep doc k = 0
    · rw [if_pos c, ih, List.filter_cons_of_pos (by simpa using (lawPar_none ok lt).mpr c)]
    · rw [if_neg c, ih, List.filter_cons_of_neg]
      intro z
      exact c ((lawPar_none ok lt).mp (of_decide_eq_true z))
theorem par_lt {doc : Doc} {i h : Nat} (e : lawPar doc i = some h) : h < i := (lparTo_some e).1
theorem rowOf_eq {doc : Doc} (ok : okFrom 0 doc) {o : Option Nat} (ho : inDoc doc o) : rowOf doc o = (List.range doc.length).filter fun i => decide (lawPar doc i = o) := by
  rw [List.range_eq_range']
  cases o with
  | none => exact rowL_none ok doc.length 0 (Nat.sub_zero _) (Nat.zero_le _)
  | some h =>
    have hl := ho h rfl
    have q := rowL_some ok (h := h) (doc.length - (h + 1)) (h + 1) rfl hl (Nat.lt_succ_self _) (fun j j1 j2 => absurd j2 (by omega))
    show rowL (dep doc h + 1) (h + 1) (doc.drop (h + 1)) = _
    rw [q]
    have sp : List.range' 0 doc.length = List.range' 0 (h + 1) ++ List.range' (h + 1) (doc.length - (h + 1)) := by
      have := List.range'_append_1 (s := 0) (m := h + 1) (n := doc.length - (h + 1))
      rw [Nat.zero_add] at this
      rw [this]
      congr 1
      omega
    rw [sp, List.filter_append]
    have z : (List.range' 0 (h + 1)).filter (fun i => decide (lawPar doc i = some h)) = [] := by
      rw [List.filter_eq_nil_iff]
      intro a ha
      obtain ⟨_, a2⟩ := List.mem_range'_1.mp ha
      intro e
      have := par_lt (of_decide_eq_true e)
      omega
    rw [z, List.nil_append]
/-! sizes -/
def runLen (d : Nat) : Doc → Nat
  | [] => 0
  | (_, e) :: r => if e ≤ d then 0 else 1 + runLen d r
def lawSize (doc : Doc) (i : Nat) : Nat := 1 + runLen (dep doc i) (doc.drop (i + 1))
theorem runLen_at {doc : Doc} {d k : Nat} (hk : k < doc.length) : runLen d (doc.drop k) = if dep doc k ≤ d then 0 else 1 + runLen d (doc.drop (k + 1)) := by
  rw [drop_dep hk]
  rfl
/-- the sizes of the children of h from k on -/
def kidSum (doc : Doc) (h : Nat) : Nat → Nat → Nat
  | 0, _ => 0
  | m + 1, k => (if lawPar doc k = some h then lawSize doc k else 0) + kidSum doc h m (k + 1)
theorem kidSum_zero {doc : Doc} {h : Nat} : ∀ (m k : Nat), (∀ i, k ≤ i → i < k + m → lawPar doc i ≠ some h) → kidSum doc h m k = 0
  | 0, _, _ => rfl
  | m + 1, k, H => by
    show (if lawPar doc k = some h then lawSize doc k else 0) + kidSum doc h m (k + 1) = 0
    rw [if_neg (H k (Nat.le_refl _) (by omega)), kidSum_zero m (k + 1) fun i h1 h2 => H i (by omega) (by omega)]
theorem kidSum_run {doc : Doc} (ok : okFrom 0 doc) {h : Nat} : ∀ (m k : Nat), doc.length - k = m → k ≤ doc.length → h < k → (∀ j, h < j → j < k → dep doc h < dep doc j) →
    kidSum doc h m k + runLen (dep doc h + 1) (doc.drop k) = runLen (dep doc h) (doc.drop k)
  | 0, k, hm, hk, _, _ => by
    have e : doc.drop k = [] := List.drop_of_length_le (by omega)
    rw [e]
    rfl
  | m + 1, k, hm, hk, hh, deep => by
    have lt : k < doc.length := by omega
    rw [runLen_at lt, runLen_at lt]
    show (if lawPar doc k = some h then lawSize doc k else 0) + kidSum doc h m (k + 1) + _ = _
    by_cases c1 : dep doc k ≤ dep doc h
    · rw [if_pos (Nat.le_succ_of_le c1), if_pos c1]
      have n0 := no_child ok hh (Nat.le_refl k) lt c1
      rw [if_neg n0, kidSum_zero m (k + 1) fun i h1 h2 => no_child ok hh (by omega) (by omega) c1]
    · have deep' : ∀ j, h < j → j < k + 1 → dep doc h < dep doc j := fun j j1 j2 => by
        by_cases z : j = k
        · subst z
          omega
        · exact deep j j1 (by omega)
      have ih := kidSum_run ok m (k + 1) (by omega) lt (by omega) deep'
      rw [if_neg c1]
      by_cases c2 : dep doc k = dep doc h + 1
      · rw [if_pos (is_child hh deep c2), if_pos (Nat.le_of_eq c2)]
        unfold lawSize
        rw [c2]
        omega
      · have n1 : lawPar doc k ≠ some h := fun z => by
          obtain ⟨_, b, _⟩ := lparTo_some z
          omega
        rw [if_neg n1, if_neg (by omega)]
        omega
theorem size_kids {doc : Doc} (ok : okFrom 0 doc) {h : Nat} (hl : h < doc.length) : lawSize doc h = 1 + kidSum doc h (doc.length - (h + 1)) (h + 1) := by
  have q := kidSum_run ok (h := h) (doc.length - (h + 1)) (h + 1) rfl hl (Nat.lt_succ_self _) (fun j j1 j2 => absurd j2 (by omega))
  have z : runLen (dep doc h + 1) (doc.drop (h + 1)) = 0 := by
    by_cases c : h + 1 < doc.length
    · rw [runLen_at c, if_pos (dep_succ ok c)]
    · rw [List.drop_of_length_le (by omega)]
      rfl
  unfold lawSize
  omega
theorem sizL_eq {doc : Doc} (ok : okFrom 0 doc) : ∀ (j : Nat) (l : List Nat), j ≤ doc.length → l.length = doc.length →
    (∀ i, i < doc.length → l.getD i 0 = 1 + kidSum doc i (doc.length - (max j (i + 1))) (max j (i + 1))) →
    sizL (parsOf doc) j l = (List.range doc.length).map (lawSize doc)
  | 0, l, hj, hl, H => by
    show l = _
    refine List.ext_getElem (by rw [List.length_map, List.length_range, hl]) fun i h1 h2 => ?_
    rw [List.getElem_map, List.getElem_range]
    have lt : i < doc.length := by omega
    have q := H i lt
    rw [List.getD_eq_getElem?_getD, List.getElem?_eq_getElem h1] at q
    rw [size_kids ok lt]
    have e : max 0 (i + 1) = i + 1 := by omega
    rw [e] at q
    exact q
  | j + 1, l, hj, hl, H => by
    have lt : j < doc.length := by omega
    have pj : (parsOf doc).getD j none = lawPar doc j := by
      rw [parsOf_eq ok, List.getD_eq_getElem?_getD, List.getElem?_map, List.getElem?_range lt]
      rfl
    have lj : l.getD j 0 = lawSize doc j := by
      rw [H j lt, size_kids ok lt]
      have e : max (j + 1) (j + 1) = j + 1 := by omega
      rw [e]
    show sizL (parsOf doc) j (sizStep (parsOf doc) l j) = _
    refine sizL_eq ok j _ (by omega) (by rw [sizStep_len]; exact hl) fun i hi => ?_
    have split : ∀ i, i < j → kidSum doc i (doc.length - j) j = (if lawPar doc j = some i then lawSize doc j else 0) + kidSum doc i (doc.length - (j + 1)) (j + 1) := by
      intro i _
      have e : doc.length - j = doc.length - (j + 1) + 1 := by omega
      rw [e]
      rfl
    unfold sizStep
    rw [pj]
    by_cases c : i < j
    · have e1 : max j (i + 1) = j := by omega
      have e2 : max (j + 1) (i + 1) = j + 1 := by omega
      have Hi := H i hi
      rw [e2] at Hi
      rw [e1, split i c]
      cases hp : lawPar doc j with
      | none =>
        simp only
        rw [if_neg (by simp), Hi]
        omega
      | some a =>
        simp only
        by_cases z : a = i
        · subst z
          rw [if_pos rfl, List.getD_eq_getElem?_getD, List.getElem?_set_self (by omega)]
          show l.getD a 0 + l.getD j 0 = _
          rw [Hi, lj]
          omega
        · rw [if_neg (by simpa using z), List.getD_eq_getElem?_getD, List.getElem?_set_ne z, ← List.getD_eq_getElem?_getD, Hi]
          omega
    · have e1 : max j (i + 1) = i + 1 := by omega
      have e2 : max (j + 1) (i + 1) = i + 1 := by omega
      have Hi := H i hi
      rw [e2] at Hi
      rw [e1]
      cases hp : lawPar doc j with
      | none => exact Hi
      | some a =>
        have := par_lt hp
        simp only
        rw [List.getD_eq_getElem?_getD, List.getElem?_set_ne (by omega), ← List.getD_eq_getElem?_getD, Hi]
theorem sizesOf_eq {doc : Doc} (ok : okFrom 0 doc) : sizesOf doc = (List.range doc.length).map (lawSize doc) := by
  refine sizL_eq ok doc.length _ (Nat.le_refl _) List.length_replicate fun i hi => ?_
  have e : max doc.length (i + 1) = doc.length := by omega
  rw [e, Nat.sub_self, List.getD_eq_getElem?_getD, List.getElem?_replicate, if_pos hi]
  rfl

theorem Same.new {H : Hp} {p : Addr} {o : HO} (h : H p = none) : Same H (upd H p o) := fun b u e => by
  rw [upd_ne (ne_of_none e h)]
  exact e

/-! ### plain data for repr -/
def dO : Option Nat → PyData
  | none => .none
  | some i => .int (i : Nat)
theorem log_small {n : Nat} (h : n < 1000000) : n.log2 < 1920 := by
  by_cases z : n = 0
  · subst z
    decide
  · exact (Nat.log2_lt z).mpr (Nat.lt_trans h (Nat.lt_of_lt_of_le (show 1000000 < 2 ^ 20 by decide) (Nat.pow_le_pow_right (by decide) (by decide))))
theorem vO_all {K : PySem.W.Frag} {H : Hp} : ∀ l : List (Option Nat), DpAll K H (l.map vO) (l.map dO)
  | [] => .nil
  | none :: l => .cons .non (vO_all l)
  | some i :: l => .cons (.int _) (vO_all l)
theorem dO_show : ∀ l : List (Option Nat), (∀ i, some i ∈ l → i < 1000000) → PyData.showableAll (l.map dO) = true
  | [], _ => by simp [PyData.showableAll]
  | none :: l, h => by
    have := dO_show l fun i hi => h i (List.mem_cons_of_mem _ hi)
    simp [PyData.showableAll, dO, PyData.showable, this]
  | some i :: l, h => by
    have := dO_show l fun i hi => h i (List.mem_cons_of_mem _ hi)
    have z := log_small (h i List.mem_cons_self)
    simp [PyData.showableAll, dO, PyData.showable, this, z]
theorem dO_plain : ∀ l : List (Option Nat), PyData.hasDictAll (l.map dO) = false
  | [] => by simp [PyData.hasDictAll]
  | none :: l => by simp [PyData.hasDictAll, dO, PyData.hasDict, dO_plain l]
  | some i :: l => by simp [PyData.hasDictAll, dO, PyData.hasDict, dO_plain l]
theorem dO_deep : ∀ l : List (Option Nat), PyData.depthAll (l.map dO) = 0
  | [] => by simp [PyData.depthAll]
  | none :: l => by simp [PyData.depthAll, dO, PyData.depth, dO_deep l]
  | some i :: l => by simp [PyData.depthAll, dO, PyData.depth, dO_deep l]
theorem dO_most : ∀ l : List (Option Nat), mostAll (l.map dO) ≤ 2002 * l.length
  | [] => Nat.zero_le _
  | none :: l => by
    have := dO_most l
    show 4 + 2 + mostAll (l.map dO) ≤ 2002 * (l.length + 1)
    omega
  | some i :: l => by
    have := dO_most l
    show 2000 + 2 + mostAll (l.map dO) ≤ 2002 * (l.length + 1)
    omega
theorem vO_scal (a b : Option Nat) : scal (vO a) (vO b) = true := by cases a <;> cases b <;> rfl
theorem vO_inj {a b : Option Nat} (h : vO a = vO b) : a = b := by
  cases a with
  | none =>
    cases b with
    | none => rfl
    | some j => cases h
  | some i =>
    cases b with
    | none => cases h
    | some j =>
      injection h with h
      have : i = j := by omega
      rw [this]
/-- a tuple of numbers and None -/
theorem told_tup {K : PySem.W.Frag} {H : Hp} {q : Addr} {l : List (Option Nat)} (h : SqT K H q (l.map vO)) (hl : l.length ≤ 1000) (hs : ∀ i, some i ∈ l → i < 1000000) :
    Told K H (.ref q) (.tuple (l.map dO)) where
  at_ := .tup h (vO_all l)
  show_ := by simpa [PyData.showable] using dO_show l hs
  plain := by simpa [PyData.hasDict] using dO_plain l
  deep := by
    have := dO_deep l
    show PyData.depth (.tuple (l.map dO)) ≤ 20
    simp [PyData.depth, this]
  short := by
    have := dO_most l
    show mostAll (l.map dO) + 4 ≤ 16000000
    omega
theorem nV_some (l : List Nat) : nV l = (l.map some).map vO := by
  unfold nV
  rw [List.map_map]
  rfl
theorem mem_somes {l : List Nat} {i : Nat} (h : some i ∈ l.map some) : i ∈ l := by
  obtain ⟨a, h1, h2⟩ := List.mem_map.mp h
  cases h2
  exact h1

/-! ### the law's own reckoning -/
def spLPar : Sp := fun vs H Q _ => ∃ (p : Addr) (doc : Doc) (i : Nat), vs = [.ref p, .int i] ∧ DocAt H p doc ∧ i < doc.length ∧ doc.length ≤ 20000 ∧ Q (vO (lawPar doc i)) H
def spLSize : Sp := fun vs H Q _ => ∃ (p : Addr) (doc : Doc) (i : Nat), vs = [.ref p, .int i] ∧ DocAt H p doc ∧ i < doc.length ∧ doc.length ≤ 20000 ∧
  ∀ H', Same H H' → Q (.int (lawSize doc i : Nat)) H'
section
variable {P : Program} {w : World} {K : PySem.W.Frag} {mg : Str → Option Value} {base : Heap}
section
variable {K : PySem.W.Frag} {σ : L2.St} {H : Hp} {Q : VK}
abbrev tRepr (K : PySem.W.Frag) (t : TE) : TE := tCB (rRepr K) (tCons t tNil)
abbrev tTupOf (K : PySem.W.Frag) (t : TE) : TE := tCB (rTup K) (tCons t tNil)
/-- repr(tuple(xs)), xs a list of numbers and None -/
theorem rd_tup {i : Nat} {a : Addr} {l : List (Option Nat)} (h : σ[i]? = some (some (.ref a))) (ha : H a = some (.lst (l.map vO))) (hl : l.length ≤ 1000) (hs : ∀ i, some i ∈ l → i < 1000000)
    (k : ∀ H2, Same H H2 → Q (.str (PyData.tuple (l.map dO)).shown) H2) : tRepr K (tTupOf K (tVar i)) σ H Q :=
  ⟨_, h, a, _, rfl, .inl ⟨SqL.of ha, fun t ht => ⟨_, _, rfl, told_tup (SqT.of upd_same) hl hs, k _ (Same.new ht)⟩⟩⟩
theorem rd_val {i : Nat} {a : Addr} {l : List (Option Nat)} (h : σ[i]? = some (some (.ref a))) (ha : H a = some (.tup (l.map vO))) (hl : l.length ≤ 1000) (hs : ∀ i, some i ∈ l → i < 1000000)
    (k : Q (.str (PyData.tuple (l.map dO)).shown) H) : tRepr K (tVar i) σ H Q :=
  ⟨_, h, _, _, rfl, told_tup (SqT.of ha) hl hs, k⟩
theorem rd_pars {p : Addr} {doc : Doc} (h : σ[1]? = some (some (.ref p))) (hd : DocAt H p doc) (ok : okFrom 0 doc) (hl : doc.length ≤ 1000)
    (k : ∀ H2, Same H H2 → Q (.str (PyData.tuple (((List.range doc.length).map (lawPar doc)).map dO)).shown) H2) : tRepr K (tCall spPars [] E0 (tCons (tVar 1) tNil)) σ H Q := by
  refine ⟨_, h, p, doc, rfl, hd, ok, by omega, fun H1 q s1 hq e1 => ?_⟩
  rw [parsOf_eq ok] at e1
  refine ⟨_, _, rfl, told_tup (SqT.of e1) (by rw [List.length_map, List.length_range]; exact hl) (fun i hi => ?_), k _ s1⟩
  obtain ⟨j, hj, e⟩ := List.mem_map.mp hi
  have := par_lt e
  have := List.mem_range.mp hj
  omega
theorem runLen_le (d : Nat) : ∀ r : Doc, runLen d r ≤ r.length
  | [] => Nat.le_refl _
  | (_, e) :: r => by
    have := runLen_le d r
    show (if e ≤ d then 0 else 1 + runLen d r) ≤ r.length + 1
    split <;> omega
theorem lawSize_le {doc : Doc} {i : Nat} (hi : i < doc.length) : lawSize doc i ≤ doc.length := by
  have := runLen_le (dep doc i) (doc.drop (i + 1))
  rw [List.length_drop] at this
  unfold lawSize
  omega
theorem rd_sizes {p : Addr} {doc : Doc} (h : σ[1]? = some (some (.ref p))) (hd : DocAt H p doc) (ok : okFrom 0 doc) (hl : doc.length ≤ 1000)
    (k : ∀ H2, Same H H2 → Q (.str (PyData.tuple ((((List.range doc.length).map (lawSize doc)).map some).map dO)).shown) H2) : tRepr K (tCall spSizes [] E0 (tCons (tVar 1) tNil)) σ H Q := by
  refine ⟨_, h, p, doc, rfl, hd, ok, by omega, fun H1 q s1 hq e1 => ?_⟩
  rw [sizesOf_eq ok, nV_some] at e1
  refine ⟨_, _, rfl, told_tup (SqT.of e1) (by rw [List.length_map, List.length_map, List.length_range]; exact hl) (fun i hi => ?_), k _ s1⟩
  obtain ⟨j, hj, e⟩ := List.mem_map.mp (mem_somes hi)
  have := lawSize_le (List.mem_range.mp hj)
  omega
theorem rd_kids {j : Nat} {p : Addr} {doc : Doc} {o : Option Nat} (h : σ[1]? = some (some (.ref p))) (h2 : σ[j]? = some (some (vO o))) (hd : DocAt H p doc) (ok : okFrom 0 doc) (hl : doc.length ≤ 1000) (ho : inDoc doc o)
    (k : ∀ H2, Same H H2 → Q (.str (PyData.tuple ((((List.range doc.length).filter fun i => decide (lawPar doc i = o)).map some).map dO)).shown) H2) :
    tRepr K (tCall spKids [] E0 (tCons (tVar 1) (tCons (tVar j) tNil))) σ H Q := by
  refine ⟨_, h, _, h2, p, doc, o, rfl, hd, ok, by omega, ho, fun H1 q s1 hq e1 => ?_⟩
  rw [rowOf_eq ok ho, nV_some] at e1
  refine ⟨_, _, rfl, told_tup (SqT.of e1) ?_ (fun i hi => ?_), k _ s1⟩
  · have := List.length_filter_le (fun i => decide (lawPar doc i = o)) (List.range doc.length)
    rw [List.length_range] at this
    rw [List.length_map]
    omega
  · have := List.mem_range.mp (List.mem_filter.mp (mem_somes hi)).1
    omega
end
end

/-! ### the law's own parents -/
def spLPars : Sp := fun vs H Q _ => ∃ (p : Addr) (doc : Doc), vs = [.ref p] ∧ DocAt H p doc ∧ okFrom 0 doc ∧ doc.length ≤ 20000 ∧
  ∀ (H' : Hp) (q : Addr), Same H H' → H q = none → H' q = some (.lst (((List.range doc.length).map (lawPar doc)).map vO)) → Q (.ref q) H'
theorem dp_ints {K : PySem.W.Frag} {H : Hp} : ∀ l : List Nat, DpAll K H (nV l) (l.map fun n => PyData.int (n : Nat))
  | [] => .nil
  | n :: l => .cons (.int _) (dp_ints l)
theorem ints_lay : ∀ l : List Nat, PyData.canLayAll0 (l.map fun n => PyData.int (n : Nat)) = true
  | [] => by simp [PyData.canLayAll0]
  | n :: l => by simp [PyData.canLayAll0, PyData.canLay0, ints_lay l]
theorem ints_flat : ∀ l : List Nat, PyData.depthAll (l.map fun n => PyData.int (n : Nat)) = 0
  | [] => by simp [PyData.depthAll]
  | n :: l => by simp [PyData.depthAll, PyData.depth, ints_flat l]
theorem ints_shaped (l : List Nat) : SeqAt.shaped (.list (l.map fun n => PyData.int (n : Nat))) = true := by
  unfold SeqAt.shaped
  simp [PyData.canLay0, ints_lay l, PyData.depth, ints_flat l]
theorem ints_eqv (l : List Nat) : PyData.eqv (.list (l.map fun n => PyData.int (n : Nat))) (.list []) = l.isEmpty := by
  cases l with
  | nil => simp [PyData.eqv, PyData.eqvAll]
  | cons a r => simp [PyData.eqv, PyData.eqvAll]
section
variable {P : Program} {w : World} {K : PySem.W.Frag} {mg : Str → Option Value} {base : Heap}
theorem ok_lpars (T : Bl mg) (D : Dn K mg "_law_parents" sLPars pDocu) : FnOk P w K mg base CX0 1 D.f D.fd pDocu spLPars := by
  have sc : FnScope ["document", "got", "open_nodes", "node", "mark", "depth"] pDocu (defScope sLPars) := ⟨rfl, rfl, rfl, by decide +kernel, rfl, by decide +kernel, by decide +kernel⟩
  refine D.F.ok sc (fun vs H Q E h => ?_) (fun cdv A outer s H vs Q E hr h => ?_)
  · obtain ⟨p, doc, rfl, _⟩ := h
    rfl
  · obtain ⟨p, doc, rfl, hd, ok, hl, k⟩ := h
    refine ⟨_, pss_cons (ps_par (i := 1) (j := 2) rfl sc.nd rfl rfl (by decide) rfl rfl (pa_cons (pe_lst pa_nil) (pa_cons (pe_lst pa_nil) pa_nil)) rfl)
      (pss_cons (ps_for PassesOwn.never rfl (pi_enumT (by rfl) T.enumerate (pa_cons (pv 0) pa_nil)) (pg_tup rfl (pgs_cons (pg_name (i := 3) sc.nd rfl (.inl rfl)) (pgs_cons (pg_tup rfl (pgs_cons (pg_name (i := 4) sc.nd rfl (.inl rfl)) (pgs_cons (pg_name (i := 5) sc.nd rfl (.inl rfl)) pgs_nil))) pgs_nil)))
        (pss_cons (ps_set (i := 2) sc.nd rfl (.inl rfl) (pe_slice sl_list (pv 2) po_none (po_some (pv 5))))
        (pss_cons (ps_expr (pe_bm PySem.F.plainAttrs_list PySem.F.slot_list_append PySem.F.type_list_append mt_append (pv 1) (pa_cons (pe_ifExp (pt_cmpR (op_neD hr.units) (pv 2) (pe_lst pa_nil) (nomark _)) (pe_ix ix_list (pv 2) (pe_un un_neg pe_int) (fun _ _ => rfl)) pe_non) pa_nil)))
        (pss_one (ps_expr (pe_bm PySem.F.plainAttrs_list PySem.F.slot_list_append PySem.F.type_list_append mt_append (pv 2) (pa_cons (pv 3) pa_nil)))))))
      (pss_one (ps_ret (pv 1)))), ?_⟩
    obtain ⟨ws, ews, qws⟩ := id hd
    have len := Paired.length qws
    refine ⟨Nat.zero_le _, fun f hf => ⟨Nat.zero_le _, fun g hg => ⟨_, _, rfl, ?_⟩⟩⟩
    have gf : g ≠ f := fun z => by subst z; rw [upd_same] at hg; cases hg
    have hg0 : H g = none := by rw [upd_ne gf] at hg; exact hg
    have s0 : Same H (upd (upd H f (.lst [])) g (.lst [])) := fun b o e => by
      rw [upd_ne (ne_of_none e hg0), upd_ne (ne_of_none e hf)]
      exact e
    refine ⟨_, rfl, p, ws, rfl, SqT.of (s0 _ _ ews), for_enumT (K := K) (a := p) (xs := ws) (fun i σ H' => ∃ (fo : List (Option Nat)) (path : List Nat) (g : Addr) (a b c : Option V),
      σ = [some (.ref p), some (.ref f), some (.ref g), a, b, c] ∧ Same H H' ∧ g ≠ f ∧ H g = none ∧ H' f = some (.lst (fo.map vO)) ∧ H' g = some (.lst (nV path)) ∧ fo.length = i ∧ path.length ≤ i ∧ i ≤ doc.length ∧
      fo ++ parL path i (doc.drop i) = parsOf doc) ?_ ?_ ?_ ?_⟩
    · refine ⟨[], [], g, none, none, none, rfl, s0, gf, hg0, ?_, upd_same, rfl, Nat.le_refl _, Nat.zero_le _, rfl⟩
      rw [upd_ne gf.symm]
      exact upd_same
    · rintro i σ H1 ⟨fo, path, g, a, b, c, rfl, s1, _⟩
      exact SqT.of (s1 _ _ ews)
    · rintro i x t σ H1 hx ⟨fo, path, g, a, b, c, rfl, s1, gf, hg0, hf1, hg1, fl, pl, il, eq⟩ ht
      have lt : i < doc.length := by
        rw [← len]
        exact (List.getElem?_eq_some_iff.mp hx).1
      obtain ⟨vs, r, ch, e1, e2, e3, _⟩ := hd.ent lt
      have vw : vs = ws := by rw [ews] at e1; cases e1; rfl
      subst vw
      rw [hx] at e2
      cases e2
      have st : Same H1 (upd H1 t (.tup [.int (i : Nat), .ref r])) := Same.new ht
      have hf2 := st _ _ hf1
      have hg2 := st _ _ hg1
      have sH2 := s1.trans st
      generalize hH2 : upd H1 t (.tup [.int (i : Nat), .ref r]) = H2 at st hf2 hg2 sH2
      have ht2 : H2 t = some (.tup [.int (i : Nat), .ref r]) := by rw [← hH2]; exact upd_same
      refine ⟨t, _, rfl, SqT.of ht2, rfl, _, _, rfl, _, _, rfl, ⟨r, _, rfl, SqT.of (sH2 _ _ e3), rfl, _, _, rfl, _, _, rfl, rfl, rfl, ?_⟩⟩
      refine ⟨_, rfl, _, rfl, _, rfl, g, _, rfl, SqL.of hg2, fun u hu => ?_⟩
      have ce : cutV (nV path) none (some (dep doc i : Nat)) = nV (path.take (dep doc i)) := by
        rw [cutV_to]
        unfold nV
        rw [List.map_take]
      rw [ce]
      have uf : u ≠ f := fun z => by subst z; rw [hf2] at hu; cases hu
      have hu0 : H u = none := sH2.free hu
      have dr : doc.drop i = ((doc[i]).1, dep doc i) :: doc.drop (i + 1) := drop_dep lt
      rw [dr] at eq
      have small : fo.length < 20001 := by omega
      have sH3 : Same H (upd H2 u (.lst (nV (path.take (dep doc i))))) := sH2.trans (Same.new hu)
      have hf3 : (upd H2 u (.lst (nV (path.take (dep doc i))))) f = some (.lst (fo.map vO)) := by rw [upd_ne uf.symm]; exact hf2
      have hu3 : (upd H2 u (.lst (nV (path.take (dep doc i))))) u = some (.lst (nV (path.take (dep doc i)))) := upd_same
      generalize upd H2 u (.lst (nV (path.take (dep doc i)))) = H3 at sH3 hf3 hu3
      have tail : ∀ (v : V) (H4 : Hp), Same H3 H4 → v = vO (path.take (dep doc i)).getLast? →
          rAppend (.ref f) [v] H4 fun _ H3 => (tDrop (tBM K "list" rAppend (tVar 2) (tCons (tVar 3) tNil)))
            { nx := fun σ H' => ∃ (fo : List (Option Nat)) (path : List Nat) (g : Addr) (a b c : Option V),
                σ = [some (.ref p), some (.ref f), some (.ref g), a, b, c] ∧ Same H H' ∧ g ≠ f ∧ H g = none ∧ H' f = some (.lst (fo.map vO)) ∧ H' g = some (.lst (nV path)) ∧ fo.length = i + 1 ∧ path.length ≤ i + 1 ∧ i + 1 ≤ doc.length ∧
                fo ++ parL path (i + 1) (doc.drop (i + 1)) = parsOf doc, rt := Q }
            [some (.ref p), some (.ref f), some (.ref u), some (.int (i : Nat)), some (.str ⟨#[ch]⟩), some (.int (dep doc i : Nat))] H3 := by
        rintro v H4 s34 rfl
        have hf4 := s34 _ _ hf3
        have hu4 := s34 _ _ hu3
        refine ⟨f, _, _, rfl, rfl, hf4, ?_, ?_⟩
        · rw [List.length_map]
          exact Nat.lt_of_lt_of_le small (by decide)
        · have hu5 : (upd H4 f (.lst (fo.map vO ++ [vO (path.take (dep doc i)).getLast?]))) u = some (.lst (nV (path.take (dep doc i)))) := by
            rw [upd_ne uf]
            exact hu4
          refine ⟨_, rfl, .inl ⟨rfl, _, SqL.of hu5⟩, _, rfl, u, _, _, rfl, rfl, hu5, ?_, ?_⟩
          · unfold nV
            rw [List.length_map, List.length_take]
            exact Nat.lt_of_lt_of_le (show min _ path.length < 20001 by omega) (by decide)
          · refine ⟨fo ++ [(path.take (dep doc i)).getLast?], path.take (dep doc i) ++ [i], u, _, _, _, rfl, ?_, uf, hu0, ?_, ?_, by rw [List.length_append, fl]; rfl, ?_, lt, ?_⟩
            · intro b o e
              have z := s34 _ _ (sH3 b o e)
              rw [upd_ne (ne_of_none e hu0), upd_ne (ne_of_none e hf)]
              exact z
            · rw [upd_ne uf.symm, upd_same, List.map_append]
              rfl
            · rw [upd_same]
              unfold nV
              rw [List.map_append]
              rfl
            · rw [List.length_append, List.length_take]
              show min _ path.length + 1 ≤ i + 1
              omega
            · rw [List.append_assoc]
              exact eq
      refine ⟨_, rfl, .inl ⟨rfl, _, SqL.of hf3⟩, ?_⟩
      refine ⟨_, rfl, Nat.zero_le _, fun e he => ?_⟩
      have s34 : Same H3 (upd H3 e (.lst [])) := Same.new he
      have hu4 := s34 _ _ hu3
      refine ⟨_, _, .lst (SqL.of hu4) (dp_ints _), .lst (SqL.of upd_same) .nil, ints_shaped _, ints_shaped [], _, rfl, ?_⟩
      rw [show PyData.eqv (.list ((path.take (dep doc i)).map fun n => PyData.int (n : Nat))) (.list []) = _ from ints_eqv _]
      refine ite2 (fun c1 => ?_) (fun c1 => ?_)
      · have ne : path.take (dep doc i) ≠ [] := fun z => by
          rw [z] at c1
          exact absurd c1 (by decide)
        obtain ⟨ini, lst, e⟩ : ∃ ini lst, path.take (dep doc i) = ini ++ [lst] := ⟨_, _, (List.dropLast_concat_getLast ne).symm⟩
        have la : atI (nV (path.take (dep doc i))) (-1) = some (V.int (lst : Nat)) := by
          rw [e]
          unfold nV
          rw [List.map_append]
          exact atI_last _ _
        refine ⟨_, rfl, _, rfl, u, _, _, _, rfl, rfl, SqL.of hu4, la, tail _ _ s34 ?_⟩
        rw [e, List.getLast?_append]
        rfl
      · have ne : path.take (dep doc i) = [] := by
          cases h : path.take (dep doc i) with
          | nil => rfl
          | cons a l =>
            rw [h] at c1
            exact absurd rfl c1
        refine tail _ _ s34 ?_
        rw [ne]
        rfl
    · rintro σ H1 ⟨fo, path, g, a, b, c, rfl, s1, _, _, hf1, hg1, fl, pl, il, eq⟩
      refine ⟨_, rfl, k H1 f s1 hf ?_⟩
      have z : doc.drop ws.length = [] := List.drop_of_length_le (by omega)
      rw [z, parL, List.append_nil] at eq
      rw [← parsOf_eq ok, ← eq]
      exact hf1
end

/-! ### no node deeper than its number -/
theorem okFrom_take : ∀ {m : Nat} {doc : Doc}, okFrom m doc → ∀ i, okFrom m (doc.take i)
  | _, [], _, i => by rw [List.take_nil]; trivial
  | _, _ :: _, _, 0 => trivial
  | _, (_, d) :: r, h, i + 1 => ⟨h.1, h.2.1, h.2.2.1, okFrom_take h.2.2.2 i⟩
theorem dep_lt {doc : Doc} (ok : okFrom 0 doc) {i : Nat} (hi : i < doc.length) : dep doc i ≤ i := by
  have a := dep_le ok hi
  have b := endOf_le (okFrom_take ok i)
  rw [List.length_take] at b
  omega
def rowA (doc : Doc) (t : Nat) (o : Option Nat) : List Nat := (List.range t).filter fun i => decide (lawPar doc i = o)
theorem rowA_succ (doc : Doc) (t : Nat) (o : Option Nat) : rowA doc (t + 1) o = rowA doc t o ++ if lawPar doc t = o then [t] else [] := by
  unfold rowA
  rw [List.range_succ, List.filter_append]
  congr 1
  by_cases c : lawPar doc t = o
  · rw [if_pos c, List.filter_cons_of_pos (by simpa using c)]
    rfl
  · rw [if_neg c, List.filter_cons_of_neg (by simpa using c)]
    rfl
theorem rowA_len (doc : Doc) (t : Nat) (o : Option Nat) : (rowA doc t o).length ≤ t := by
  have := List.length_filter_le (fun i => decide (lawPar doc i = o)) (List.range t)
  rwa [List.length_range] at this
theorem rowA_new (doc : Doc) (t : Nat) : rowA doc t (some t) = [] := by
  unfold rowA
  rw [List.filter_eq_nil_iff]
  intro i hi c
  have := par_lt (of_decide_eq_true c)
  have := List.mem_range.mp hi
  omega
abbrev parV (doc : Doc) : List V := ((List.range doc.length).map (lawPar doc)).map vO
theorem parV_len (doc : Doc) : (parV doc).length = doc.length := by rw [List.length_map, List.length_map, List.length_range]
theorem parV_at {doc : Doc} {i : Nat} (h : i < doc.length) : (parV doc)[i]? = some (vO (lawPar doc i)) := by
  rw [List.getElem?_map, List.getElem?_map, List.getElem?_range h]
  rfl

/-! ### the texts of documents -/
/-- what follows a mark of the depth h, down to the depth b at the end -/
def wrB (b : Nat) : Nat → Doc → List Nat
  | h, [] => List.replicate (h - b) 41
  | h, (c, e) :: r => (if h < e then [40] else List.replicate (h - e) 41 ++ [32]) ++ c :: wrB b e r
def textOf : Doc → List Nat
  | [] => []
  | (c, d) :: r => c :: wrB d d r
def sT (l : List Nat) : Str := ⟨l.toArray⟩
theorem sT_add (a b : List Nat) : sT a ++ sT b = sT (a ++ b) := by
  apply TL.ext_tl
  rw [TL.tl_append]
  rfl
theorem sT_len (a : List Nat) : (sT a).length = a.length := by
  rw [TL.len_tl]
  rfl
theorem wrB_len {b : Nat} : ∀ {h : Nat} {r : Doc}, okFrom (h + 1) r → (wrB b h r).length ≤ h + 3 * r.length
  | h, [], _ => by
    show (List.replicate (h - b) 41).length ≤ _
    rw [List.length_replicate]
    omega
  | h, (c, e) :: r, ok => by
    have ih := wrB_len (b := b) ok.2.2.2
    have le := ok.2.2.1
    show ((if h < e then [40] else List.replicate (h - e) 41 ++ [32]) ++ c :: wrB b e r).length ≤ h + 3 * (r.length + 1)
    rw [List.length_append, List.length_cons]
    by_cases q : h < e
    · rw [if_pos q]
      show 1 + _ ≤ _
      omega
    · rw [if_neg q, List.length_append, List.length_replicate]
      show h - e + 1 + _ ≤ _
      omega
/-- written down to b + 1 first, then one more -/
theorem wrB_up {b : Nat} : ∀ {h : Nat} {r : Doc}, b + 1 ≤ h → (∀ e ∈ r, b + 1 ≤ e.2) → wrB b h r = wrB (b + 1) h r ++ [41]
  | h, [], hb, _ => by
    show List.replicate (h - b) 41 = List.replicate (h - (b + 1)) 41 ++ [41]
    have e : h - b = (h - (b + 1)) + 1 := by omega
    rw [e, List.replicate_succ']
  | h, (c, e) :: r, hb, all => by
    have he : b + 1 ≤ e := all (c, e) List.mem_cons_self
    have ih := wrB_up (b := b) (h := e) (r := r) he fun x hx => all x (List.mem_cons_of_mem _ hx)
    show (if h < e then [40] else List.replicate (h - e) 41 ++ [32]) ++ c :: wrB b e r = ((if h < e then [40] else List.replicate (h - e) 41 ++ [32]) ++ c :: wrB (b + 1) e r) ++ [41]
    rw [ih, List.append_assoc]
    rfl
/-- a run of deeper ones, then one of the depth d -/
theorem wrB_app {d c : Nat} {r : Doc} : ∀ {h : Nat} {S : Doc}, d ≤ h → (∀ e ∈ S, d ≤ e.2) → wrB d h (S ++ (c, d) :: r) = wrB d h S ++ 32 :: c :: wrB d d r
  | h, [], hd, _ => by
    show (if h < d then [40] else List.replicate (h - d) 41 ++ [32]) ++ c :: wrB d d r = List.replicate (h - d) 41 ++ 32 :: c :: wrB d d r
    rw [if_neg (by omega), List.append_assoc]
    rfl
  | h, (x, e) :: S, hd, all => by
    have he : d ≤ e := all (x, e) List.mem_cons_self
    have ih := wrB_app (d := d) (c := c) (r := r) (h := e) (S := S) he fun y hy => all y (List.mem_cons_of_mem _ hy)
    show (if h < e then [40] else List.replicate (h - e) 41 ++ [32]) ++ x :: wrB d e (S ++ (c, d) :: r) = ((if h < e then [40] else List.replicate (h - e) 41 ++ [32]) ++ x :: wrB d e S) ++ 32 :: c :: wrB d d r
    rw [ih, List.append_assoc]
    rfl
/-- depths taken off -/
def less (k : Nat) (r : Doc) : Doc := r.map fun e => (e.1, e.2 - k)
theorem wrB_less {k b : Nat} (kb : k ≤ b) : ∀ {h : Nat} {r : Doc}, k ≤ h → (∀ e ∈ r, k ≤ e.2) → wrB (b - k) (h - k) (less k r) = wrB b h r
  | h, [], hk, _ => by
    show List.replicate (h - k - (b - k)) 41 = List.replicate (h - b) 41
    congr 1
    omega
  | h, (c, e) :: r, hk, all => by
    have he : k ≤ e := all (c, e) List.mem_cons_self
    have ih := wrB_less kb (h := e) (r := r) he fun y hy => all y (List.mem_cons_of_mem _ hy)
    show (if h - k < e - k then [40] else List.replicate (h - k - (e - k)) 41 ++ [32]) ++ c :: wrB (b - k) (e - k) (less k r) = (if h < e then [40] else List.replicate (h - e) 41 ++ [32]) ++ c :: wrB b e r
    rw [ih]
    by_cases q : h < e
    · rw [if_pos q, if_pos (by omega)]
    · rw [if_neg q, if_neg (by omega)]
      congr 3
      omega
/-- the deeper ones behind a node, and its text -/
def deepOf (doc : Doc) (i : Nat) : Doc := (doc.drop (i + 1)).take (runLen (dep doc i) (doc.drop (i + 1)))
def nodeText (doc : Doc) (i : Nat) : List Nat := (doc.getD i (0, 0)).1 :: wrB (dep doc i) (dep doc i) (deepOf doc i)
theorem run_deep {d : Nat} : ∀ {r : Doc} {e : Nat × Nat}, e ∈ r.take (runLen d r) → d < e.2
  | [], _, h => by simp [runLen] at h
  | (c, x) :: r, e, h => by
    by_cases q : x ≤ d
    · simp [runLen, q] at h
    · have z : runLen d ((c, x) :: r) = runLen d r + 1 := by
        show (if x ≤ d then 0 else 1 + runLen d r) = _
        rw [if_neg q]
        omega
      rw [z, List.take_succ_cons] at h
      rcases List.mem_cons.mp h with h | h
      · subst h
        show d < x
        omega
      · exact run_deep h
def joinT (ts : List (List Nat)) : List Nat := TL.joinL [32] ts
theorem joinT_cons (t : List Nat) {ts : List (List Nat)} (h : ts ≠ []) : joinT (t :: ts) = t ++ 32 :: joinT ts := by
  cases ts with
  | nil => exact absurd rfl h
  | cons u r => rfl
/-- the leading ones that are not less deep than d -/
def runN (d : Nat) : Doc → Nat
  | [] => 0
  | (_, e) :: r => if e < d then 0 else 1 + runN d r
theorem runN_succ (d : Nat) : ∀ r : Doc, runN (d + 1) r = runLen d r
  | [] => rfl
  | (_, e) :: r => by
    show (if e < d + 1 then 0 else 1 + runN (d + 1) r) = if e ≤ d then 0 else 1 + runLen d r
    rw [runN_succ d r]
    by_cases q : e ≤ d
    · rw [if_pos q, if_pos (by omega)]
    · rw [if_neg q, if_neg (by omega)]
theorem runN_zero : ∀ r : Doc, runN 0 r = r.length
  | [] => rfl
  | (_, e) :: r => by
    show (if e < 0 then 0 else 1 + runN 0 r) = r.length + 1
    rw [if_neg (Nat.not_lt_zero _), runN_zero r]
    omega
theorem runN_ge {d : Nat} : ∀ {r : Doc} {e : Nat × Nat}, e ∈ r.take (runN d r) → d ≤ e.2
  | [], _, h => by simp [runN] at h
  | (c, x) :: r, e, h => by
    by_cases q : x < d
    · simp [runN, q] at h
    · have z : runN d ((c, x) :: r) = runN d r + 1 := by
        show (if x < d then 0 else 1 + runN d r) = _
        rw [if_neg q]
        omega
      rw [z, List.take_succ_cons] at h
      rcases List.mem_cons.mp h with h | h
      · subst h
        show d ≤ x
        omega
      · exact runN_ge h
def tailT (ts : List (List Nat)) : List Nat := if ts = [] then [] else 32 :: joinT ts
theorem joinT_tail (t : List Nat) (ts : List (List Nat)) : joinT (t :: ts) = t ++ tailT ts := by
  unfold tailT
  cases ts with
  | nil => rw [if_pos rfl, List.append_nil]; rfl
  | cons u r => rw [if_neg (fun z => nomatch z)]; rfl
/-- a stretch written: its first deeper ones, then the texts of the row -/
theorem stretch {doc : Doc} {d : Nat} : ∀ (r : Doc) (k h : Nat), doc.drop k = r → d ≤ h → wrB d h (r.take (runN d r)) = wrB d h (r.take (runLen d r)) ++ tailT ((rowL d k r).map (nodeText doc))
  | [], k, h, _, _ => by
    show List.replicate (h - d) 41 = List.replicate (h - d) 41 ++ tailT []
    rw [show tailT [] = [] from rfl, List.append_nil]
  | (c, e) :: r, k, h, hk, hdh => by
    have hk1 : doc.drop (k + 1) = r := by rw [← List.drop_drop, hk]; rfl
    have hl : k < doc.length := by
      by_cases q : k < doc.length
      · exact q
      · rw [List.drop_of_length_le (by omega)] at hk; cases hk
    have hd : doc.getD k (0, 0) = (c, e) := by
      rw [List.drop_eq_getElem_cons hl] at hk
      injection hk with z _
      rw [List.getD_eq_getElem?_getD, List.getElem?_eq_getElem hl, z]
      rfl
    have dk : dep doc k = e := by unfold dep; rw [hd]
    by_cases q1 : e < d
    · have z1 : runN d ((c, e) :: r) = 0 := if_pos q1
      have z2 : runLen d ((c, e) :: r) = 0 := if_pos (Nat.le_of_lt q1)
      have z3 : rowL d k ((c, e) :: r) = [] := if_pos q1
      rw [z1, z2, z3]
      show _ = _ ++ tailT []
      rw [show tailT [] = [] from rfl, List.append_nil]
    · have z1 : runN d ((c, e) :: r) = runN d r + 1 := by
        show (if e < d then 0 else 1 + runN d r) = _
        rw [if_neg q1]
        omega
      rw [z1, List.take_succ_cons]
      by_cases q2 : e = d
      · subst q2
        have z2 : runLen e ((c, e) :: r) = 0 := if_pos (Nat.le_refl _)
        have z3 : rowL e k ((c, e) :: r) = k :: rowL e (k + 1) r := by
          show (if e < e then [] else if e = e then k :: rowL e (k + 1) r else rowL e (k + 1) r) = _
          rw [if_neg q1, if_pos rfl]
        have ih := stretch (doc := doc) (d := e) r (k + 1) e hk1 (Nat.le_refl _)
        have nt : nodeText doc k = c :: wrB e e (r.take (runLen e r)) := by
          unfold nodeText deepOf
          rw [dk, hk1, hd]
        rw [z2, z3]
        show (if h < e then [40] else List.replicate (h - e) 41 ++ [32]) ++ c :: wrB e e (r.take (runN e r)) = List.replicate (h - e) 41 ++ tailT (nodeText doc k :: (rowL e (k + 1) r).map (nodeText doc))
        have tt : tailT (nodeText doc k :: (rowL e (k + 1) r).map (nodeText doc)) = 32 :: joinT (nodeText doc k :: (rowL e (k + 1) r).map (nodeText doc)) := if_neg (fun z => nomatch z)
        rw [tt, joinT_tail, nt, ih]
        rw [if_neg (by omega), List.append_assoc]
        rfl
      · have z2 : runLen d ((c, e) :: r) = runLen d r + 1 := by
          show (if e ≤ d then 0 else 1 + runLen d r) = _
          rw [if_neg (by omega)]
          omega
        have z3 : rowL d k ((c, e) :: r) = rowL d (k + 1) r := by
          show (if e < d then [] else if e = d then k :: rowL d (k + 1) r else rowL d (k + 1) r) = _
          rw [if_neg q1, if_neg q2]
        have ih := stretch (doc := doc) (d := d) r (k + 1) e hk1 (by omega)
        rw [z2, z3, List.take_succ_cons]
        show (if h < e then [40] else List.replicate (h - e) 41 ++ [32]) ++ c :: wrB d e (r.take (runN d r)) = ((if h < e then [40] else List.replicate (h - e) 41 ++ [32]) ++ c :: wrB d e (r.take (runLen d r))) ++ tailT ((rowL d (k + 1) r).map (nodeText doc))
        rw [ih, List.append_assoc]
        rfl
theorem head_dep {doc : Doc} {k : Nat} {c e : Nat} {r : Doc} (hk : doc.drop k = (c, e) :: r) : k < doc.length ∧ doc.getD k (0, 0) = (c, e) ∧ dep doc k = e ∧ doc.drop (k + 1) = r := by
  have hl : k < doc.length := by
    by_cases q : k < doc.length
    · exact q
    · rw [List.drop_of_length_le (by omega)] at hk; cases hk
  have hd : doc.getD k (0, 0) = (c, e) := by
    rw [List.drop_eq_getElem_cons hl] at hk
    injection hk with z _
    rw [List.getD_eq_getElem?_getD, List.getElem?_eq_getElem hl, z]
    rfl
  exact ⟨hl, hd, by unfold dep; rw [hd], by rw [← List.drop_drop, hk]; rfl⟩
/-- a whole row from its first one -/
theorem row_first {doc : Doc} {k c d : Nat} {r : Doc} (hk : doc.drop k = (c, d) :: r) : joinT ((rowL d k ((c, d) :: r)).map (nodeText doc)) = c :: wrB d d (r.take (runN d r)) := by
  obtain ⟨hl, hd, dk, hk1⟩ := head_dep hk
  have z3 : rowL d k ((c, d) :: r) = k :: rowL d (k + 1) r := by
    show (if d < d then [] else if d = d then k :: rowL d (k + 1) r else rowL d (k + 1) r) = _
    rw [if_neg (Nat.lt_irrefl _), if_pos rfl]
  have nt : nodeText doc k = c :: wrB d d (r.take (runLen d r)) := by
    unfold nodeText deepOf
    rw [dk, hk1, hd]
  rw [z3, List.map_cons, joinT_tail, nt, stretch r (k + 1) d hk1 (Nat.le_refl _)]
  rfl
theorem due_text {doc : Doc} (ok : okFrom 0 doc) : joinT ((rowL 0 0 doc).map (nodeText doc)) = textOf doc := by
  match doc, ok with
  | [], _ => rfl
  | (c, d) :: r, ok =>
    have d0 : d = 0 := Nat.le_zero.mp ok.2.2.1
    subst d0
    have h := row_first (doc := (c, 0) :: r) (k := 0) (c := c) (d := 0) (r := r) rfl
    rw [h, runN_zero, List.take_length]
    rfl
/-- a node's text of its mark and its children's -/
theorem node_text {doc : Doc} (ok : okFrom 0 doc) {i : Nat} (hi : i < doc.length) :
    nodeText doc i = (doc.getD i (0, 0)).1 :: (if rowOf doc (some i) = [] then [] else 40 :: joinT ((rowOf doc (some i)).map (nodeText doc)) ++ [41]) := by
  show _ :: wrB (dep doc i) (dep doc i) (deepOf doc i) = _ :: _
  congr 1
  show _ = if rowL (dep doc i + 1) (i + 1) (doc.drop (i + 1)) = [] then [] else 40 :: joinT ((rowL (dep doc i + 1) (i + 1) (doc.drop (i + 1))).map (nodeText doc)) ++ [41]
  unfold deepOf
  cases e : doc.drop (i + 1) with
  | nil =>
    have z : rowL (dep doc i + 1) (i + 1) [] = [] := rfl
    rw [z, if_pos rfl]
    show List.replicate (dep doc i - dep doc i) 41 = []
    rw [Nat.sub_self]
    rfl
  | cons x r =>
    obtain ⟨c, d⟩ := x
    obtain ⟨hl, hd, dk, hk1⟩ := head_dep e
    have up : d ≤ dep doc i + 1 := by rw [← dk]; exact dep_succ ok hl
    by_cases q : d ≤ dep doc i
    · have z1 : runLen (dep doc i) ((c, d) :: r) = 0 := if_pos q
      have z2 : rowL (dep doc i + 1) (i + 1) ((c, d) :: r) = [] := if_pos (by omega)
      rw [z1, z2, if_pos rfl]
      show List.replicate (dep doc i - dep doc i) 41 = []
      rw [Nat.sub_self]
      rfl
    · have de : d = dep doc i + 1 := by omega
      have z1 : runLen (dep doc i) ((c, d) :: r) = runLen (dep doc i) r + 1 := by
        show (if d ≤ dep doc i then 0 else 1 + runLen (dep doc i) r) = _
        rw [if_neg q]
        omega
      have z2 : rowL d (i + 1) ((c, d) :: r) ≠ [] := by
        show (if d < d then [] else if d = d then (i + 1) :: rowL d (i + 2) r else rowL d (i + 2) r) ≠ []
        rw [if_neg (Nat.lt_irrefl _), if_pos rfl]
        exact fun z => nomatch z
      rw [z1, List.take_succ_cons, ← de, if_neg z2, row_first e]
      show (if dep doc i < d then [40] else List.replicate (dep doc i - d) 41 ++ [32]) ++ c :: wrB (dep doc i) d (r.take (runLen (dep doc i) r)) = 40 :: (c :: wrB d d (r.take (runN d r))) ++ [41]
      have z3 : runN d r = runLen (dep doc i) r := by rw [de, runN_succ]
      rw [if_pos (by omega), z3, wrB_up (by omega) fun e he => run_deep he, ← de]
      rfl
/-- the piece of a node, its depth taken off -/
def pieceOf (doc : Doc) (i : Nat) : Doc := ((doc.getD i (0, 0)).1, 0) :: less (dep doc i) (deepOf doc i)
theorem piece_text (doc : Doc) (i : Nat) : textOf (pieceOf doc i) = nodeText doc i := by
  show _ :: wrB 0 0 (less (dep doc i) (deepOf doc i)) = _ :: _
  congr 1
  have h := wrB_less (k := dep doc i) (b := dep doc i) (Nat.le_refl _) (h := dep doc i) (r := deepOf doc i) (Nat.le_refl _) fun e he => Nat.le_of_lt (run_deep he)
  rw [Nat.sub_self] at h
  exact h
theorem ok_drop : ∀ {m : Nat} {doc : Doc}, okFrom m doc → ∀ i, ∃ n, okFrom n (doc.drop i)
  | m, doc, h, 0 => ⟨m, h⟩
  | _, [], _, i + 1 => ⟨0, trivial⟩
  | _, (_, d) :: r, h, i + 1 => ok_drop h.2.2.2 i
theorem ok_less {k : Nat} : ∀ {m : Nat} {doc : Doc}, okFrom m doc → (∀ e ∈ doc, k ≤ e.2) → okFrom (m - k) (less k doc)
  | _, [], _, _ => trivial
  | m, (c, d) :: r, h, all => by
    have hd : k ≤ d := all (c, d) List.mem_cons_self
    have ih := ok_less (k := k) h.2.2.2 fun e he => all e (List.mem_cons_of_mem _ he)
    have e1 : d + 1 - k = d - k + 1 := by omega
    rw [e1] at ih
    exact ⟨h.1, h.2.1, Nat.sub_le_sub_right h.2.2.1 k, ih⟩
theorem ok_piece {doc : Doc} (ok : okFrom 0 doc) {i : Nat} (hi : i < doc.length) : okFrom 0 (pieceOf doc i) := by
  obtain ⟨n, h⟩ := ok_drop ok i
  rw [List.drop_eq_getElem_cons hi] at h
  have e : doc[i] = doc.getD i (0, 0) := by rw [List.getD_eq_getElem?_getD, List.getElem?_eq_getElem hi]; rfl
  rw [e] at h
  obtain ⟨h0, h1, h2, h3⟩ := (show okFrom n (((doc.getD i (0, 0)).1, (doc.getD i (0, 0)).2) :: doc.drop (i + 1)) from h)
  refine ⟨h0, h1, Nat.le_refl _, ?_⟩
  have z := ok_less (k := dep doc i) (okFrom_take h3 (runLen (dep doc i) (doc.drop (i + 1)))) fun e he => Nat.le_of_lt (run_deep he)
  have e2 : (doc.getD i (0, 0)).2 + 1 - dep doc i = 1 := by unfold dep; omega
  rw [e2] at z
  exact z
theorem piece_len {doc : Doc} {i : Nat} (hi : i < doc.length) : (pieceOf doc i).length ≤ doc.length := by
  show (less (dep doc i) (deepOf doc i)).length + 1 ≤ _
  unfold less deepOf
  rw [List.length_map, List.length_take, List.length_drop]
  omega

/-! ### write_document, read_document -/
def fl (ys : List Str) : List Nat := (ys.map TL.tl).flatten
theorem joinL_nil : ∀ ts : List (List Nat), TL.joinL [] ts = ts.flatten
  | [] => rfl
  | [p] => by simp [TL.joinL]
  | p :: q :: r => by
    show p ++ ([] ++ TL.joinL [] (q :: r)) = _
    rw [joinL_nil (q :: r)]
    rfl
theorem join_tl (a : Str) (ys : List Str) : Txt.join a ys = sT (TL.joinL (TL.tl a) (ys.map TL.tl)) := by
  have h : Txt.join a ys = Str.join a ys := by
    show Txt.join a ys = _
    exact StrLaws.glued_eq_join a ys
  rw [h]
  apply TL.ext_tl
  rw [TL.tl_join]
  rfl
theorem sum_fl : ∀ ys : List Str, (ys.map (·.length)).sum = (fl ys).length
  | [] => rfl
  | y :: r => by
    have ih := sum_fl r
    show y.length + (r.map (·.length)).sum = (TL.tl y ++ fl r).length
    rw [List.length_append, ih, TL.len_tl]
theorem fl_snoc (ys : List Str) (y : Str) : fl (ys ++ [y]) = fl ys ++ TL.tl y := by
  unfold fl
  rw [List.map_append, List.flatten_append]
  show _ ++ (TL.tl y ++ []) = _
  rw [List.append_nil]
theorem textOf_len {doc : Doc} (ok : okFrom 0 doc) : (textOf doc).length ≤ 3 * doc.length := by
  match doc, ok with
  | [], _ => exact Nat.zero_le _
  | (c, d) :: r, ok =>
    have d0 : d = 0 := Nat.le_zero.mp ok.2.2.1
    subst d0
    have := wrB_len (b := 0) ok.2.2.2
    show (wrB 0 0 r).length + 1 ≤ 3 * (r.length + 1)
    omega
def spWrite : Sp := fun vs H Q _ => ∃ (p : Addr) (doc : Doc), vs = [.ref p] ∧ DocAt H p doc ∧ okFrom 0 doc ∧ doc.length ≤ 20000 ∧ ∀ H', Same H H' → Q (.str (sT (textOf doc))) H'
def spReadV : Sp := fun vs H Q _ => ∃ (doc : Doc), vs = [.str (sT (textOf doc))] ∧ okFrom 0 doc ∧ doc.length ≤ 20000 ∧
  ∀ (H' : Hp) (q : Addr), Same H H' → H q = none → DocAt H' q doc → Q (.ref q) H'
abbrev pText : List Str := ["text"]
section
variable {P : Program} {w : World} {K : PySem.W.Frag} {mg : Str → Option Value} {base : Heap}
end

/-! ### the law's own rows of children -/
def kO (n j : Nat) : Option Nat := if j = n then none else some j
def KidsAt (doc : Doc) (t : Nat) (as : List Addr) (H : Hp) : Prop := ∀ j a, as[j]? = some a → H a = some (.lst (nV (rowA doc t (kO doc.length j))))
def spLKids : Sp := fun vs H Q _ => ∃ (p : Addr) (doc : Doc), vs = [.ref p] ∧ DocAt H p doc ∧ okFrom 0 doc ∧ doc.length ≤ 20000 ∧
  ∀ (H' : Hp) (q : Addr) (as : List Addr), Same H H' → H q = none → as.length = doc.length + 1 → H' q = some (.lst (as.map V.ref)) → KidsAt doc doc.length as H' → Q (.ref q) H'
def ixO (n : Nat) : Option Nat → Nat
  | none => n
  | some j => j
theorem kO_at {n i : Nat} {o : Option Nat} (h : ∀ j, o = some j → j < n) (e : i = ixO n o) : kO n i = o := by
  subst e
  unfold kO
  cases o with
  | none => exact if_pos rfl
  | some j =>
    have := h j rfl
    exact if_neg (by show ¬ j = n; omega)
section
variable {P : Program} {w : World} {K : PySem.W.Frag} {mg : Str → Option Value} {base : Heap}
theorem ok_lkids (T : Bl mg) (Dlp : Dn K mg "_law_parents" sLPars pDocu) (D : Dn K mg "_law_children" sLKids pDocu) : FnOk P w K mg base CX0 2 D.f D.fd pDocu spLKids := by
  have GP : FnOk P w K mg base CX0 1 Dlp.f Dlp.fd pDocu spLPars := ok_lpars T Dlp
  have sc : FnScope ["document", "node", "got", "parent", "row"] pDocu (defScope sLKids) := ⟨rfl, rfl, rfl, by decide +kernel, rfl, by decide +kernel, by decide +kernel⟩
  refine D.F.ok sc (fun vs H Q E h => ?_) (fun cdv A outer s H vs Q E hr h => ?_)
  · obtain ⟨p, doc, rfl, _⟩ := h
    rfl
  · obtain ⟨p, doc, rfl, hd, ok, hl, k⟩ := h
    refine ⟨_, pss_cons (ps_setLc (i := 2) (own := [("node", 1)]) (g := gName 1) (tt := tYes) rfl sc.nd rfl rfl (sw_true rfl rfl rfl (by decide +kernel)) (pi_range1 (by rfl) T.range (pa_cons (pe_op op_add (pe_callB call_len_seq (by rfl) T.len b_len (pa_cons (pv 0) pa_nil)) pe_int) pa_nil))
        (blkOk_by (N := ["document", "node", "got", "parent", "row"]) (sc := defScope sLKids) (by decide +kernel)) (fun _ _ _ _ _ => (pg_name (i := 1) sc.nd rfl (.inl rfl))) (fun _ _ _ _ _ => pts_nil) (fun _ _ _ _ _ => pe_lst pa_nil))
      (pss_cons (ps_for PassesOwn.never rfl (pi_enum (by rfl) T.enumerate (pa_cons (de_call Dlp GP hr (pa_cons (pv 0) pa_nil)) pa_nil)) (pg_tup rfl (pgs_cons (pg_name (i := 1) sc.nd rfl (.inl rfl)) (pgs_cons (pg_name (i := 3) sc.nd rfl (.inl rfl)) pgs_nil)))
        (pss_cons (ps_set (i := 4) sc.nd rfl (.inl rfl) (pe_ix ix_list (pv 2) (pe_ifExp (pt_cmp (pc_isN (pv 3))) (pe_callB call_len_seq (by rfl) T.len b_len (pa_cons (pv 0) pa_nil)) (pv 3)) (fun _ _ => rfl)))
        (pss_one (ps_expr (pe_bm PySem.F.plainAttrs_list PySem.F.slot_list_append PySem.F.type_list_append mt_append (pv 4) (pa_cons (pv 1) pa_nil))))))
      (pss_one (ps_ret (pv 2)))), ?_⟩
    obtain ⟨ws, ews, qws⟩ := id hd
    have len := Paired.length qws
    refine ⟨_, rfl, p, ws, rfl, .inr (SqT.of ews), _, _, rfl, rfl, _, rfl, by omega, by omega, fun g hg => ?_⟩
    have line : 100000 ≤ sizeLine := by decide
    refine lc_range (lo := 0) (n := (((ws.length : Nat) : Int) + 1).toNat) (fun j H' => Same H H' ∧ ∃ as : List Addr, as.length = j ∧ H' g = some (.lst (as.map V.ref)) ∧ as.Nodup ∧ ∀ a ∈ as, H a = none ∧ H' a = some (.lst [])) ?_ ?_ ?_
    · exact ⟨Same.new hg, [], rfl, upd_same, List.nodup_nil, fun a h => absurd h (List.not_mem_nil)⟩
    · rintro j H' hj ⟨s1, as, al, eg, nd, fr⟩
      refine ⟨rfl, Nat.zero_le _, fun a ha => ?_⟩
      have ag : g ≠ a := ne_of_none eg ha
      have na : ∀ b ∈ as, b ≠ a := fun b hb => ne_of_none (fr b hb).2 ha
      refine ⟨as.map V.ref, by rw [upd_ne ag]; exact eg, by rw [List.length_map]; omega, fun b o e => ?_, as ++ [a], by rw [List.length_append, al]; rfl, by rw [upd_same, List.map_append]; rfl, ?_, fun b hb => ?_⟩
      · rw [upd_ne (ne_of_none e hg), upd_ne (ne_of_none (s1 b o e) ha)]
        exact s1 b o e
      · exact List.nodup_append.mpr ⟨nd, by simp, fun b hb c hc => by
          rw [List.mem_singleton.mp hc]
          exact na b hb⟩
      · rcases List.mem_append.mp hb with hb | hb
        · have bg : b ≠ g := fun z => by
            subst z
            have q := (fr b hb).2
            rw [eg] at q
            injection q with q
            injection q with q
            have := congrArg List.length q
            rw [List.length_map] at this
            have z0 : as = [] := List.length_eq_zero_iff.mp this
            subst z0
            exact absurd hb (List.not_mem_nil)
          refine ⟨(fr b hb).1, ?_⟩
          rw [upd_ne bg, upd_ne (na b hb)]
          exact (fr b hb).2
        · rw [List.mem_singleton.mp hb]
          exact ⟨s1.free ha, by rw [upd_ne ag.symm, upd_same]⟩
    · rintro H1 ⟨s1, as, al, eg, nd, fr⟩
      have al' : as.length = doc.length + 1 := by omega
      have gas : ∀ b ∈ as, b ≠ g := fun b hb z => by
        subst z
        have q := (fr b hb).2
        rw [eg] at q
        injection q with q
        injection q with q
        have := congrArg List.length q
        rw [List.length_map, al'] at this
        cases this
      refine ⟨_, rfl, p, doc, rfl, hd.same s1, ok, hl, fun H2 f s2 hf e2 => ?_⟩
      have fH : H f = none := s1.free hf
      have s02 := s1.trans s2
      have eg2 := s2 _ _ eg
      have fas : ∀ b ∈ as, b ≠ f := fun b hb z => by
        subst z
        rw [(fr b hb).2] at hf
        cases hf
      refine ⟨f, _, rfl, SqL.of e2, for_it (walk_enum (K := K) (a := f) (xs := parV doc)) (fun i σ H' => i ≤ doc.length ∧ Same H H' ∧ H' f = some (.lst (parV doc)) ∧ H' g = some (.lst (as.map V.ref)) ∧ KidsAt doc i as H' ∧
        ∃ b c d : Option V, σ = [some (.ref p), b, some (.ref g), c, d]) ?_ ?_ ?_ ?_⟩
      · refine ⟨Nat.zero_le _, s02, e2, eg2, fun j a h => ?_, _, _, _, rfl⟩
        exact s2 _ _ (fr a (List.mem_of_getElem? h)).2
      · rintro i σ H' hi ⟨_, _, e, _⟩
        exact SqL.of e
      · rintro i x σ H3 H4 hi ⟨il, s3, ef, eg3, kids, b, c, d, rfl⟩ ⟨t, y1, y2, rfl, ht, rfl, g1, g2⟩
        have lt : i < doc.length := by rw [parV_len] at hi; exact hi
        cases g1
        have y2e : y2 = vO (lawPar doc i) := by
          have g2' : (parV doc)[i]? = some y2 := g2
          rw [parV_at lt] at g2'
          exact (Option.some.inj g2').symm
        subst y2e
        refine ⟨t, _, rfl, SqT.of upd_same, rfl, _, _, rfl, _, _, rfl, rfl, ?_⟩
        have s4 : Same H3 (upd H3 t (.tup [.int (i : Nat), vO (lawPar doc i)])) := Same.new ht
        have s04 := s3.trans s4
        have ef4 := s4 _ _ ef
        have eg4 := s4 _ _ eg3
        have kids4 : KidsAt doc i as (upd H3 t (.tup [.int (i : Nat), vO (lawPar doc i)])) := fun j a h => s4 _ _ (kids j a h)
        generalize upd H3 t (.tup [.int (i : Nat), vO (lawPar doc i)]) = H4 at s04 ef4 eg4 kids4
        have par_in : ∀ j, lawPar doc i = some j → j < doc.length := fun j e => by
          have := par_lt e
          omega
        have rest : ∀ (m : Nat), m = ixO doc.length (lawPar doc i) → rIxL K (.ref g) (.int (m : Nat)) H4 fun v H5 => (tDrop (tBM K "list" rAppend (tVar 4) (tCons (tVar 1) tNil)))
            { nx := fun σ H' => i + 1 ≤ doc.length ∧ Same H H' ∧ H' f = some (.lst (parV doc)) ∧ H' g = some (.lst (as.map V.ref)) ∧ KidsAt doc (i + 1) as H' ∧ ∃ b c d : Option V, σ = [some (.ref p), b, some (.ref g), c, d], rt := Q }
            [some (.ref p), some (.int (i : Nat)), some (.ref g), some (vO (lawPar doc i)), some v] H5 := by
          rintro m hm
          have ml : m < as.length := by
            rw [al', hm]
            cases e : lawPar doc i with
            | none => exact Nat.lt_succ_self _
            | some j => have := par_in j e; exact Nat.lt_succ_of_lt this
          have ha : as[m]? = some as[m] := List.getElem?_eq_getElem ml
          have mem : as[m] ∈ as := List.getElem_mem ml
          have hav : (as.map V.ref)[m]? = some (V.ref as[m]) := by rw [List.getElem?_map, ha]; rfl
          have km : kO doc.length m = lawPar doc i := kO_at par_in hm
          have row := kids4 m _ ha
          rw [km] at row
          refine ⟨g, _, _, _, rfl, rfl, SqL.of eg4, atI_nat hav, ?_⟩
          refine ⟨_, rfl, .inl ⟨rfl, _, SqL.of row⟩, _, rfl, as[m], _, _, rfl, rfl, row, ?_, lt, ?_⟩
          · have := rowA_len doc i (lawPar doc i)
            unfold nV
            rw [List.length_map]
            omega
          refine ⟨fun b o e => ?_, ?_, ?_, fun j a h => ?_, _, _, _, rfl⟩
          · rw [upd_ne (ne_of_none e (fr _ mem).1)]
            exact s04 b o e
          · rw [upd_ne (fas _ mem).symm]
            exact ef4
          · rw [upd_ne (gas _ mem).symm]
            exact eg4
          · by_cases e : j = m
            · subst e
              have : as[j] = a := by rw [ha] at h; exact Option.some.inj h
              subst this
              rw [upd_same, rowA_succ, km, if_pos rfl]
              unfold nV
              rw [List.map_append]
              rfl
            · have na : a ≠ as[m] := fun z => by
                obtain ⟨jl, q⟩ := List.getElem?_eq_some_iff.mp h
                exact e ((List.getElem_inj nd).mp (q.trans z))
              have ne : ¬ lawPar doc i = kO doc.length j := fun z => by
                rw [← km] at z
                have jl := (List.getElem?_eq_some_iff.mp h).1
                unfold kO at z
                split at z <;> split at z
                · omega
                · cases z
                · cases z
                · injection z with z
                  omega
              rw [upd_ne na, rowA_succ, if_neg ne, List.append_nil]
              exact kids4 j a h
        refine ⟨_, rfl, _, rfl, _, rfl, ?_⟩
        cases e : lawPar doc i with
        | none =>
          rw [e] at rest
          refine iteT ⟨_, rfl, p, ws, rfl, .inr (SqT.of (s04 _ _ ews)), ?_⟩
          have := rest ws.length (by rw [len]; rfl)
          exact this
        | some j =>
          rw [e] at rest
          refine iteF ⟨_, rfl, ?_⟩
          exact rest j rfl
      · rintro σ H' ⟨il, s3, ef, eg3, kids, b, c, d, rfl⟩
        rw [parV_len] at kids
        exact ⟨_, rfl, k H' g as s3 hg al' eg3 kids⟩
end

/-! ### a document for repr -/
def docD (doc : Doc) : PyData := .tuple (doc.map fun e => .tuple [.str ⟨#[e.1]⟩, .int (e.2 : Nat)])
theorem one_mark {c : Nat} (h0 : 97 ≤ c) (h1 : c ≤ 104) : (reprText ⟨#[c]⟩).length ≤ 10 := by
  obtain ⟨k, rfl⟩ : ∃ k, c = 97 + k := ⟨c - 97, by omega⟩
  have hk : k < 8 := by omega
  match k, hk with
  | 0, _ => decide +kernel
  | 1, _ => decide +kernel
  | 2, _ => decide +kernel
  | 3, _ => decide +kernel
  | 4, _ => decide +kernel
  | 5, _ => decide +kernel
  | 6, _ => decide +kernel
  | 7, _ => decide +kernel
  | n + 8, h => exact absurd h (by omega)
def entD (e : Nat × Nat) : PyData := .tuple [.str ⟨#[e.1]⟩, .int (e.2 : Nat)]
theorem ents_dp {K : PySem.W.Frag} {H : Hp} : ∀ {vs : List V} {doc : Doc}, EntsAt H vs doc → DpAll K H vs (doc.map entD)
  | _, _, .nil => .nil
  | _, _, .cons h t => by
    obtain ⟨r, rfl, e⟩ := h
    exact .cons (.tup (SqT.of e) (.cons (.str _) (.cons (.int _) .nil))) (ents_dp t)
theorem docs_show : ∀ {m : Nat} {doc : Doc}, okFrom m doc → m + doc.length < 1000000 → PyData.showableAll (doc.map entD) = true
  | _, [], _, _ => by simp [PyData.showableAll]
  | m, (c, d) :: r, h, l => by
    have hd := h.2.2.1
    have l2 : m + (r.length + 1) < 1000000 := l
    have ih := docs_show h.2.2.2 (by omega)
    have z := log_small (show d < 1000000 by omega)
    simp [PyData.showableAll, entD, PyData.showable, ih, z]
theorem docs_plain : ∀ doc : Doc, PyData.hasDictAll (doc.map entD) = false
  | [] => by simp [PyData.hasDictAll]
  | e :: r => by simp [PyData.hasDictAll, entD, PyData.hasDict, docs_plain r]
theorem docs_deep : ∀ doc : Doc, PyData.depthAll (doc.map entD) ≤ 1
  | [] => by simp [PyData.depthAll]
  | e :: r => by
    have := docs_deep r
    simp [PyData.depthAll, entD, PyData.depth]
    omega
theorem docs_most : ∀ {m : Nat} {doc : Doc}, okFrom m doc → mostAll (doc.map entD) ≤ 2030 * doc.length
  | _, [], _ => Nat.zero_le _
  | m, (c, d) :: r, h => by
    have ih := docs_most h.2.2.2
    have y := one_mark h.1 h.2.1
    show (((reprText ⟨#[c]⟩).length + 2 + (2000 + 2 + 0)) + 4) + 2 + mostAll (r.map entD) ≤ 2030 * (r.length + 1)
    omega
theorem told_doc {K : PySem.W.Frag} {H : Hp} {p : Addr} {doc : Doc} (h : DocAt H p doc) (ok : okFrom 0 doc) (hl : doc.length ≤ 1000) : Told K H (.ref p) (docD doc) := by
  obtain ⟨vs, e, q⟩ := h
  exact {
    at_ := .tup (SqT.of e) (ents_dp q)
    show_ := by
      have := docs_show ok (by omega)
      show PyData.showable (.tuple (doc.map entD)) = true
      simpa [PyData.showable] using this
    plain := by
      show PyData.hasDict (.tuple (doc.map entD)) = false
      simpa [PyData.hasDict] using docs_plain doc
    deep := by
      have := docs_deep doc
      show PyData.depth (.tuple (doc.map entD)) ≤ 20
      simp [PyData.depth]
      omega
    short := by
      have := docs_most ok
      show mostAll (doc.map entD) + 4 ≤ 16000000
      omega }

/-! ### any object, as far as documents and edits look at it -/
inductive PD where
  | non | bl (b : Bool) | int (i : Int) | str (z : Str) | tup (ds : List PD) | oth
mutual
inductive Rep (K : PySem.W.Frag) (H : Hp) : V → PD → Prop
  | non : Rep K H .non .non
  | bl (b : Bool) : Rep K H (.bl b) (.bl b)
  | int (i : Int) : Rep K H (.int i) (.int i)
  | str (z : Str) (hz : z.length ≤ 1000) : Rep K H (.str z) (.str z)
  | tup {a : Addr} {xs : List V} {ds : List PD} : H a = some (.tup xs) → Reps K H xs ds → Rep K H (.ref a) (.tup ds)
  | oth {a : Addr} {T : String} : Any K H (.ref a) T → (T == "tuple") = false → (∀ xs, H a ≠ some (.tup xs)) → Rep K H (.ref a) .oth
inductive Reps (K : PySem.W.Frag) (H : Hp) : List V → List PD → Prop
  | nil : Reps K H [] []
  | cons {v : V} {vs : List V} {d : PD} {ds : List PD} : Rep K H v d → Reps K H vs ds → Reps K H (v :: vs) (d :: ds)
end
def tyP : PD → String
  | .non => "NoneType" | .bl _ => "bool" | .int _ => "int" | .str _ => "str" | .tup _ => "tuple" | .oth => "list"
theorem Rep.any {K : PySem.W.Frag} {H : Hp} {v : V} {d : PD} (h : Rep K H v d) : ∃ T, Any K H v T ∧ (T == "tuple") = (match d with | .tup _ => true | _ => false) ∧ (T == "str") = (match d with | .str _ => true | _ => false) := by
  cases h with
  | non => exact ⟨_, .non, rfl, rfl⟩
  | bl b => exact ⟨_, .bl b, rfl, rfl⟩
  | int i => exact ⟨_, .int i, rfl, rfl⟩
  | str z _ => exact ⟨_, .str z, rfl, rfl⟩
  | tup e _ => exact ⟨_, .tup (SqT.of e), rfl, rfl⟩
  | oth a n _ =>
    refine ⟨_, a, n, ?_⟩
    cases a <;> rfl
def numP : PD → Bool
  | .int i => decide (0 ≤ i)
  | _ => false
def markP : PD → Bool
  | .str z => decide (z ∈ markTexts)
  | _ => false
theorem Rep.num {K : PySem.W.Frag} {H : Hp} {v : V} {d : PD} (h : Rep K H v d) : numberV v = numP d := by cases h <;> rfl
theorem Rep.mark {K : PySem.W.Frag} {H : Hp} {v : V} {d : PD} (h : Rep K H v d) : markV v = markP d := by cases h <;> rfl
theorem Reps.len {K : PySem.W.Frag} {H : Hp} : ∀ {vs : List V} {ds : List PD}, Reps K H vs ds → vs.length = ds.length
  | _, _, .nil => rfl
  | _, _, .cons _ t => congrArg (· + 1) t.len
theorem Reps.at_ {K : PySem.W.Frag} {H : Hp} : ∀ {vs : List V} {ds : List PD} {i : Nat} {v : V}, Reps K H vs ds → vs[i]? = some v → ∃ d, ds[i]? = some d ∧ Rep K H v d
  | _, _, _, _, .nil, e => by simp at e
  | _, _, 0, _, .cons r _, e => by simp at e; subst e; exact ⟨_, rfl, r⟩
  | _, _, i + 1, v, .cons _ t, e => by
    obtain ⟨d, h1, h2⟩ := t.at_ (i := i) (v := v) (by simpa using e)
    exact ⟨d, by simpa using h1, h2⟩
/-- what is said of an entry of a document: its depth, if it is one -/
def entP : PD → Option Int
  | .tup [m, n] => if markP m = true then (match n with | .int i => if 0 ≤ i then some i else none | _ => none) else none
  | _ => none
def docFrom : Int → List PD → Bool
  | _, [] => true
  | m, e :: r => match entP e with
    | none => false
    | some i => if m < i then false else docFrom (i + 1) r
def docP : PD → Bool
  | .tup ds => decide (ds.length ≤ 20000) && docFrom 0 ds
  | _ => false
def spEntryG (K : PySem.W.Frag) : Sp := fun vs H Q _ => ∃ (v : V) (d : PD), vs = [v] ∧ Rep K H v d ∧ Q (.bl (entP d).isSome) H
def spIsDocG (K : PySem.W.Frag) : Sp := fun vs H Q _ => ∃ (v : V) (d : PD), vs = [v] ∧ Rep K H v d ∧ Q (.bl (docP d)) H
theorem Rep.tupOf {K : PySem.W.Frag} {H : Hp} {v : V} {ds : List PD} (h : Rep K H v (.tup ds)) : ∃ a xs, v = .ref a ∧ H a = some (.tup xs) ∧ Reps K H xs ds := by
  cases h with
  | tup e q => exact ⟨_, _, rfl, e, q⟩
theorem reps2 {K : PySem.W.Frag} {H : Hp} {xs : List V} {a b : PD} (h : Reps K H xs [a, b]) : ∃ x y, xs = [x, y] ∧ Rep K H x a ∧ Rep K H y b := by
  cases h with
  | cons h1 t => cases t with
    | cons h2 t2 => cases t2; exact ⟨_, _, rfl, h1, h2⟩
section
variable {P : Program} {w : World} {K : PySem.W.Frag} {mg : Str → Option Value} {base : Heap}
theorem ent_shape {d : PD} {i : Int} (h : entP d = some i) : ∃ m, d = .tup [m, .int i] ∧ markP m = true ∧ 0 ≤ i := by
  match d, h with
  | .tup [m, n], h =>
    have h' : (if markP m = true then (match n with | .int i => if 0 ≤ i then some i else none | _ => none) else none) = some i := h
    by_cases c : markP m = true
    · rw [if_pos c] at h'
      cases n with
      | int j =>
        have h2 : (if 0 ≤ j then some j else none) = some i := h'
        by_cases q : 0 ≤ j
        · rw [if_pos q] at h2
          cases h2
          exact ⟨m, rfl, c, q⟩
        · rw [if_neg q] at h2
          cases h2
      | _ => cases h'
    · rw [if_neg c] at h'
      cases h'
theorem docFrom_drop {m : Int} {ds : List PD} {i : Nat} {d : PD} (h : ds[i]? = some d) : docFrom m (ds.drop i) = match entP d with | none => false | some x => if m < x then false else docFrom (x + 1) (ds.drop (i + 1)) := by
  obtain ⟨lt, rfl⟩ := List.getElem?_eq_some_iff.mp h
  rw [List.drop_eq_getElem_cons lt]
  rfl
end

/-! ### layers of readings -/
theorem noPart {σ : L2.St} {H : Hp} {Q : Option Int → Hp → Prop} (h : Q none H) : tNoPart σ H Q := h
theorem cIn {v : V} {σ : L2.St} {H : Hp} {Q : VK} (h : Q v H) : tC v σ H Q := h
theorem consC {v : V} {rest : L2.St → Hp → (List V → Hp → Prop) → Prop} {σ : L2.St} {H : Hp} {Q : List V → Hp → Prop} (h : rest σ H fun xs H2 => Q (v :: xs) H2) : tCons (tC v) rest σ H Q := h
theorem nilA {σ : L2.St} {H : Hp} {Q : List V → Hp → Prop} (h : Q [] H) : tNil σ H Q := h
theorem lst_of {t : TA} {σ : L2.St} {H : Hp} {Q : VK} (h : t σ H fun xs H1 => xs.length ≤ sizeLine ∧ ∀ p, H1 p = none → Q (.ref p) (upd H1 p (.lst xs))) : tLst t σ H Q := h
theorem tup_of {t : TA} {σ : L2.St} {H : Hp} {Q : VK} (h : t σ H fun xs H1 => xs.length ≤ sizeLine ∧ ∀ p, H1 p = none → Q (.ref p) (upd H1 p (.tup xs))) : tTup t σ H Q := h
theorem consI {te : TE} {r : TA} {σ : L2.St} {H : Hp} {Q : List V → Hp → Prop} (h : te σ H fun x H1 => r σ H1 fun xs H2 => Q (x :: xs) H2) : tCons te r σ H Q := h
theorem cbI {r : List V → Hp → VK → Prop} {t : TA} {σ : L2.St} {H : Hp} {Q : VK} (h : t σ H fun vs H1 => r vs H1 Q) : tCB r t σ H Q := h
theorem seq_of {te : TE} {g : TG} {rest : TS} {D : Ends} {σ : L2.St} {H : Hp} (h : te σ H fun v H1 => g v σ H1 fun σ2 H2 => rest D σ2 H2) : tSeq (tAsg te g) rest D σ H := h
theorem opC {v : V} {r : R2} {tb : TE} {σ : L2.St} {H : Hp} {Q : VK} (h : tb σ H fun y H2 => r v y H2 Q) : tOp r (tC v) tb σ H Q := h
theorem opI {r : R2} {ta tb : TE} {σ : L2.St} {H : Hp} {Q : VK} (h : ta σ H fun x H1 => tb σ H1 fun y H2 => r x y H2 Q) : tOp r ta tb σ H Q := h
theorem asg_of {te : TE} {g : TG} {D : Ends} {σ : L2.St} {H : Hp} (h : te σ H fun v H1 => g v σ H1 D.nx) : tAsg te g D σ H := h
theorem ret_of {te : TE} {D : Ends} {σ : L2.St} {H : Hp} (h : te σ H D.rt) : tRet te D σ H := h
theorem next_of {D : Ends} {σ : L2.St} {H : Hp} (h : D.nx σ H) : tNext D σ H := h
theorem consV {te : TE} {r : TA} {σ : L2.St} {H : Hp} {Q : List V → Hp → Prop} (v : V) (hv : ∀ Q : VK, (∀ H', Same H H' → Q v H') → te σ H Q) (h : ∀ H', Same H H' → r σ H' fun xs H2 => Q (v :: xs) H2) : tCons te r σ H Q := hv _ h
theorem seq_val {te : TE} {g : TG} {rest : TS} {D : Ends} {σ : L2.St} {H : Hp} (v : V) (hv : ∀ Q : VK, Q v H → te σ H Q) (h : g v σ H fun σ2 H2 => rest D σ2 H2) : tSeq (tAsg te g) rest D σ H := seq_of (hv _ h)
theorem same_wr {H H1 : Hp} {x : Addr} {o : HO} (s : Same H H1) (n : H x = none) : Same H (upd H1 x o) := fun b u e => by rw [upd_ne (ne_of_none e n)]; exact s b u e
theorem tif_isN {t1 t2 : TE} {σ : L2.St} {H : Hp} {Q : VK} {i : Nat} {o : Option Nat} (h : σ[i]? = some (some (vO o))) (h1 : o = none → t1 σ H Q) (h2 : ∀ j, o = some j → t2 σ H Q) : tIf (tB (tIsN (tVar i))) t1 t2 σ H Q := by
  refine ⟨_, h, _, rfl, ?_⟩
  cases o with
  | none => exact iteT (h1 rfl)
  | some j => exact iteF (h2 j rfl)
theorem nV_len (l : List Nat) : (nV l).length = l.length := by unfold nV; rw [List.length_map]
theorem nV_at {l : List Nat} {j : Nat} {v : V} (h : (nV l)[j]? = some v) : ∃ n, l[j]? = some n ∧ v = .int (n : Nat) := by
  unfold nV at h
  rw [List.getElem?_map] at h
  cases e : l[j]? with
  | none => rw [e] at h; cases h
  | some n => rw [e] at h; exact ⟨n, rfl, (Option.some.inj h).symm⟩

/-! ### BadText, which keeps a place -/
open NdefX in
abbrev sBInit : Stmt := inClass sCBad 0
def NFB (cc c : Addr) : NdefX.NF := ⟨"__init__", "BadText.__init__", defArgs sBInit, defBody sBInit, defScope sBInit, [(("__class__" : Str), cc)], c⟩
structure Bt (P : Program) (K : PySem.W.Frag) (mg : Str → Option Value) where
  C : Addr
  g : mg "BadText" = some (.ref C)
  fI : Addr
  cc : Addr
  c : Addr
  doc : Value
  pm : Value
  ctv : Value
  iC : PySem.W.findIn K (.ref C) "__init__" = some (some (.ref fI))
  tI : PySem.W.typeIn K (.ref fI) = some (.type "function")
  Z : SupF P K mg (NFB cc c) fI cc C doc pm ctv
  no : PySem.W.findIn K (.ref C) "place" = some none
  X : XfC K C
  es : PySem.W.exmOne K (.ref C) (.ref C) = some true
/-- what such an error is made of: its class, its dict -/
def BtAt (C : Addr) (H H' : Hp) (d : Option Addr) (n : Int) : Prop := ∃ dx, d = some dx ∧ H dx = none ∧ H' dx = some (.xd [("place", .int n)]) ∧ Same H H'
def spBInit (C : Addr) : Sp := fun vs H Q _ => ∃ (a : Addr) (n : Int), vs = [.ref a, .int n] ∧ n.natAbs.log2 < 1900 ∧ H a = some (exo a C none) ∧ ∀ dx, H dx = none → dx ≠ a → Q .non (upd (upd H dx (exd dx [("place", .int n)])) a (exo a C (some dx)))
section
variable {P : Program} {w : World} {K : PySem.W.Frag} {mg : Str → Option Value} {base : Heap}
theorem ok_binit {CX : CXT} (B : Bt P K mg) : FnOk P w K mg base CX 1 B.fI ((NFB B.cc B.c).fd B.doc B.pm B.ctv) ["self", "place"] (spBInit B.C) := by
  have S : NdefX.NScope ["self", "place", "__class__"] ["self", "place"] ["__class__"] (NFB B.cc B.c).scope := NdefX.nscope_by (show NdefX.nscB ["self", "place", "__class__"] ["self", "place"] ["__class__"] (defScope sBInit) = true by decide +kernel)
  refine fn_ofS (k := 0) B.Z S rfl rfl rfl rfl rfl rfl (fun vs H Q E h => ?_) (fun A outer s H vs Q E hr h => ?_)
  · obtain ⟨a, n, rfl, _⟩ := h
    rfl
  · obtain ⟨a, n, rfl, hn, ea, k⟩ := h
    refine ⟨a, _, _, rfl, ea, pa_cons (pe_joined (.cons pe_str (.cons (pe_fmt (pv 1)) .nil))) pa_nil, pss_cons (ps_ost (f := "place") (pv 0) (pv 1)) pss_nil, ?_⟩
    have line : 100000 ≤ sizeLine := by decide
    refine consI ⟨_, rfl, ?_, ⟨_, rfl, .inr ⟨n, rfl, by omega, ⟨_, rfl, ?_, ?_⟩⟩⟩⟩
    · show (Str.empty ++ ("the text cannot go on at " : Str)).length ≤ sizeLine
      exact Nat.le_trans (show _ ≤ 100000 by decide +kernel) line
    · have h1 : (Str.empty ++ ("the text cannot go on at " : Str)).length ≤ 100 := by decide +kernel
      have h2 := PyProof.Rows.int_text_len_1921 (i := n) (by omega)
      rw [Str.length_append]
      show _ + (PySem.Str.ofString (toString n)).length ≤ sizeLine
      omega
    refine ⟨by show 1 ≤ 1000; decide, ea, ?_⟩
    refine ⟨_, rfl, ⟨_, rfl, a, B.C, rfl, B.Z.T, B.no, .inl ⟨ea, fun dx h1 h2 => k dx h1 h2⟩⟩⟩
end
section
variable {X : Cx}
theorem ps_bt {Wx : WX} {e : Expr} {te : TE} {p pos pos2 : Pos} {jj : Nat} (B : Bt X.prog X.K X.mg) (hb : Binds X.K ((NFB B.cc B.c).fd B.doc B.pm B.ctv) ["self", "place"] []) (hr : Room jj X.A) (tk : Takes X Wx) (he : PE X e te) (lj : 2 ≤ jj := by decide) (hc : X.calm = true := by rfl) (hg : Gl X "BadText" := by rfl)
    (hs : starEach (e :: []) X.env = (false, eval e X.env) :: starEach [] X.env := by rfl) (hpl : (backTo pos (starEach [] X.env)).any (·.1) = false := by rfl) :
    PS X (.Raise (some (.Call (.Name "BadText" p) [e] [] pos)) none pos2) (fun _ σ H => tMkO B.C (spBInit B.C) [] (tCons te tNil) σ H fun cls d H' => Wx cls d σ H') := by
  have F1 : FnOk X.prog X.w X.K X.mg X.base CX0 1 B.fI ((NFB B.cc B.c).fd B.doc B.pm B.ctv) ["self", "place"] (spBInit B.C) := ok_binit B
  exact ps_raise (pos := pos2) hc tk (pmk_oex (p := p) (pos := pos) B.Z.T B.iC B.tI F1 (hr.mono lj) hb .nil pass0 hg B.g (pa_cons he pa_nil hs) (by decide) hs hpl)
end
theorem bt_of {C : Addr} {te : TE} {σ : L2.St} {H : Hp} {n : Int} {Q : XK} (hv : ∀ R : VK, R (.int n) H → te σ H R) (hn : n.natAbs.log2 < 1900) (k : ∀ d H2, BtAt C H H2 (some d) n → Q (.ref C) (some d) H2) : tMkO C (spBInit C) [] (tCons te tNil) σ H Q := by
  refine consI (hv _ (nilA ⟨by show 1 ≤ 1000; decide, fun a ha => ⟨a, n, rfl, hn, upd_same, fun dx h1 h2 => ⟨rfl, dx, [("place", .int n)], upd_same, ?_, ?_, ?_⟩⟩⟩))
  · rw [upd_ne h2, upd_same]
  · rw [upd_ne h2] at h1
    exact h1
  · have hd : H dx = none := by
      rw [upd_ne h2] at h1
      exact h1
    refine k dx _ ⟨dx, rfl, hd, upd_same, fun b o e => ?_⟩
    have b1 : b ≠ a := fun z => by rw [z, ha] at e; cases e
    have b2 : b ≠ dx := fun z => by rw [z, hd] at e; cases e
    rw [upd_ne b2, del_ne b1, upd_ne b1, upd_ne b2, upd_ne b1]
    exact e

/-! ### read_document of anything -/
def mkC (c : Nat) : Bool := decide (97 ≤ c ∧ c ≤ 104)
def openI (l : List Nat) : Int := ((l.filter fun x => decide (x = 40)).length : Int) - ((l.filter fun x => decide (x = 41)).length : Int)
def ahC (p : List Nat) : Nat := p.getLast?.getD 32
def awC (p : List Nat) : Bool := decide (ahC p = 32 ∨ ahC p = 40)
def okS (p : List Nat) (c : Nat) : Bool := (if awC p = true then mkC c else if ahC p = 41 then decide (c = 32 ∨ c = 41) else decide (c = 40 ∨ c = 41 ∨ c = 32)) && !decide (c = 41 ∧ openI p = 0)
def fwC : List Nat → List Nat → Option Nat
  | p, [] => if p ≠ [] ∧ (awC p = true ∨ 0 < openI p) then some p.length else none
  | p, c :: r => if okS p c = true then fwC (p ++ [c]) r else some p.length
def docC : List Nat → List Nat → Doc
  | _, [] => []
  | p, c :: r => (if mkC c = true then [(c, (openI p).toNat)] else []) ++ docC (p ++ [c]) r
theorem ah_snoc (p : List Nat) (c : Nat) : ahC (p ++ [c]) = c := by
  unfold ahC
  rw [List.getLast?_append]
  rfl
theorem open_snoc (p : List Nat) (c : Nat) : openI (p ++ [c]) = openI p + (if c = 40 then 1 else 0) - (if c = 41 then 1 else 0) := by
  unfold openI
  rw [List.filter_append, List.filter_append, List.length_append, List.length_append]
  by_cases h0 : c = 40
  · subst h0
    simp
    omega
  · by_cases h1 : c = 41
    · subst h1
      simp
      omega
    · simp [h0, h1]
theorem aw_snoc (p : List Nat) (c : Nat) : awC (p ++ [c]) = decide (c = 32 ∨ c = 40) := by
  unfold awC
  rw [ah_snoc]
theorem mark_char : ∀ z ∈ markTexts, ∃ c : Nat, z = ⟨#[c]⟩ ∧ 97 ≤ c ∧ c ≤ 104 := by
  intro z hz
  simp only [markTexts, List.mem_cons, List.not_mem_nil, or_false] at hz
  rcases hz with e | e | e | e | e | e | e | e <;> subst e
  · exact ⟨97, by decide +kernel, by decide, by decide⟩
  · exact ⟨98, by decide +kernel, by decide, by decide⟩
  · exact ⟨99, by decide +kernel, by decide, by decide⟩
  · exact ⟨100, by decide +kernel, by decide, by decide⟩
  · exact ⟨101, by decide +kernel, by decide, by decide⟩
  · exact ⟨102, by decide +kernel, by decide, by decide⟩
  · exact ⟨103, by decide +kernel, by decide, by decide⟩
  · exact ⟨104, by decide +kernel, by decide, by decide⟩
theorem mark_no {c : Nat} (h : mkC c = false) : markV (.str ⟨#[c]⟩) = false := by
  refine decide_eq_false fun z => ?_
  obtain ⟨d, e, h0, h1⟩ := mark_char _ z
  injection e with e
  have e2 : [c] = [d] := congrArg Array.toList e
  injection e2 with e3
  subst e3
  exact of_decide_eq_false h ⟨h0, h1⟩
theorem mark_is (c : Nat) : markV (.str ⟨#[c]⟩) = mkC c := by
  cases h : mkC c with
  | true =>
    have := of_decide_eq_true h
    exact mark_ok this.1 this.2
  | false => exact mark_no h
theorem ok_a {p : List Nat} {c : Nat} (a : awC p = true) (m : mkC c = true) : okS p c = true := by
  unfold okS
  rw [if_pos a, m]
  have : ¬ (c = 41 ∧ openI p = 0) := fun z => by
    rw [z.1] at m
    exact absurd m (by decide)
  rw [decide_eq_false this]
  rfl
theorem no_a {p : List Nat} {c : Nat} (a : awC p = true) (m : mkC c = false) : okS p c = false := by
  unfold okS
  rw [if_pos a, m]
  rfl
theorem no_m {p : List Nat} {c : Nat} (a : awC p = false) (m : mkC c = true) : okS p c = false := by
  have m := of_decide_eq_true m
  unfold okS
  rw [if_neg (by rw [a]; decide)]
  by_cases h : ahC p = 41
  · rw [if_pos h, decide_eq_false (by omega)]
    rfl
  · rw [if_neg h, decide_eq_false (by omega)]
    rfl
theorem ok_close {p : List Nat} (a : awC p = false) (d : openI p ≠ 0) : okS p 41 = true := by
  unfold okS
  have e : decide ((41 : Nat) = 41 ∧ openI p = 0) = false := decide_eq_false (fun z => d z.2)
  rw [if_neg (by rw [a]; decide), e]
  by_cases h : ahC p = 41
  · rw [if_pos h]
    rfl
  · rw [if_neg h]
    rfl
theorem no_close {p : List Nat} (d : openI p = 0) : okS p 41 = false := by
  unfold okS
  have e : decide ((41 : Nat) = 41 ∧ openI p = 0) = true := decide_eq_true ⟨rfl, d⟩
  rw [e, Bool.not_true, Bool.and_false]
theorem ok_opens {p : List Nat} (a : awC p = false) (h : ahC p ≠ 41) : okS p 40 = true := by
  unfold okS
  rw [if_neg (by rw [a]; decide), if_neg h]
  rfl
theorem no_opens {p : List Nat} (a : awC p = false) (h : ahC p = 41) : okS p 40 = false := by
  unfold okS
  rw [if_neg (by rw [a]; decide), if_pos h]
  rfl
theorem ok_blank {p : List Nat} (a : awC p = false) : okS p 32 = true := by
  unfold okS
  rw [if_neg (by rw [a]; decide)]
  by_cases h : ahC p = 41
  · rw [if_pos h]
    rfl
  · rw [if_neg h]
    rfl
theorem no_other {p : List Nat} {c : Nat} (a : awC p = false) (h0 : c ≠ 40) (h1 : c ≠ 41) (h2 : c ≠ 32) : okS p c = false := by
  unfold okS
  rw [if_neg (by rw [a]; decide)]
  by_cases h : ahC p = 41
  · rw [if_pos h, decide_eq_false (by omega)]
    rfl
  · rw [if_neg h, decide_eq_false (by omega)]
    rfl
theorem cut_at {T : List Nat} {i c : Nat} (h : T[i]? = some c) : T.drop i = c :: T.drop (i + 1) ∧ T.take (i + 1) = T.take i ++ [c] ∧ (T.take i).length = i := by
  obtain ⟨lt, rfl⟩ := List.getElem?_eq_some_iff.mp h
  exact ⟨List.drop_eq_getElem_cons lt, (List.take_append_getElem lt).symm ▸ rfl, by rw [List.length_take]; omega⟩
/-- nothing wrong ahead of i -/
structure RdAt (T : List Nat) (i : Nat) (pre : Doc) (dp : Nat) : Prop where
  fw : fwC [] T = fwC (T.take i) (T.drop i)
  doc : pre ++ docC (T.take i) (T.drop i) = docC [] T
  op : openI (T.take i) = (dp : Nat)
theorem RdAt.zero (T : List Nat) : RdAt T 0 [] 0 := ⟨rfl, rfl, rfl⟩
theorem RdAt.bad {T : List Nat} {i c : Nat} {pre : Doc} {dp : Nat} (r : RdAt T i pre dp) (h : T[i]? = some c) (n : okS (T.take i) c = false) : fwC [] T = some i := by
  obtain ⟨e1, e2, e3⟩ := cut_at h
  rw [r.fw, e1]
  unfold fwC
  rw [n, if_neg Bool.false_ne_true, e3]
theorem RdAt.next {T : List Nat} {i c : Nat} {pre : Doc} {dp dp' : Nat} (r : RdAt T i pre dp) (h : T[i]? = some c) (k : okS (T.take i) c = true) (m : mkC c = false) (e : (dp : Int) + (if c = 40 then 1 else 0) - (if c = 41 then 1 else 0) = (dp' : Nat)) : RdAt T (i + 1) pre dp' := by
  obtain ⟨e1, e2, e3⟩ := cut_at h
  refine ⟨?_, ?_, ?_⟩
  · rw [r.fw, e1, e2]
    show (if okS (T.take i) c = true then _ else _) = _
    rw [if_pos k]
  · rw [← r.doc, e1, e2]
    show _ = pre ++ ((if mkC c = true then _ else []) ++ _)
    rw [if_neg (by rw [m]; decide)]
    rfl
  · rw [e2, open_snoc, r.op, e]
theorem RdAt.mark {T : List Nat} {i c : Nat} {pre : Doc} {dp : Nat} (r : RdAt T i pre dp) (h : T[i]? = some c) (a : awC (T.take i) = true) (m : mkC c = true) : RdAt T (i + 1) (pre ++ [(c, dp)]) dp := by
  obtain ⟨e1, e2, e3⟩ := cut_at h
  have mm := of_decide_eq_true m
  refine ⟨?_, ?_, ?_⟩
  · rw [r.fw, e1, e2]
    show (if okS (T.take i) c = true then _ else _) = _
    rw [if_pos (ok_a a m)]
  · rw [← r.doc, e1, e2]
    show _ = pre ++ ((if mkC c = true then [(c, (openI (T.take i)).toNat)] else []) ++ _)
    rw [if_pos m, r.op, Int.toNat_natCast, List.append_assoc]
  · rw [e2, open_snoc, r.op, if_neg (by omega), if_neg (by omega)]
    omega
theorem BtAt.back {C : Addr} {H H1 H' : Hp} {d : Option Addr} {n : Int} (s : Same H H1) (b : BtAt C H1 H' d n) : BtAt C H H' d n := by
  obtain ⟨dx, e, h1, h2, h3⟩ := b
  exact ⟨dx, e, s.free h1, h2, s.trans h3⟩

def spRead (K : PySem.W.Frag) (C : Addr) : Sp := fun vs H Q E =>
  (∃ T : List Nat, vs = [.str (sT T)] ∧ T.length ≤ 1000 ∧ (∀ p : Nat, fwC [] T = some p → ∀ d H', BtAt C H H' (some d) (p : Nat) → E (.ref C) (some d) H') ∧ (fwC [] T = none → ∀ H' q, Same H H' → H q = none → DocAt H' q (docC [] T) → Q (.ref q) H')) ∨
  (∃ v ty, vs = [v] ∧ Any K H v ty ∧ ty ≠ "str" ∧ ∀ d H', BtAt C H H' (some d) 0 → E (.ref C) (some d) H')
def blankV (c : Nat) : Bool := inV (.str ⟨#[c]⟩) [V.str "(", V.str " "]
theorem blankV_is (c : Nat) : blankV c = decide (c = 32 ∨ c = 40) := by
  have e : ∀ d : Nat, eqV (.str ⟨#[d]⟩) (.str ⟨#[c]⟩) = decide (d = c) := fun d => by
    show decide _ = _
    by_cases h : d = c
    · subst h
      rw [decide_eq_true rfl, decide_eq_true rfl]
    · rw [decide_eq_false h, decide_eq_false fun z => ?_]
      injection z with z
      have z2 : [d] = [c] := congrArg Array.toList z
      injection z2 with z3
      exact h z3
  show ([V.str ⟨#[40]⟩, V.str ⟨#[32]⟩].any fun y => eqV y (.str ⟨#[c]⟩)) = _
  rw [List.any_cons, List.any_cons, List.any_nil, e, e, Bool.or_false]
  by_cases h : c = 32
  · subst h; rfl
  · by_cases h2 : c = 40
    · subst h2; rfl
    · rw [decide_eq_false (fun z => h2 z.symm), decide_eq_false (fun z => h z.symm), decide_eq_false (by omega)]
      rfl
theorem walk_enumS {z : Str} : Walk (ItS z) z.cps.size (fun _ => True) (fun i H v H' => ∃ T c, v = .ref T ∧ H T = none ∧ H' = upd H T (.tup [.int (i : Nat), .str ⟨#[c]⟩]) ∧ z.cps[i]? = some c) :=
  ⟨fun _ _ hi _ => hi, fun _ _ => Nat.le_refl _, fun _ _ _ _ _ _ y => y⟩
def RdG (T : List Nat) (H : Hp) (f : Addr) (i : Nat) (aw : Bool) (σ : L2.St) (H' : Hp) : Prop := ∃ (vs : List V) (pre : Doc) (dp : Nat) (a b : Option V),
  σ = [some (.str (sT T)), some (.ref f), some (.int (dp : Nat)), some (.bl aw), a, b, none] ∧ Same H H' ∧ H' f = some (.lst vs) ∧ EntsAt H' vs pre ∧ pre.length ≤ i ∧ RdAt T i pre dp
def RdM (T : List Nat) (H : Hp) (f : Addr) (i ch : Nat) (aw : Bool) (σ : L2.St) (H' : Hp) : Prop := ∃ (vs : List V) (pre : Doc) (dp : Nat),
  σ = [some (.str (sT T)), some (.ref f), some (.int (dp : Nat)), some (.bl aw), some (.int (i : Nat)), some (.str ⟨#[ch]⟩), none] ∧ Same H H' ∧ H' f = some (.lst vs) ∧ EntsAt H' vs pre ∧ pre.length ≤ i + 1 ∧ RdAt T (i + 1) pre dp
theorem one_of {b : Bool} (h : b = true → False) : b = false := by cases b with | true => exact (h rfl).elim | false => rfl
theorem chr_eq (c d : Nat) : decide ((V.str ⟨#[c]⟩ : V) = .str ⟨#[d]⟩) = decide (c = d) := by
  by_cases h : c = d
  · subst h
    rw [decide_eq_true rfl, decide_eq_true rfl]
  · rw [decide_eq_false h, decide_eq_false fun z => ?_]
    injection z with z
    injection z with z
    have z2 : [c] = [d] := congrArg Array.toList z
    injection z2 with z3
    exact h z3
section
variable {P : Program} {w : World} {K : PySem.W.Frag} {mg : Str → Option Value} {base : Heap}
theorem ok_read (T : Bl mg) (hm : MarksAt K mg) (hM : MostAt mg) (B : Bt P K mg) (hb : Binds K ((NFB B.cc B.c).fd B.doc B.pm B.ctv) ["self", "place"] []) (Dm : Dn K mg "is_mark" sMark pThing) (D : Dn K mg "read_document" sRead ["text"]) : FnOk P w K mg base (L2.CX P w) 3 D.f D.fd ["text"] (spRead K B.C) := by
  have GM : FnOk P w K mg base CX0 1 Dm.f Dm.fd pThing (spMark K) := ok_mark T hm Dm
  obtain ⟨tM, gM⟩ := hM
  have sc : FnScope ["text", "entries", "depth", "awaited", "place", "sign", "cut_short"] ["text"] (defScope sRead) := ⟨rfl, rfl, rfl, by decide +kernel, rfl, by decide +kernel, by decide +kernel⟩
  refine D.F.okX sc (fun vs H Q E h => ?_) (fun cdv A outer s H vs Q E hr h => ?_)
  · rcases h with ⟨x, rfl, _⟩ | ⟨v, ty, rfl, _⟩ <;> rfl
  · refine ⟨_, pss_cons (ps_if (pt_not (pt_val (pe_callB call_isi (by rfl) T.isinstance b_isinstance (pa_cons (pv 0) (pa_cons (pe_bltn (v := .ty "str") rfl T.str b_str rfl) pa_nil))))) (pss_one (ps_bt B hb hr (takes_of rfl rfl rfl rfl) pe_int)) pss_nil)
      (pss_cons (ps_set (i := 1) sc.nd rfl (.inl rfl) (pe_lst pa_nil)) (pss_cons (ps_set (i := 2) sc.nd rfl (.inl rfl) pe_int) (pss_cons (ps_set (i := 3) sc.nd rfl (.inl rfl) pe_bl)
      (pss_cons (ps_for (passes_of rfl) rfl (pi_enumS (by rfl) T.enumerate (pa_cons (pv 0) pa_nil)) (pg_tup rfl (pgs_cons (pg_name (i := 4) sc.nd rfl (.inl rfl)) (pgs_cons (pg_name (i := 5) sc.nd rfl (.inl rfl)) pgs_nil)))
        (pss_cons (ps_if (pt_cmpR op_ne (pv 3) (de_call Dm GM hr (pa_cons (pv 5) pa_nil)) (nomark _)) (pss_one (ps_bt B hb hr (takes_of rfl rfl rfl rfl) (pv 4))) pss_nil)
        (C8.pss_cut (ps_if (pt_val (pv 3)) (pss_one (ps_expr (pe_bm PySem.F.plainAttrs_list PySem.F.slot_list_append PySem.F.type_list_append mt_append (pv 1) (pa_cons (pe_tup (pa_cons (pv 5) (pa_cons (pv 2) pa_nil))) pa_nil))))
            (pss_one (ps_if (PW.pt (pw_and (pt_cmpR op_eq (pv 5) pe_str (nomark _)) (pw_and1 (pt_cmpR op_gt (pv 2) pe_int (nomark _)))))
              (pss_one (ps_aug (i := 2) sc.nd rfl (.inl rfl) pe_int ip_sub))
              (pss_one (ps_if (PW.pt (pw_and (pt_cmpR op_eq (pv 5) pe_str (nomark _)) (pw_and1 (pt_cmpR op_ne (pe_ix ix_str (pv 0) (pe_op op_sub (pv 4) pe_int) (fun _ _ => rfl)) pe_str (nomark _)))))
                (pss_one (ps_aug (i := 2) sc.nd rfl (.inl rfl) pe_int ip_add))
                (pss_one (ps_if (pt_cmpR op_ne (pv 5) pe_str (nomark _)) (pss_one (ps_bt B hb hr (takes_of rfl rfl rfl rfl) (pv 4))) pss_nil)))))))
        (pss_one (ps_set (i := 3) sc.nd rfl (.inl rfl) (pe_cmpR op_in_seq (pv 5) (pe_tup (pa_cons pe_str (pa_cons pe_str pa_nil))) (by rfl)))))))
      (C8.pss_cut (ps_set (i := 6) sc.nd rfl (.inl rfl) (pe_or (pe_cmpR op_gt (pv 2) pe_int (nomark _)) (pe_one (pe_and (pv 3) (pe_one (pe_cmpR op_gt (pe_callB call_len_str (by rfl) T.len b_len (pa_cons (pv 0) pa_nil)) pe_int (nomark _)))))))
      (pss_cons (ps_if (PW.pt (pw_or (pt_val (pv 6)) (pw_or1 (pt_cmpR op_gt (pe_callB call_len_seq (by rfl) T.len b_len (pa_cons (pv 1) pa_nil)) (pe_glob (v := .int 20000) rfl gM ⟨tM, rfl⟩) (nomark _))))) (pss_one (ps_bt B hb hr (takes_of rfl rfl rfl rfl) (pe_callB call_len_str (by rfl) T.len b_len (pa_cons (pv 0) pa_nil)))) pss_nil)
      (pss_one (ps_ret (pe_callTy call_tuple_of (by rfl) T.tuple b_tuple (pa_cons (pv 1) pa_nil)))))))))), ?_⟩
    have line : 100000 ≤ sizeLine := by decide
    rcases h with ⟨x, rfl, hl, kr, kq⟩ | ⟨v, ty, rfl, any, nt, kr⟩
    · have zat : ∀ i : Nat, (sT x).cps[i]? = x[i]? := fun i => by
        show x.toArray[i]? = _
        rw [List.getElem?_toArray]
      have bits : ∀ i : Nat, i ≤ x.length → ((i : Nat) : Int).natAbs.log2 < 1900 := fun i hi => by
        rw [Int.natAbs_natCast]
        by_cases h0 : i = 0
        · subst h0
          decide
        · exact (Nat.log2_lt h0).mpr (Nat.lt_of_le_of_lt (Nat.le_trans hi hl) (by decide +kernel))
      have any : Any K H (.str (sT x)) "str" := .str _
      refine ⟨_, rfl, _, _, _, _, _, rfl, .ty "str", any.ty, any.kit.2.2.1, _, rfl, iteF ?_⟩
      refine ⟨Nat.zero_le _, fun f hf => ?_⟩
      have s0 : Same H (upd H f (.lst [])) := Same.new hf
      refine ⟨_, rfl, _, rfl, for_it (walk_enumS (z := sT x)) (fun i σ H' => RdG x H f i (awC (x.take i)) σ H') ?_ ?_ ?_ ?_⟩
      · exact ⟨[], [], 0, none, none, rfl, s0, upd_same, .nil, Nat.le_refl _, RdAt.zero x⟩
      · exact fun _ _ _ _ _ => trivial
      · rintro i y σ H1 H2 hi ⟨vs, pre, dp, a, b, rfl, s1, hf1, ents, pl, st⟩ ⟨t, ch, rfl, ht, rfl, hch⟩
        rw [zat] at hch
        obtain ⟨c1, c2, c3⟩ := cut_at hch
        have ix : i < x.length := (List.getElem?_eq_some_iff.mp hch).1
        have vl := Paired.length ents
        have s2 : Same H1 (upd H1 t (.tup [.int (i : Nat), .str ⟨#[ch]⟩])) := Same.new ht
        have hf2 := s2 _ _ hf1
        have ents2 := ents.mono (Same.tups s2)
        have sH2 := s1.trans s2
        refine ⟨t, _, rfl, SqT.of upd_same, rfl, _, _, rfl, _, _, rfl, rfl, ?_⟩
        generalize upd H1 t (.tup [.int (i : Nat), .str ⟨#[ch]⟩]) = H2 at hf2 ents2 sH2
        have bad : ∀ {σ : L2.St}, okS (x.take i) ch = false → σ[4]? = some (some (.int (i : Nat))) → tMkO B.C (spBInit B.C) [] (tCons (tVar 4) tNil) σ H2 fun cls d H' => E cls d H' := fun {σ} n e =>
          bt_of (n := (i : Nat)) (fun R r => ⟨_, e, r⟩) (bits i (by omega)) fun d H3 b => kr i (st.bad hch n) d H3 (b.back sH2)
        refine ⟨_, rfl, _, rfl, .str ⟨#[ch]⟩, "str", rfl, .str _, ?_⟩
        have mv : (!decide (V.bl (awC (x.take i)) = V.bl (markV (.str ⟨#[ch]⟩)))) = (awC (x.take i) != mkC ch) := by
          rw [mark_is]
          cases awC (x.take i) <;> cases mkC ch <;> rfl
        refine ⟨rfl, _, rfl, ?_⟩
        rw [mv]
        by_cases g : awC (x.take i) = mkC ch
        · rw [show (awC (x.take i) != mkC ch) = false by rw [g]; cases mkC ch <;> rfl]
          refine iteF ⟨RdM x H f i ch (awC (x.take i)), ?_, ?_⟩
          · cases ha : awC (x.take i) with
            | true =>
              have hm1 : mkC ch = true := g ▸ ha
              refine ⟨_, rfl, true, rfl, iteT ?_⟩
              refine ⟨_, rfl, .inl ⟨rfl, _, SqL.of hf2⟩, _, rfl, _, rfl, by show 2 ≤ sizeLine; decide, fun t2 ht2 => ?_⟩
              have tf : t2 ≠ f := fun z => by subst z; rw [hf2] at ht2; cases ht2
              refine ⟨f, vs, _, rfl, rfl, by rw [upd_ne tf.symm]; exact hf2, by omega, vs ++ [.ref t2], pre ++ [(ch, dp)], dp, rfl, fun b o e => ?_, upd_same, ?_, by rw [List.length_append]; show pre.length + 1 ≤ i + 1; omega, st.mark hch ha hm1⟩
              · rw [upd_ne (ne_of_none e hf), upd_ne (ne_of_none (sH2 b o e) ht2)]
                exact sH2 b o e
              · have k1 : ∀ b xs, H2 b = some (.tup xs) → (upd (upd H2 t2 (.tup [.str ⟨#[ch]⟩, .int (dp : Nat)])) f (.lst (vs ++ [.ref t2]))) b = some (.tup xs) := fun b xs e =>
                  upd_tups (by rw [upd_ne tf.symm]; exact hf2) b xs (new_tups ht2 b xs e)
                refine Paired.snoc (ents2.mono k1) ⟨t2, rfl, ?_⟩
                rw [upd_ne tf, upd_same]
            | false =>
              have hm0 : mkC ch = false := g ▸ ha
              have ne : ∀ d : Nat, decide ((V.str ⟨#[ch]⟩ : V) = .str ⟨#[d]⟩) = decide (ch = d) := chr_eq ch
              have i0 : 0 < i := Nat.pos_of_ne_zero fun z => by
                subst z
                exact absurd (show true = false from ha) (by decide)
              refine ⟨_, rfl, false, rfl, iteF ?_⟩
              by_cases h41 : ch = 41
              · subst h41
                refine ⟨_, rfl, rfl, _, rfl, ite2 (fun _ => ?_) (fun c => absurd (by decide +kernel) c)⟩
                refine ⟨_, rfl, _, _, rfl, rfl, _, rfl, ite2 (fun q => ?_) (fun q => ?_)⟩
                · have q : (0 : Int) < (dp : Nat) := of_decide_eq_true q
                  refine ⟨_, rfl, _, _, rfl, rfl, vs, pre, dp - 1, ?_, sH2, hf2, ents2, by omega, st.next hch (ok_close ha (by rw [st.op]; omega)) hm0 (by rw [if_neg (by decide), if_pos rfl]; omega)⟩
                  have e : ((dp : Nat) : Int) - 1 = ((dp - 1 : Nat) : Int) := by omega
                  rw [← e, ← ha]
                  rfl
                · have q : ¬ (0 : Int) < (dp : Nat) := fun z => q (decide_eq_true z)
                  have d0 : openI (x.take i) = 0 := by rw [st.op]; omega
                  refine ⟨_, rfl, rfl, _, rfl, ite2 (fun c => absurd c (by decide +kernel)) (fun _ => ?_)⟩
                  refine ite2 (fun c => absurd c (by decide +kernel)) (fun _ => ?_)
                  refine ⟨_, rfl, rfl, _, rfl, ite2 (fun _ => ?_) (fun c => absurd (by decide +kernel) c)⟩
                  exact bad (no_close d0) rfl
              refine ⟨_, rfl, rfl, _, rfl, ite2 (fun c => absurd (of_decide_eq_true ((ne 41).symm.trans c)) h41) (fun _ => ?_)⟩
              refine ite2 (fun c => absurd c (by decide +kernel)) (fun _ => ?_)
              by_cases h40 : ch = 40
              · subst h40
                obtain ⟨y, hy⟩ : ∃ y, x[i - 1]? = some y := ⟨_, List.getElem?_eq_getElem (by omega)⟩
                have ay : ahC (x.take i) = y := by
                  have z := (cut_at hy).2.1
                  rw [Nat.sub_add_cancel i0] at z
                  rw [z, ah_snoc]
                refine ⟨_, rfl, rfl, _, rfl, ite2 (fun _ => ?_) (fun c => absurd (by decide +kernel) c)⟩
                have e : ((i : Nat) : Int) - 1 = ((i - 1 : Nat) : Int) := by omega
                refine ⟨_, rfl, _, rfl, _, _, rfl, rfl, sT x, _, y, rfl, rfl, by rw [sT_len]; omega, by rw [e]; exact atI_nat hy, rfl, _, rfl, ?_⟩
                by_cases y41 : y = 41
                · rw [show decide ((V.str ⟨#[y]⟩ : V) = V.str ")") = true from (chr_eq y 41).trans (decide_eq_true y41)]
                  refine iteF ?_
                  refine ⟨_, rfl, rfl, _, rfl, ite2 (fun _ => ?_) (fun c => absurd (by decide +kernel) c)⟩
                  exact bad (no_opens ha (ay.trans y41)) rfl
                · rw [show decide ((V.str ⟨#[y]⟩ : V) = V.str ")") = false from (chr_eq y 41).trans (decide_eq_false y41)]
                  refine iteT ⟨_, rfl, _, _, rfl, rfl, vs, pre, dp + 1, ?_, sH2, hf2, ents2, by omega, st.next hch (ok_opens ha (fun z => y41 (ay.symm.trans z))) hm0 (by rw [if_pos rfl, if_neg (by decide)]; omega)⟩
                  rw [← ha]
                  rfl
              refine ⟨_, rfl, rfl, _, rfl, ite2 (fun c => absurd (of_decide_eq_true ((ne 40).symm.trans c)) h40) (fun _ => ?_)⟩
              refine ite2 (fun c => absurd c (by decide +kernel)) (fun _ => ?_)
              by_cases h32 : ch = 32
              · subst h32
                refine ⟨_, rfl, rfl, _, rfl, ite2 (fun c => absurd c (by decide +kernel)) (fun _ => ?_)⟩
                exact ⟨vs, pre, dp, by rw [← ha]; rfl, sH2, hf2, ents2, by omega, st.next hch (ok_blank ha) hm0 (by rw [if_neg (by decide), if_neg (by decide)]; omega)⟩
              · refine ⟨_, rfl, rfl, _, rfl, ite2 (fun _ => ?_) (fun c => ?_)⟩
                · exact bad (no_other ha h40 h41 h32) rfl
                · exact absurd (show (!decide ((V.str ⟨#[ch]⟩ : V) = V.str ⟨#[32]⟩)) = true by rw [ne 32, decide_eq_false h32]; rfl) c
          · rintro σ' H' ⟨vs, pre, dp, rfl, h2, h3, h4, h5, h6⟩
            refine ⟨_, rfl, by show 2 ≤ sizeLine; decide, fun q hq => ⟨q, _, rfl, .inr (SqT.of upd_same), rfl, by decide +kernel, ?_⟩⟩
            have sn := Same.new (o := .tup [.str "(", .str " "]) hq
            rw [if_neg Bool.false_ne_true]
            have eb : blankV ch = awC (x.take (i + 1)) := by rw [c2, aw_snoc, blankV_is]
            exact ⟨vs, pre, dp, _, _, by rw [← eb]; rfl, h2.trans sn, sn _ _ h3, h4.mono (Same.tups sn), h5, h6⟩
        · rw [show (awC (x.take i) != mkC ch) = true by revert g; cases awC (x.take i) <;> cases mkC ch <;> decide]
          refine iteT (bad ?_ rfl)
          cases ha : awC (x.take i) with
          | true => exact no_a ha (one_of fun z => g (ha.trans z.symm))
          | false => exact no_m ha (by cases hq : mkC ch with | true => rfl | false => exact (g (ha.trans hq.symm)).elim)
      · rintro σ H1 ⟨vs, pre, dp, a, b, rfl, s1, hf1, ents, pl, st⟩
        have zs : (sT x).cps.size = x.length := rfl
        rw [zs] at st pl ⊢
        have tx : x.take x.length = x := List.take_length
        rw [tx]
        have fw := st.fw
        have dc := st.doc
        have op := st.op
        rw [tx, List.drop_length] at fw dc
        rw [tx] at op
        have dc : pre = docC [] x := (List.append_nil pre).symm.trans dc
        have vl := Paired.length ents
        have fw : fwC [] x = if x ≠ [] ∧ (awC x = true ∨ 0 < openI x) then some x.length else none := fw
        rw [op] at fw
        have xl : x ≠ [] ↔ 0 < x.length := List.length_pos_iff.symm
        have op0 : 0 < dp → 0 < x.length := fun z => Nat.pos_of_ne_zero fun q => by
          have : x = [] := List.eq_nil_of_length_eq_zero q
          subst this
          have : (0 : Int) = (dp : Nat) := op
          omega
        refine ⟨fun σ' H' => σ' = [some (.str (sT x)), some (.ref f), some (.int (dp : Nat)), some (.bl (awC x)), a, b, some (.bl (decide (0 < dp) || (awC x && decide (0 < x.length))))] ∧ H' = H1, ?_, ?_⟩
        · refine ⟨_, rfl, _, _, rfl, rfl, _, rfl, ite2 (fun q => ?_) (fun q => ?_)⟩
          · have q : (0 : Int) < (dp : Nat) := of_decide_eq_true q
            rw [decide_eq_true (show 0 < dp by omega)]
            exact ⟨rfl, rfl⟩
          · have q : ¬ (0 : Int) < (dp : Nat) := fun z => q (decide_eq_true z)
            rw [decide_eq_false (show ¬ 0 < dp by omega)]
            refine ⟨_, rfl, _, rfl, ?_⟩
            cases awC x with
            | false => exact iteF ⟨rfl, rfl⟩
            | true =>
              refine iteT ⟨_, rfl, sT x, rfl, by rw [sT_len]; omega, _, _, rfl, rfl, ?_⟩
              refine ⟨?_, rfl⟩
              show _ = [some (V.str (sT x)), some (.ref f), some (.int (dp : Nat)), some (.bl true), a, b, some (.bl (decide (0 < x.length)))]
              rw [show decide (0 < x.length) = decide ((0 : Int) < ((sT x).length : Nat)) from by rw [sT_len]; exact decide_eq_decide.mpr (by omega)]
              rfl
        · rintro σ' H' ⟨rfl, rfl⟩
          refine ⟨_, rfl, _, rfl, ite2 (fun q => ?_) (fun q => ?_)⟩
          · have g : x ≠ [] ∧ (awC x = true ∨ 0 < (dp : Int)) := by
              rcases Bool.or_eq_true_iff.mp q with q | q
              · have q := of_decide_eq_true q
                exact ⟨xl.mpr (op0 q), .inr (by omega)⟩
              · have q := Bool.and_eq_true_iff.mp q
                exact ⟨xl.mpr (of_decide_eq_true q.2), .inl q.1⟩
            rw [if_pos g] at fw
            refine bt_of (n := (x.length : Nat)) (fun R r => ⟨_, rfl, sT x, rfl, by rw [sT_len]; omega, by rw [sT_len]; exact r⟩) (bits _ (Nat.le_refl _)) fun d H3 b => kr _ fw d H3 (b.back s1)
          · have g : ¬ (x ≠ [] ∧ (awC x = true ∨ 0 < (dp : Int))) := fun z => q (by
              rcases z.2 with h | h
              · rw [h, decide_eq_true (xl.mp z.1)]
                exact Bool.or_true _
              · rw [decide_eq_true (show 0 < dp by omega)]
                rfl)
            rw [if_neg g] at fw
            refine ⟨_, rfl, f, vs, rfl, .inl (SqL.of hf1), _, _, rfl, rfl, _, rfl, ?_⟩
            rw [show decide ((20000 : Int) < ((vs.length : Nat) : Int)) = false from decide_eq_false (by omega)]
            refine iteF ⟨_, rfl, f, vs, rfl, .inl ⟨SqL.of hf1, fun q hq => ?_⟩⟩
            exact kq fw _ q (s1.trans (Same.new hq)) (s1.free hq) ⟨vs, upd_same, dc ▸ ents.mono (new_tups hq)⟩
    · refine ⟨_, rfl, _, _, _, _, _, rfl, .ty "str", any.ty, any.kit.2.2.1, _, rfl, ?_⟩
      have n0 : (0 : Int).natAbs.log2 < 1900 := by decide
      cases any <;> first | exact absurd rfl nt | exact iteT (bt_of (fun R r => r) n0 fun d H2 b => kr d H2 b)
end

/-! ### k05's _law_asked -/
def FineE (e : Nat × Nat) : Prop := 97 ≤ e.1 ∧ e.1 ≤ 104 ∧ e.2 < 1000000
theorem fine_show : ∀ {doc : Doc}, (∀ e ∈ doc, FineE e) → PyData.showableAll (doc.map entD) = true
  | [], _ => by simp [PyData.showableAll]
  | (c, d) :: r, h => by
    have ih := fine_show fun e he => h e (List.mem_cons_of_mem _ he)
    have z := log_small (show d < 1000000 from (h _ List.mem_cons_self).2.2)
    simp [PyData.showableAll, entD, PyData.showable, ih, z]
theorem fine_most : ∀ {doc : Doc}, (∀ e ∈ doc, FineE e) → mostAll (doc.map entD) ≤ 2030 * doc.length
  | [], _ => Nat.zero_le _
  | (c, d) :: r, h => by
    have ih := fine_most fun e he => h e (List.mem_cons_of_mem _ he)
    have f := h _ List.mem_cons_self
    have y : (reprText ⟨#[c]⟩).length ≤ 10 := one_mark f.1 f.2.1
    show (((reprText ⟨#[c]⟩).length + 2 + (2000 + 2 + 0)) + 4) + 2 + mostAll (r.map entD) ≤ 2030 * (r.length + 1)
    omega
theorem told_fine {K : PySem.W.Frag} {H : Hp} {p : Addr} {doc : Doc} (h : DocAt H p doc) (ok : ∀ e ∈ doc, FineE e) (hl : doc.length ≤ 1000) : Told K H (.ref p) (docD doc) := by
  obtain ⟨vs, e, q⟩ := h
  exact {
    at_ := .tup (SqT.of e) (ents_dp q)
    show_ := by
      have := fine_show ok
      show PyData.showable (.tuple (doc.map entD)) = true
      simpa [PyData.showable] using this
    plain := by
      show PyData.hasDict (.tuple (doc.map entD)) = false
      simpa [PyData.hasDict] using docs_plain doc
    deep := by
      have := docs_deep doc
      show PyData.depth (.tuple (doc.map entD)) ≤ 20
      simp [PyData.depth]
      omega
    short := by
      have := fine_most ok
      show mostAll (doc.map entD) + 4 ≤ 16000000
      omega }
theorem docC_fine : ∀ (r p : List Nat), p.length + r.length ≤ 1000 → (∀ e ∈ docC p r, FineE e) ∧ (docC p r).length ≤ r.length
  | [], p, _ => ⟨fun e he => absurd he List.not_mem_nil, Nat.le_refl _⟩
  | c :: r, p, h => by
    have h : p.length + (r.length + 1) ≤ 1000 := h
    obtain ⟨i1, i2⟩ := docC_fine r (p ++ [c]) (by rw [List.length_append]; show p.length + 1 + r.length ≤ 1000; omega)
    unfold docC
    cases m : mkC c with
    | false => exact ⟨i1, Nat.le_succ_of_le i2⟩
    | true =>
      have mm := of_decide_eq_true m
      refine ⟨fun e he => ?_, by show (docC (p ++ [c]) r).length + 1 ≤ r.length + 1; omega⟩
      rcases List.mem_cons.mp (show e ∈ (c, (openI p).toNat) :: docC (p ++ [c]) r from he) with e1 | e1
      · subst e1
        refine ⟨mm.1, mm.2, ?_⟩
        have a := List.length_filter_le (fun x : Nat => decide (x = 40)) p
        have b : openI p ≤ (p.length : Nat) := by unfold openI; omega
        show (openI p).toNat < 1000000
        omega
      · exact i1 e e1
theorem fw_le : ∀ (r p : List Nat) {n : Nat}, fwC p r = some n → n ≤ p.length + r.length
  | [], p, n, h => by
    unfold fwC at h
    split at h
    · cases h
      exact Nat.le_refl _
    · cases h
  | c :: r, p, n, h => by
    unfold fwC at h
    split at h
    · have := fw_le r (p ++ [c]) h
      rw [List.length_append] at this
      show n ≤ p.length + (r.length + 1)
      have t : n ≤ p.length + 1 + r.length := this
      omega
    · cases h
      exact Nat.le_add_right _ _
def twoD (z : Str) (d : PyData) : PyData := .tuple [.str z, d]
theorem told_two {K : PySem.W.Frag} {H : Hp} {a : Addr} {v : V} {z : Str} {d : PyData} (hz : (reprText z).length ≤ 100) (h : Told K H v d) (dp : d.depth ≤ 10) (ms : most d ≤ 10000000) (e : SqT K H a [.str z, v]) : Told K H (.ref a) (twoD z d) where
  at_ := .tup e (.cons (.str _) (.cons h.at_ .nil))
  show_ := by simp [twoD, PyData.showable, PyData.showableAll, h.show_]
  plain := by simp [twoD, PyData.hasDict, PyData.hasDictAll, h.plain]
  deep := by simp [twoD, PyData.depth, PyData.depthAll]; omega
  short := by
    show (reprText z).length + 2 + (most d + 2 + 0) + 4 ≤ 16000000
    omega
def dueD (T : List Nat) : PyData := match fwC [] T with
  | some p => twoD "BadText" (.int (p : Nat))
  | none => twoD "document" (docD (docC [] T))
theorem told_at {K : PySem.W.Frag} {H : Hp} {a : Addr} {n : Nat} (hn : n < 1000000) (e : SqT K H a [.str "BadText", .int (n : Nat)]) : Told K H (.ref a) (twoD "BadText" (.int (n : Nat))) := by
  have t : Told K H (.int (n : Nat)) (.int (n : Nat)) := by
    have z := log_small hn
    exact ⟨.int _, by simp [PyData.showable, z], by simp [PyData.hasDict], by simp [PyData.depth], by show 2000 ≤ 16000000; decide⟩
  exact told_two (by decide +kernel) t (by simp [PyData.depth]) (by show 2000 ≤ _; omega) e
theorem told_dd {K : PySem.W.Frag} {H : Hp} {a q : Addr} {T : List Nat} (hl : T.length ≤ 1000) (h : DocAt H q (docC [] T)) (e : SqT K H a [.str "document", .ref q]) : Told K H (.ref a) (twoD "document" (docD (docC [] T))) := by
  obtain ⟨f, l⟩ := docC_fine T [] (by simpa using hl)
  refine told_two (by decide +kernel) (told_fine h f (by omega)) ?_ ?_ e
  · have := docs_deep (docC [] T)
    show PyData.depth (.tuple ((docC [] T).map entD)) ≤ 10
    simp [PyData.depth]
    omega
  · have := fine_most f
    show mostAll ((docC [] T).map entD) + 4 ≤ _
    omega

def spAskT (K : PySem.W.Frag) : Sp := fun vs H Q _ => ∃ (v : V) (dt : PyData), vs = [v] ∧ ((∃ T : List Nat, v = .str (sT T) ∧ T.length ≤ 1000 ∧ dt = dueD T) ∨ ∃ ty, Any K H v ty ∧ ty ≠ "str" ∧ dt = twoD "BadText" (.int 0)) ∧
  ∀ H' t, Same H H' → Told K H' (.ref t) dt → Q (.ref t) H'
section
variable {P : Program} {w : World} {K : PySem.W.Frag} {mg : Str → Option Value} {base : Heap}
theorem ok_askT (T : Bl mg) (hm : MarksAt K mg) (hM : MostAt mg) (B : Bt P K mg) (hb : Binds K ((NFB B.cc B.c).fd B.doc B.pm B.ctv) ["self", "place"] []) (Dm : Dn K mg "is_mark" sMark pThing) (Dr : Dn K mg "read_document" sRead ["text"])
    (D : Dn K mg "_law_asked" sLAsked ["thing"]) : FnOk P w K mg base CX0 4 D.f D.fd ["thing"] (spAskT K) := by
  have GR : FnOk P w K mg base (L2.CX P w) 3 Dr.f Dr.fd ["text"] (spRead K B.C) := ok_read T hm hM B hb Dm Dr
  have sc : FnScope ["thing", "got", "error"] ["thing"] (defScope sLAsked) := ⟨rfl, rfl, rfl, by decide +kernel, rfl, by decide +kernel, by decide +kernel⟩
  refine D.F.ok sc (fun vs H Q E h => ?_) (fun cdv A outer s H vs Q E hr h => ?_)
  · obtain ⟨v, dt, rfl, _⟩ := h
    rfl
  · obtain ⟨v, dt, rfl, hv, k⟩ := h
    refine ⟨_, pss_cons (ps_try_as (i := 2) (tb := fun Wx => tAsg (tTup (tCons (tC (.str "document")) (tCons (tCallS (spRead K B.C) (WE Wx) (tCons (tVar 0) tNil)) tNil))) (gName 1)) (ts := fun a cls d => tAsg (tTup (tCons (tC (.str "BadText")) (tCons (tXf a cls d B.C "place" (tVar 2)) tNil))) (gName 1)) rfl rfl sc.nd rfl rfl ⟨rfl, by decide, .inl B.g⟩ takes0
        (fun Wx pn xe tk _ => pss_one (ps_set (i := 1) sc.nd rfl (.inl rfl) (pe_tup (pa_cons pe_str (pa_cons (dx_call Dr GR hr tk (pa_cons (pv 0) pa_nil)) pa_nil)))))
        (fun a oe cls d pn hz hf => pss_one (ps_set (i := 1) sc.nd rfl (.inl rfl) (pe_tup (pa_cons pe_str (pa_cons (pe_xf B.X B.no hz hf (pv 2)) pa_nil))))))
      (pss_one (ps_ret (pv 1))), ?_⟩
    have l2 : 2 ≤ sizeLine := by decide
    have caught : ∀ (n : Nat) (d : Addr) (H' : Hp) (t : Addr), n < 1000000 → dt = twoD "BadText" (.int (n : Nat)) → BtAt B.C H H' (some d) (n : Nat) → H' t = none → Q (.ref t) (upd H' t (.tup [.str "BadText", .int (n : Nat)])) := fun n d H' t hn e b ht => by
      obtain ⟨dx, _, _, _, s1⟩ := b
      exact k _ t (s1.trans (Same.new ht)) (e ▸ told_at hn (SqT.of upd_same))
    rcases hv with ⟨x, rfl, hl, rfl⟩ | ⟨ty, any, nt, rfl⟩
    · refine ⟨_, rfl, .inl ⟨x, rfl, hl, fun p hp d H' bt => ⟨true, B.es, fun _ a ha => ?_, fun z => nomatch z⟩, fun hn H' q s1 hq hd => ?_⟩⟩
      · have pl : p < 1000000 := by
          have := fw_le x [] hp
          have z : p ≤ 0 + x.length := this
          omega
        obtain ⟨dx, ed, h1, h2, s1⟩ := id bt
        refine ⟨_, rfl, rfl, rfl, dx, [("place", .int (p : Nat))], .int (p : Nat), ed, h2, rfl, l2, fun t ht => ⟨_, rfl, ?_⟩⟩
        exact caught p d H' t pl (by unfold dueD; rw [hp]) bt ht
      · refine ⟨l2, fun t ht => ⟨_, rfl, ?_⟩⟩
        have sn : Same H' (upd H' t (.tup [.str "document", .ref q])) := Same.new ht
        refine k _ t (s1.trans sn) ?_
        have e : dueD x = twoD "document" (docD (docC [] x)) := by unfold dueD; rw [hn]
        rw [e]
        exact told_dd hl (hd.mono (Same.tups sn)) (SqT.of upd_same)
    · refine ⟨_, rfl, .inr ⟨v, ty, rfl, any, nt, fun d H' bt => ⟨true, B.es, fun _ a ha => ?_, fun z => nomatch z⟩⟩⟩
      obtain ⟨dx, ed, h1, h2, s1⟩ := id bt
      refine ⟨_, rfl, rfl, rfl, dx, [("place", .int 0)], .int 0, ed, h2, rfl, l2, fun t ht => ⟨_, rfl, ?_⟩⟩
      exact caught 0 d H' t (by decide) rfl bt ht
end

/-! ### how many brackets are open -/
def chV (c : Nat) : V := .str ⟨#[c]⟩
def spOpen : Sp := fun vs H Q _ => ∃ x : List Nat, vs = [.str (sT x)] ∧ x.length ≤ 1000 ∧ ∀ H', Same H H' → Q (.int (openI x)) H'
abbrev nOpen : List Str := ["text", "sign"]
theorem filt_snoc {p : Nat → Bool} {x : List Nat} {i c : Nat} (h : x[i]? = some c) : (x.take (i + 1)).filter p = (x.take i).filter p ++ (if p c = true then [c] else []) := by
  rw [(cut_at h).2.1, List.filter_append]
  congr 1
  cases e : p c <;> simp [e]
section
variable {P : Program} {w : World} {K : PySem.W.Frag} {mg : Str → Option Value} {base : Heap}
theorem ok_lopen (T : Bl mg) (D : Dn K mg "_law_open" sLOpen ["text"]) : FnOk P w K mg base CX0 1 D.f D.fd ["text"] spOpen := by
  have sc : FnScope nOpen ["text"] (defScope sLOpen) := ⟨rfl, rfl, rfl, by decide +kernel, rfl, by decide +kernel, by decide +kernel⟩
  refine D.F.ok sc (fun vs H Q E h => ?_) (fun cdv A outer s H vs Q E hr h => ?_)
  · obtain ⟨x, rfl, _⟩ := h
    rfl
  · obtain ⟨x, rfl, hl, k⟩ := h
    refine ⟨_, (pss_one (ps_ret (pe_op op_sub (pe_callB call_len_seq (by rfl) T.len b_len (pa_cons (pe_lc (own := [("sign", 1)]) (g := gName 1) rfl sc.nd (pi_str (pv 0)) (blkOk_by (N := nOpen) (sc := defScope sLOpen) (by decide +kernel)) (fun _ _ _ _ _ => (pg_name (i := 1) sc.nd rfl (by first | exact .inl rfl | exact .inr rfl))) (fun _ _ _ _ _ => (pts_one (pt_cmpR op_eq (pv 1) pe_str (nomark _)))) (fun _ _ _ _ _ => (pv 1))) pa_nil)) (pe_callB call_len_seq (by rfl) T.len b_len (pa_cons (pe_lc (own := [("sign", 1)]) (g := gName 1) rfl sc.nd (pi_str (pv 0)) (blkOk_by (N := nOpen) (sc := defScope sLOpen) (by decide +kernel)) (fun _ _ _ _ _ => (pg_name (i := 1) sc.nd rfl (by first | exact .inl rfl | exact .inr rfl))) (fun _ _ _ _ _ => (pts_one (pt_cmpR op_eq (pv 1) pe_str (nomark _)))) (fun _ _ _ _ _ => (pv 1))) pa_nil))))), ?_⟩
    have zat : ∀ i : Nat, (sT x).cps[i]? = x[i]? := fun i => by
      show x.toArray[i]? = _
      rw [List.getElem?_toArray]
    have zs : (sT x).cps.size = x.length := rfl
    have line : 100000 ≤ sizeLine := by decide
    refine ⟨_, rfl, _, rfl, fun d hd => ?_⟩
    refine lc_it (walk_str (z := sT x)) (fun j H' => Same H H' ∧ H' d = some (.lst (((x.take j).filter fun c => decide (c = 40)).map chV))) ?_ ?_ ?_ ?_
    · exact ⟨Same.new hd, upd_same⟩
    · exact fun _ _ _ _ => trivial
    · rintro j y Ha Hb hj ⟨sa, ea⟩ ⟨rfl, c, hc, rfl⟩
      rw [zat] at hc
      have fs := filt_snoc (p := fun c => decide (c = 40)) hc
      have ll : ((x.take j).filter fun c => decide (c = 40)).length ≤ 1000 := Nat.le_trans (List.length_filter_le _ _) (by rw [List.length_take]; omega)
      refine ⟨rfl, _, rfl, rfl, _, rfl, ?_⟩
      rw [show decide ((V.str ⟨#[c]⟩ : V) = V.str "(") = decide (c = 40) from chr_eq c 40]
      by_cases q : c = 40
      · rw [decide_eq_true q]
        refine iteT ⟨_, rfl, _, ea, by rw [List.length_map]; omega, same_wr sa hd, ?_⟩
        rw [upd_same, fs, if_pos (decide_eq_true q), List.map_append]
        rfl
      · rw [decide_eq_false q]
        refine iteF ⟨sa, ?_⟩
        rw [ea, fs, if_neg (by rw [decide_eq_false q]; decide), List.append_nil]
    rintro H1 ⟨s1, e1⟩
    have tx : x.take (sT x).cps.size = x := List.take_length
    rw [tx] at e1
    refine nilA ⟨d, _, rfl, .inl (SqL.of e1), ?_⟩
    refine ⟨_, rfl, _, rfl, fun d2 hd2 => ?_⟩
    refine lc_it (walk_str (z := sT x)) (fun j H' => Same H1 H' ∧ H' d2 = some (.lst (((x.take j).filter fun c => decide (c = 41)).map chV))) ?_ ?_ ?_ ?_
    · exact ⟨Same.new hd2, upd_same⟩
    · exact fun _ _ _ _ => trivial
    · rintro j y Ha Hb hj ⟨sa, ea⟩ ⟨rfl, c, hc, rfl⟩
      rw [zat] at hc
      have fs := filt_snoc (p := fun c => decide (c = 41)) hc
      have ll : ((x.take j).filter fun c => decide (c = 41)).length ≤ 1000 := Nat.le_trans (List.length_filter_le _ _) (by rw [List.length_take]; omega)
      refine ⟨rfl, _, rfl, rfl, _, rfl, ?_⟩
      rw [show decide ((V.str ⟨#[c]⟩ : V) = V.str ")") = decide (c = 41) from chr_eq c 41]
      by_cases q : c = 41
      · rw [decide_eq_true q]
        refine iteT ⟨_, rfl, _, ea, by rw [List.length_map]; omega, same_wr sa hd2, ?_⟩
        rw [upd_same, fs, if_pos (decide_eq_true q), List.map_append]
        rfl
      · rw [decide_eq_false q]
        refine iteF ⟨sa, ?_⟩
        rw [ea, fs, if_neg (by rw [decide_eq_false q]; decide), List.append_nil]
    rintro H2 ⟨s2, e2⟩
    rw [tx] at e2
    refine nilA ⟨d2, _, rfl, .inl (SqL.of e2), ?_⟩
    refine ⟨_, _, rfl, rfl, ?_⟩
    rw [List.length_map, List.length_map]
    exact k _ (s1.trans s2)
end

/-! ### the first wrong sign, by the law's own look -/
def wrI : Option Nat → Int
  | some p => (p : Nat)
  | none => -1
def spWrong : Sp := fun vs H Q _ => ∃ x : List Nat, vs = [.str (sT x)] ∧ x.length ≤ 1000 ∧ ∀ H', Same H H' → Q (.int (wrI (fwC [] x))) H'
theorem blank2_is (c : Nat) : inV (.str ⟨#[c]⟩) [V.str " ", V.str "("] = decide (c = 32 ∨ c = 40) := by
  have h : inV (.str ⟨#[c]⟩) [V.str " ", V.str "("] = blankV c := Bool.or_comm .. |>.trans (by show _ = ([V.str "(", V.str " "].any fun y => eqV y (.str ⟨#[c]⟩)); simp [List.any_cons, Bool.or_comm])
  rw [h, blankV_is]
theorem ix_nat (n d i : Nat) : HT.sIx n d (some ((i : Nat) : Int)) = min i n := by
  unfold HT.sIx
  simp
  omega
theorem cutS_take (x : List Nat) (i : Nat) : cutS (sT x) none (some (i : Nat)) = sT (x.take i) := by
  unfold cutS
  rw [ix_nat]
  have e0 : HT.sIx (sT x).length 0 none = 0 := by
    unfold HT.sIx
    rfl
  rw [e0, sT_len]
  show sT _ = _
  congr 1
  show (x.drop 0).take (min i x.length - 0) = x.take i
  rw [List.drop_zero, Nat.sub_zero]
  by_cases h : i ≤ x.length
  · rw [Nat.min_eq_left h]
  · rw [Nat.min_eq_right (by omega), List.take_length, List.take_of_length_le (by omega)]
def behS (p : List Nat) : Str := if awC p = true then "abcdefgh" else if ahC p = 41 then " )" else "( )"
theorem beh_in (p : List Nat) (c : Nat) : decide (c ∈ (behS p).cps.toList) = (if awC p = true then mkC c else if ahC p = 41 then decide (c = 32 ∨ c = 41) else decide (c = 40 ∨ c = 41 ∨ c = 32)) := by
  unfold behS
  by_cases a : awC p = true
  · rw [if_pos a, if_pos a]
    refine decide_eq_decide.mpr ?_
    show c ∈ [97, 98, 99, 100, 101, 102, 103, 104] ↔ _
    simp only [List.mem_cons, List.not_mem_nil, or_false]
    omega
  · rw [if_neg a, if_neg a]
    by_cases b : ahC p = 41
    · rw [if_pos b, if_pos b]
      refine decide_eq_decide.mpr ?_
      show c ∈ [32, 41] ↔ _
      simp only [List.mem_cons, List.not_mem_nil, or_false]
    · rw [if_neg b, if_neg b]
      refine decide_eq_decide.mpr ?_
      show c ∈ [40, 32, 41] ↔ _
      simp only [List.mem_cons, List.not_mem_nil, or_false]
      omega
section
variable {P : Program} {w : World} {K : PySem.W.Frag} {mg : Str → Option Value} {base : Heap}
theorem ok_lwrong (T : Bl mg) (Dlo : Dn K mg "_law_open" sLOpen ["text"]) (D : Dn K mg "_law_wrong" sLWrong ["text"]) : FnOk P w K mg base CX0 2 D.f D.fd ["text"] spWrong := by
  have GO : FnOk P w K mg base CX0 1 Dlo.f Dlo.fd ["text"] spOpen := ok_lopen T Dlo
  have sc : FnScope ["text", "ahead", "at", "sign", "behind"] ["text"] (defScope sLWrong) := ⟨rfl, rfl, rfl, by decide +kernel, rfl, by decide +kernel, by decide +kernel⟩
  refine D.F.ok sc (fun vs H Q E h => ?_) (fun cdv A outer s H vs Q E hr h => ?_)
  · obtain ⟨x, rfl, _⟩ := h
    rfl
  · obtain ⟨x, rfl, hl, k⟩ := h
    refine ⟨_, (pss_cons (ps_set (i := 1) sc.nd rfl (.inl rfl) pe_str)
      (pss_cons (ps_for PassesOwn.never rfl (pi_enumS (by rfl) T.enumerate (pa_cons (pv 0) pa_nil)) (pg_tup rfl (pgs_cons (pg_name (i := 2) sc.nd rfl (.inl rfl)) (pgs_cons (pg_name (i := 3) sc.nd rfl (.inl rfl)) pgs_nil)))
        (C8.pss_cut (ps_if (pt_cmpR op_in_seq (pv 1) (pe_tup (pa_cons pe_str (pa_cons pe_str pa_nil))) (by rfl)) (pss_one (ps_set (i := 4) sc.nd rfl (.inl rfl) pe_str)) (pss_one (ps_if (pt_cmpR op_eq (pv 1) pe_str (nomark _)) (pss_one (ps_set (i := 4) sc.nd rfl (.inl rfl) pe_str)) (pss_one (ps_set (i := 4) sc.nd rfl (.inl rfl) pe_str)))))
        (pss_cons (ps_if (PW.pt (pw_or (pt_cmpR op_notIn_sign (pv 3) (pv 4) (by rfl)) (pw_or1 (PW.pt (pw_and (pt_cmpR op_eq (pv 3) pe_str (nomark _)) (pw_and1 (pt_cmpR op_eq (de_call Dlo GO hr (pa_cons (pe_slice sl_str (pv 0) po_none (po_some (pv 2))) pa_nil)) pe_int (nomark _)))))))) (pss_one (ps_ret (pv 2))) pss_nil)
        (pss_one (ps_set (i := 1) sc.nd rfl (.inl rfl) (pv 3))))))
      (pss_cons (ps_if (PW.pt (pw_and (pt_cmpR op_ne (pv 0) pe_str (nomark _)) (pw_and1 (PW.pt (pw_or (pt_cmpR op_in_seq (pv 1) (pe_tup (pa_cons pe_str (pa_cons pe_str pa_nil))) (by rfl)) (pw_or1 (pt_cmpR op_gt (de_call Dlo GO hr (pa_cons (pv 0) pa_nil)) pe_int (nomark _)))))))) (pss_one (ps_ret (pe_callB call_len_str (by rfl) T.len b_len (pa_cons (pv 0) pa_nil)))) pss_nil)
      (pss_one (ps_ret (pe_un un_neg pe_int)))))), ?_⟩
    have zat : ∀ i : Nat, (sT x).cps[i]? = x[i]? := fun i => by
      show x.toArray[i]? = _
      rw [List.getElem?_toArray]
    have zs : (sT x).cps.size = x.length := rfl
    have line : 100000 ≤ sizeLine := by decide
    refine ⟨_, rfl, _, rfl, for_it (walk_enumS (z := sT x)) (fun i σ H' => ∃ (a b c : Option V), σ = [some (.str (sT x)), some (.str ⟨#[ahC (x.take i)]⟩), a, b, c] ∧ Same H H' ∧ fwC [] x = fwC (x.take i) (x.drop i)) ?_ ?_ ?_ ?_⟩
    · exact ⟨none, none, none, rfl, fun _ _ e => e, rfl⟩
    · exact fun _ _ _ _ _ => trivial
    · rintro i y σ H1 H2 hi ⟨a, b, c, rfl, s1, fw⟩ ⟨t, ch, rfl, ht, rfl, hch⟩
      rw [zat] at hch
      obtain ⟨c1, c2, c3⟩ := cut_at hch
      have ix : i < x.length := (List.getElem?_eq_some_iff.mp hch).1
      have s2 : Same H1 (upd H1 t (.tup [.int (i : Nat), .str ⟨#[ch]⟩])) := Same.new ht
      have sH2 := s1.trans s2
      refine ⟨t, _, rfl, SqT.of upd_same, rfl, _, _, rfl, _, _, rfl, rfl, ?_⟩
      generalize upd H1 t (.tup [.int (i : Nat), .str ⟨#[ch]⟩]) = H2 at sH2
      refine ⟨fun σ' H' => σ' = [some (.str (sT x)), some (.str ⟨#[ahC (x.take i)]⟩), some (.int (i : Nat)), some (.str ⟨#[ch]⟩), some (.str (behS (x.take i)))] ∧ Same H H', ?_, ?_⟩
      · refine ⟨_, rfl, by show 2 ≤ sizeLine; decide, fun q hq => ⟨q, _, rfl, .inr (SqT.of upd_same), rfl, by decide +kernel, ?_⟩⟩
        have sn := sH2.trans (Same.new (o := .tup [.str " ", .str "("]) hq)
        have bl : inV (.str ⟨#[ahC (x.take i)]⟩) [V.str " ", V.str "("] = awC (x.take i) := blank2_is _
        refine ⟨_, rfl, ?_⟩
        rw [if_neg Bool.false_ne_true, bl]
        cases ha : awC (x.take i) with
        | true =>
          refine iteT ⟨?_, sn⟩
          rw [show behS (x.take i) = "abcdefgh" by unfold behS; rw [if_pos ha]]
          rfl
        | false =>
          refine iteF ⟨_, rfl, rfl, _, rfl, ?_⟩
          rw [show decide ((V.str ⟨#[ahC (x.take i)]⟩ : V) = V.str ")") = decide (ahC (x.take i) = 41) from chr_eq _ 41]
          by_cases hb : ahC (x.take i) = 41
          · rw [decide_eq_true hb]
            refine iteT ⟨?_, sn⟩
            rw [show behS (x.take i) = " )" by unfold behS; rw [if_neg (by rw [ha]; decide), if_pos hb]]
            rfl
          · rw [decide_eq_false hb]
            refine iteF ⟨?_, sn⟩
            rw [show behS (x.take i) = "( )" by unfold behS; rw [if_neg (by rw [ha]; decide), if_neg hb]]
            rfl
      · rintro σ' H' ⟨rfl, s3⟩
        have bad : okS (x.take i) ch = false → fwC [] x = some i := fun n => by
          rw [fw, c1]
          unfold fwC
          rw [n, if_neg Bool.false_ne_true, c3]
        have good : okS (x.take i) ch = true → fwC [] x = fwC (x.take (i + 1)) (x.drop (i + 1)) := fun n => by
          rw [fw, c1, c2]
          show (if okS (x.take i) ch = true then _ else _) = _
          rw [if_pos n]
        have oks : okS (x.take i) ch = (decide (ch ∈ (behS (x.take i)).cps.toList) && !decide (ch = 41 ∧ openI (x.take i) = 0)) := by
          rw [beh_in]
          rfl
        have tell : ∀ H3, Same H H3 → okS (x.take i) ch = false → Q (.int (i : Nat)) H3 := fun H3 s n => by
          have z := k H3 s
          rw [bad n] at z
          exact z
        refine ⟨_, rfl, _, rfl, ch, _, rfl, rfl, _, rfl, ?_⟩
        cases hbm : decide (ch ∈ (behS (x.take i)).cps.toList) with
        | false => exact iteT (iteT ⟨_, rfl, tell _ s3 (by rw [oks, hbm]; rfl)⟩)
        | true =>
          have on : ∀ H3 (n : okS (x.take i) ch = true), Same H H3 → ∃ (a b c : Option V), ([some (V.str (sT x)), some (.str ⟨#[ahC (x.take i)]⟩), some (.int (i : Nat)), some (.str ⟨#[ch]⟩), some (.str (behS (x.take i)))] : L2.St).set 1 (some (.str ⟨#[ch]⟩)) = [some (.str (sT x)), some (.str ⟨#[ahC (x.take (i + 1))]⟩), a, b, c] ∧ Same H H3 ∧ fwC [] x = fwC (x.take (i + 1)) (x.drop (i + 1)) := fun H3 n s =>
            ⟨_, _, _, by rw [c2, ah_snoc]; rfl, s, good n⟩
          refine iteF ⟨_, rfl, rfl, _, rfl, ?_⟩
          rw [show decide ((V.str ⟨#[ch]⟩ : V) = V.str ")") = decide (ch = 41) from chr_eq ch 41]
          by_cases h41 : ch = 41
          · rw [decide_eq_true h41]
            refine iteT ?_
            refine ⟨_, rfl, _, rfl, _, rfl, sT x, rfl, by rw [sT_len]; omega, ?_⟩
            rw [cutS_take]
            refine ⟨x.take i, rfl, by rw [List.length_take]; omega, fun H3 s4 => ⟨rfl, _, rfl, ?_⟩⟩
            have s5 := s3.trans s4
            by_cases o0 : openI (x.take i) = 0
            · rw [show decide (V.int (openI (x.take i)) = V.int 0) = true from decide_eq_true (by rw [o0])]
              exact iteT ⟨_, rfl, tell _ s5 (by rw [oks, hbm, decide_eq_true ⟨h41, o0⟩]; rfl)⟩
            · rw [show decide (V.int (openI (x.take i)) = V.int 0) = false from decide_eq_false (fun z => o0 (by injection z))]
              exact iteF ⟨_, rfl, on _ (by rw [oks, hbm, decide_eq_false (fun z => o0 z.2)]; rfl) s5⟩
          · rw [decide_eq_false h41]
            have n : okS (x.take i) ch = true := by rw [oks, hbm, decide_eq_false (fun z => h41 z.1)]; rfl
            exact iteF (iteF ⟨_, rfl, on _ n s3⟩)
    · rintro σ H1 ⟨a, b, c, rfl, s1, fw⟩
      rw [zs, List.take_length, List.drop_length] at fw
      have tx : x.take (sT x).cps.size = x := List.take_length
      rw [tx]
      have fw : fwC [] x = if x ≠ [] ∧ (awC x = true ∨ 0 < openI x) then some x.length else none := fw
      have yes : ∀ H3, Same H H3 → x ≠ [] ∧ (awC x = true ∨ 0 < openI x) → Q (.int (x.length : Nat)) H3 := fun H3 s g => by
        have z := k H3 s
        rw [fw, if_pos g] at z
        exact z
      have no : ∀ H3, Same H H3 → ¬ (x ≠ [] ∧ (awC x = true ∨ 0 < openI x)) → Q (.int (-1)) H3 := fun H3 s g => by
        have z := k H3 s
        rw [fw, if_neg g] at z
        exact z
      have ee : (!decide ((V.str (sT x) : V) = V.str "")) = decide (x ≠ []) := by
        by_cases h : x = []
        · subst h
          rfl
        · rw [decide_eq_true h, decide_eq_false fun z => h ?_]
          · rfl
          · injection z with z
            have z2 : (sT x).length = (sT []).length := congrArg Str.length z
            rw [sT_len, sT_len] at z2
            exact List.eq_nil_of_length_eq_zero z2
      refine ⟨_, rfl, rfl, _, rfl, ?_⟩
      rw [ee]
      by_cases h : x = []
      · rw [decide_eq_false (fun z => z h)]
        exact iteF (iteF ⟨_, rfl, no _ s1 (fun z => z.1 h)⟩)
      · rw [decide_eq_true h]
        refine iteT ?_
        refine ⟨_, rfl, by show 2 ≤ sizeLine; decide, fun q hq => ⟨q, _, rfl, .inr (SqT.of upd_same), rfl, by decide +kernel, ?_⟩⟩
        have sn := s1.trans (Same.new (o := .tup [.str " ", .str "("]) hq)
        have bl : inV (.str ⟨#[ahC x]⟩) [V.str " ", V.str "("] = awC x := blank2_is _
        refine ⟨_, rfl, ?_⟩
        rw [if_neg Bool.false_ne_true, bl]
        cases ha : awC x with
        | true =>
          refine iteT (iteT ⟨_, rfl, sT x, rfl, by rw [sT_len]; omega, ?_⟩)
          rw [sT_len]
          exact yes _ sn ⟨h, .inl ha⟩
        | false =>
          refine iteF ⟨_, rfl, x, rfl, hl, fun H3 s4 => ⟨_, _, rfl, rfl, _, rfl, ite2 (fun g => ?_) (fun g => ?_)⟩⟩
          · refine ⟨_, rfl, sT x, rfl, by rw [sT_len]; omega, ?_⟩
            rw [sT_len]
            exact yes _ (sn.trans s4) ⟨h, .inr (of_decide_eq_true g)⟩
          · exact ⟨_, rfl, no _ (sn.trans s4) (fun z => z.2.elim (fun y => by rw [ha] at y; cases y) (fun y => g (decide_eq_true y)))⟩
end

theorem ix_listK {X : Cx} {K : PySem.W.Frag} (h : X.K = K) : IxR X (rIxL K) := by
  subst h
  exact ix_list
def txtV (doc : Doc) (b : Nat) : List V := (List.range doc.length).map fun j => V.str (if doc.length ≤ j + b then sT (nodeText doc j) else sT [])
theorem txtV_len (doc : Doc) (b : Nat) : (txtV doc b).length = doc.length := by unfold txtV; rw [List.length_map, List.length_range]
theorem txtV_at {doc : Doc} {b j : Nat} (h : j < doc.length) : (txtV doc b)[j]? = some (V.str (if doc.length ≤ j + b then sT (nodeText doc j) else sT [])) := by
  unfold txtV
  rw [List.getElem?_map, List.getElem?_range h]
  rfl
def textV (doc : Doc) : List V := (List.range doc.length).map fun j => V.str (sT (nodeText doc j))
theorem txtV_all (doc : Doc) : txtV doc doc.length = textV doc := by
  unfold txtV textV
  refine List.map_congr_left fun j _ => ?_
  rw [if_pos (by omega)]
theorem textV_at {doc : Doc} {j : Nat} (h : j < doc.length) : (textV doc)[j]? = some (V.str (sT (nodeText doc j))) := by
  unfold textV
  rw [List.getElem?_map, List.getElem?_range h]
  rfl
theorem txtV_set {doc : Doc} {b m : Nat} (hm : m < doc.length) (e : m + b + 1 = doc.length) : (txtV doc b).set m (V.str (sT (nodeText doc m))) = txtV doc (b + 1) := by
  apply List.ext_getElem?
  intro j
  by_cases jl : j < doc.length
  · by_cases q : j = m
    · subst q
      rw [List.getElem?_set_self (by rw [txtV_len]; exact jl), txtV_at jl, if_pos (by omega)]
    · rw [List.getElem?_set_ne (fun z => q z.symm), txtV_at jl, txtV_at jl]
      by_cases q2 : doc.length ≤ j + b
      · rw [if_pos q2, if_pos (by omega)]
      · rw [if_neg q2, if_neg (by omega)]
  · rw [List.getElem?_eq_none (by rw [List.length_set, txtV_len]; omega), List.getElem?_eq_none (by rw [txtV_len]; omega)]
theorem nodeText_len {doc : Doc} (ok : okFrom 0 doc) {i : Nat} (hi : i < doc.length) : (nodeText doc i).length ≤ 3 * doc.length := by
  rw [← piece_text]
  have a := textOf_len (ok_piece ok hi)
  have b := piece_len hi
  omega
theorem sum_le {α : Type} (f : α → Nat) (m : Nat) : ∀ l : List α, (∀ x ∈ l, f x ≤ m) → (l.map f).sum ≤ l.length * m
  | [], _ => Nat.zero_le _
  | x :: r, h => by
    have ih := sum_le f m r fun y hy => h y (List.mem_cons_of_mem _ hy)
    have h1 := h x List.mem_cons_self
    rw [List.map_cons, List.sum_cons, List.length_cons, Nat.add_mul]
    omega
/-- a row's texts are joined -/
theorem row_join {doc : Doc} (ok : okFrom 0 doc) (small : doc.length ≤ 1000) {row : List Nat} (all : ∀ i ∈ row, i < doc.length) (rl : row.length ≤ doc.length) :
    ((row.map fun i => sT (nodeText doc i)).map (·.length)).sum + (row.map fun i => sT (nodeText doc i)).length * (" " : Str).length ≤ 16777216 ∧
    Txt.join (" " : Str) (row.map fun i => sT (nodeText doc i)) = sT (joinT (row.map (nodeText doc))) := by
  constructor
  · rw [List.map_map, List.length_map]
    have h := sum_le (fun i => (sT (nodeText doc i)).length) 3000 row fun i hi => by
      have := nodeText_len ok (all i hi)
      show (sT (nodeText doc i)).length ≤ 3000
      rw [sT_len]
      omega
    have e : (" " : Str).length = 1 := by rfl
    rw [e]
    have : (row.map ((fun x : Str => x.length) ∘ fun i => sT (nodeText doc i))).sum ≤ row.length * 3000 := h
    omega
  · rw [join_tl, List.map_map]
    rfl
def spWritten : Sp := fun vs H Q _ => ∃ (p : Addr) (doc : Doc), vs = [.ref p] ∧ DocAt H p doc ∧ okFrom 0 doc ∧ doc.length ≤ 1000 ∧ ∀ H', Same H H' → Q (.str (sT (textOf doc))) H'
theorem rowA_mem {doc : Doc} {t i : Nat} {o : Option Nat} (h : i ∈ rowA doc t o) : i < t ∧ lawPar doc i = o := by
  obtain ⟨a, b⟩ := List.mem_filter.mp h
  exact ⟨List.mem_range.mp a, of_decide_eq_true b⟩
section
variable {P : Program} {w : World} {K : PySem.W.Frag} {mg : Str → Option Value} {base : Heap}
theorem ok_lwritten (T : Bl mg) (Dlp : Dn K mg "_law_parents" sLPars pDocu) (Dlk : Dn K mg "_law_children" sLKids pDocu) (D : Dn K mg "_law_written" sLWritten pDocu) : FnOk P w K mg base CX0 3 D.f D.fd pDocu spWritten := by
  have GLK : FnOk P w K mg base CX0 2 Dlk.f Dlk.fd pDocu spLKids := ok_lkids T Dlp Dlk
  have sc : FnScope ["document", "rows", "node", "got", "back", "inner", "child"] pDocu (defScope sLWritten) := ⟨rfl, rfl, rfl, by decide +kernel, rfl, by decide +kernel, by decide +kernel⟩
  refine D.F.ok sc (fun vs H Q E h => ?_) (fun cdv A outer s H vs Q E hr h => ?_)
  · obtain ⟨p, doc, rfl, _⟩ := h
    rfl
  · obtain ⟨p, doc, rfl, hd, ok, hl, k⟩ := h
    refine ⟨_, pss_cons (ps_set (i := 1) sc.nd rfl (.inl rfl) (de_call Dlk GLK hr (pa_cons (pv 0) pa_nil))) (pss_cons (ps_set (i := 3) sc.nd rfl (.inr rfl) (pe_lc (own := [("node", 2)]) (g := gName 2) (tt := tYes) rfl sc.nd (pi_tup (pv 0))
        (blkOk_by (N := ["document", "rows", "node", "got", "back", "inner", "child"]) (sc := defScope sLWritten) (by decide +kernel)) (fun _ _ _ _ _ => (pg_name (i := 2) sc.nd rfl (.inl rfl))) (fun _ _ _ _ _ => pts_nil) (fun _ _ _ _ _ => pe_str)))
      (pss_cons (ps_for PassesOwn.never rfl (pi_range1 (by rfl) T.range (pa_cons (pe_callB call_len_seq (by rfl) T.len b_len (pa_cons (pv 0) pa_nil)) pa_nil)) (pg_name (i := 4) sc.nd rfl (.inl rfl))
        (pss_cons (ps_set (i := 2) sc.nd rfl (.inl rfl) (pe_op op_sub (pe_op op_sub (pe_callB call_len_seq (by rfl) T.len b_len (pa_cons (pv 0) pa_nil)) pe_int) (pv 4)))
        (pss_cons (ps_set (i := 5) sc.nd rfl (.inl rfl) (pe_join pe_str (pe_lc (own := [("child", 6)]) (g := gName 6) (tt := tYes) rfl sc.nd (pi_list (pe_ix ix_list (pv 1) (pv 2) (fun _ _ => rfl)))
          (blkOk_by (N := ["document", "rows", "node", "got", "back", "inner", "child"]) (sc := defScope sLWritten) (by decide +kernel)) (fun _ _ _ _ _ => (pg_name (i := 6) sc.nd rfl (.inl rfl))) (fun _ _ _ _ _ => pts_nil) (fun _ _ _ _ _ => pe_ix (ix_listK (K := K) rfl) (pv 3) (pv 6) (fun _ _ => rfl)))))
        (pss_one (ps_asg (pe_op op_add_str (pe_ix ix_tup (pe_ix ix_tup (pv 0) (pv 2) (fun _ _ => rfl)) pe_int (fun _ _ => rfl)) (pe_ifExp (pt_cmpR (op_neD hr.units) (pe_ix ix_list (pv 1) (pv 2) (fun _ _ => rfl)) (pe_lst pa_nil) (nomark _)) (pe_op op_add_str (pe_op op_add_str pe_str (pv 5)) pe_str) pe_str)) (pg_sub (pv 3) (pv 2) set_list))))))
      (pss_one (ps_ret (pe_join pe_str (pe_lc (own := [("node", 2)]) (g := gName 2) (tt := tYes) rfl sc.nd (pi_list (pe_ix ix_list (pv 1) (pe_callB call_len_seq (by rfl) T.len b_len (pa_cons (pv 0) pa_nil)) (fun _ _ => rfl)))
          (blkOk_by (N := ["document", "rows", "node", "got", "back", "inner", "child"]) (sc := defScope sLWritten) (by decide +kernel)) (fun _ _ _ _ _ => (pg_name (i := 2) sc.nd rfl (.inl rfl))) (fun _ _ _ _ _ => pts_nil) (fun _ _ _ _ _ => pe_ix (ix_listK (K := K) rfl) (pv 3) (pv 2) (fun _ _ => rfl)))))))), ?_⟩
    obtain ⟨ws, ews, qws⟩ := id hd
    have len := Paired.length qws
    have line : 100000 ≤ sizeLine := by decide
    refine ⟨_, rfl, p, doc, rfl, hd, ok, by omega, fun H0 r as s0 hr0 al er kids => ?_⟩
    have hk0 := k
    replace k : ∀ H', Same H0 H' → Q (.str (sT (textOf doc))) H' := fun H' s => hk0 H' (s0.trans s)
    replace hd := hd.same s0
    replace ews := s0 _ _ ews
    replace qws := qws.mono (Same.tups s0)
    clear hk0 s0
    refine ⟨_, rfl, p, rfl, ⟨ws, SqT.of ews⟩, fun g hg => ?_⟩
    refine lc_it (walk_tup (K := K) (a := p) (xs := ws)) (fun j H' => Same H0 H' ∧ H' g = some (.lst (List.replicate j (V.str (sT []))))) ?_ ?_ ?_ ?_
    · exact ⟨Same.new hg, upd_same⟩
    · rintro j H' hj ⟨s1, _⟩
      exact SqT.of (s1 _ _ ews)
    · rintro j y H1 H2 hj ⟨s1, eg⟩ ⟨rfl, hy⟩
      refine ⟨rfl, _, eg, by rw [List.length_replicate]; omega, fun b o e => ?_, ?_⟩
      · rw [upd_ne (ne_of_none e hg)]
        exact s1 b o e
      · rw [upd_same, List.replicate_succ']
        rfl
    rintro H1 ⟨s1, eg⟩
    have start : List.replicate ws.length (V.str (sT [])) = txtV doc 0 := by
      rw [len]
      apply List.ext_getElem?
      intro j
      by_cases jl : j < doc.length
      · rw [txtV_at jl, if_neg (by omega), List.getElem?_replicate, if_pos jl]
      · rw [List.getElem?_eq_none (by rw [List.length_replicate]; omega), List.getElem?_eq_none (by rw [txtV_len]; omega)]
    rw [start] at eg
    refine ⟨_, rfl, p, ws, rfl, .inr (SqT.of (s1 _ _ ews)), _, rfl, by omega, by omega, for_range (lo := 0) (n := ((ws.length : Nat) : Int).toNat) (fun b σ H' => Same H0 H' ∧ H' g = some (.lst (txtV doc b)) ∧ b ≤ doc.length ∧
      ∃ x y z : Option V, σ = [some (.ref p), some (.ref r), x, some (.ref g), y, z, none]) ?_ ?_ ?_⟩
    · exact ⟨s1, eg, Nat.zero_le _, none, none, none, rfl⟩
    · rintro b σ H2 hb ⟨s2, eg2, bl, x, y, z, rfl⟩
      obtain ⟨m, hm⟩ : ∃ m, m + b + 1 = doc.length := ⟨doc.length - b - 1, by omega⟩
      have lt : m < doc.length := by omega
      have mv : ((ws.length : Nat) : Int) - 1 - (0 + (b : Int)) = (m : Nat) := by omega
      obtain ⟨vs, rr, ch, e1, e2, e3, e4, e5⟩ := hd.ent lt
      have ha : as[m]? = some (as[m]'(by omega)) := List.getElem?_eq_getElem (by omega)
      generalize as[m]'(by omega) = am at ha
      have hav : (as.map V.ref)[m]? = some (V.ref am) := by rw [List.getElem?_map, ha]; rfl
      have row := kids m am ha
      have km : kO doc.length m = some m := if_neg (by omega)
      rw [km] at row
      have all : ∀ i ∈ rowA doc doc.length (some m), i < doc.length := fun i hi => (rowA_mem hi).1
      refine ⟨_, rfl, p, ws, rfl, .inr (SqT.of (s2 _ _ ews)), _, _, rfl, rfl, _, rfl, _, _, rfl, rfl, ?_⟩
      have ixm : ∀ {xs : List V} {v : V}, xs[m]? = some v → atI xs (((ws.length : Nat) : Int) - 1 - (0 + (b : Int))) = some v := fun h => by
        rw [mv]
        exact atI_nat h
      refine ⟨⟨_, rfl⟩, _, rfl, _, rfl, r, _, _, _, rfl, rfl, SqL.of (s2 _ _ er), ixm hav, am, rfl, ⟨_, SqL.of (s2 _ _ row)⟩, fun D hD => ?_⟩
      refine lc_it (walk_list (K := K) (a := am) (xs := nV (rowA doc doc.length (some m)))) (fun j H' => Same H2 H' ∧ H' D = some (.lst (((rowA doc doc.length (some m)).take j).map fun i => V.str (sT (nodeText doc i))))) ?_ ?_ ?_ ?_
      · exact ⟨Same.new hD, upd_same⟩
      · rintro j H' hj ⟨s3, _⟩
        exact SqL.of (s3 _ _ (s2 _ _ row))
      · rintro j v H3 H4 hj ⟨s3, ed⟩ ⟨rfl, hv⟩
        have jl : j < (rowA doc doc.length (some m)).length := by unfold nV at hj; rw [List.length_map] at hj; exact hj
        have hvv : v = V.int ((rowA doc doc.length (some m))[j] : Nat) := by
          unfold nV at hv
          rw [List.getElem?_map, List.getElem?_eq_getElem jl] at hv
          exact (Option.some.inj hv).symm
        subst hvv
        obtain ⟨il, ip⟩ := rowA_mem (List.getElem_mem jl)
        have im := par_lt ip
        refine ⟨rfl, _, rfl, _, rfl, g, _, _, _, rfl, rfl, SqL.of (s3 _ _ eg2), atI_nat (txtV_at il), _, ed, ?_, fun b' o e => ?_, ?_⟩
        · rw [List.length_map, List.length_take]
          have := rowA_len doc doc.length (some m)
          omega
        · rw [upd_ne (ne_of_none e hD)]
          exact s3 b' o e
        · rw [upd_same, List.take_succ_eq_append_getElem jl, List.map_append, if_pos (by omega)]
          rfl
      · rintro H3 ⟨s3, ed⟩
        have tk : (rowA doc doc.length (some m)).take (nV (rowA doc doc.length (some m))).length = rowA doc doc.length (some m) := by
          unfold nV
          rw [List.length_map, List.take_length]
        rw [tk] at ed
        obtain ⟨j1, j2⟩ := row_join ok hl all (rowA_len _ _ _)
        have ed2 : H3 D = some (.lst (((rowA doc doc.length (some m)).map fun i => sT (nodeText doc i)).map V.str)) := by
          rw [List.map_map]
          exact ed
        refine ⟨" ", D, _, rfl, rfl, .inl (SqL.of ed2), j1, ?_⟩
        rw [j2]
        have s23 := s2.trans s3
        refine ⟨_, rfl, _, rfl, p, vs, _, _, rfl, rfl, SqT.of (s23 _ _ e1), ixm e2, rr, _, 0, _, rfl, rfl, SqT.of (s23 _ _ e3), rfl, ?_⟩
        refine ⟨_, rfl, _, rfl, r, _, _, _, rfl, rfl, SqL.of (s23 _ _ er), ixm hav, Nat.zero_le _, fun e he => ?_⟩
        have s34 : Same H3 (upd H3 e (.lst [])) := Same.new he
        have nt := node_text ok lt
        rw [rowOf_eq ok (fun j hj => by cases hj; exact lt)] at nt
        rw [← e5] at nt
        have nl := nodeText_len ok lt
        refine ⟨_, _, .lst (SqL.of (s34 _ _ (s23 _ _ row))) (dp_ints _), .lst (SqL.of upd_same) .nil, ints_shaped _, ints_shaped [], _, rfl, ?_⟩
        rw [show PyData.eqv (.list ((rowA doc doc.length (some m)).map fun n => PyData.int (n : Nat))) (.list []) = _ from ints_eqv _]
        have nt' : nodeText doc m = ch :: (if rowA doc doc.length (some m) = [] then [] else 40 :: joinT ((rowA doc doc.length (some m)).map (nodeText doc)) ++ [41]) := nt
        have s24 := s23.trans s34
        have eg4 := s34 _ _ (s3 _ _ eg2)
        have ixn : ixN (txtV doc b).length (((ws.length : Nat) : Int) - 1 - (0 + (b : Int))) = some m := by
          rw [mv, txtV_len]
          unfold ixN
          rw [if_pos (by omega), if_pos (by omega)]
          rfl
        have fin : ∀ (u : Str) (inn : V), (⟨#[ch]⟩ : Str) ++ u = sT (nodeText doc m) → (∃ i j, V.str (⟨#[ch]⟩ : Str) = V.str i ∧ V.str u = V.str j ∧ i.length + j.length ≤ sizeLine ∧
            (gSub (tVar 3) (tVar 2) rSetL) (.str (i ++ j)) [some (.ref p), some (.ref r), some (.int (((ws.length : Nat) : Int) - 1 - (0 + (b : Int)))), some (.ref g), some (.int (0 + (b : Int))), some inn, none] (upd H3 e (.lst []))
              fun σ H' => Same H0 H' ∧ H' g = some (.lst (txtV doc (b + 1))) ∧ b + 1 ≤ doc.length ∧ ∃ x y z : Option V, σ = [some (.ref p), some (.ref r), x, some (.ref g), y, z, none]) := by
          intro u inn eu
          have l0 : ((⟨#[ch]⟩ : Str) ++ u).length = (⟨#[ch]⟩ : Str).length + u.length := by
            rw [TL.len_tl, TL.len_tl, TL.len_tl, TL.tl_append, List.length_append]
          refine ⟨_, _, rfl, rfl, ?_, ?_⟩
          · rw [← l0, eu, sT_len]
            omega
          · refine ⟨_, rfl, _, rfl, g, _, _, m, rfl, rfl, eg4, ixn, fun b' o e' => ?_, ?_, by omega, _, _, _, rfl⟩
            · rw [upd_ne (ne_of_none e' hg)]
              exact s24 b' o e'
            · rw [upd_same, eu, txtV_set lt hm]
        refine ite2 (fun c1 => ?_) (fun c1 => ?_)
        · have ne : rowA doc doc.length (some m) ≠ [] := fun z => by
            rw [z] at c1
            exact absurd c1 (by decide)
          rw [if_neg ne] at nt'
          have jl : (joinT ((rowA doc doc.length (some m)).map (nodeText doc))).length ≤ 3000 := by
            have := congrArg List.length nt'
            rw [List.length_cons, List.length_append, List.length_cons] at this
            omega
          refine ⟨_, rfl, _, _, rfl, rfl, ?_, _, _, rfl, rfl, ?_, fin _ _ ?_⟩
          · show (sT [40]).length + (sT (joinT ((rowA doc doc.length (some m)).map (nodeText doc)))).length ≤ sizeLine
            rw [sT_len, sT_len]
            show 1 + _ ≤ _
            omega
          · show (sT [40] ++ sT (joinT ((rowA doc doc.length (some m)).map (nodeText doc)))).length + (sT [41]).length ≤ sizeLine
            rw [sT_add, sT_len, sT_len, List.length_append]
            show 1 + _ + 1 ≤ _
            omega
          · show sT [ch] ++ ((sT [40] ++ sT (joinT ((rowA doc doc.length (some m)).map (nodeText doc)))) ++ sT [41]) = _
            rw [sT_add, sT_add, sT_add, nt']
            rfl
        · have em : rowA doc doc.length (some m) = [] := by
            cases h : rowA doc doc.length (some m) with
            | nil => rfl
            | cons a l =>
              rw [h] at c1
              exact absurd rfl c1
          rw [if_pos em] at nt'
          refine fin _ _ ?_
          show sT [ch] ++ sT [] = _
          rw [sT_add, nt']
          rfl
    · rintro σ H2 ⟨s2, eg2, bl, x, y, z, rfl⟩
      have e : (((ws.length : Nat) : Int).toNat) = doc.length := by omega
      rw [e, txtV_all] at eg2
      have ha : as[doc.length]? = some (as[doc.length]'(by omega)) := List.getElem?_eq_getElem (by omega)
      generalize as[doc.length]'(by omega) = an at ha
      have hav : (as.map V.ref)[doc.length]? = some (V.ref an) := by rw [List.getElem?_map, ha]; rfl
      have row := kids _ an ha
      have kn : kO doc.length doc.length = none := if_pos rfl
      rw [kn] at row
      have ixn : atI (as.map V.ref) ((ws.length : Nat) : Int) = some (V.ref an) := by rw [len]; exact atI_nat hav
      refine ⟨⟨_, rfl⟩, _, rfl, _, rfl, p, ws, rfl, .inr (SqT.of (s2 _ _ ews)), r, _, _, _, rfl, rfl, SqL.of (s2 _ _ er), ixn, an, rfl, ⟨_, SqL.of (s2 _ _ row)⟩, fun B hB => ?_⟩
      refine lc_it (walk_list (K := K) (a := an) (xs := nV (rowA doc doc.length none))) (fun j H' => Same H2 H' ∧ H' B = some (.lst (((rowA doc doc.length none).take j).map fun i => V.str (sT (nodeText doc i))))) ?_ ?_ ?_ ?_
      · exact ⟨Same.new hB, upd_same⟩
      · rintro j H' hj ⟨s5, _⟩
        exact SqL.of (s5 _ _ (s2 _ _ row))
      · rintro j v H5 H6 hj ⟨s5, ed⟩ ⟨rfl, hv⟩
        have jl : j < (rowA doc doc.length none).length := by unfold nV at hj; rw [List.length_map] at hj; exact hj
        have hvv : v = V.int ((rowA doc doc.length none)[j] : Nat) := by
          unfold nV at hv
          rw [List.getElem?_map, List.getElem?_eq_getElem jl] at hv
          exact (Option.some.inj hv).symm
        subst hvv
        obtain ⟨il, ip⟩ := rowA_mem (List.getElem_mem jl)
        refine ⟨rfl, _, rfl, _, rfl, g, _, _, _, rfl, rfl, SqL.of (s5 _ _ eg2), atI_nat (textV_at il), _, ed, ?_, fun b' o e => ?_, ?_⟩
        · rw [List.length_map, List.length_take]
          have := rowA_len doc doc.length none
          omega
        · rw [upd_ne (ne_of_none e hB)]
          exact s5 b' o e
        · rw [upd_same, List.take_succ_eq_append_getElem jl, List.map_append]
          rfl
      rintro H5 ⟨s5, ed⟩
      have tk : (rowA doc doc.length none).take (nV (rowA doc doc.length none)).length = rowA doc doc.length none := by
        unfold nV
        rw [List.length_map, List.take_length]
      rw [tk] at ed
      obtain ⟨j1, j2⟩ := row_join ok hl (row := rowA doc doc.length none) (fun i hi => (rowA_mem hi).1) (rowA_len _ _ _)
      have ed2 : H5 B = some (.lst (((rowA doc doc.length none).map fun i => sT (nodeText doc i)).map V.str)) := by
        rw [List.map_map]
        exact ed
      refine ⟨" ", B, _, rfl, rfl, .inl (SqL.of ed2), j1, ?_⟩
      rw [j2]
      have due : joinT ((rowA doc doc.length none).map (nodeText doc)) = textOf doc := by
        have e : rowA doc doc.length none = rowL 0 0 doc := (rowOf_eq ok (o := none) (fun j hj => nomatch hj)).symm
        rw [e]
        exact due_text ok
      rw [due]
      exact k _ (s2.trans s5)
end

/-! ### small lemmas of many laws -/
theorem nxI {n : L2.St → Hp → Prop} {r : VK} {b c : L2.St → Hp → Prop} {σ : L2.St} {H : Hp} (h : n σ H) : Ends.nx { nx := n, rt := r, bk := b, ct := c } σ H := h
theorem nameI {i : Nat} {v : V} {σ : L2.St} {H : Hp} {Q : L2.St → Hp → Prop} (h : Q (σ.set i (some v)) H) : gName i v σ H Q := h
theorem bS {p : Addr} {H H' : Hp} (s : Same H H') : SameBut p H H' := fun b o _ e => s b o e
theorem yes_of {σ : L2.St} {H : Hp} {R : Bool → Hp → Prop} (h : R true H) : tYes σ H R := h
theorem callA {sp : Sp} {dvs : List V} {E : XK} {t : TA} {σ : L2.St} {H : Hp} {Q : VK} (h : t σ H fun vs H1 => sp (vs ++ dvs) H1 Q E) : tCall sp dvs E t σ H Q := h
theorem dput_of {td ty tv : TE} {D : Ends} {σ : L2.St} {H : Hp} (h : tv σ H fun v H1 => td σ H1 fun x H2 => ty σ H2 fun y H3 => ∃ a H4, x = .ref a ∧ DPut H3 a y v H4 ∧ D.nx σ H4) : sDPut td ty tv D σ H := h
theorem dropS {sp : Sp} {E : L2.St → XK} {t : TA} {D : Ends} {σ : L2.St} {H : Hp} (h : t σ H fun vs H1 => sp vs H1 (fun _ H2 => D.nx σ H2) (E σ)) : tDrop (tCallS sp E t) D σ H := h
theorem seq_par {i j : Nat} {ta : TA} {rest : TS} {D : Ends} {σ : L2.St} {H : Hp} (h : ta σ H fun vs H1 => ∃ v w, vs = [v, w] ∧ rest D ((σ.set i (some v)).set j (some w)) H1) : tSeq (tPar i j ta) rest D σ H := h
theorem units1 {k : Nat} {A : Around} (r : Room k A) : A.units + 1 < cLine := by have := r.units; omega
theorem draw2 {H : Hp} {p : Addr} {n : Int} {m : Nat} {o : List V} {Q : VK} {E : XK} (hp : H p = some (.lst o)) (hf : FeedOk (m + 1) o) (n0 : 0 < n) (wn : Wd 1000 n)
    (k : ∀ (H' : Hp) (o' : List V) (r : Nat), SameBut p H H' → H' p = some (.lst o') → FeedOk m o' → (r : Int) < n → Q (.int (r : Nat)) H') : spDraw [.ref p, .int n] H Q E :=
  ⟨p, n, m, o, rfl, hp, hf, n0, wn, fun o' r f a b => by
    obtain ⟨i, rfl⟩ := Int.eq_ofNat_of_zero_le a
    exact k _ o' i SameBut.refl.put upd_same f b⟩
theorem wdS {n : Int} (h : n.natAbs ≤ 1000000) : Wd 1000 n := ⟨Nat.lt_of_le_of_lt h (by decide +kernel)⟩
theorem ixN_n {n j : Nat} (hj : j < n) : ixN n (j : Int) = some j := by
  unfold ixN
  first
    | rw [if_pos (by omega), if_pos (by omega)]; simp
    | (simp; omega)
    | (split <;> simp <;> omega)
theorem same_sb {f g : Addr} {H H' : Hp} {o : HO} (s : SameBut f H H') (hg : H g = none) : SameBut f H (upd H' g o) := fun b u n e => by
  rw [upd_ne (ne_of_none e hg)]
  exact s b u n e
def Kept (p : Addr → Prop) (H H' : Hp) : Prop := ∀ b o, ¬ p b → H b = some o → H' b = some o
theorem Kept.trans {p : Addr → Prop} {H H1 H2 : Hp} (a : Kept p H H1) (b : Kept p H1 H2) : Kept p H H2 := fun c o n e => b c o n (a c o n e)
theorem Kept.of {p : Addr → Prop} {H H' : Hp} (s : Same H H') : Kept p H H' := fun b o _ e => s b o e
theorem Kept.but {p : Addr → Prop} {q : Addr} {H H' : Hp} (s : SameBut q H H') (hq : p q) : Kept p H H' := fun b o n e => s b o (fun z => n (z ▸ hq)) e
theorem Kept.put {p : Addr → Prop} {q : Addr} {H : Hp} {o : HO} (hq : p q) : Kept p H (upd H q o) := fun b u n e => by
  rw [upd_ne (fun z => n (by rw [z]; exact hq))]
  exact e
def Lives (p : Addr → Prop) (H : Hp) : Prop := ∀ a, p a → H a ≠ none
theorem Lives.same {p : Addr → Prop} {H H' : Hp} (h : Lives p H) (s : Same H H') : Lives p H' := fun a pa e => h a pa (s.free e)
theorem Lives.new {p : Addr → Prop} {H : Hp} {a : Addr} (h : Lives p H) (e : H a = none) : ¬ p a := fun z => h a z e
theorem lives_f {f : Addr} {H : Hp} {o : HO} (h : H f = some o) : Lives (· = f) H := fun a e => by rw [e, h]; exact fun z => nomatch z
theorem kf {f : Addr} {H H' : Hp} (s : SameBut f H H') : Kept (· = f) H H' := fun b o n e => s b o n e
theorem kf2 {f : Addr} {H H' : Hp} (s : Same H H') : Kept (· = f) H H' := fun b o _ e => s b o e
theorem all_true (n : Nat) : (List.replicate n true).all id = true := by
  rw [List.all_eq_true]
  intro b hb
  exact (List.eq_of_mem_replicate hb).symm ▸ rfl
theorem isI {i : Int} {A B : Prop} (h : B) : if (!decide (i = i)) = true then A else B := by
  rw [decide_eq_true rfl]
  exact iteF h

/-! ### a text near to another one -/
def spSpoilt : Sp := fun vs H Q _ => ∃ (p : Addr) (z : Str) (m : Nat) (o : List V), vs = [.ref p, .str z] ∧ H p = some (.lst o) ∧ FeedOk (m + 4) o ∧ z.length ≤ 200 ∧ ∀ H' y, y.length ≤ 900 → Q (.str y) H'
theorem add_len (a b : Str) : (a ++ b).length = a.length + b.length := Str.length_append a b
theorem strs_in {zs : List Str} {y : V} (h : y ∈ zs.map V.str) : ∃ z, z ∈ zs ∧ y = .str z := by
  obtain ⟨z, a, b⟩ := List.mem_map.mp h
  exact ⟨z, a, b.symm⟩
section
variable {P : Program} {w : World} {K : PySem.W.Frag} {mg : Str → Option Value} {base : Heap}
theorem ok_lspoilt (T : Bl mg) (Dd : Dn K mg "_law_draw" sDraw pDraw) (D1 : Dn K mg "_law_one" sOne pOne) (D : Dn K mg "_law_spoilt" sLSpoilt ["feed", "text"]) : FnOk P w K mg base CX0 3 D.f D.fd ["feed", "text"] spSpoilt := by
  have GD : FnOk P w K mg base CX0 1 Dd.f Dd.fd pDraw spDraw := ok_draw T Dd
  have G1 : FnOk P w K mg base CX0 2 D1.f D1.fd pOne (spOne K) := ok_one T Dd D1
  have sc : FnScope ["feed", "text", "at", "way", "sign"] ["feed", "text"] (defScope sLSpoilt) := ⟨rfl, rfl, rfl, by decide +kernel, rfl, by decide +kernel, by decide +kernel⟩
  refine D.F.ok sc (fun vs H Q E h => ?_) (fun cdv A outer s H vs Q E hr h => ?_)
  · obtain ⟨p, z, m, o, rfl, _⟩ := h
    rfl
  · obtain ⟨p, z, m, o, rfl, hp, hf, hl, k⟩ := h
    refine ⟨_, (pss_cons (ps_par (i := 2) (j := 3) rfl sc.nd rfl rfl (by decide) rfl rfl (pa_cons (de_call Dd GD hr (pa_cons (pv 0) (pa_cons (pe_op op_add (pe_callB call_len_str (by rfl) T.len b_len (pa_cons (pv 1) pa_nil)) pe_int) pa_nil))) (pa_cons (de_call Dd GD hr (pa_cons (pv 0) (pa_cons pe_int pa_nil))) pa_nil)) rfl)
      (pss_cons (ps_set (i := 4) sc.nd rfl (.inl rfl) (de_call D1 G1 hr (pa_cons (pv 0) (pa_cons pe_str pa_nil))))
      (pss_cons (ps_if (pt_cmpR op_eq (pv 3) pe_int (nomark _)) (pss_one (ps_ret (pv 1))) pss_nil)
      (pss_cons (ps_if (pt_cmpR op_eq (pv 3) pe_int (nomark _)) (pss_one (ps_ret (pe_slice sl_str (pv 1) po_none (po_some (pv 2))))) pss_nil)
      (pss_cons (ps_if (pt_cmpR op_eq (pv 3) pe_int (nomark _)) (pss_one (ps_ret (pe_op op_add_str (pv 1) (de_call D1 G1 hr (pa_cons (pv 0) (pa_cons (pe_lst (pa_cons pe_str (pa_cons pe_str (pa_cons pe_str (pa_cons (pv 1) (pa_cons (pe_op op_add_str pe_str (pv 1)) (pa_cons pe_str (pa_cons pe_str pa_nil)))))))) pa_nil)))))) pss_nil)
      (pss_cons (ps_if (pt_cmpR op_lt (pv 3) pe_int (nomark _)) (pss_one (ps_ret (pe_op op_add_str (pe_op op_add_str (pe_slice sl_str (pv 1) po_none (po_some (pv 2))) (pv 4)) (pe_slice sl_str (pv 1) (po_some (pv 2)) po_none)))) pss_nil)
      (pss_cons (ps_if (pt_cmpR op_eq (pv 3) pe_int (nomark _)) (pss_one (ps_ret (pe_op op_add_str (pe_slice sl_str (pv 1) po_none (po_some (pv 2))) (pe_slice sl_str (pv 1) (po_some (pe_op op_add (pv 2) pe_int)) po_none)))) pss_nil)
      (pss_cons (ps_if (pt_cmpR op_lt (pv 3) pe_int (nomark _)) (pss_one (ps_ret (pe_op op_add_str (pe_op op_add_str (pe_slice sl_str (pv 1) po_none (po_some (pv 2))) (pv 4)) (pe_slice sl_str (pv 1) (po_some (pe_op op_add (pv 2) pe_int)) po_none)))) pss_nil)
      (pss_one (ps_ret (pe_op op_add_str (pe_op op_add_str (pe_op op_add_str (pe_slice sl_str (pv 1) po_none (po_some (pv 2))) (pe_slice sl_str (pv 1) (po_some (pe_op op_add (pv 2) pe_int)) (po_some (pe_op op_add (pv 2) pe_int)))) (pe_slice sl_str (pv 1) (po_some (pv 2)) (po_some (pe_op op_add (pv 2) pe_int)))) (pe_slice sl_str (pv 1) (po_some (pe_op op_add (pv 2) pe_int)) po_none)))))))))))), ?_⟩
    have line : 100000 ≤ sizeLine := by decide
    refine seq_par ?_
    refine ⟨_, rfl, _, rfl, z, rfl, by omega, _, _, rfl, rfl, nilA (draw2 hp hf (by omega) (wdS (by omega)) fun H1 o1 r1 b1 e1 f1 l1 => ⟨_, rfl, consC (nilA (draw2 e1 f1 (by decide) (wdS (by decide)) fun H2 o2 r2 b2 e2 f2 l2 => nilA ⟨_, _, rfl, ?_⟩))⟩)⟩
    refine ⟨_, rfl, p, _, _, m + 1, o2, rfl, e2, f2, .inl ⟨_, rfl, rfl⟩, by decide +kernel, by decide +kernel, fun o3 y f3 my => ?_⟩
    have c1 : ∀ lo hi, (cutS z lo hi).length ≤ 200 := fun lo hi => Nat.le_trans (cutS_length z lo hi) hl
    obtain ⟨c, _, rfl⟩ := List.mem_map.mp my
    have zl : z.length ≤ sizeLine := by omega
    have l1 : ((⟨#[c]⟩ : Str)).length = 1 := rfl
    refine ⟨_, rfl, rfl, _, rfl, ite2 (fun _ => ⟨_, rfl, k _ _ (by omega)⟩) (fun _ => ?_)⟩
    refine ⟨_, rfl, rfl, _, rfl, ite2 (fun _ => ⟨_, rfl, _, rfl, _, rfl, z, rfl, zl, k _ _ (by have := c1 none (some (r1 : Nat)); omega)⟩) (fun _ => ?_)⟩
    refine ⟨_, rfl, rfl, _, rfl, ite2 (fun _ => ?_) (fun _ => ?_)⟩
    · have sp : (" " : Str).length = 1 := rfl
      refine ⟨_, rfl, _, rfl, consI (lst_of (consC (consC (consC ⟨_, rfl, ⟨_, rfl, _, _, rfl, rfl, by rw [sp]; omega, consC (consC (nilA ⟨by show 7 ≤ sizeLine; omega, fun l hl => ?_⟩))⟩⟩))))⟩
      have lp : l ≠ p := fun q => by
        rw [q, upd_same] at hl
        cases hl
      refine nilA ⟨p, _, ([(" " : Str), ("\n" : Str), (")" : Str), z, (" " : Str) ++ z, ("(" : Str), ("()" : Str)] : List Str).map V.str, m, o3, rfl, by rw [upd_ne lp.symm, upd_same], f3, .inr ⟨l, rfl, lp, SqL.of upd_same⟩, (show 0 < 7 by decide), (show 7 ≤ 1000 by decide), fun o4 y f4 my => ?_⟩
      obtain ⟨u, hu, rfl⟩ := strs_in my
      have ul : u.length ≤ 201 := by
        simp only [List.mem_cons, List.not_mem_nil, or_false] at hu
        rcases hu with e | e | e | e | e | e | e <;> subst e
        · decide +kernel
        · decide +kernel
        · decide +kernel
        · omega
        · rw [add_len, sp]
          omega
        · decide +kernel
        · decide +kernel
      exact ⟨_, _, rfl, rfl, by omega, k _ _ (by rw [add_len]; omega)⟩
    refine ⟨_, rfl, _, _, rfl, rfl, _, rfl, ite2 (fun _ => ?_) (fun _ => ?_)⟩
    · refine ⟨_, rfl, _, rfl, _, rfl, z, rfl, zl, ⟨_, rfl, _, _, rfl, rfl, by first | ((try simp only [add_len, l1]); have a1 := c1 none (some (r1 : Nat)); have a2 := c1 (some (r1 : Nat)) none; have a3 := c1 (some ((r1 : Nat) + 1)) none; have a4 := c1 (some ((r1 : Nat) + 1)) (some ((r1 : Nat) + 2)); have a5 := c1 (some (r1 : Nat)) (some ((r1 : Nat) + 1)); have a6 := c1 (some ((r1 : Nat) + 2)) none; omega), ⟨_, rfl, _, rfl, _, rfl, z, rfl, zl, ⟨_, _, rfl, rfl, by first | ((try simp only [add_len, l1]); have a1 := c1 none (some (r1 : Nat)); have a2 := c1 (some (r1 : Nat)) none; have a3 := c1 (some ((r1 : Nat) + 1)) none; have a4 := c1 (some ((r1 : Nat) + 1)) (some ((r1 : Nat) + 2)); have a5 := c1 (some (r1 : Nat)) (some ((r1 : Nat) + 1)); have a6 := c1 (some ((r1 : Nat) + 2)) none; omega), k _ _ (by first | ((try simp only [add_len, l1]); have a1 := c1 none (some (r1 : Nat)); have a2 := c1 (some (r1 : Nat)) none; have a3 := c1 (some ((r1 : Nat) + 1)) none; have a4 := c1 (some ((r1 : Nat) + 1)) (some ((r1 : Nat) + 2)); have a5 := c1 (some (r1 : Nat)) (some ((r1 : Nat) + 1)); have a6 := c1 (some ((r1 : Nat) + 2)) none; omega))⟩⟩⟩⟩
    refine ⟨_, rfl, rfl, _, rfl, ite2 (fun _ => ?_) (fun _ => ?_)⟩
    · refine ⟨_, rfl, _, rfl, _, rfl, z, rfl, zl, ⟨_, rfl, _, rfl, _, _, rfl, rfl, _, rfl, z, rfl, zl, ⟨_, _, rfl, rfl, by first | ((try simp only [add_len, l1]); have a1 := c1 none (some (r1 : Nat)); have a2 := c1 (some (r1 : Nat)) none; have a3 := c1 (some ((r1 : Nat) + 1)) none; have a4 := c1 (some ((r1 : Nat) + 1)) (some ((r1 : Nat) + 2)); have a5 := c1 (some (r1 : Nat)) (some ((r1 : Nat) + 1)); have a6 := c1 (some ((r1 : Nat) + 2)) none; omega), k _ _ (by first | ((try simp only [add_len, l1]); have a1 := c1 none (some (r1 : Nat)); have a2 := c1 (some (r1 : Nat)) none; have a3 := c1 (some ((r1 : Nat) + 1)) none; have a4 := c1 (some ((r1 : Nat) + 1)) (some ((r1 : Nat) + 2)); have a5 := c1 (some (r1 : Nat)) (some ((r1 : Nat) + 1)); have a6 := c1 (some ((r1 : Nat) + 2)) none; omega))⟩⟩⟩
    refine ⟨_, rfl, _, _, rfl, rfl, _, rfl, ite2 (fun _ => ?_) (fun _ => ?_)⟩
    · refine ⟨_, rfl, _, rfl, _, rfl, z, rfl, zl, ⟨_, rfl, _, _, rfl, rfl, by first | ((try simp only [add_len, l1]); have a1 := c1 none (some (r1 : Nat)); have a2 := c1 (some (r1 : Nat)) none; have a3 := c1 (some ((r1 : Nat) + 1)) none; have a4 := c1 (some ((r1 : Nat) + 1)) (some ((r1 : Nat) + 2)); have a5 := c1 (some (r1 : Nat)) (some ((r1 : Nat) + 1)); have a6 := c1 (some ((r1 : Nat) + 2)) none; omega), ⟨_, rfl, _, rfl, _, _, rfl, rfl, _, rfl, z, rfl, zl, ⟨_, _, rfl, rfl, by first | ((try simp only [add_len, l1]); have a1 := c1 none (some (r1 : Nat)); have a2 := c1 (some (r1 : Nat)) none; have a3 := c1 (some ((r1 : Nat) + 1)) none; have a4 := c1 (some ((r1 : Nat) + 1)) (some ((r1 : Nat) + 2)); have a5 := c1 (some (r1 : Nat)) (some ((r1 : Nat) + 1)); have a6 := c1 (some ((r1 : Nat) + 2)) none; omega), k _ _ (by first | ((try simp only [add_len, l1]); have a1 := c1 none (some (r1 : Nat)); have a2 := c1 (some (r1 : Nat)) none; have a3 := c1 (some ((r1 : Nat) + 1)) none; have a4 := c1 (some ((r1 : Nat) + 1)) (some ((r1 : Nat) + 2)); have a5 := c1 (some (r1 : Nat)) (some ((r1 : Nat) + 1)); have a6 := c1 (some ((r1 : Nat) + 2)) none; omega))⟩⟩⟩⟩
    refine ⟨_, rfl, _, rfl, _, rfl, z, rfl, zl, ⟨_, rfl, _, rfl, _, _, rfl, rfl, _, rfl, _, rfl, _, _, rfl, rfl, _, rfl, z, rfl, zl, ⟨_, _, rfl, rfl, by first | ((try simp only [add_len, l1]); have a1 := c1 none (some (r1 : Nat)); have a2 := c1 (some (r1 : Nat)) none; have a3 := c1 (some ((r1 : Nat) + 1)) none; have a4 := c1 (some ((r1 : Nat) + 1)) (some ((r1 : Nat) + 2)); have a5 := c1 (some (r1 : Nat)) (some ((r1 : Nat) + 1)); have a6 := c1 (some ((r1 : Nat) + 2)) none; omega), ⟨_, rfl, _, rfl, _, rfl, _, rfl, _, _, rfl, rfl, _, rfl, z, rfl, zl, ⟨_, _, rfl, rfl, by first | ((try simp only [add_len, l1]); have a1 := c1 none (some (r1 : Nat)); have a2 := c1 (some (r1 : Nat)) none; have a3 := c1 (some ((r1 : Nat) + 1)) none; have a4 := c1 (some ((r1 : Nat) + 1)) (some ((r1 : Nat) + 2)); have a5 := c1 (some (r1 : Nat)) (some ((r1 : Nat) + 1)); have a6 := c1 (some ((r1 : Nat) + 2)) none; omega), ⟨_, rfl, _, rfl, _, _, rfl, rfl, _, rfl, z, rfl, zl, ⟨_, _, rfl, rfl, by first | ((try simp only [add_len, l1]); have a1 := c1 none (some (r1 : Nat)); have a2 := c1 (some (r1 : Nat)) none; have a3 := c1 (some ((r1 : Nat) + 1)) none; have a4 := c1 (some ((r1 : Nat) + 1)) (some ((r1 : Nat) + 2)); have a5 := c1 (some (r1 : Nat)) (some ((r1 : Nat) + 1)); have a6 := c1 (some ((r1 : Nat) + 2)) none; omega), k _ _ (by first | ((try simp only [add_len, l1]); have a1 := c1 none (some (r1 : Nat)); have a2 := c1 (some (r1 : Nat)) none; have a3 := c1 (some ((r1 : Nat) + 1)) none; have a4 := c1 (some ((r1 : Nat) + 1)) (some ((r1 : Nat) + 2)); have a5 := c1 (some (r1 : Nat)) (some ((r1 : Nat) + 1)); have a6 := c1 (some ((r1 : Nat) + 2)) none; omega))⟩⟩⟩⟩⟩⟩⟩
end

/-! ### told things stay told -/
theorem sqT_go {K : PySem.W.Frag} {H H' : Hp} (s : Same H H') {a : Addr} {xs : List V} (h : SqT K H a xs) : SqT K H' a xs := by
  rcases h with (h | ⟨o, h⟩) | h
  · exact .inl (.inl (s _ _ h))
  · exact .inl (.inr ⟨o, s _ _ h⟩)
  · exact .inr h
theorem Dp.same {K : PySem.W.Frag} {H H' : Hp} (s : Same H H') {v : V} {d : PyData} (h : Dp K H v d) : Dp K H' v d := by
  have go : ∀ (d : PyData) (v : V), Dp K H v d → Dp K H' v d := fun d v h => by
    refine Dp.rec (motive_1 := fun v d _ => Dp K H' v d) (motive_2 := fun vs ds _ => DpAll K H' vs ds) ?_ ?_ ?_ ?_ ?_ ?_ ?_ ?_ h
    · exact .non
    · exact fun b => .bl b
    · exact fun i => .int i
    · exact fun x => .str x
    · exact fun hs _ ih => .lst (s.seq hs) ih
    · exact fun hs _ ih => .tup (sqT_go s hs) ih
    · exact .nil
    · exact fun _ _ a b => .cons a b
  exact go d v h
theorem told_same {K : PySem.W.Frag} {H H' : Hp} (s : Same H H') {v : V} {d : PyData} (h : Told K H v d) : Told K H' v d := ⟨Dp.same s h.at_, h.show_, h.plain, h.deep, h.short⟩

/-! ### the marks of a text, and how deep they stand -/
def marksOf : List Nat → List Nat → Doc
  | _, [] => []
  | p, c :: r => (if mkC c = true then [(c, p.length)] else []) ++ marksOf (p ++ [c]) r
def openAt (x : List Nat) (e : Nat × Nat) : Nat × Nat := (e.1, (openI (x.take e.2)).toNat)
theorem docC_marks : ∀ (r p : List Nat), docC p r = (marksOf p r).map (openAt (p ++ r))
  | [], _ => rfl
  | c :: r, p => by
    have ih := docC_marks r (p ++ [c])
    rw [List.append_assoc] at ih
    show (if mkC c = true then [(c, (openI p).toNat)] else []) ++ docC (p ++ [c]) r = ((if mkC c = true then [(c, p.length)] else []) ++ marksOf (p ++ [c]) r).map _
    rw [ih, List.map_append]
    congr 1
    cases mkC c with
    | false => rfl
    | true =>
      show [(c, (openI p).toNat)] = [(c, (openI ((p ++ c :: r).take p.length)).toNat)]
      rw [List.take_left']
      rfl
theorem open_nn : ∀ (r p : List Nat), 0 ≤ openI p → fwC p r = none → ∀ i, 0 ≤ openI ((p ++ r).take (p.length + i))
  | r, p, h, _, 0 => by
    rw [Nat.add_zero, List.take_left']
    · exact h
    · rfl
  | [], p, h, _, i + 1 => by
    rw [List.append_nil, List.take_of_length_le (by omega)]
    exact h
  | c :: r, p, h, fw, i + 1 => by
    unfold fwC at fw
    split at fw
    · rename_i k
      have h2 : 0 ≤ openI (p ++ [c]) := by
        rw [open_snoc]
        unfold okS at k
        have k2 := (Bool.and_eq_true_iff.mp k).2
        by_cases e : c = 41
        · subst e
          have : openI p ≠ 0 := fun z => by
            rw [show decide ((41 : Nat) = 41 ∧ openI p = 0) = true from decide_eq_true ⟨rfl, z⟩] at k2
            cases k2
          rw [if_neg (by decide), if_pos rfl]
          omega
        · rw [if_neg e]
          split <;> omega
      have := open_nn r (p ++ [c]) h2 fw i
      rw [List.append_assoc, List.length_append] at this
      have e : p.length + [c].length + i = p.length + (i + 1) := by
        show p.length + 1 + i = _
        omega
      rw [e] at this
      exact this
    · cases fw
theorem marks_mem : ∀ (r p : List Nat), ∀ e ∈ marksOf p r, e.2 ≤ p.length + r.length
  | [], _, e, h => absurd h List.not_mem_nil
  | c :: r, p, e, h => by
    rcases List.mem_append.mp h with h | h
    · split at h
      · rw [List.mem_singleton.mp h]
        exact Nat.le_add_right _ _
      · exact absurd h List.not_mem_nil
    · have := marks_mem r (p ++ [c]) e h
      rw [List.length_append] at this
      have t : e.2 ≤ p.length + 1 + r.length := this
      show e.2 ≤ p.length + (r.length + 1)
      omega
theorem marks_len : ∀ (r p : List Nat), (marksOf p r).length ≤ r.length
  | [], _ => Nat.le_refl _
  | c :: r, p => by
    have := marks_len r (p ++ [c])
    show ((if mkC c = true then [(c, p.length)] else []) ++ marksOf (p ++ [c]) r).length ≤ r.length + 1
    rw [List.length_append]
    split
    · show 1 + _ ≤ _
      omega
    · show 0 + _ ≤ _
      omega
theorem marks_step {x : List Nat} {i c : Nat} {pre : Doc} (h : x[i]? = some c) (e : pre ++ marksOf (x.take i) (x.drop i) = marksOf [] x) :
    (pre ++ (if mkC c = true then [(c, i)] else [])) ++ marksOf (x.take (i + 1)) (x.drop (i + 1)) = marksOf [] x := by
  obtain ⟨e1, e2, e3⟩ := cut_at h
  rw [← e, e1, e2, List.append_assoc]
  congr 1
  show _ = (if mkC c = true then [(c, (x.take i).length)] else []) ++ _
  rw [e3]
theorem eight_in (c : Nat) : decide (c ∈ ("abcdefgh" : Str).cps.toList) = mkC c := by
  refine decide_eq_decide.mpr ?_
  show c ∈ [97, 98, 99, 100, 101, 102, 103, 104] ↔ _
  simp only [List.mem_cons, List.not_mem_nil, or_false]
  omega

/-! ### k05's law -/
def spLaw (K : PySem.W.Frag) : Sp := fun vs H Q _ => ∃ (a : Addr) (ns : List Int), vs = [.ref a] ∧ ScrAt K H a ns ∧ ns.length ≤ 63 ∧ (∀ z ∈ ns, Builtin.Int.intBits z ≤ 1048576) ∧ ∀ H', Q (.bl true) H'
abbrev nLaw5 : List Str := ["script", "feed", "way", "thing", "text", "wrong", "due", "marks", "at", "sign", "turn", "cell"]
theorem call_reprD {X : Cx} {K : PySem.W.Frag} {k : Nat} (hgd : X.A.guards = some []) (room : Room k X.A) (h : X.K = K) : CallR X (.builtin "repr") (rRepr K) := by
  subst h
  exact call_repr hgd room
theorem any_keepB {K : PySem.W.Frag} {H H' : Hp} {f : Addr} {y : V} {ty : String} (s : SameBut f H H') (ne : y ≠ .ref f) (h : Any K H y ty) : Any K H' y ty := by
  have nf : ∀ {a : Addr}, (V.ref a : V) ≠ .ref f → a ≠ f := fun n z => n (by rw [z])
  cases h with
  | non => exact .non
  | bl b => exact .bl b
  | int i => exact .int i
  | str z => exact .str z
  | lst e => exact .lst (s _ _ (nf ne) e)
  | @tup a xs e =>
    refine .tup (xs := xs) ?_
    rcases e with (e | ⟨o, e⟩) | e
    · exact .inl (.inl (s _ _ (nf ne) e))
    · exact .inl (.inr ⟨o, s _ _ (nf ne) e⟩)
    · exact .inr e
  | dct e => exact .dct (s _ _ (nf ne) e)
  | dctT e => exact .dctT (s _ _ (nf ne) e)
theorem any_keep {K : PySem.W.Frag} {H H' : Hp} {y : V} {ty : String} (s : Same H H') (h : Any K H y ty) : Any K H' y ty := by
  cases h with
  | non => exact .non
  | bl b => exact .bl b
  | int i => exact .int i
  | str z => exact .str z
  | lst e => exact .lst (s _ _ e)
  | tup e => exact .tup (sqT_go s e)
  | dct e => exact .dct (s _ _ e)
  | dctT e => exact .dctT (s _ _ e)
theorem cbA {r : List V → Hp → VK → Prop} {t : TA} {σ : L2.St} {H : Hp} {Q : VK} (h : t σ H fun vs H1 => r vs H1 Q) : tCB r t σ H Q := h
theorem sixteen (j : Int) : ∃ c : Nat, atI ("abcdefgh ()( )A1" : Str).cps.toList (j % 16) = some c := by
  have h0 := Int.emod_nonneg j (show (16 : Int) ≠ 0 by decide)
  have h1 := Int.emod_lt_of_pos j (show (0 : Int) < 16 by decide)
  generalize j % 16 = z at h0 h1
  obtain ⟨n, rfl⟩ := Int.eq_ofNat_of_zero_le h0
  have n8 : n < ("abcdefgh ()( )A1" : Str).cps.toList.length := by
    rw [show ("abcdefgh ()( )A1" : Str).cps.toList.length = 16 from by decide +kernel]
    omega
  exact ⟨_, atI_nat (List.getElem?_eq_getElem n8)⟩
theorem joinL_len : ∀ l : List (List Nat), (TL.joinL [] l).length = (l.map List.length).sum
  | [] => rfl
  | [x] => by
    show x.length = x.length + 0
    omega
  | x :: y :: r => by
    have ih := joinL_len (y :: r)
    show (x ++ ([] ++ TL.joinL [] (y :: r))).length = x.length + ((y :: r).map List.length).sum
    rw [List.nil_append, List.length_append, ih]
theorem ones_sum : ∀ cs : List Nat, ((cs.map fun c => [c]).map List.length).sum = cs.length
  | [] => rfl
  | c :: r => by
    have ih := ones_sum r
    show 1 + ((r.map fun c => [c]).map List.length).sum = r.length + 1
    omega
section
variable {P : Program} {w : World} {K : PySem.W.Frag} {mg : Str → Option Value} {base : Heap}
theorem ok_law05 (T : Bl mg) (hm : MarksAt K mg) (hM : MostAt mg) (B : Bt P K mg) (hb : Binds K ((NFB B.cc B.c).fd B.doc B.pm B.ctv) ["self", "place"] []) (Dm : Dn K mg "is_mark" sMark pThing) (Drd : Dn K mg "read_document" sRead ["text"])
    (Dd : Dn K mg "_law_draw" sDraw pDraw) (D1 : Dn K mg "_law_one" sOne pOne) (Dfe : Dn K mg "_law_feed" sFeed pFeed) (Dg : Dn K mg "_law_grown" sGrown pGrown)
    (Dc : Dn K mg "_law_document" sDoc pDoc) (Ddr : Dn K mg "_law_drawn" sDrawn pDrawn) (Dlp : Dn K mg "_law_parents" sLPars pDocu) (Dlk : Dn K mg "_law_children" sLKids pDocu) (Dlw : Dn K mg "_law_written" sLWritten pDocu)
    (Dlo : Dn K mg "_law_open" sLOpen ["text"]) (Dwr : Dn K mg "_law_wrong" sLWrong ["text"]) (Dsp : Dn K mg "_law_spoilt" sLSpoilt ["feed", "text"]) (Das : Dn K mg "_law_asked" sLAsked ["thing"])
    (D : Dn K mg "law" sLaw ["script"]) : GOk P w K mg base CX0 8 D.f D.fd ["script"] (spLaw K) := by
  have GF : FnOk P w K mg base CX0 1 Dfe.f Dfe.fd pFeed (spFeed K) := ok_feed T Dfe
  have GD : FnOk P w K mg base CX0 1 Dd.f Dd.fd pDraw spDraw := ok_draw T Dd
  have G1 : FnOk P w K mg base CX0 2 D1.f D1.fd pOne (spOne K) := ok_one T Dd D1
  have GDR : FnOk P w K mg base CX0 4 Ddr.f Ddr.fd pDrawn (spDrawn K) := ok_drawn T Dd D1 Dfe Dg Dc Ddr
  have GW : FnOk P w K mg base CX0 3 Dlw.f Dlw.fd pDocu spWritten := ok_lwritten T Dlp Dlk Dlw
  have GS : FnOk P w K mg base CX0 3 Dsp.f Dsp.fd ["feed", "text"] spSpoilt := ok_lspoilt T Dd D1 Dsp
  have GO : FnOk P w K mg base CX0 1 Dlo.f Dlo.fd ["text"] spOpen := ok_lopen T Dlo
  have GWR : FnOk P w K mg base CX0 2 Dwr.f Dwr.fd ["text"] spWrong := ok_lwrong T Dlo Dwr
  have GA : FnOk P w K mg base CX0 4 Das.f Das.fd ["thing"] (spAskT K) := ok_askT T hm hM B hb Dm Drd Das
  have sc : FnScope nLaw5 ["script"] (defScope sLaw) := ⟨rfl, rfl, rfl, by decide +kernel, rfl, by decide +kernel, by decide +kernel⟩
  refine gok0 D.F sc (fun vs H Q E h => ?_) (fun cdv A outer s H vs Q E hgd hr h => ?_)
  · obtain ⟨a, ns, rfl, _⟩ := h
    rfl
  · obtain ⟨a, ns, rfl, hs, hl, hb', k⟩ := h
    refine ⟨_, (pss_cons (ps_set (i := 1) sc.nd rfl (.inl rfl) (de_call Dfe GF hr (pa_cons (pv 0) (pa_cons pe_int pa_nil))))
      (pss_cons (ps_set (i := 2) sc.nd rfl (.inl rfl) (de_call Dd GD hr (pa_cons (pv 1) (pa_cons pe_int pa_nil))))
      (pss_cons (ps_if (pt_cmpR op_eq (pv 2) pe_int (nomark _)) (pss_cons (ps_set (i := 3) sc.nd rfl (.inr rfl) (de_call D1 G1 hr (pa_cons (pv 1) (pa_cons (pe_lst (pa_cons pe_non (pa_cons pe_int (pa_cons pe_int (pa_cons pe_bl (pa_cons (pe_tup pa_nil) (pa_cons (pe_tup (pa_cons pe_str pa_nil)) (pa_cons (pe_lst (pa_cons pe_str pa_nil)) (pa_cons (pe_lst pa_nil) (pa_cons pe_dnewK (pa_cons (pe_tup (pa_cons (pe_tup (pa_cons pe_str (pa_cons pe_int pa_nil))) pa_nil)) (pa_cons (pe_disp (pps_cons pe_str pe_int pps_nil) (by rfl) (by rfl) (fun z => by cases z) (by decide)) (pa_cons (pe_un un_neg pe_int) pa_nil))))))))))))) pa_nil))))
        (pss_one (ps_ret (pe_cmpR (op_eqS hr.units0) (pe_lc (own := [("turn", 10)]) (g := gName 10) (tt := tYes) rfl sc.nd (pi_range1 (by rfl) T.range (pa_cons pe_int pa_nil)) (blkOk_by (N := nLaw5) (sc := defScope sLaw) (by decide +kernel)) (fun _ _ _ _ _ => (pg_name (i := 10) sc.nd rfl (by first | exact .inl rfl | exact .inr rfl))) (fun _ _ _ _ _ => pts_nil) (fun _ _ _ _ _ => (pe_callB (call_reprD (K := K) hgd hr rfl) (by rfl) T.repr b_repr (pa_cons (de_call Das GA hr (pa_cons (pv 3) pa_nil)) pa_nil)))) (pe_op op_rep (pe_lst (pa_cons (pe_callB (call_repr hgd hr) (by rfl) T.repr b_repr (pa_cons (pe_tup (pa_cons pe_str (pa_cons pe_int pa_nil))) pa_nil)) pa_nil)) pe_int) (nomark _))))) pss_nil)
      (C8.pss_cut (ps_if (pt_cmpR op_lt (pv 2) pe_int (nomark _)) (pss_one (ps_set (i := 4) sc.nd rfl (.inr rfl) (pe_join pe_str (pe_lc (own := [("cell", 11)]) (g := gName 11) (tt := tYes) rfl sc.nd (pi_list (pe_slice sl_list (pv 0) (po_some pe_int) (po_some pe_int))) (blkOk_by (N := nLaw5) (sc := defScope sLaw) (by decide +kernel)) (fun _ _ _ _ _ => (pg_name (i := 11) sc.nd rfl (by first | exact .inl rfl | exact .inr rfl))) (fun _ _ _ _ _ => pts_nil) (fun _ _ _ _ _ => (pe_ix (ix_str) pe_str (pe_op op_mod (pe_callTy call_intI (by rfl) T.int b_int (pa_cons (pv 11) pa_nil)) pe_int) (fun _ _ => rfl))))))) (pss_one (ps_set (i := 4) sc.nd rfl (.inr rfl) (de_call Dsp GS hr (pa_cons (pv 1) (pa_cons (de_call Dlw GW hr (pa_cons (de_call Ddr GDR hr (pa_cons (pv 1) (pa_cons (pv 0) (pa_cons pe_int pa_nil)))) pa_nil)) pa_nil))))))
      (pss_cons (ps_set (i := 5) sc.nd rfl (.inl rfl) (de_call Dwr GWR hr (pa_cons (pv 4) pa_nil)))
      (pss_cons (ps_set (i := 6) sc.nd rfl (.inl rfl) (pe_tup (pa_cons pe_str (pa_cons (pv 5) pa_nil))))
      (C8.pss_cut (ps_if (pt_cmpR op_lt (pv 5) pe_int (nomark _)) (pss_cons (ps_setLc (i := 7) (own := [("at", 8), ("sign", 9)]) (g := gTup K 2 (gCons (gName 8) (gCons (gName 9) gNil))) rfl sc.nd rfl rfl (sw_true rfl rfl rfl (by decide +kernel)) (pi_enumS (by rfl) T.enumerate (pa_cons (pv 4) pa_nil)) (blkOk_by (N := nLaw5) (sc := defScope sLaw) (by decide +kernel)) (fun _ _ _ _ _ => (pg_tup rfl (pgs_cons (pg_name (i := 8) sc.nd rfl (by first | exact .inl rfl | exact .inr rfl)) (pgs_cons (pg_name (i := 9) sc.nd rfl (by first | exact .inl rfl | exact .inr rfl)) pgs_nil)))) (fun _ _ _ _ _ => (pts_one (pt_cmpR op_in_sign (pv 9) pe_str (by rfl)))) (fun _ _ _ _ _ => (pe_tup (pa_cons (pv 9) (pa_cons (pv 8) pa_nil)))))
        (pss_one (ps_set (i := 6) sc.nd rfl (.inl rfl) (pe_tup (pa_cons pe_str (pa_cons (pe_callTy call_tuple_of (by rfl) T.tuple b_tuple (pa_cons (pe_lc (own := [("sign", 9), ("at", 8)]) (g := gTup K 2 (gCons (gName 9) (gCons (gName 8) gNil))) (tt := tYes) rfl sc.nd (pi_list (pv 7)) (blkOk_by (N := nLaw5) (sc := defScope sLaw) (by decide +kernel)) (fun _ _ _ _ _ => (pg_tup rfl (pgs_cons (pg_name (i := 9) sc.nd rfl (by first | exact .inl rfl | exact .inr rfl)) (pgs_cons (pg_name (i := 8) sc.nd rfl (by first | exact .inl rfl | exact .inr rfl)) pgs_nil)))) (fun _ _ _ _ _ => pts_nil) (fun _ _ _ _ _ => (pe_tup (pa_cons (pv 9) (pa_cons (de_call Dlo GO hr (pa_cons (pe_slice sl_str (pv 4) po_none (po_some (pv 8))) pa_nil)) pa_nil))))) pa_nil)) pa_nil)))))) pss_nil)
      (pss_one (ps_ret (pe_cmpR (op_eqS hr.units0) (pe_lc (own := [("turn", 10)]) (g := gName 10) (tt := tYes) rfl sc.nd (pi_range1 (by rfl) T.range (pa_cons pe_int pa_nil)) (blkOk_by (N := nLaw5) (sc := defScope sLaw) (by decide +kernel)) (fun _ _ _ _ _ => (pg_name (i := 10) sc.nd rfl (by first | exact .inl rfl | exact .inr rfl))) (fun _ _ _ _ _ => pts_nil) (fun _ _ _ _ _ => (pe_callB (call_reprD (K := K) hgd hr rfl) (by rfl) T.repr b_repr (pa_cons (de_call Das GA hr (pa_cons (pv 4) pa_nil)) pa_nil)))) (pe_op op_rep (pe_lst (pa_cons (pe_callB (call_repr hgd hr) (by rfl) T.repr b_repr (pa_cons (pv 6) pa_nil)) pa_nil)) pe_int) (nomark _))))))))))), ?_⟩
    have line : 100000 ≤ sizeLine := by decide
    refine ⟨_, rfl, a, 0, ns, rfl, hs.sq, hl, hb', by decide, by decide, fun H1 f o s1 f0 e1 fo => ?_⟩
    refine ⟨_, rfl, consC (nilA (draw2 (m := 800000000000) e1 (fo.less (by omega)) (by decide) (wdS (by decide)) fun H2 o2 way b2 e2 fo2 w8 => ?_))⟩
    have hs1 := hs.same s1
    have fH : H f = none := f0
    have s2 : Same H H2 := b2.same s1 fH
    have hs2 := hs.same s2
    refine ⟨_, rfl, rfl, _, rfl, ite2 (fun _ => ?_) (fun _ => ?_)⟩
    · have ne : ∀ {H3 : Hp} {b : Addr}, Same H2 H3 → H3 b = none → (V.ref b : V) ≠ .ref f := fun s h z => by
        injection z with z
        rw [z, s _ _ e2] at h
        cases h
      refine ⟨_, rfl, consI (lst_of (consC (consC (consC (consC (consI (tup_of (nilA ⟨Nat.zero_le _, fun a4 h4 => ?_⟩))))))))⟩
      have n4 := ne (fun _ _ e => e) h4
      have t4 : Same H2 (upd H2 a4 (.tup [])) := Same.new h4
      have y4 : Any K (upd H2 a4 (.tup [])) (.ref a4) "tuple" := .tup (SqT.of upd_same)
      generalize upd H2 a4 (.tup []) = K4 at t4 y4 ⊢
      refine consI (tup_of (consC (nilA ⟨by show 1 ≤ sizeLine; omega, fun a5 h5 => ?_⟩)))
      have n5 := ne t4 h5
      have u5 := Same.new (o := .tup [.str "a"]) h5
      have t5 := t4.trans u5
      have y5 : Any K (upd K4 a5 (.tup [.str "a"])) (.ref a5) "tuple" := .tup (SqT.of upd_same)
      generalize upd K4 a5 (.tup [.str "a"]) = K5 at u5 t5 y5 ⊢
      refine consI (lst_of (consC (nilA ⟨by show 1 ≤ sizeLine; omega, fun a6 h6 => ?_⟩)))
      have n6 := ne t5 h6
      have u6 := Same.new (o := .lst [.str "a"]) h6
      have t6 := t5.trans u6
      have y6 : Any K (upd K5 a6 (.lst [.str "a"])) (.ref a6) "list" := .lst upd_same
      generalize upd K5 a6 (.lst [.str "a"]) = K6 at u6 t6 y6 ⊢
      refine consI (lst_of (nilA ⟨Nat.zero_le _, fun a7 h7 => ?_⟩))
      have n7 := ne t6 h7
      have u7 := Same.new (o := .lst []) h7
      have t7 := t6.trans u7
      have y7 : Any K (upd K6 a7 (.lst [])) (.ref a7) "list" := .lst upd_same
      generalize upd K6 a7 (.lst []) = K7 at u7 t7 y7 ⊢
      refine consI (fun a8 h8 => ?_)
      have n8 := ne t7 h8
      have u8 := Same.new (o := .dK []) h8
      have t8 := t7.trans u8
      have y8 : Any K (upd K7 a8 (.dK [])) (.ref a8) "dict" := .dct upd_same
      generalize upd K7 a8 (.dK []) = K8 at u8 t8 y8 ⊢
      refine consI (tup_of (consI (tup_of (consC (consC (nilA ⟨by show 2 ≤ sizeLine; omega, fun b9 k9 => nilA ⟨by show 1 ≤ sizeLine; omega, fun a9 h9 => ?_⟩⟩))))))
      have u9a := Same.new (o := .tup [.str "a", .int 0]) k9
      have n9 := ne (t8.trans u9a) h9
      have u9 := u9a.trans (Same.new (o := .tup [.ref b9]) h9)
      have t9 := t8.trans u9
      have y9 : Any K (upd (upd K8 b9 (.tup [.str "a", .int 0])) a9 (.tup [.ref b9])) (.ref a9) "tuple" := .tup (SqT.of upd_same)
      generalize upd (upd K8 b9 (.tup [.str "a", .int 0])) a9 (.tup [.ref b9]) = K9 at u9 t9 y9 ⊢
      refine consI (fun a10 h10 => ⟨upd_same, [(.inr "a", .int 0)], rfl, by decide, ?_⟩)
      have n10 := ne t9 h10
      rw [upd_upd]
      have u10 := Same.new (o := .dK (mergeK [] [(.inr "a", .int 0)])) h10
      have t10 := t9.trans u10
      have y10 : Any K (upd K9 a10 (.dK (mergeK [] [(.inr "a", .int 0)]))) (.ref a10) "dict" := .dct upd_same
      generalize upd K9 a10 (.dK (mergeK [] [(.inr "a", .int 0)])) = K10 at u10 t10 y10 ⊢
      refine consI ⟨_, rfl, nilA ⟨by show 12 ≤ sizeLine; omega, fun l hl => ?_⟩⟩
      have nl := ne t10 hl
      have lf : l ≠ f := fun z => nl (by rw [z])
      have fK : K10 f = some (.lst o2) := t10 _ _ e2
      refine nilA ⟨f, _, [.non, .int 0, .int 1, .bl true, .ref a4, .ref a5, .ref a6, .ref a7, .ref a8, .ref a9, .ref a10, .int (-1)], 799999999999, o2, rfl, by rw [upd_ne lf.symm]; exact fK, fo2.less (by omega), .inr ⟨l, rfl, lf, SqL.of upd_same⟩, (show 0 < 12 by decide), (show 12 ≤ 1000 by decide), fun o3 y f3 my => ?_⟩
      have sB : SameBut f K10 (upd (upd K10 l (.lst [.non, .int 0, .int 1, .bl true, .ref a4, .ref a5, .ref a6, .ref a7, .ref a8, .ref a9, .ref a10, .int (-1)])) f (.lst o3)) := (SameBut.refl.new hl).put
      generalize upd (upd K10 l (.lst [.non, .int 0, .int 1, .bl true, .ref a4, .ref a5, .ref a6, .ref a7, .ref a8, .ref a9, .ref a10, .int (-1)])) f (.lst o3) = HF at sB ⊢
      have anyY : ∃ ty, Any K HF y ty ∧ ty ≠ "str" := by
        have v9 := u10
        have v8 := u9.trans v9
        have v7 := u8.trans v8
        have v6 := u7.trans v7
        have v5 := u6.trans v6
        have v4 := u5.trans v5
        simp only [List.mem_cons, List.not_mem_nil, or_false] at my
        rcases my with e | e | e | e | e | e | e | e | e | e | e | e <;> subst e
        · exact ⟨_, .non, by decide⟩
        · exact ⟨_, .int 0, by decide⟩
        · exact ⟨_, .int 1, by decide⟩
        · exact ⟨_, .bl true, by decide⟩
        · exact ⟨_, any_keepB sB n4 (any_keep v4 y4), by decide⟩
        · exact ⟨_, any_keepB sB n5 (any_keep v5 y5), by decide⟩
        · exact ⟨_, any_keepB sB n6 (any_keep v6 y6), by decide⟩
        · exact ⟨_, any_keepB sB n7 (any_keep v7 y7), by decide⟩
        · exact ⟨_, any_keepB sB n8 (any_keep v8 y8), by decide⟩
        · exact ⟨_, any_keepB sB n9 (any_keep v9 y9), by decide⟩
        · exact ⟨_, any_keepB sB n10 y10, by decide⟩
        · exact ⟨_, .int (-1), by decide⟩
      obtain ⟨ty, any, nt⟩ := anyY
      clear sB y4 y5 y6 y7 y8 y9 y10
      refine ⟨2, rfl, by decide, by decide, fun L hL => ?_⟩
      refine lc_range (lo := 0) (n := ((2 : Int)).toNat) (fun j H' => Same HF H' ∧ H' L = some (.lst (List.replicate j (V.str (twoD "BadText" (.int 0)).shown)))) ?_ ?_ ?_
      · exact ⟨Same.new hL, upd_same⟩
      · rintro j H6 hj ⟨s6, e6⟩
        have hj : j < 2 := hj
        refine ⟨rfl, _, rfl, y, _, rfl, .inr ⟨ty, any_keep s6 any, nt, rfl⟩, fun H7 t s7 td7 => ⟨_, _, rfl, td7, _, s7 _ _ e6, by rw [List.length_replicate]; omega, same_wr (s6.trans s7) hL, ?_⟩⟩
        rw [upd_same, List.replicate_succ']
      · rintro H6 ⟨s6, e6⟩
        refine lst_of (consI ?_)
        refine cbA (consI (tup_of (consC (consC (nilA ⟨by show 2 ≤ sizeLine; omega, fun d hd => nilA ⟨_, _, rfl, told_at (n := 0) (by decide) (SqT.of upd_same), ?_⟩⟩)))))
        have s5 := Same.new (o := .tup [.str "BadText", .int 0]) hd
        refine nilA ⟨by show 1 ≤ sizeLine; omega, fun r hr' => ?_⟩
        have s7 := Same.new (o := .lst [V.str (twoD "BadText" (.int 0)).shown]) hr'
        refine ⟨r, 2, _, rfl, rfl, upd_same, by decide, by decide, by show 1 * 2 ≤ sizeLine; omega, fun u hu => ?_⟩
        refine ⟨L, u, [(twoD "BadText" (.int 0)).shown, (twoD "BadText" (.int 0)).shown], [(twoD "BadText" (.int 0)).shown, (twoD "BadText" (.int 0)).shown], rfl, rfl, SqL.of ?_, SqL.of upd_same, ?_⟩
        · exact (Same.new hu) _ _ (s7 _ _ (s5 _ _ e6))
        · rw [decide_eq_true rfl]
          exact k _
    refine ⟨fun σ H' => ∃ x : List Nat, σ = [some (.ref a), some (.ref f), some (.int (way : Nat)), none, some (.str (sT x)), none, none, none, none, none, none, none] ∧ x.length ≤ 900, ?_, ?_⟩
    · refine ⟨_, rfl, _, _, rfl, rfl, _, rfl, ite2 (fun _ => ?_) (fun _ => ?_)⟩
      · have ce : cutV (ns.map V.int) (some 1) (some 63) = ((ns.drop 1).take 62).map V.int := by
          have := cutV_mid (ns.map V.int) 1 63
          rw [← List.map_drop, ← List.map_take] at this
          exact this
        refine ⟨⟨_, rfl⟩, _, rfl, _, rfl, _, rfl, a, _, rfl, hs2.sq, fun b hb2 => ?_⟩
        rw [ce]
        refine ⟨b, rfl, ⟨_, SqL.of upd_same⟩, fun D hD => ?_⟩
        generalize hG : (ns.drop 1).take 62 = cells at hD ⊢
        have cl : cells.length ≤ 62 := by rw [← hG, List.length_take]; omega
        generalize hB : upd H2 b (.lst (cells.map V.int)) = HB at hD ⊢
        have eb : HB b = some (.lst (cells.map V.int)) := by rw [← hB]; exact upd_same
        refine lc_it (walk_list (K := K) (a := b) (xs := cells.map V.int)) (fun j H' => ∃ cs : List Nat, cs.length = j ∧ Same HB H' ∧ H' D = some (.lst (cs.map chV))) ?_ ?_ ?_ ?_
        · exact ⟨[], rfl, Same.new hD, upd_same⟩
        · rintro j H' hj ⟨cs, _, s3, _⟩
          exact SqL.of (s3 _ _ eb)
        · rintro j v H3 H4 hj ⟨cs, cj, s3, ed⟩ ⟨rfl, hv⟩
          obtain ⟨i, hi⟩ : ∃ i, v = .int i := by
            rw [List.getElem?_map] at hv
            cases e : cells[j]? with
            | none => rw [e] at hv; cases hv
            | some i => rw [e] at hv; exact ⟨i, (Option.some.inj hv).symm⟩
          subst hi
          obtain ⟨c, hc⟩ := sixteen i
          have jl : j < 62 := by rw [List.length_map] at hj; omega
          refine ⟨rfl, _, rfl, i, rfl, _, _, rfl, rfl, (show (0 : Int) < 16 by decide), _, _, c, rfl, rfl, (show 16 ≤ sizeLine by omega), hc, _, ed, by rw [List.length_map]; omega, cs ++ [c], by rw [List.length_append, cj]; rfl, same_wr s3 hD, ?_⟩
          rw [upd_same, List.map_append]
          rfl
        · rintro H3 ⟨cs, cj, s3, ed⟩
          rw [List.length_map] at cj
          have e2 : H3 D = some (.lst ((cs.map fun c => (⟨#[c]⟩ : Str)).map V.str)) := by
            rw [List.map_map]
            exact ed
          have len : ((cs.map fun c => (⟨#[c]⟩ : Str)).map fun z : Str => z.length).sum = cs.length := by
            rw [List.map_map]
            have := ones_sum cs
            rw [List.map_map] at this
            exact this
          refine ⟨"", D, _, rfl, rfl, .inl (SqL.of e2), ?_, ?_⟩
          · rw [len, show ("" : Str).length = 0 from rfl, Nat.mul_zero]
            omega
          · rw [join_tl]
            refine ⟨_, rfl, ?_⟩
            rw [List.map_map]
            have := joinL_len (cs.map fun c => [c])
            rw [ones_sum] at this
            show (TL.joinL [] (cs.map fun c => [c])).length ≤ 900
            omega
      · refine ⟨_, rfl, _, rfl, _, rfl, f, a, 14, ns, 799999999999, o2, rfl, e2, fo2.less (by omega), hs2, hl, hb', by decide, fun H3 q doc o3 b3 e3 fo3 hq hd ok dl => ⟨q, doc, rfl, hd, ok, by omega, fun H4 s4 => ⟨f, sT (textOf doc), 700000000000, o3, rfl, s4 _ _ e3, fo3.less (by omega), by
            have := textOf_len ok
            rw [sT_len]
            omega, fun H5 y hy => ?_⟩⟩⟩
        exact ⟨y.cps.toList, rfl, hy⟩
    · rintro σ H3 ⟨x, rfl, hx⟩
      refine ⟨_, rfl, x, rfl, by omega, fun H4 s4 => ?_⟩
      have l2 : 2 ≤ sizeLine := by decide
      refine ⟨_, rfl, l2, fun d hd => ?_⟩
      refine ⟨fun σ H' => ∃ (q : Addr) (wr : Int) (m : Option V), σ = [some (.ref a), some (.ref f), some (.int (way : Nat)), none, some (.str (sT x)), some (.int wr), some (.ref q), m, none, none, none, none] ∧ Told K H' (.ref q) (dueD x), ?_, ?_⟩
      · refine ⟨_, rfl, _, _, rfl, rfl, _, rfl, ite2 (fun g => ?_) (fun g => ?_)⟩
        · have g : wrI (fwC [] x) < 0 := of_decide_eq_true g
          have fn : fwC [] x = none := by
            cases e : fwC [] x with
            | none => rfl
            | some p =>
              rw [e] at g
              exact absurd g (by show ¬ ((p : Nat) : Int) < 0; omega)
          have zat : ∀ i : Nat, (sT x).cps[i]? = x[i]? := fun i => by
            show x.toArray[i]? = _
            rw [List.getElem?_toArray]
          have zs : (sT x).cps.size = x.length := rfl
          refine ⟨_, rfl, _, rfl, fun D hD => ?_⟩
          generalize upd H4 d (.tup [.str "BadText", .int (wrI (fwC [] x))]) = HA at hD ⊢
          refine lc_it (walk_enumS (z := sT x)) (fun j H' => ∃ (vs : List V) (pre : Doc), Same HA H' ∧ H' D = some (.lst vs) ∧ EntsAt H' vs pre ∧ pre ++ marksOf (x.take j) (x.drop j) = marksOf [] x) ?_ ?_ ?_ ?_
          · exact ⟨[], [], Same.new hD, upd_same, .nil, rfl⟩
          · exact fun _ _ _ _ => trivial
          · rintro j y H5 H6 hj ⟨vs, pre, s5, e5, ents, eq5⟩ ⟨t, ch, rfl, ht, rfl, hch⟩
            rw [zat] at hch
            have s6 : Same H5 (upd H5 t (.tup [.int (j : Nat), .str ⟨#[ch]⟩])) := Same.new ht
            have sA := s5.trans s6
            have e6 := s6 _ _ e5
            have ents6 := ents.mono (Same.tups s6)
            have st := marks_step hch eq5
            have vl := Paired.length ents
            have ml := marks_len x []
            have pl : pre.length ≤ 900 := by
              have := congrArg List.length eq5
              rw [List.length_append] at this
              omega
            refine ⟨t, _, rfl, SqT.of upd_same, rfl, _, _, rfl, _, _, rfl, rfl, rfl, ?_⟩
            generalize upd H5 t (.tup [.int (j : Nat), .str ⟨#[ch]⟩]) = H6 at e6 ents6 sA
            refine ⟨_, rfl, ch, _, rfl, rfl, _, rfl, ?_⟩
            rw [eight_in]
            cases m : mkC ch with
            | false =>
              rw [m] at st
              exact iteF ⟨vs, pre, sA, e6, ents6, by simpa using st⟩
            | true =>
              rw [m, if_pos rfl] at st
              refine iteT ⟨_, rfl, _, rfl, l2, fun t2 ht2 => ?_⟩
              have tf : t2 ≠ D := fun z => by subst z; rw [e6] at ht2; cases ht2
              refine ⟨vs, by rw [upd_ne tf.symm]; exact e6, by omega, vs ++ [.ref t2], pre ++ [(ch, j)], same_wr (sA.trans (Same.new ht2)) hD, upd_same, ?_, st⟩
              have k1 : ∀ b xs, H6 b = some (.tup xs) → (upd (upd H6 t2 (.tup [.str ⟨#[ch]⟩, .int (j : Nat)])) D (.lst (vs ++ [.ref t2]))) b = some (.tup xs) := fun b xs e =>
                upd_tups (by rw [upd_ne tf.symm]; exact e6) b xs (new_tups ht2 b xs e)
              refine Paired.snoc (ents6.mono k1) ⟨t2, rfl, ?_⟩
              rw [upd_ne tf, upd_same]
          · rintro H5 ⟨vs, pre, s5, e5, ents, eq5⟩
            rw [zs, List.take_length, List.drop_length] at eq5
            have eq5 : pre = marksOf [] x := (List.append_nil pre).symm.trans eq5
            have vl := Paired.length ents
            have ml := marks_len x []
            refine ⟨_, rfl, D, rfl, ⟨_, SqL.of e5⟩, fun L hL => ?_⟩
            have small : x.length ≤ 1000 := by omega
            refine lc_it (walk_list (K := K) (a := D) (xs := vs)) (fun j H' => ∃ ws : List V, Same H5 H' ∧ H' L = some (.lst ws) ∧ EntsAt H' ws ((pre.take j).map (openAt x)) ∧ ws.length ≤ 900) ?_ ?_ ?_ ?_
            · exact ⟨[], Same.new hL, upd_same, .nil, by decide⟩
            · rintro j H' hj ⟨ws, s6, _⟩
              exact SqL.of (s6 _ _ e5)
            · rintro j v H6 H7 hj ⟨ws, s6, e6, ents6, wl⟩ ⟨rfl, hv⟩
              obtain ⟨em, hem, r, rfl, er⟩ := paired_get ents hv
              have emx : em ∈ marksOf [] x := by
                rw [← eq5]
                exact List.mem_of_getElem? hem
              have e2 : em.2 ≤ x.length := by
                have z : em.2 ≤ 0 + x.length := marks_mem x [] em emx
                omega
              have nn : 0 ≤ openI (x.take em.2) := by
                have z := open_nn x [] (by decide) fn em.2
                have z2 : ([] : List Nat).length + em.2 = em.2 := Nat.zero_add _
                rw [z2] at z
                exact z
              have tk : (pre.take (j + 1)).map (openAt x) = (pre.take j).map (openAt x) ++ [openAt x em] := by
                obtain ⟨lt, ee⟩ := List.getElem?_eq_some_iff.mp hem
                rw [← ee, ← List.map_singleton, ← List.map_append, List.take_append_getElem lt]
              have wl2 : ws.length = ((pre.take j).map (openAt x)).length := Paired.length ents6
              have jp : j < pre.length := (List.getElem?_eq_some_iff.mp hem).1
              refine ⟨r, _, rfl, SqT.of (s6 _ _ er), rfl, _, _, rfl, _, _, rfl, rfl, rfl, ?_⟩
              refine ⟨_, rfl, _, rfl, _, rfl, _, rfl, sT x, rfl, by rw [sT_len]; omega, ?_⟩
              rw [cutS_take]
              refine ⟨x.take em.2, rfl, by rw [List.length_take]; omega, fun H8 s8 => ⟨l2, fun t2 ht2 => ?_⟩⟩
              have e8 := s8 _ _ e6
              have tf : t2 ≠ L := fun z => by subst z; rw [e8] at ht2; cases ht2
              refine ⟨ws, by rw [upd_ne tf.symm]; exact e8, by omega, ws ++ [.ref t2], same_wr ((s6.trans s8).trans (Same.new ht2)) hL, upd_same, ?_, ?_⟩
              · rw [tk]
                have k1 : ∀ b xs, H8 b = some (.tup xs) → (upd (upd H8 t2 (.tup [.str ⟨#[em.1]⟩, .int (openI (x.take em.2))])) L (.lst (ws ++ [.ref t2]))) b = some (.tup xs) := fun b xs e =>
                  upd_tups (by rw [upd_ne tf.symm]; exact e8) b xs (new_tups ht2 b xs e)
                refine Paired.snoc ((ents6.mono (Same.tups s8)).mono k1) ⟨t2, rfl, ?_⟩
                rw [upd_ne tf, upd_same]
                show some (HO.tup [V.str ⟨#[em.1]⟩, V.int (openI (x.take em.2))]) = some (HO.tup [V.str ⟨#[em.1]⟩, V.int (((openI (x.take em.2)).toNat : Nat) : Int)])
                rw [Int.toNat_of_nonneg nn]
              · rw [List.length_append, wl2, List.length_map, List.length_take]
                show min j pre.length + 1 ≤ 900
                have : pre.length ≤ x.length := by rw [eq5]; exact ml
                omega
            · rintro H6 ⟨ws, s6, e6, ents6, wl⟩
              rw [vl, List.take_length] at ents6
              refine nilA ⟨L, _, rfl, .inl ⟨SqL.of e6, fun q hq => ?_⟩⟩
              have s7 := Same.new (o := .tup ws) hq
              refine nilA ⟨l2, fun t3 ht3 => ?_⟩
              have s8 := Same.new (o := .tup [.str "document", .ref q]) ht3
              refine ⟨t3, _, some (.ref D), rfl, ?_⟩
              have ed : dueD x = twoD "document" (docD (docC [] x)) := by unfold dueD; rw [fn]
              rw [ed]
              refine told_dd (q := q) small ⟨ws, s8 _ _ upd_same, ?_⟩ (SqT.of upd_same)
              rw [docC_marks x [], ← eq5]
              exact (ents6.mono (Same.tups s7)).mono (Same.tups s8)
        · have g : ¬ wrI (fwC [] x) < 0 := fun z => g (decide_eq_true z)
          obtain ⟨p, fp⟩ : ∃ p, fwC [] x = some p := by
            cases e : fwC [] x with
            | none =>
              rw [e] at g
              exact absurd (show (-1 : Int) < 0 by decide) g
            | some p => exact ⟨p, rfl⟩
          have pl : p < 1000000 := by
            have := fw_le x [] fp
            have z : p ≤ 0 + x.length := this
            omega
          refine ⟨d, _, none, rfl, ?_⟩
          rw [show dueD x = twoD "BadText" (.int (p : Nat)) by unfold dueD; rw [fp]]
          refine told_at pl ?_
          rw [fp]
          exact SqT.of upd_same
      · rintro σ H5 ⟨q, wr, m, rfl, td⟩
        refine ⟨2, rfl, by decide, by decide, fun L hL => ?_⟩
        refine lc_range (lo := 0) (n := ((2 : Int)).toNat) (fun j H' => Same H5 H' ∧ H' L = some (.lst (List.replicate j (V.str (dueD x).shown)))) ?_ ?_ ?_
        · exact ⟨Same.new hL, upd_same⟩
        · rintro j H6 hj ⟨s6, e6⟩
          have hj : j < 2 := hj
          refine ⟨rfl, _, rfl, .str (sT x), dueD x, rfl, .inl ⟨x, rfl, by omega, rfl⟩, fun H7 t s7 td7 => ⟨_, _, rfl, td7, _, s7 _ _ e6, by rw [List.length_replicate]; omega, same_wr (s6.trans s7) hL, ?_⟩⟩
          rw [upd_same, List.replicate_succ']
        · rintro H6 ⟨s6, e6⟩
          refine ⟨_, rfl, _, _, rfl, told_same s6 td, ?_⟩
          have two : (2 : Int).toNat = 2 := rfl
          refine nilA ⟨by show 1 ≤ sizeLine; omega, fun r hr' => ?_⟩
          have s7 := Same.new (o := .lst [V.str (dueD x).shown]) hr'
          refine ⟨r, 2, _, rfl, rfl, upd_same, by decide, by decide, by show 1 * 2 ≤ sizeLine; omega, fun u hu => ?_⟩
          refine ⟨L, u, [(dueD x).shown, (dueD x).shown], [(dueD x).shown, (dueD x).shown], rfl, rfl, SqL.of ?_, SqL.of upd_same, ?_⟩
          · exact (Same.new hu) _ _ (s7 _ _ e6)
          · rw [decide_eq_true rfl]
            exact k _
end


/-! ### what the top has written, the head -/
theorem all_mk {l : PySem.W.OpenLaw} {w : World} {K : PySem.W.Frag} {h : Heap} {mg : Str → Option Value} {fa f0 f1 f2 f3 f4 f5 f6 f7 f8 f9 f10 f11 f12 f13 f14 f15 fM : Addr} (X : K.In h) (G : h.Ns mainGlobals mg) (hfa : mg "law" = some (.ref fa))
    {od0 an0 od1 an1 od2 an2 od3 an3 od4 an4 od5 an5 od6 an6 od7 an7 od8 an8 od9 an9 od10 an10 od11 an11 od12 an12 od13 an13 od14 an14 od15 an15 dM : Option Addr} {sl0 sl1 sl2 sl3 sl4 sl5 sl6 sl7 sl8 sl9 sl10 sl11 sl12 sl13 sl14 sl15 sM : Array (Option Value)} {oc0 kV0 dc0 pm0 cd0 ct0 oc1 kV1 dc1 pm1 cd1 ct1 oc2 kV2 dc2 pm2 cd2 ct2 oc3 kV3 dc3 pm3 cd3 ct3 oc4 kV4 dc4 pm4 cd4 ct4 oc5 kV5 dc5 pm5 cd5 ct5 oc6 kV6 dc6 pm6 cd6 ct6 oc7 kV7 dc7 pm7 cd7 ct7 oc8 kV8 dc8 pm8 cd8 ct8 oc9 kV9 dc9 pm9 cd9 ct9 oc10 kV10 dc10 pm10 cd10 ct10 oc11 kV11 dc11 pm11 cd11 ct11 oc12 kV12 dc12 pm12 cd12 ct12 oc13 kV13 dc13 pm13 cd13 ct13 oc14 kV14 dc14 pm14 cd14 ct14 oc15 kV15 dc15 pm15 cd15 ct15 : Value} {t1 t2 t3 t4 t5 t6 t7 t8 tN : Tok} {nM : Nat} {CB fB ccB cB NB : Addr} {odB kcdB cdB2 ddB : Option Addr} {slB ksB csB : Array (Option Value)} {ocB kclB clB dcB pmB ctB : Value} {vsB : Array Value} {flB : Str} {tfB : Tok} {nmB qB : Str} {bsB bmB subB : List Value} {snB : List Str} {abB : Bool} {colB : Option Bool} {k0B k1B k2B k3B k5B : Option Value}
    (a0 : PySem.W.nsIn K mainGlobals "is_mark" = some (some (.ref f0)))
    (l0 : K.lookup f0 = some ⟨oc0, od0, .func (PySem.W.fnOf "is_mark" "is_mark" (defArgs sMark) (defBody sMark) (defScope sMark) .none kV0 dc0 pm0 an0 cd0 ct0), sl0⟩)
    (c0 : PySem.W.codeIn K cd0 "is_mark" = true) (k0 : PySem.W.keepIn K (.ref f0) = true)
    (a1 : PySem.W.nsIn K mainGlobals "read_document" = some (some (.ref f1)))
    (l1 : K.lookup f1 = some ⟨oc1, od1, .func (PySem.W.fnOf "read_document" "read_document" (defArgs sRead) (defBody sRead) (defScope sRead) .none kV1 dc1 pm1 an1 cd1 ct1), sl1⟩)
    (c1 : PySem.W.codeIn K cd1 "read_document" = true) (k1 : PySem.W.keepIn K (.ref f1) = true)
    (a2 : PySem.W.nsIn K mainGlobals "_law_feed" = some (some (.ref f2)))
    (l2 : K.lookup f2 = some ⟨oc2, od2, .func (PySem.W.fnOf "_law_feed" "_law_feed" (defArgs sFeed) (defBody sFeed) (defScope sFeed) .none kV2 dc2 pm2 an2 cd2 ct2), sl2⟩)
    (c2 : PySem.W.codeIn K cd2 "_law_feed" = true) (k2 : PySem.W.keepIn K (.ref f2) = true)
    (a3 : PySem.W.nsIn K mainGlobals "_law_draw" = some (some (.ref f3)))
    (l3 : K.lookup f3 = some ⟨oc3, od3, .func (PySem.W.fnOf "_law_draw" "_law_draw" (defArgs sDraw) (defBody sDraw) (defScope sDraw) .none kV3 dc3 pm3 an3 cd3 ct3), sl3⟩)
    (c3 : PySem.W.codeIn K cd3 "_law_draw" = true) (k3 : PySem.W.keepIn K (.ref f3) = true)
    (a4 : PySem.W.nsIn K mainGlobals "_law_one" = some (some (.ref f4)))
    (l4 : K.lookup f4 = some ⟨oc4, od4, .func (PySem.W.fnOf "_law_one" "_law_one" (defArgs sOne) (defBody sOne) (defScope sOne) .none kV4 dc4 pm4 an4 cd4 ct4), sl4⟩)
    (c4 : PySem.W.codeIn K cd4 "_law_one" = true) (k4 : PySem.W.keepIn K (.ref f4) = true)
    (a5 : PySem.W.nsIn K mainGlobals "_law_document" = some (some (.ref f5)))
    (l5 : K.lookup f5 = some ⟨oc5, od5, .func (PySem.W.fnOf "_law_document" "_law_document" (defArgs sDoc) (defBody sDoc) (defScope sDoc) .none kV5 dc5 pm5 an5 cd5 ct5), sl5⟩)
    (c5 : PySem.W.codeIn K cd5 "_law_document" = true) (k5 : PySem.W.keepIn K (.ref f5) = true)
    (a6 : PySem.W.nsIn K mainGlobals "_law_grown" = some (some (.ref f6)))
    (l6 : K.lookup f6 = some ⟨oc6, od6, .func (PySem.W.fnOf "_law_grown" "_law_grown" (defArgs sGrown) (defBody sGrown) (defScope sGrown) .none kV6 dc6 pm6 an6 cd6 ct6), sl6⟩)
    (c6 : PySem.W.codeIn K cd6 "_law_grown" = true) (k6 : PySem.W.keepIn K (.ref f6) = true)
    (a7 : PySem.W.nsIn K mainGlobals "_law_drawn" = some (some (.ref f7)))
    (l7 : K.lookup f7 = some ⟨oc7, od7, .func (PySem.W.fnOf "_law_drawn" "_law_drawn" (defArgs sDrawn) (defBody sDrawn) (defScope sDrawn) .none kV7 dc7 pm7 an7 cd7 ct7), sl7⟩)
    (c7 : PySem.W.codeIn K cd7 "_law_drawn" = true) (k7 : PySem.W.keepIn K (.ref f7) = true)
    (a8 : PySem.W.nsIn K mainGlobals "_law_parents" = some (some (.ref f8)))
    (l8 : K.lookup f8 = some ⟨oc8, od8, .func (PySem.W.fnOf "_law_parents" "_law_parents" (defArgs sLPars) (defBody sLPars) (defScope sLPars) .none kV8 dc8 pm8 an8 cd8 ct8), sl8⟩)
    (c8 : PySem.W.codeIn K cd8 "_law_parents" = true) (k8 : PySem.W.keepIn K (.ref f8) = true)
    (a9 : PySem.W.nsIn K mainGlobals "_law_children" = some (some (.ref f9)))
    (l9 : K.lookup f9 = some ⟨oc9, od9, .func (PySem.W.fnOf "_law_children" "_law_children" (defArgs sLKids) (defBody sLKids) (defScope sLKids) .none kV9 dc9 pm9 an9 cd9 ct9), sl9⟩)
    (c9 : PySem.W.codeIn K cd9 "_law_children" = true) (k9 : PySem.W.keepIn K (.ref f9) = true)
    (a10 : PySem.W.nsIn K mainGlobals "_law_written" = some (some (.ref f10)))
    (l10 : K.lookup f10 = some ⟨oc10, od10, .func (PySem.W.fnOf "_law_written" "_law_written" (defArgs sLWritten) (defBody sLWritten) (defScope sLWritten) .none kV10 dc10 pm10 an10 cd10 ct10), sl10⟩)
    (c10 : PySem.W.codeIn K cd10 "_law_written" = true) (k10 : PySem.W.keepIn K (.ref f10) = true)
    (a11 : PySem.W.nsIn K mainGlobals "_law_open" = some (some (.ref f11)))
    (l11 : K.lookup f11 = some ⟨oc11, od11, .func (PySem.W.fnOf "_law_open" "_law_open" (defArgs sLOpen) (defBody sLOpen) (defScope sLOpen) .none kV11 dc11 pm11 an11 cd11 ct11), sl11⟩)
    (c11 : PySem.W.codeIn K cd11 "_law_open" = true) (k11 : PySem.W.keepIn K (.ref f11) = true)
    (a12 : PySem.W.nsIn K mainGlobals "_law_wrong" = some (some (.ref f12)))
    (l12 : K.lookup f12 = some ⟨oc12, od12, .func (PySem.W.fnOf "_law_wrong" "_law_wrong" (defArgs sLWrong) (defBody sLWrong) (defScope sLWrong) .none kV12 dc12 pm12 an12 cd12 ct12), sl12⟩)
    (c12 : PySem.W.codeIn K cd12 "_law_wrong" = true) (k12 : PySem.W.keepIn K (.ref f12) = true)
    (a13 : PySem.W.nsIn K mainGlobals "_law_spoilt" = some (some (.ref f13)))
    (l13 : K.lookup f13 = some ⟨oc13, od13, .func (PySem.W.fnOf "_law_spoilt" "_law_spoilt" (defArgs sLSpoilt) (defBody sLSpoilt) (defScope sLSpoilt) .none kV13 dc13 pm13 an13 cd13 ct13), sl13⟩)
    (c13 : PySem.W.codeIn K cd13 "_law_spoilt" = true) (k13 : PySem.W.keepIn K (.ref f13) = true)
    (a14 : PySem.W.nsIn K mainGlobals "_law_asked" = some (some (.ref f14)))
    (l14 : K.lookup f14 = some ⟨oc14, od14, .func (PySem.W.fnOf "_law_asked" "_law_asked" (defArgs sLAsked) (defBody sLAsked) (defScope sLAsked) .none kV14 dc14 pm14 an14 cd14 ct14), sl14⟩)
    (c14 : PySem.W.codeIn K cd14 "_law_asked" = true) (k14 : PySem.W.keepIn K (.ref f14) = true)
    (a15 : PySem.W.nsIn K mainGlobals "law" = some (some (.ref f15)))
    (l15 : K.lookup f15 = some ⟨oc15, od15, .func (PySem.W.fnOf "law" "law" (defArgs sLaw) (defBody sLaw) (defScope sLaw) .none kV15 dc15 pm15 an15 cd15 ct15), sl15⟩)
    (c15 : PySem.W.codeIn K cd15 "law" = true) (k15 : PySem.W.keepIn K (.ref f15) = true)
    (z_int : PySem.W.nsIn K mainGlobals "int" = some none)
    (z_len : PySem.W.nsIn K mainGlobals "len" = some none)
    (z_sum : PySem.W.nsIn K mainGlobals "sum" = some none)
    (z_max : PySem.W.nsIn K mainGlobals "max" = some none)
    (z_min : PySem.W.nsIn K mainGlobals "min" = some none)
    (z_range : PySem.W.nsIn K mainGlobals "range" = some none)
    (z_tuple : PySem.W.nsIn K mainGlobals "tuple" = some none)
    (z_list : PySem.W.nsIn K mainGlobals "list" = some none)
    (z_repr : PySem.W.nsIn K mainGlobals "repr" = some none)
    (z_isinstance : PySem.W.nsIn K mainGlobals "isinstance" = some none)
    (z_enumerate : PySem.W.nsIn K mainGlobals "enumerate" = some none)
    (z_reversed : PySem.W.nsIn K mainGlobals "reversed" = some none)
    (z_sorted : PySem.W.nsIn K mainGlobals "sorted" = some none)
    (z_str : PySem.W.nsIn K mainGlobals "str" = some none)
    (z_all : PySem.W.nsIn K mainGlobals "all" = some none)
    (z_zip : PySem.W.nsIn K mainGlobals "zip" = some none)
    (z_set : PySem.W.nsIn K mainGlobals "set" = some none)
    (z_bool : PySem.W.nsIn K mainGlobals "bool" = some none)
    (aM : PySem.W.nsIn K mainGlobals "MARKS" = some (some (.ref fM)))
    (lM : K.lookup fM = some ⟨.type "tuple", dM, .seq #[.str "a" t1, .str "b" t2, .str "c" t3, .str "d" t4, .str "e" t5, .str "f" t6, .str "g" t7, .str "h" t8] nM, sM⟩)
    (aN : PySem.W.nsIn K mainGlobals "MOST_NODES" = some (some (.int 20000 tN)))
    (qg : PySem.W.nsIn K mainGlobals "BadText" = some (some (.ref CB)))
    (qi : PySem.W.findIn K (.ref CB) "__init__" = some (some (.ref fB)))
    (qt : PySem.W.typeIn K (.ref fB) = some (.type "function"))
    (ql : K.lookup fB = some (⟨ocB, odB, .func (PySem.W.fnX "__init__" "BadText.__init__" (defArgs sBInit) (defBody sBInit) (defScope sBInit) [(("__class__" : Str), ccB)] .none .none dcB pmB none (.ref cB) ctB), slB⟩ : Obj))
    (qc : PySem.W.codeIn K (.ref cB) "BadText.__init__" = true)
    (qe : K.lookup ccB = some (⟨kclB, kcdB, .cell (some (.ref CB)), ksB⟩ : Obj))
    (qo : K.lookup cB = some (⟨clB, cdB2, .fields vsB, csB⟩ : Obj))
    (qv : vsB[2]? = some (.str flB tfB))
    (qf : (l.prog.main.file == flB) = true)
    (qp : (l.prog.main.scope.names.lookup ("super" : Str)).isSome = false)
    (qk : K.lookup CB = some (excClassObj nmB qB CB NB bsB bmB true snB subB abB colB ddB k0B k1B k2B k3B k5B "ValueError.__new__"))
    (qr : PySem.HandSPX.refsVE bmB = true)
    (qa : PySem.W.findIn K (.ref CB) "__setattr__" = some (some (.builtin "object.__setattr__")))
    (qb : PySem.W.subIn K (.ref CB) (.type "BaseException") = some true)
    (qy : PySem.W.typeIn K (.ref CB) = some (.type "type"))
    (qkp : PySem.W.keepIn K (.ref CB) = true)
    (qs : PySem.W.ks_superIn K CB CB "__init__" = some (some (.builtin "ValueError.__init__")))
    (q3 : PySem.W.nsIn K cStatics "thirdparty.any" = some none)
    (qve : PySem.W.subIn K (.ref CB) (.type "ValueError") = some true)
    (qm : PySem.W.mroIn K CB (.ref CB) = some true)
    (qn : PySem.W.nsIn K mainGlobals "super" = some none)
    (qno : PySem.W.findIn K (.ref CB) "place" = some none)
    (qga : PySem.W.findIn K (.ref CB) "__getattribute__" = some (some (.builtin "BaseException.__getattribute__")))
    (qgg : PySem.W.findIn K (.ref CB) "__getattr__" = some none)
    (qhd : PySem.W.hasDictIn K CB = true)
    (qic : PySem.W.isClsIn K CB = true)
    (qss : PySem.W.subIn K (.ref CB) (.ref CB) = some true) :
    ∃ fd : FuncData, (∀ (s : Shared) (v : Value), BindsTo s fd ⟨[v], []⟩ [("script", v)]) ∧ ∀ base : Heap, K.In base → base.Ns mainGlobals mg → GOk l.prog w K mg base CX0 8 fa fd ["script"] (spLaw K) := by
  have e := hfa.symm.trans (PySem.W.mg_of X G a15)
  cases e
  have T : Bl mg := { int := PySem.W.mg_none_of X G z_int, len := PySem.W.mg_none_of X G z_len, sum := PySem.W.mg_none_of X G z_sum, max := PySem.W.mg_none_of X G z_max, min := PySem.W.mg_none_of X G z_min, range := PySem.W.mg_none_of X G z_range, tuple := PySem.W.mg_none_of X G z_tuple, list := PySem.W.mg_none_of X G z_list, repr := PySem.W.mg_none_of X G z_repr, isinstance := PySem.W.mg_none_of X G z_isinstance, enumerate := PySem.W.mg_none_of X G z_enumerate, reversed := PySem.W.mg_none_of X G z_reversed, sorted := PySem.W.mg_none_of X G z_sorted, str := PySem.W.mg_none_of X G z_str, all := PySem.W.mg_none_of X G z_all, zip := PySem.W.mg_none_of X G z_zip, set := PySem.W.mg_none_of X G z_set, bool := PySem.W.mg_none_of X G z_bool }
  have hm : MarksAt K mg := ⟨fM, PySem.W.mg_of X G aM, fun H => .inr ⟨_, _, _, lM, rfl, rfl, by show 8 ≤ sizeLine; decide,
    .cons ⟨_, rfl⟩ (.cons ⟨_, rfl⟩ (.cons ⟨_, rfl⟩ (.cons ⟨_, rfl⟩ (.cons ⟨_, rfl⟩ (.cons ⟨_, rfl⟩ (.cons ⟨_, rfl⟩ (.cons ⟨_, rfl⟩ .nil)))))))⟩⟩
  have hM : MostAt mg := ⟨tN, PySem.W.mg_of X G aN⟩
  have F0 := fun_mk (st := sMark) l0 c0 k0
  have g0 := PySem.W.mg_of X G a0
  have b0 := F0.binds (ps := ["thing"]) fun _ _ _ _ _ _ us hl => match us, hl with | [_], _ => rfl
  let Dm : Dn K mg "is_mark" sMark ["thing"] := ⟨_, _, F0, g0, b0⟩
  have F1 := fun_mk (st := sRead) l1 c1 k1
  have g1 := PySem.W.mg_of X G a1
  have b1 := F1.binds (ps := ["text"]) fun _ _ _ _ _ _ us hl => match us, hl with | [_], _ => rfl
  let Drd : Dn K mg "read_document" sRead ["text"] := ⟨_, _, F1, g1, b1⟩
  have F2 := fun_mk (st := sFeed) l2 c2 k2
  have g2 := PySem.W.mg_of X G a2
  have b2 := F2.binds (ps := ["script", "k"]) fun _ _ _ _ _ _ us hl => match us, hl with | [_, _], _ => rfl
  let Dfe : Dn K mg "_law_feed" sFeed ["script", "k"] := ⟨_, _, F2, g2, b2⟩
  have F3 := fun_mk (st := sDraw) l3 c3 k3
  have g3 := PySem.W.mg_of X G a3
  have b3 := F3.binds (ps := ["feed", "many"]) fun _ _ _ _ _ _ us hl => match us, hl with | [_, _], _ => rfl
  let Dd : Dn K mg "_law_draw" sDraw ["feed", "many"] := ⟨_, _, F3, g3, b3⟩
  have F4 := fun_mk (st := sOne) l4 c4 k4
  have g4 := PySem.W.mg_of X G a4
  have b4 := F4.binds (ps := ["feed", "things"]) fun _ _ _ _ _ _ us hl => match us, hl with | [_, _], _ => rfl
  let D1 : Dn K mg "_law_one" sOne ["feed", "things"] := ⟨_, _, F4, g4, b4⟩
  have F5 := fun_mk (st := sDoc) l5 c5 k5
  have g5 := PySem.W.mg_of X G a5
  have b5 := F5.binds (ps := ["feed", "most"]) fun _ _ _ _ _ _ us hl => match us, hl with | [_, _], _ => rfl
  let Dc : Dn K mg "_law_document" sDoc ["feed", "most"] := ⟨_, _, F5, g5, b5⟩
  have F6 := fun_mk (st := sGrown) l6 c6 k6
  have g6 := PySem.W.mg_of X G a6
  have b6 := F6.binds (ps := ["cells"]) fun _ _ _ _ _ _ us hl => match us, hl with | [_], _ => rfl
  let Dg : Dn K mg "_law_grown" sGrown ["cells"] := ⟨_, _, F6, g6, b6⟩
  have F7 := fun_mk (st := sDrawn) l7 c7 k7
  have g7 := PySem.W.mg_of X G a7
  have b7 := F7.binds (ps := ["feed", "script", "most"]) fun _ _ _ _ _ _ us hl => match us, hl with | [_, _, _], _ => rfl
  let Ddr : Dn K mg "_law_drawn" sDrawn ["feed", "script", "most"] := ⟨_, _, F7, g7, b7⟩
  have F8 := fun_mk (st := sLPars) l8 c8 k8
  have g8 := PySem.W.mg_of X G a8
  have b8 := F8.binds (ps := ["document"]) fun _ _ _ _ _ _ us hl => match us, hl with | [_], _ => rfl
  let Dlp : Dn K mg "_law_parents" sLPars ["document"] := ⟨_, _, F8, g8, b8⟩
  have F9 := fun_mk (st := sLKids) l9 c9 k9
  have g9 := PySem.W.mg_of X G a9
  have b9 := F9.binds (ps := ["document"]) fun _ _ _ _ _ _ us hl => match us, hl with | [_], _ => rfl
  let Dlk : Dn K mg "_law_children" sLKids ["document"] := ⟨_, _, F9, g9, b9⟩
  have F10 := fun_mk (st := sLWritten) l10 c10 k10
  have g10 := PySem.W.mg_of X G a10
  have b10 := F10.binds (ps := ["document"]) fun _ _ _ _ _ _ us hl => match us, hl with | [_], _ => rfl
  let Dlw : Dn K mg "_law_written" sLWritten ["document"] := ⟨_, _, F10, g10, b10⟩
  have F11 := fun_mk (st := sLOpen) l11 c11 k11
  have g11 := PySem.W.mg_of X G a11
  have b11 := F11.binds (ps := ["text"]) fun _ _ _ _ _ _ us hl => match us, hl with | [_], _ => rfl
  let Dlo : Dn K mg "_law_open" sLOpen ["text"] := ⟨_, _, F11, g11, b11⟩
  have F12 := fun_mk (st := sLWrong) l12 c12 k12
  have g12 := PySem.W.mg_of X G a12
  have b12 := F12.binds (ps := ["text"]) fun _ _ _ _ _ _ us hl => match us, hl with | [_], _ => rfl
  let Dwr : Dn K mg "_law_wrong" sLWrong ["text"] := ⟨_, _, F12, g12, b12⟩
  have F13 := fun_mk (st := sLSpoilt) l13 c13 k13
  have g13 := PySem.W.mg_of X G a13
  have b13 := F13.binds (ps := ["feed", "text"]) fun _ _ _ _ _ _ us hl => match us, hl with | [_, _], _ => rfl
  let Dsp : Dn K mg "_law_spoilt" sLSpoilt ["feed", "text"] := ⟨_, _, F13, g13, b13⟩
  have F14 := fun_mk (st := sLAsked) l14 c14 k14
  have g14 := PySem.W.mg_of X G a14
  have b14 := F14.binds (ps := ["thing"]) fun _ _ _ _ _ _ us hl => match us, hl with | [_], _ => rfl
  let Das : Dn K mg "_law_asked" sLAsked ["thing"] := ⟨_, _, F14, g14, b14⟩
  have F15 := fun_mk (st := sLaw) l15 c15 k15
  have g15 := PySem.W.mg_of X G a15
  have b15 := F15.binds (ps := ["script"]) fun _ _ _ _ _ _ us hl => match us, hl with | [_], _ => rfl
  let Dl : Dn K mg "law" sLaw ["script"] := ⟨_, _, F15, g15, b15⟩
  let TX : OexC K CB := ⟨⟨nmB, qB, NB, bsB, bmB, snB, subB, abB, colB, ddB, k0B, k1B, k2B, k3B, k5B, qk, qr⟩, qa, qb, qy, qkp⟩
  let ZB : SupF l.prog K mg (NFB ccB cB) fB ccB CB dcB pmB ctB := ⟨⟨_, _, _, ql⟩, qc, rfl, ⟨_, _, _, qe⟩, ⟨_, _, _, _, _, _, qo, qv, qf⟩, qp, TX, qs, q3, qve, qm, PySem.W.mg_none_of X G qn⟩
  let B : Bt l.prog K mg := ⟨CB, PySem.W.mg_of X G qg, fB, ccB, cB, dcB, pmB, ctB, qi, qt, ZB, qno, ⟨qga, qgg, qb, qhd⟩, exm_by qb qic qy qss⟩
  have hB : Binds K ((NFB ccB cB).fd dcB pmB ctB) ["self", "place"] [] := .all fun us hl => match us, hl with | [_, _], _ => rfl

  exact ⟨_, fun s v => .of_eq rfl, fun base _ _ => ok_law05 T hm hM B hB Dm Drd Dd D1 Dfe Dg Dc Ddr Dlp Dlk Dlw Dlo Dwr Dsp Das Dl⟩
theorem walk {l : PySem.W.OpenLaw} {q : Program} {loose : List Str} {XP : (Str → Option Value) → Heap → Prop} {YP : World → Heap → Prop} {d : DefRec} {K : Params → PySem.W.Frag} (hn : l.most = some 63) (hdf : d.params.defaults = [])
    (hY : ∀ (w : World) (h : Heap), YP w h → (K w.params).In h)
    (F : ∀ (w : World) (mg : Str → Option Value) (fa : Addr) (h : Heap), (K w.params).In h → h.Ns mainGlobals mg → mg d.name = some (.ref fa) →
      ∃ fd : FuncData, (∀ (s : Shared) (u : Value), BindsTo s fd ⟨[u], []⟩ [("script", u)]) ∧ ∀ base : Heap, (K w.params).In base → base.Ns mainGlobals mg → GOk l.prog w (K w.params) mg base CX0 8 fa fd ["script"] (spLaw (K w.params))) :
    PySem.W.WalkO q loose XP YP l.row.toRowW d [] (fun f vs => PySem.call f vs) :=
  walk_top (n := 63) (k := 8) (x := "script") (sp := fun w => spLaw (K w.params)) hn (by decide) hdf ⟨rfl, by decide, by decide⟩ hY F
    fun w H a ns hl hb only sq => ⟨a, ns, rfl, ScrAt.of only sq, hl, hb, fun _ => rfl⟩
end W

open PySem PySem.W PyProof.Rows in
set_option maxRecDepth 100000 in
set_option maxHeartbeats 0 in
theorem PySem.Challenge.cw_everymatch_k05_first_wrong_sign_holds : PySem.Challenge.rw_everymatch_k05_first_wrong_sign.Holds := by
  w_on; o_law; k_head; (case hw => w_witness2)
  k_fill
  refine W.walk (l := PySem.Challenge.rw_everymatch_k05_first_wrong_sign) rfl rfl (fun w h Y => PySem.W.kIn_of Y) ?F
  case F =>
    intro w mg fa h KX G hmg
    refine' W.all_mk KX G hmg ?a0 ?l0 ?c0 ?k0 ?a1 ?l1 ?c1 ?k1 ?a2 ?l2 ?c2 ?k2 ?a3 ?l3 ?c3 ?k3 ?a4 ?l4 ?c4 ?k4 ?a5 ?l5 ?c5 ?k5 ?a6 ?l6 ?c6 ?k6 ?a7 ?l7 ?c7 ?k7 ?a8 ?l8 ?c8 ?k8 ?a9 ?l9 ?c9 ?k9 ?a10 ?l10 ?c10 ?k10 ?a11 ?l11 ?c11 ?k11 ?a12 ?l12 ?c12 ?k12 ?a13 ?l13 ?c13 ?k13 ?a14 ?l14 ?c14 ?k14 ?a15 ?l15 ?c15 ?k15 ?z_int ?z_len ?z_sum ?z_max ?z_min ?z_range ?z_tuple ?z_list ?z_repr ?z_isinstance ?z_enumerate ?z_reversed ?z_sorted ?z_str ?z_all ?z_zip ?z_set ?z_bool ?aM ?lM ?aN ?qg ?qi ?qt ?ql ?qc ?qe ?qo ?qv ?qf ?qp ?qk ?qr ?qa ?qb ?qy ?qkp ?qs ?q3 ?qve ?qm ?qn ?qno ?qga ?qgg ?qhd ?qic ?qss
    (case a0 => k_is)
    (case l0 => k_is)
    (case c0 => k_is)
    (case k0 => k_is)
    (case a1 => k_is)
    (case l1 => k_is)
    (case c1 => k_is)
    (case k1 => k_is)
    (case a2 => k_is)
    (case l2 => k_is)
    (case c2 => k_is)
    (case k2 => k_is)
    (case a3 => k_is)
    (case l3 => k_is)
    (case c3 => k_is)
    (case k3 => k_is)
    (case a4 => k_is)
    (case l4 => k_is)
    (case c4 => k_is)
    (case k4 => k_is)
    (case a5 => k_is)
    (case l5 => k_is)
    (case c5 => k_is)
    (case k5 => k_is)
    (case a6 => k_is)
    (case l6 => k_is)
    (case c6 => k_is)
    (case k6 => k_is)
    (case a7 => k_is)
    (case l7 => k_is)
    (case c7 => k_is)
    (case k7 => k_is)
    (case a8 => k_is)
    (case l8 => k_is)
    (case c8 => k_is)
    (case k8 => k_is)
    (case a9 => k_is)
    (case l9 => k_is)
    (case c9 => k_is)
    (case k9 => k_is)
    (case a10 => k_is)
    (case l10 => k_is)
    (case c10 => k_is)
    (case k10 => k_is)
    (case a11 => k_is)
    (case l11 => k_is)
    (case c11 => k_is)
    (case k11 => k_is)
    (case a12 => k_is)
    (case l12 => k_is)
    (case c12 => k_is)
    (case k12 => k_is)
    (case a13 => k_is)
    (case l13 => k_is)
    (case c13 => k_is)
    (case k13 => k_is)
    (case a14 => k_is)
    (case l14 => k_is)
    (case c14 => k_is)
    (case k14 => k_is)
    (case a15 => k_is)
    (case l15 => k_is)
    (case c15 => k_is)
    (case k15 => k_is)
    (case z_int => k_is)
    (case z_len => k_is)
    (case z_sum => k_is)
    (case z_max => k_is)
    (case z_min => k_is)
    (case z_range => k_is)
    (case z_tuple => k_is)
    (case z_list => k_is)
    (case z_repr => k_is)
    (case z_isinstance => k_is)
    (case z_enumerate => k_is)
    (case z_reversed => k_is)
    (case z_sorted => k_is)
    (case z_str => k_is)
    (case z_all => k_is)
    (case z_zip => k_is)
    (case z_set => k_is)
    (case z_bool => k_is)
    (case aM => k_is)
    (case lM => k_is)
    (case aN => k_is)
    (case qg => k_is)
    (case qi => k_is)
    (case qt => k_is)
    (case ql => k_is)
    (case qc => k_is)
    (case qe => k_is)
    (case qo => k_is)
    (case qv => rfl)
    (case qf => first | rfl | decide +kernel)
    (case qp => first | rfl | decide +kernel)
    (case qk => k_is)
    (case qr => rfl)
    (case qa => k_is)
    (case qb => k_is)
    (case qy => k_is)
    (case qkp => k_is)
    (case qs => first | rfl | ks_is)
    (case q3 => k_is)
    (case qve => k_is)
    (case qm => first | rfl | k_is)
    (case qn => k_is)
    (case qno => k_is)
    (case qga => k_is)
    (case qgg => k_is)
    (case qhd => k_is)
    (case qic => k_is)
    (case qss => first | rfl | k_is)
