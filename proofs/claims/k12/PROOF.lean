import PyProof.Rows.All
import Wide.All
import OpenK.AllK
import Wide.FinOn
import HandS.ForMost
import HandS.EndBits
import HandS.WordsExc
import HandS.Wide
import HandS.WideBits
import HandS.IsInst
import KE.GoesMore
import KE.GoesEnum
import HandS.Flow
import HandS.SortKw
import KE.DataMinMax
import HandS.FltList
import KE.KDictCopyH
import HandS.Text
import PyProof.EnumMake
import HandS.Style
import HandS.Codes
import HandS.RevRange
import HandS.TupAny
import HandS.Conv
import HandS.Walk
import HandS.SetFor
import PySem.Challenge.RW_everymatch_k12_edits_and_near_ones
set_option Elab.async false
set_option linter.all false
set_option maxRecDepth 100000
set_option maxHeartbeats 4000000
/-! ## Defs that run where no repr is under way, and repr of plain data -/
namespace GX
open PySem PySem.Spec PyProof.Rows L2

/-- as FnOk, for callers of whom no repr is under way -/
structure GOk (P : Program) (w : World) (K : PySem.W.Frag) (mg : Str → Option Value) (base : Heap)
    (cx : CXT) (k : Nat) (f : Addr) (fd : FuncData) (ps : List Str) (sp : Sp) : Prop where
  many : ∀ vs H Q E, sp vs H Q E → vs.length = ps.length
  goes : ∀ (A : Around) (outer : List Env) (s : Shared) (H : Hp) (args : Args) (us : List Value) (vs : List V)
    (Q : VK) (E : XK), A.guards = some [] → Room k A → Env0 P w K mg base A outer s H →
    BindsTo s fd args (ps.zip us) → Vals vs us → sp vs H Q E →
    codeAny (model P w) A (.call (.ref f) args) (CR cx outer P w H s Q E) s

section
variable {P : Program} {w : World} {K : PySem.W.Frag} {mg : Str → Option Value} {base : Heap}

theorem GOk.of {cx : CXT} {k : Nat} {f : Addr} {fd : FuncData} {ps : List Str} {sp : Sp}
    (F : FnOk P w K mg base cx k f fd ps sp) : GOk P w K mg base cx k f fd ps sp :=
  ⟨F.len, fun A outer s H args us vs Q E _ hr => F.run A outer s H args us vs Q E hr⟩

/-- the rule for a def whose body may call repr -/
theorem gok {cx : CXT} {x qual : Str} {st : Stmt} {f : Addr} {fd : FuncData} {N ps : List Str} {k : Nat} {sp : Sp}
    (F : Fun K x qual st f fd) (S : FnScope N ps (defScope st))
    (many : ∀ vs H Q E, sp vs H Q E → vs.length = ps.length)
    (body : ∀ (cdv : Value) (A : Around) (outer : List Env) (s : Shared) (H : Hp) (vs : List V) (Q : VK) (E : XK),
      (A.deeper (envOfC qual (defScope st) s.heap.objs.size f cdv)).guards = some [] →
      Room k (A.deeper (envOfC qual (defScope st) s.heap.objs.size f cdv)) → sp vs H Q E →
      ∃ t, PSs (cxOf cx P w K mg base N qual (defScope st) f cdv A outer s H E) (defBody st) t ∧
        t { nx := fun _ H' => Q .non H', rt := Q } (start N vs) H) :
    GOk P w K mg base cx (k + 1) f fd ps sp := by
  obtain ⟨oc, od, kV, doc, pm, an, cdv, ct, osl, rfl, lk, hcd⟩ := F.ex
  refine ⟨many, fun A outer s H args us vs Q E hgd room e0 bnd rel want => ?_⟩
  have n1 := many _ _ _ _ want
  have inK : K.In s.heap := e0.mod.kin.keeps fun b o q => (e0.bs b o q).1
  have free : s.heap.NoLimit := e0.mod.nolimit.keeps fun b o q => (e0.bs b o q).1
  have kinds : ∀ y ∈ ps.zip us, (defScope st).names.lookup y.1 = some .local ∨
      ((defScope st).names.lookup y.1 = some .cell ∧
        ((cellsFrom (s.heap.objs.size + 1) (defScope st).names []).lookup y.1).isSome = true) := by
    rintro ⟨n, v⟩ hy
    rcases S.par n (List.of_mem_zip hy).1 with q | q
    · exact Or.inl q
    · exact Or.inr ⟨q, PySem.W.cellsFrom_some _ _ _ (.inl q)⟩
  refine codeAny_call_function room.depth (inK _ _ lk) rfl S.co S.gen rfl
    (PySem.W.codeRec_of inK hcd) (bnd _ _ _ _ ?_)
  refine wpAny_newFunctionEnv_cells S.kind kinds fun env same s1 x => ?_
  subst same
  refine ⟨free.keeps x.toInCall.keep, codeAny_func ?_⟩
  obtain ⟨t, ht, hq⟩ := body cdv A outer s H vs Q E hgd (room.deeper _) want
  have inv := inv_start (E := E) (CX := cx) S room.hd e0 n1 rel x
  refine wpAny_mono (ht.run [] s1 (start N vs) H _ inv hq) (fun fl s' hs => ?_) fun e s' hs => hs
  cases fl with
  | ret u =>
    obtain ⟨v, σ', H', J, rv, q⟩ := hs
    exact ⟨v, H', J.os, J.bare, J.base, J.hok, rv, q⟩
  | next =>
    obtain ⟨σ', H', J, q⟩ := hs
    exact ⟨V.non, H', J.os, J.bare, J.base, J.hok, rfl, q⟩
  | brk =>
    obtain ⟨_, _, _, q⟩ := hs
    exact False.elim q
  | cont =>
    obtain ⟨_, _, _, q⟩ := hs
    exact False.elim q

/-- .. of which no exception leaves -/
theorem gok0 {x qual : Str} {st : Stmt} {f : Addr} {fd : FuncData} {N ps : List Str} {k : Nat} {sp : Sp}
    (F : Fun K x qual st f fd) (S : FnScope N ps (defScope st))
    (many : ∀ vs H Q E, sp vs H Q E → vs.length = ps.length)
    (body : ∀ (cdv : Value) (A : Around) (outer : List Env) (s : Shared) (H : Hp) (vs : List V) (Q : VK) (E : XK),
      (A.deeper (envOfC qual (defScope st) s.heap.objs.size f cdv)).guards = some [] →
      Room k (A.deeper (envOfC qual (defScope st) s.heap.objs.size f cdv)) → sp vs H Q E →
      ∃ t, PSs (cxOf CX0 P w K mg base N qual (defScope st) f cdv A outer s H E).nox (defBody st) t ∧
        t { nx := fun _ H' => Q .non H', rt := Q } (start N vs) H) :
    GOk P w K mg base CX0 (k + 1) f fd ps sp :=
  gok F S many fun cdv A outer s H vs Q E hgd room want =>
    let ⟨t, h, q⟩ := body cdv A outer s H vs Q E hgd room want
    ⟨t, h.nox, q⟩
end

section
variable {X : Cx}
/-- a call of such a def -/
theorem ge_call {cx : CXT} {k : Nat} {f : Addr} {fd : FuncData} {ps : List Str} {sp : Sp} {dvs : List V} {ds : List Value}
    {E : XK} {x : Str} {p pos : Pos} {e : Expr} {es : List Expr} {t : TA}
    (F : GOk X.prog X.w X.K X.mg X.base cx k f fd ps sp) (hgd : X.A.guards = some []) (room : Room k X.A)
    (hg : Gl X x) (hm : X.mg x = some (.ref f)) (hk : PySem.W.keepIn X.K (.ref f) = true)
    (hb : Binds X.K fd ps ds) (hd : Vals dvs ds) (hx : Passes cx X E) (ha : PA X (e :: es) t)
    (hdb : (x == ("__debug__" : Str)) = false := by decide)
    (he : starEach (e :: es) X.env = (false, eval e X.env) :: starEach es X.env := by rfl)
    (hpl : (backTo pos (starEach es X.env)).any (·.1) = false := by rfl) :
    PE X (.Call (.Name x p) (e :: es) [] pos) (tCall sp dvs E t) := by
  refine ⟨fun pins s σ H Q I h => wpAny_Call_Name_kw (ld_glob I hg hm ?_ hdb)⟩
  refine PySem.W.callWith_K (h₀ := X.base) I.ok.mod.kin hk
    (thn (ha.run pos pins s σ H _ I h) fun us s1 got => ?_) he hpl
  obtain ⟨vs, H1, I1, rel, want⟩ := got
  refine ⟨I1.kIn, ?_⟩
  have rel2 : Vals (vs ++ dvs) (us ++ ds) := rel.append hd
  have n1 : (us ++ ds).length = ps.length := by
    rw [← rel2.length]
    exact F.many _ _ _ _ want
  refine wpAny_call (codeAny_mono (F.goes X.A X.stack s1 H1 ⟨us, []⟩ (us ++ ds) (vs ++ dvs) Q E hgd room
    I1.env0 (hb s1 us I1.kIn n1) rel2 want) fun r s' hq => ?_)
  match r, hq with
  | .error e, hq => exact hx pins σ H1 s1 e s' I1 hq
  | .ok (.ret u), hq => exact I1.after hq
end

/-! ### repr -/
mutual
def most : PyData → Nat
  | .none => 4
  | .bool _ => 5
  | .int _ => 2000
  | .str x => (reprText x).length
  | .list xs => mostAll xs + 4
  | .tuple xs => mostAll xs + 4
  | .dict _ => 20000000
def mostAll : List PyData → Nat
  | [] => 0
  | x :: xs => most x + 2 + mostAll xs
end
theorem join_most (ts : List Str) : (Str.join ", " ts).length ≤ (ts.map fun t => t.length + 2).sum := by
  cases ts with
  | nil => exact Nat.zero_le _
  | cons t ts =>
    have h := join_length_add (t :: ts) (by simp)
    have e : ∀ l : List Str, (l.map fun t => t.length + 2).sum = piled l := by
      intro l
      induction l with
      | nil => rfl
      | cons a l ih => rw [List.map_cons, List.sum_cons, ih, piled_cons]
    rw [e]
    omega
mutual
theorem shown_most : ∀ d : PyData, d.showable = true → d.hasDict = false → d.shown.length ≤ most d
  | .none, _, _ => by rw [PyData.shown_none]; decide +kernel
  | .bool b, _, _ => by rw [PyData.shown_bool]; cases b <;> decide +kernel
  | .int i, h, _ => by
    rw [PyData.shown_int]
    have q : i.natAbs.log2 < 1920 := by simpa [PyData.showable] using h
    show _ ≤ 2000
    have z := int_text_length_le (k := 1920) (by decide) q
    rw [PySem.ofString_length]
    omega
  | .str x, _, _ => by rw [PyData.shown_str]; exact Nat.le_refl _
  | .list xs, h, g => by
    have q := shownAll_most xs (by simpa [PyData.showable] using h) (by simpa [PyData.hasDict] using g)
    rw [PyData.shown_list, strLen_append, strLen_append]
    have e1 : ((("[" : String) : Str)).length = 1 := rfl
    have e2 : ((("]" : String) : Str)).length = 1 := rfl
    have := join_most (PyData.shownAll xs)
    rw [e1, e2]
    show _ ≤ mostAll xs + 4
    omega
  | .tuple xs, h, g => by
    have q := shownAll_most xs (by simpa [PyData.showable] using h) (by simpa [PyData.hasDict] using g)
    rw [PyData.shown_tuple, strLen_append, strLen_append]
    have e1 : ((("(" : String) : Str)).length = 1 := rfl
    have e2 : (((if xs.length == 1 then ",)" else ")" : String) : Str)).length ≤ 2 := by split <;> decide +kernel
    have := join_most (PyData.shownAll xs)
    rw [e1]
    show _ ≤ mostAll xs + 4
    omega
  | .dict _, _, g => by simp [PyData.hasDict] at g
theorem shownAll_most : ∀ xs : List PyData, PyData.showableAll xs = true → PyData.hasDictAll xs = false →
    ((PyData.shownAll xs).map fun t => t.length + 2).sum ≤ mostAll xs
  | [], _, _ => by rw [PyData.shownAll_nil]; exact Nat.le_refl _
  | x :: xs, h, g => by
    have h' : x.showable = true ∧ PyData.showableAll xs = true := by simpa [PyData.showableAll] using h
    have g' : x.hasDict = false ∧ PyData.hasDictAll xs = false := by simpa [PyData.hasDictAll] using g
    have a := shown_most x h'.1 g'.1
    have b := shownAll_most xs h'.2 g'.2
    rw [PyData.shownAll_cons, List.map_cons, List.sum_cons]
    show _ ≤ most x + 2 + mostAll xs
    omega
end
/-- what repr asks of data -/
structure Told (K : PySem.W.Frag) (H : Hp) (v : V) (d : PyData) : Prop where
  at_ : Dp K H v d
  show_ : d.showable = true
  plain : d.hasDict = false
  deep : d.depth ≤ 20
  short : most d ≤ 16000000
def rRepr (K : PySem.W.Frag) : List V → Hp → VK → Prop := fun xs H Q => ∃ v d, xs = [v] ∧ Told K H v d ∧ Q (.str d.shown) H
theorem call_repr {X : Cx} {k : Nat} (hgd : X.A.guards = some []) (room : Room k X.A) :
    CallR X (.builtin "repr") (rRepr X.K) := by
  intro pins s σ H xs us Q I r h
  obtain ⟨v, d, rfl, T, q⟩ := h
  have big : d.shown.length ≤ sizeLine := by
    have a := shown_most d T.show_ T.plain
    have b := T.short
    rw [sizeLine_eq]
    omega
  obtain ⟨u, rfl, ru⟩ := vals1 r
  obtain ⟨as, rd⟩ := Dp.reads I d v u T.at_ ru
  have un := room.units
  have dp := T.deep
  cases v with
  | ref a =>
    obtain rfl : u = Value.ref a := ru
    refine repr_of_reads' rd T.show_ (PyData.noDict_hsm T.plain) hgd (by omega) (fun _ _ e => e) (fun h' t tk keep => ?_) big
    exact ⟨.str d.shown, H, I.kept (t' := tk) keep, ⟨t, rfl⟩, q⟩
  | non =>
    obtain rfl : u = Value.none := ru
    cases rd
    rw [PyData.shown_none] at q
    exact PySem.P.repr_of_none ⟨.str _, H, I.tok _, ⟨_, rfl⟩, q⟩
  | bl b =>
    obtain rfl : u = Value.bool b := ru
    cases rd
    rw [PyData.shown_bool] at q
    refine PySem.P.repr_of_bool ⟨.str (if b then "True" else "False" : Str), H, I.tok _, ⟨s.toks, ?_⟩, q⟩
    cases b <;> rfl
  | int i =>
    obtain ⟨t, rfl⟩ := ru
    cases rd
    have z : i.natAbs.log2 < 1920 := by simpa [PyData.showable] using T.show_
    rw [PyData.shown_int] at q
    exact PySem.P.repr_of_int z ⟨.str _, H, I.tok _, ⟨_, rfl⟩, q⟩
  | str x =>
    obtain ⟨t, rfl⟩ := ru
    cases rd
    rw [PyData.shown_str] at q big
    exact PySem.P.repr_of_str ⟨.str _, H, I.tok _, ⟨_, rfl⟩, q⟩ big
  | byt b =>
    obtain ⟨t, rfl⟩ := ru
    cases rd
  | flt b =>
    obtain ⟨t, rfl⟩ := ru
    cases rd
  | ty n =>
    obtain rfl : u = Value.type n := ru
    cases rd

/-! ### wide ints -/
structure Wd (n : Nat) (x : Int) : Prop where
  lt : x.natAbs < 2 ^ n
theorem Wd.mono {m n : Nat} {x : Int} (h : Wd m x) (le : m ≤ n) : Wd n x := ⟨Nat.lt_of_lt_of_le h.lt (Nat.pow_le_pow_right (by decide) le)⟩
theorem Wd.mul {a b : Nat} {x y : Int} (h : Wd a x) (g : Wd b y) : Wd (a + b) (x * y) := ⟨wide_lt h.lt g.lt⟩
theorem Wd.ok {a b : Nat} {x y : Int} (h : Wd a x) (g : Wd b y) (le : a + b ≤ 134217728) : CMulX x y := mulx_ok h.lt g.lt le
theorem Wd.add {a b n : Nat} {x y : Int} (h : Wd a x) (g : Wd b y) (ha : a ≤ n) (hb : b ≤ n) : Wd (n + 1) (x + y) := by
  have p := (h.mono ha).lt
  have q := (g.mono hb).lt
  refine ⟨?_⟩
  rw [Nat.pow_succ]
  omega
theorem Wd.sub {a b n : Nat} {x y : Int} (h : Wd a x) (g : Wd b y) (ha : a ≤ n) (hb : b ≤ n) : Wd (n + 1) (x - y) := by
  have p := (h.mono ha).lt
  have q := (g.mono hb).lt
  refine ⟨?_⟩
  rw [Nat.pow_succ]
  omega
theorem Wd.div {n : Nat} {x m : Int} (h : Wd n x) (h0 : 0 ≤ x) (hm : 0 < m) : Wd n (x / m) := by
  have a : 0 ≤ x / m := Int.ediv_nonneg h0 (Int.le_of_lt hm)
  have b : x / m ≤ x := Int.ediv_le_self m h0
  have c := h.lt
  exact ⟨by omega⟩
theorem Wd.within {n : Nat} {x y : Int} (h : Wd n y) (h0 : 0 ≤ x) (le : x ≤ y) : Wd n x := by
  have c := h.lt
  exact ⟨by omega⟩
theorem Wd.cdiv {n : Nat} {x m : Int} (h : Wd n m) (hm : 0 < m) (h0 : 0 < n) (le : n ≤ 9000) : CDivW x m := wide_div hm h.lt h0 le
theorem Wd.bits {n : Nat} {x : Int} (h : Builtin.Int.intBits x ≤ n) : Wd (n + 1) x := by
  refine ⟨?_⟩
  unfold Builtin.Int.intBits at h
  split at h
  · rename_i z
    have z' : x.natAbs = 0 := by
      first
        | exact of_decide_eq_true z
        | (have := eq_of_beq z; omega)
        | omega
    rw [z']
    exact Nat.two_pow_pos _
  · have q : x.natAbs < 2 ^ (x.natAbs.log2 + 1) := Nat.lt_log2_self
    exact Nat.lt_of_lt_of_le q (Nat.pow_le_pow_right (by decide) (by omega))
section
variable {X : Cx}
def rTup (K : PySem.W.Frag) : List V → Hp → VK → Prop := fun xs H Q => ∃ p ys, xs = [.ref p] ∧
  ((SqL K H p ys ∧ ∀ l, H l = none → Q (.ref l) (upd H l (.tup ys))) ∨ (SqT K H p ys ∧ Q (.ref p) H))
theorem call_tup : CallR X (.type "tuple") (rTup X.K) := call_tuple_of
/-- int of an int -/
theorem call_intI : CallR X (.type "int") (fun xs H Q => ∃ i, xs = [.int i] ∧ Q (.int i) H) := by
  intro pins s σ H xs us Q I r h
  exact call_int1 pins s σ H xs us Q I r (.inl h)
end
/-! ### defs, built-ins -/
theorem b_int : bootBuiltins "int" = some (.type "int") := PyProof.Rows.boot_int
theorem b_len : bootBuiltins "len" = some (.builtin "len") := PySem.boot_len
theorem b_sum : bootBuiltins "sum" = some (.builtin "sum") := PyProof.Rows.boot_sum
theorem b_max : bootBuiltins "max" = some (.builtin "max") := PyProof.Rows.boot_max
theorem b_min : bootBuiltins "min" = some (.builtin "min") := PyProof.Rows.boot_min
theorem b_tuple : bootBuiltins "tuple" = some (.type "tuple") := PyProof.Rows.boot_tuple
theorem b_list : bootBuiltins "list" = some (.type "list") := PyProof.Rows.boot_list
theorem b_repr : bootBuiltins "repr" = some (.builtin "repr") := PyProof.Rows.boot_repr
theorem b_isinstance : bootBuiltins "isinstance" = some (.builtin "isinstance") := PyProof.Rows.boot_isinstance
theorem b_str : bootBuiltins "str" = some (.type "str") := PyProof.Rows.boot_str
theorem b_bool : bootBuiltins "bool" = some (.type "bool") := PyProof.Rows.boot_bool
theorem b_sorted : bootBuiltins "sorted" = some (.builtin "sorted") := PyProof.Rows.boot_sorted
structure Bl (mg : Str → Option Value) : Prop where
  int : mg "int" = none
  len : mg "len" = none
  sum : mg "sum" = none
  max : mg "max" = none
  min : mg "min" = none
  range : mg "range" = none
  tuple : mg "tuple" = none
  list : mg "list" = none
  repr : mg "repr" = none
  isinstance : mg "isinstance" = none
  enumerate : mg "enumerate" = none
  reversed : mg "reversed" = none
  sorted : mg "sorted" = none
  str : mg "str" = none
  bool : mg "bool" = none
/-- a def of the text, where it stands -/
structure Dn (K : PySem.W.Frag) (mg : Str → Option Value) (x : Str) (st : Stmt) (ps : List Str) where
  f : Addr
  fd : FuncData
  F : Fun K x x st f fd
  g : mg x = some (.ref f)
  b : Binds K fd ps []
section
variable {X : Cx} {x : Str} {st : Stmt} {ps : List Str} {p pos : Pos} {e : Expr} {es : List Expr} {t : TA} {k j : Nat} {sp : Sp}
theorem de_call (D : Dn X.K X.mg x st ps) (G : FnOk X.prog X.w X.K X.mg X.base CX0 k D.f D.fd ps sp) (room : Room j X.A)
    (ha : PA X (e :: es) t) (le : k ≤ j := by decide) (hg : Gl X x := by rfl) (hdb : (x == ("__debug__" : Str)) = false := by decide)
    (he : starEach (e :: es) X.env = (false, eval e X.env) :: starEach es X.env := by rfl)
    (hpl : (backTo pos (starEach es X.env)).any (·.1) = false := by rfl) :
    PE X (.Call (.Name x p) (e :: es) [] pos) (tCall sp [] E0 t) :=
  pe_call G (room.mono le) hg D.g D.F.kp D.b .nil pass0 ha hdb he hpl
theorem de_callG (D : Dn X.K X.mg x st ps) (G : GOk X.prog X.w X.K X.mg X.base CX0 k D.f D.fd ps sp) (hgd : X.A.guards = some []) (room : Room j X.A)
    (ha : PA X (e :: es) t) (le : k ≤ j := by decide) (hg : Gl X x := by rfl) (hdb : (x == ("__debug__" : Str)) = false := by decide)
    (he : starEach (e :: es) X.env = (false, eval e X.env) :: starEach es X.env := by rfl)
    (hpl : (backTo pos (starEach es X.env)).any (·.1) = false := by rfl) :
    PE X (.Call (.Name x p) (e :: es) [] pos) (tCall sp [] E0 t) :=
  ge_call G hgd (room.mono le) hg D.g D.F.kp D.b .nil pass0 ha hdb he hpl
end
/-! ### any plain object -/
inductive Any (K : PySem.W.Frag) (H : Hp) : V → String → Prop
  | non : Any K H .non "NoneType"
  | bl (b : Bool) : Any K H (.bl b) "bool"
  | int (i : Int) : Any K H (.int i) "int"
  | str (z : Str) : Any K H (.str z) "str"
  | lst {a : Addr} {xs : List V} (e : H a = some (.lst xs)) : Any K H (.ref a) "list"
  | tup {a : Addr} {xs : List V} (e : SqT K H a xs) : Any K H (.ref a) "tuple"
  | dct {a : Addr} {kvs : List (Key × V)} (e : H a = some (.dK kvs)) : Any K H (.ref a) "dict"
  | dctT {a : Addr} {kvs : List (List Key × V)} (e : H a = some (.dT kvs)) : Any K H (.ref a) "dict"
theorem Any.ty {K : PySem.W.Frag} {H : Hp} {x : V} {T : String} (h : Any K H x T) : TyX K H x (.type T) := by
  cases h with
  | non => exact .base .non
  | bl b => exact .base (.bl b)
  | int i => exact .base (.int i)
  | str z => exact .base (.str z)
  | lst e => exact .base (.lst e)
  | tup e =>
    rcases e with (e | ⟨o, e⟩) | ⟨o, its, n, e, c, _⟩
    · exact .base (.tup e)
    · exact .fTuple e
    · exact .kTuple e c
  | dct e => exact .base (.dK e)
  | dctT e => exact .base (.dT e)
theorem Any.kit {K : PySem.W.Frag} {H : Hp} {x : V} {T : String} (h : Any K H x T) :
    PySem.W.kitOne K (.type T) (.type "int") = some (T == "int" || T == "bool") ∧ PySem.W.kitOne K (.type T) (.type "bool") = some (T == "bool") ∧
    PySem.W.kitOne K (.type T) (.type "str") = some (T == "str") ∧ PySem.W.kitOne K (.type T) (.type "tuple") = some (T == "tuple") := by
  cases h <;> exact ⟨kit_ty (by decide +kernel), kit_ty (by decide +kernel), kit_ty (by decide +kernel), kit_ty (by decide +kernel)⟩
/-! ### cuts -/
theorem cutV_to (xs : List V) (k : Nat) : cutV xs none (some (k : Int)) = xs.take k := by
  unfold cutV
  rw [HT.sIx_none, HT.sIx_nat, List.drop_zero, Nat.sub_zero]
  by_cases h : k ≤ xs.length
  · rw [Nat.min_eq_left h]
  · rw [Nat.min_eq_right (by omega), List.take_of_length_le (Nat.le_refl _), List.take_of_length_le (by omega)]
theorem cutV_from (xs : List V) (k : Nat) : cutV xs (some (k : Int)) none = xs.drop k := by
  unfold cutV
  rw [HT.sIx_none, HT.sIx_nat]
  by_cases h : k ≤ xs.length
  · rw [Nat.min_eq_left h, List.take_of_length_le (by rw [List.length_drop]; omega)]
  · rw [Nat.min_eq_right (by omega), List.drop_of_length_le (Nat.le_refl _), List.drop_of_length_le (by omega)]
    simp
theorem cutV_mid (xs : List V) (a b : Nat) : cutV xs (some (a : Int)) (some (b : Int)) = (xs.drop a).take (b - a) := by
  unfold cutV
  rw [HT.sIx_nat, HT.sIx_nat]
  by_cases h : a ≤ xs.length
  · rw [Nat.min_eq_left h]
    by_cases g : b ≤ xs.length
    · rw [Nat.min_eq_left g]
    · rw [Nat.min_eq_right (by omega), List.take_of_length_le (by rw [List.length_drop]; omega), List.take_of_length_le (by rw [List.length_drop]; omega)]
  · rw [Nat.min_eq_right (by omega : xs.length ≤ a), List.drop_of_length_le (Nat.le_refl _), List.drop_of_length_le (by omega)]
    simp

/-! ### the end of a law's row -/
theorem call_top {P : Program} {w : World} {K : PySem.W.Frag} {mg mb : Str → Option Value} {cx : CXT} {k : Nat} {fa a : Addr}
    {fd : FuncData} {x : Str} {sp : Sp} {s1 : Shared} {us : List Value} {ns : List Int}
    (inK : K.In s1.heap) (hns : s1.heap.Ns mainGlobals mg) (hb : s1.heap.Ns builtinsNs mb)
    (hbb : ∀ x : Str, x ≠ "__name__" → mb x = bootBuiltins x) (free : s1.heap.NoLimit) (hg : s1.gens = #[])
    (ha : s1.heap.get? a = some { cls := .type "list", data := .seq us.toArray }) (hi : IntsAre us ns)
    (hl : ns.length ≤ sizeLine) (room : Room k callerA)
    (F : ∀ base : Heap, K.In base → base.Ns mainGlobals mg → GOk P w K mg base cx k fa fd [x] sp)
    (bind : ∀ (s : Shared) (u : Value), BindsTo s fd ⟨[u], []⟩ [(x, u)])
    (want : ∀ H : Hp, Only H → SqL K H a (ns.map V.int) → sp [.ref a] H (fun v _ => v = .bl true) fun _ _ _ => False)
    (quiet : ∀ H e s', cx [] H s1 (fun _ _ _ => False) e s' → False) :
    codeAny (model P w) callerA (.call (.ref fa) ⟨[.ref a], []⟩)
      (fun r s' => r = .ok (.ret (.bool true)) ∧ OldK s1.heap s'.heap ∧ s'.os = s1.os ∧ AllBare s'.gens) s1 := by
  have rv := vals_ints hi
  have lenV := hi.length
  have core : ∀ H : Hp, Only H → SqL K H a (ns.map V.int) → HOk P w H s1.heap → (∀ b, H b ≠ none → b = a) →
      (H a ≠ none → K.lookup a = none) → codeAny (model P w) callerA (.call (.ref fa) ⟨[.ref a], []⟩)
        (fun r s' => r = .ok (.ret (.bool true)) ∧ OldK s1.heap s'.heap ∧ s'.os = s1.os ∧ AllBare s'.gens) s1 := by
    intro H only sq hok one offK
    have same : ∀ {b : Addr} {u : HO}, H b = some u → b = a := fun q => one _ (by rw [q]; simp)
    have under : ∀ {b : Addr} {o : Obj}, s1.heap.get? b = some o → H b = none → (hidT s1.heap H).get? b = some o :=
      fun e n => hidT_get e n
    have dicts : ∀ {b : Addr} {o : Obj} {es : Array DictEntry} {ep : Nat}, s1.heap.get? b = some o →
        o.data = .dict es ep → H b = none := by
      intro b o es ep e d
      cases q : H b with
      | none => rfl
      | some u =>
        have z := same q
        subst z
        rw [ha] at e
        cases e
        exact nomatch d
    have spaces : ∀ {b : Addr} {m : Str → Option Value}, s1.heap.Ns b m → (hidT s1.heap H).Ns b m :=
      fun {b m} ⟨o, es, ep, e, d, r⟩ => ⟨o, es, ep, under e (dicts e d), d, r⟩
    have inB : K.In (hidT s1.heap H) := by
      intro b o e
      refine under (inK b o e) ?_
      cases q : H b with
      | none => rfl
      | some u =>
        have z := same q
        subst z
        rw [offK (by rw [q]; simp)] at e
        cases e
    have mod : Mod K mg (hidT s1.heap H) :=
      ⟨inB, spaces hns, ⟨mb, spaces hb, hbb⟩, let ⟨mc, h1, h2⟩ := free; ⟨mc, spaces h1, h2⟩⟩
    have e0 : Env0 P w K mg (hidT s1.heap H) callerA [] s1 H :=
      { frames := rfl, mod := mod, bs := fun b o e => of_hidT e, bsz := Nat.le_of_eq (hidT_size _ _), funs := trivial,
        frf := fun b hb => absurd (show b ∈ ([] : List Addr) from hb) (by simp), hok := hok, bare := .of_eq hg }
    refine codeAny_mono ((F _ inB (spaces hns)).goes callerA [] s1 H ⟨[.ref a], []⟩ [.ref a] [.ref a] _ _ rfl room e0
      (bind s1 (.ref a)) (.cons rfl .nil) (want H only sq)) fun r s' h => ?_
    match r, h with
    | .error e, h => exact (quiet H e s' h).elim
    | .ok (.ret u), h =>
      obtain ⟨v, H', os, bare, un, hok', rel, q⟩ := h
      have q' : v = .bl true := q
      subst q'
      obtain rfl : u = Value.bool true := rel
      refine ⟨rfl, OldK.of_keep fun b o e => ?_, os, bare⟩
      cases q : H b with
      | none => exact un.keep b o e q (by intro z; exact absurd (show b ∈ ([] : List Addr) from z) (by simp)) (by simp)
      | some u =>
        rcases only b with z | ⟨ob, xs, z⟩
        · rw [q] at z
          cases z
        · have z2 := un.frzs b ob _ z
          obtain ⟨e1, _⟩ := hok b _ z
          obtain ⟨e2, _⟩ := hok' b _ z2
          rw [e] at e1
          cases e1
          exact e2
  cases hk : K.lookup a with
  | some o =>
    have e := inK a o hk
    rw [ha] at e
    cases e
    refine core (fun _ => none) (fun _ => .inl rfl) (.inr ⟨_, us.toArray, _, hk, rfl, rfl, rfl, ?_, ?_⟩) ?_ ?_ fun z => absurd rfl z
    · rw [List.size_toArray, lenV]
      exact hl
    · simpa using rv
    · intro b u z
      exact nomatch (show (none : Option HO) = some u from z)
    · exact fun b z => absurd rfl z
  | none =>
    let o : Obj := { cls := .type "list", data := .seq us.toArray }
    refine core (fun b => if b = a then some (.frz o (.lst (ns.map V.int))) else none) (fun b => ?_)
      (.inl (.inr ⟨o, if_pos rfl⟩)) (fun b u z => ?_) (fun b z => ?_) fun _ => hk
    · by_cases hb : b = a
      · exact .inr ⟨_, _, if_pos hb⟩
      · exact .inl (if_neg hb)
    · by_cases hb : b = a
      · have z' := (if_pos hb).symm.trans z
        cases z'
        subst hb
        exact ⟨ha, by rw [List.length_map]; exact hl, us, _, rv, ha⟩
      · have z' := (if_neg hb).symm.trans z
        cases z'
    · by_cases hb : b = a
      · exact hb
      · exact absurd (if_neg hb) z

theorem walk_top {l : PySem.W.OpenLaw} {n k : Nat} {q : Program} {loose : List Str} {XP : (Str → Option Value) → Heap → Prop}
    {YP : World → Heap → Prop} {d : DefRec} {K : Params → PySem.W.Frag} {sp : World → Sp} {x : Str}
    (hn : l.most = some n) (hn2 : n ≤ sizeLine) (hdf : d.params.defaults = []) (room : Room k callerA)
    (hY : ∀ (w : World) (h : Heap), YP w h → (K w.params).In h)
    (F : ∀ (w : World) (mg : Str → Option Value) (fa : Addr) (h : Heap), (K w.params).In h → h.Ns mainGlobals mg →
      mg d.name = some (.ref fa) → ∃ fd : FuncData, (∀ (s : Shared) (u : Value), BindsTo s fd ⟨[u], []⟩ [(x, u)]) ∧
        ∀ base : Heap, (K w.params).In base → base.Ns mainGlobals mg →
          GOk l.prog w (K w.params) mg base CX0 k fa fd [x] (sp w))
    (want : ∀ (w : World) (H : Hp) (a : Addr) (ns : List Int), ns.length ≤ n → (∀ z ∈ ns, Builtin.Int.intBits z ≤ 1048576) →
      Only H → SqL (K w.params) H a (ns.map V.int) → sp w [.ref a] H (fun v _ => v = .bl true) fun _ _ _ => False) :
    PySem.W.WalkO q loose XP YP l.row.toRowW d [] (fun f vs => PySem.call f vs) := by
  refine Att.attach_callB hn hdf fun w s₀ s₁ mg mb fa o pm cd doc a vs ns G Y ho hd hcd hmg hobj hints hlen hbits hg => ?_
  obtain ⟨fd, bind, hF⟩ := F w mg fa _ (hY w _ Y) G.T.g hmg
  exact call_top (hY w _ Y) G.T.g G.T.b G.T.builtins G.T.nolimit hg hobj hints (Nat.le_trans hlen hn2) room hF bind
    (fun H only sq => want w H a ns hlen hbits only sq) fun H e s' h => h
end GX
/-! ## for i, x in enumerate(t), t a tuple; del xs[a:b] -/
namespace GX
open PySem PySem.Spec PyProof.Rows L2

/-! ### enumerate of a tuple -/
theorem enum_newT (t : Addr) (items : Array Value) :
    Meets (Builtin.«enumerate.__new__» ⟨[.type "enumerate", .ref t], []⟩) (fun _ R s => s.heap.IsTuple t items ∧
      R (.ok (.ret (.ref (s.heap.push { cls := .type "tuple_iterator", data := .fields #[.ref t, .int 0 0] }).objs.size)))
        { s with heap := ((s.heap.push { cls := .type "tuple_iterator", data := .fields #[.ref t, .int 0 0] }).push
            { cls := .type "enumerate", data := .fields #[.none, .bool false, .ref s.heap.objs.size, rawInt 0, .none, .none] }) }) :=
  .of_wp fun prog w A R s h => by
    obtain ⟨hp, g, d, tk, os⟩ := s
    obtain ⟨ht, h⟩ := h
    have hsub := sub_enumerate
    have hT : Heap.IsTuple (Shared.heap ⟨hp, g, d, tk, os⟩) t items := ht
    wp_walk
    refine wpAny_stack_any fun st => wpAny_pure ?_
    split
    · rename_i c _ _ _ _ _
      cases (c == Value.type "enumerate")
      · wp_walk using wpAny_pyIter_tuple hT
        exact ⟨_, rfl, h⟩
      · wp_walk using wpAny_pyIter_tuple hT
        exact ⟨_, rfl, h⟩
    · wp_walk using wpAny_pyIter_tuple hT
      exact ⟨_, rfl, h⟩

theorem call_enumT {prog : Program} {w : World} {A : Around} {E : Value → Shared → Prop} {s : Shared}
    {t : Addr} {items : Array Value} {Q : Value → Shared → Prop} (hT : s.heap.IsTuple t items)
    (h : ∀ h', IsEnum h' (s.heap.objs.size + 1) s.heap.objs.size 0 .none → h'.IsTupleIter s.heap.objs.size t 0 →
      h'.objs.size = s.heap.objs.size + 2 → (∀ b o, s.heap.get? b = some o → h'.get? b = some o) →
      Q (.ref (s.heap.objs.size + 1)) { s with heap := h' }) :
    wpAny (model prog w) A (call (.type "enumerate") [.ref t]) Q E s := by
  refine callType_new F.called_enumerate (by decide) (F.typeCall_enumerate_1 _) (F.newCall_enumerate_1 _)
    (fun obj => F.args_object_init_2 obj _) F.entry_enumerate_new (enum_newT t items) ⟨hT, ?_⟩
  let o : Obj := { cls := .type "tuple_iterator", data := .fields #[.ref t, .int 0 0] }
  let e : Obj := { cls := .type "enumerate", data := .fields #[.none, .bool false, .ref s.heap.objs.size, rawInt 0, .none, .none] }
  have size1 : (s.heap.push o).objs.size = s.heap.objs.size + 1 := Heap.size_push ..
  show _ ∧ _
  rw [size1]
  have made : IsEnum ((s.heap.push o).push e) (s.heap.objs.size + 1) s.heap.objs.size 0 .none := by
    have z := Heap.get?_push_size (s.heap.push o) (o := e) rfl
    rw [size1] at z
    exact z
  refine ⟨⟨_, made, rfl⟩, h _ made ⟨_, Heap.get?_push_of_some _ (Heap.get?_push_size _ rfl), rfl, rfl⟩ ?_ ?_⟩
  · rw [Heap.size_push, size1]
  · exact fun b o x => Heap.get?_push_of_some _ (Heap.get?_push_of_some _ x)

/-- the tuple at a as it stands at each turn, each item in a new pair -/
def ItT (K : PySem.W.Frag) (a : Addr) : It :=
  ⟨fun i H => ∃ (xs : List V) (x : V), SqT K H a xs ∧ xs[i]? = some x,
   fun i H v H' => ∃ T x, v = .ref T ∧ H T = none ∧ H' = upd H T (.tup [.int (i : Nat), x]) ∧ ∀ xs, SqT K H a xs → xs[i]? = some x,
   fun i H => ∃ xs : List V, SqT K H a xs ∧ xs.length ≤ i⟩

theorem turn_enumT {P : Program} {w : World} {K : PySem.W.Frag} {elts : List Expr} {kk : Nat} {tpos : Pos} (a e it : Addr) :
    Turn P w K (.Tuple elts kk tpos) (ItT K a) [e, it] e
      (fun i h => (∃ old, IsEnum h e it ((i : Nat) : Int) old) ∧ h.IsTupleIter it a i ∧ e ≠ it ∧ e ≠ a ∧ a ≠ it) where
  mem := by simp
  obj := fun i h st b hb => by
    obtain ⟨⟨old, he⟩, ⟨o, ho, hc, hd⟩, _⟩ := st
    rcases (show b = e ∨ b = it by simpa using hb) with z | z
    · rw [z]; exact ⟨_, he, fun v q => nomatch q⟩
    · rw [z]; exact ⟨o, ho, fun v q => by rw [hd] at q; cases q⟩
  keep := fun i h h' st k =>
    let ⟨⟨old, he⟩, hi, n1, n2, n3⟩ := st
    ⟨⟨old, k e (by simp) _ he⟩, hi.at fun o q => k it (by simp) o q, n1, n2, n3⟩
  item := by
    intro X hP hw hK hc i pins s σ H E I hf st hg
    subst hP hw hK
    obtain ⟨⟨old, he⟩, hit, n1, n2, n3⟩ := st
    obtain ⟨xs, x, hq, hx⟩ := hg
    obtain ⟨its, rv, tp, hz⟩ := I.tuple hq
    obtain ⟨u, hu, ru⟩ := rv.get hx
    have elt : e < s.heap.objs.size := Heap.lt_size he
    have ilt : it < s.heap.objs.size := by obtain ⟨_, q, _⟩ := hit; exact Heap.lt_size q
    have some_u : its.toArray[i]? = some u := by simpa using hu
    have small : i < its.toArray.size := by
      obtain ⟨q, _⟩ := Array.getElem?_eq_some_iff.mp some_u
      exact q
    have hH : X.A.in1.handled = none := I.ok.hd hc
    refine wpAny_pyNext_enum_itemD (Draws.tuple hH it a n3 its.toArray) he ⟨hit, tp⟩ small n1 ?_ fun y h' tk hy ho hst hT hsz hk => ?_
    · intro z
      rcases (show e = it ∨ e = a by simpa using z) with z | z
      · exact n1 z
      · exact n2 z
    have hy' : y = u := by
      rw [some_u] at hy
      exact (Option.some.inj hy).symm
    subst hy'
    refine ⟨_, rfl, wpAny_letOwnedTupleGo_enum (s := { s with heap := h', toks := tk + 1 }) ho fun h'' he' sb => ?_⟩
    have hT2 : h''.get? s.heap.objs.size = some { cls := .type "tuple", data := .seq #[.int i tk, y] } :=
      (sb.2 _ (Nat.ne_of_gt elt)).trans hT
    have new : ObjOk X.prog X.w (upd H s.heap.objs.size (.tup [.int (i : Nat), x])) h'' s.heap.objs.size (.tup [.int (i : Nat), x]) :=
      ⟨by show 2 ≤ sizeLine; decide, [.int i tk, y], .cons ⟨_, rfl⟩ (.cons ru .nil), ⟨_, hT2, rfl, _, rfl⟩⟩
    have I1 : Inv X pins σ (upd H s.heap.objs.size (.tup [.int (i : Nat), x])) { s with heap := h'', toks := tk + 1 } := by
      refine I.turnedNew (ch := [e, it]) (fun b ob hb q => ?_) hf (Nat.le_refl _) new
      have b1 : b ≠ e := fun z => hb (by simp [z])
      have b2 : b ≠ it := fun z => hb (by simp [z])
      exact (sb.2 b b1).trans (hk b ob b1 b2 q)
    refine ⟨.ref s.heap.objs.size, _, I1, rfl, ⟨_, x, rfl, I.hok.fresh (Nat.le_refl _), rfl, fun ys hy => ?_⟩, ⟨⟨y, ?_⟩, ?_, n1, n2, n3⟩, fun b hb => ?_⟩
    · rw [I.tuple_inj hy hq]
      exact hx
    · have e1 : ((i + 1 : Nat) : Int) = (i : Int) + 1 := by omega
      rw [e1]
      exact he'
    · exact hst.1.at fun o q => (sb.2 it (Ne.symm n1)).trans q
    · have lt : b < s.heap.objs.size := by
        rcases (show b = e ∨ b = it by simpa using hb) with z | z
        · rw [z]; exact elt
        · rw [z]; exact ilt
      rw [upd_ne (Nat.ne_of_lt lt)]
      exact (hf b hb).1
  done := by
    intro X hP hw hK hc i pins s σ H E I hf st hg
    subst hP hw hK
    obtain ⟨⟨old, he⟩, hit, n1, n2, n3⟩ := st
    obtain ⟨xs, hq, hx⟩ := hg
    obtain ⟨its, rv, tp, hz⟩ := I.tuple hq
    obtain ⟨f0, f1, f2, f3, f4, f5⟩ := hf it (by simp)
    have len := rv.length
    have hT : s.TypeIs (.ref e) "enumerate" := ⟨_, he, rfl⟩
    have hH : X.A.in1.handled = none := I.ok.hd hc
    unfold pyNext
    refine wpAny_bind (wpAny_attempt (wpAny_callSpecial?_slot (name := Str.ofString "__next__") hT F.slot_enumerate_next
      (wpAny_call_entry F.slot_enumerate_next hT F.entry_enumerate_next ?_ (F.args_enumerate_next_1 _))))
    show wpAny _ _ (field (.ref e) 2 >>= _) _ _ _
    refine wpAny_bind (wpAny_field he rfl (x := .ref it) rfl ?_)
    refine wpAny_bind (wpAny_nextOf_tuple_end hH hit tp (by simp; omega) fun h' x eb hx' => ?_)
    obtain ⟨o, ho, hcl⟩ := hx'
    refine wpAny_bind (wpAny_isInstance (T := "StopIteration") (b := true) ⟨o, ho, hcl⟩ isSubtype_stop ?_)
    exact wpAny_pure ⟨rfl, I.turned (t' := s.toks) (fun b o hb q => eb b o hb q) f0 f1 f3 f4 f5⟩
  self := fun A i s Q E st h => let ⟨⟨_, he⟩, _⟩ := st; wpAny_pyIter_enum he h

def iEnumT (K : PySem.W.Frag) (ta : TA) : TI := fun σ H R => ta σ H fun vs H1 => ∃ a xs, vs = [.ref a] ∧ SqT K H1 a xs ∧ R (ItT K a) H1
theorem pi_enumT {X : Cx} {e : Expr} {ta : TA} {p pos tpos : Pos} {elts : List Expr} {kk : Nat}
    (hg : Gl X "enumerate") (hm : X.mg "enumerate" = none) (ha : PA X [e] ta)
    (hs : starEach [e] X.env = [(false, eval e X.env)] := by rfl) :
    PI X (.Tuple elts kk tpos) (.Call (.Name "enumerate" p) [e] [] pos) (iEnumT X.K ta) := by
  refine ⟨fun pins s σ H R I h => ?_⟩
  refine Call_ (ld_blt I hg hm boot_enumerate (PyProof.Rows.callWith_type1 (thn (ha.run pos pins s σ H _ I h) fun us s1 got => ?_) hs rfl))
  obtain ⟨vs, H1, I1, r1, a, xs, ex, hq, q⟩ := got
  subst ex
  cases r1 with
  | cons r rr =>
    cases rr
    cases r
    obtain ⟨its, rv, tp, hz⟩ := I1.tuple hq
    have alt : a < s1.heap.objs.size := tp.lt
    refine call_enumT tp fun h' he hit hsz hk => wpAny_pyIter_enum he ?_
    have I2 : Inv X pins σ H1 { s1 with heap := h' } := I1.kept (t' := s1.toks) hk
    refine ⟨s1.heap.objs.size + 1, [s1.heap.objs.size + 1, s1.heap.objs.size], _, _, H1, rfl, I2,
      turn_enumT a (s1.heap.objs.size + 1) s1.heap.objs.size,
      ⟨⟨.none, he⟩, hit, Nat.succ_ne_self _, Nat.ne_of_gt (Nat.lt_succ_of_lt alt), Nat.ne_of_lt alt⟩, fun b hb => ?_, q⟩
    have le : s1.heap.objs.size ≤ b := by
      rcases (show b = s1.heap.objs.size + 1 ∨ b = s1.heap.objs.size by simpa using hb) with z | z
      · rw [z]; exact Nat.le_succ _
      · rw [z]; exact Nat.le_refl _
    exact I1.fpOk le (I1.hok.fresh le)

/-- a loop over it -/
theorem for_enumT {K : PySem.W.Frag} {a : Addr} {xs : List V} {g : TG} {tb : TS} {D : Ends} {σ : L2.St} {H : Hp}
    (Pv : Nat → L2.St → Hp → Prop) (h0 : Pv 0 σ H) (hq : ∀ i σ H, Pv i σ H → SqT K H a xs)
    (hs : ∀ (i : Nat) (x : V) (T : Addr) (σ : L2.St) (H : Hp), xs[i]? = some x → Pv i σ H → H T = none →
      g (.ref T) σ (upd H T (.tup [.int (i : Nat), x])) fun σ2 H2 => tb { D with nx := Pv (i + 1), ct := Pv (i + 1), bk := D.nx } σ2 H2)
    (hd : ∀ σ H, Pv xs.length σ H → D.nx σ H) :
    ∃ W : Nat → Nat → L2.St → Hp → Prop, (∃ m, W 0 m σ H) ∧ ∀ i m σ H, W i m σ H →
      ((ItT K a).stop i H ∧ D.nx σ H) ∨ ((ItT K a).go i H ∧ ∃ N : L2.St → Hp → Prop, (∀ σ' H', N σ' H' → ∃ m', m' < m ∧ W (i + 1) m' σ' H') ∧
        ∀ v H', (ItT K a).yld i H v H' → g v σ H' fun σ2 H2 => tb { D with nx := N, ct := N, bk := D.nx } σ2 H2) := by
  refine ⟨fun i m σ H => m = xs.length - i ∧ i ≤ xs.length ∧ Pv i σ H, ⟨_, rfl, Nat.zero_le _, h0⟩, ?_⟩
  rintro i m σ H ⟨rfl, le, p⟩
  have q := hq i σ H p
  by_cases lt : i < xs.length
  · refine .inr ⟨⟨xs, _, q, List.getElem?_eq_getElem lt⟩, Pv (i + 1), fun σ' H' p' => ⟨_, by omega, rfl, lt, p'⟩, fun v H' y => ?_⟩
    obtain ⟨T, x, rfl, hT, rfl, f⟩ := y
    exact hs i x T σ H (f xs q) p hT
  · have e : i = xs.length := by omega
    subst e
    exact .inl ⟨⟨xs, q, Nat.le_refl _⟩, hd σ H p⟩

/-! ### del xs[lo:hi] -/
def sel (start stop step : Int) (i : Nat) : Bool :=
  if step > 0 then start ≤ i && i < stop && (i - start) % step == 0
  else stop < i && i ≤ start && (start - i) % (-step) == 0
theorem sel_one (a c : Nat) (i : Nat) : sel a c 1 i = (decide (a ≤ i) && decide (i < c)) := by
  unfold sel
  rw [if_pos (by decide)]
  have e : ((i : Int) - (a : Int)) % 1 = 0 := Int.emod_one _
  rw [e]
  have e1 : decide ((a : Int) ≤ (i : Int)) = decide (a ≤ i) := by simp
  have e2 : decide ((i : Int) < (c : Int)) = decide (i < c) := by simp
  rw [e1, e2]
  simp
theorem cut_by {F : Value × Nat → Option Value} {a c : Nat} (hF : ∀ x k, F (x, k) = if decide (a ≤ k) && decide (k < c) then none else some x) :
    ∀ (l : List Value) (k : Nat), (l.zipIdx k).filterMap F = l.take (a - k) ++ l.drop (max (a - k) (c - k))
  | [], k => by simp
  | x :: l, k => by
    rw [List.zipIdx_cons, List.filterMap_cons]
    have ih := cut_by hF l (k + 1)
    rw [hF x k, ih]
    by_cases h1 : k < a
    · have f : (decide (a ≤ k) && decide (k < c)) = false := by simp; omega
      rw [f]
      have e1 : a - k = (a - (k + 1)) + 1 := by omega
      have e2 : max (a - k) (c - k) = max (a - (k + 1)) (c - (k + 1)) + 1 := by omega
      rw [e2, e1]
      simp
    · by_cases h2 : k < c
      · have f : (decide (a ≤ k) && decide (k < c)) = true := by simp; omega
        rw [f]
        have e1 : a - k = 0 := by omega
        have e3 : a - (k + 1) = 0 := by omega
        have e2 : max 0 (c - k) = max 0 (c - (k + 1)) + 1 := by omega
        rw [e1, e3, e2]
        simp
      · have f : (decide (a ≤ k) && decide (k < c)) = false := by simp; omega
        rw [f]
        have e1 : a - k = 0 := by omega
        have e3 : a - (k + 1) = 0 := by omega
        have e2 : max 0 (c - k) = 0 := by omega
        have e4 : max 0 (c - (k + 1)) = 0 := by omega
        rw [e1, e3, e2, e4]
        simp
theorem delItem_slice {prog : Program} {w : World} {A : Around} {E : Value → Shared → Prop} {s : Shared}
    {l sl : Addr} {its : List Value} {n : Nat} {vl vu : Value} {lo hi : Option Int} {Q : Unit → Shared → Prop}
    (e : s.heap.get? l = some { cls := .type "list", data := .seq its.toArray n })
    (hs : s.heap.IsSliceOf sl vl vu .none) (pl : IsPart vl lo) (pu : IsPart vu hi) (hsz : its.length ≤ sizeLine)
    (h : ∀ f : Array Value → Array Value,
      f its.toArray = (its.take (HT.sIx its.length 0 lo) ++ its.drop (max (HT.sIx its.length 0 lo) (HT.sIx its.length its.length hi))).toArray →
      Q () { s with heap := s.heap.update l (Obj.mapSeq f) }) :
    wpAny (model prog w) A (delItem (.ref l) (.ref sl)) Q E s := by
  have hl : s.heap.IsList l its.toArray := PySem.IsL.isList e
  obtain ⟨os, hos, hcs, hds⟩ := id hs
  have tySl : s.TypeIs (.ref sl) "slice" := ⟨os, hos, hcs⟩
  have noStep : ¬ ((rawPart none == rawInt 0) = true) := Bool.false_ne_true
  refine wpAny_delItem_slot hl.typeIs (by decide) F.slot_list_delitem ?_
  refine wpAny_call_entry F.slot_list_delitem hl.typeIs F.entry_list_delitem ?_ (F.args_list_delitem_2 _ _)
  show wpAny _ _ (Builtin.List.listSubscript? (.ref sl) >>= _) _ _ s
  refine wpAny_bind ?_
  unfold Builtin.List.listSubscript?
  refine wpAny_bind (wpAny_specialOf tySl slice_no_index ?_)
  simp only [Option.isNone_none, if_true]
  refine wpAny_pure ?_
  show wpAny _ _ (typeOf (.ref sl) >>= _) _ _ s
  refine wpAny_bind (wpAny_typeOf tySl ?_)
  refine PySem.W.KFB.if_not (by decide) ?_
  rw [listSliceParts_eq]
  refine wpAny_bind (wpAny_bind (wpAny_field hos hds (x := .none) rfl (wpAny_bind (wpAny_listPart .none ?_))))
  rw [if_neg noStep]
  refine wpAny_bind (wpAny_field hos hds (x := vl) rfl (wpAny_bind (wpAny_listPart pl ?_)))
  refine wpAny_bind (wpAny_field hos hds (x := vu) rfl (wpAny_bind (wpAny_listPart pu (wpAny_pure ?_))))
  unfold Builtin.List.listItems
  refine wpAny_bind (wpAny_bind (wpAny_seqItems e rfl (wpAny_pure ?_)))
  obtain ⟨b1, b2, b3⟩ := slice_bounds lo hi its.length
  have bd : sliceBounds lo hi none its.toArray.size = (((HT.sIx its.length 0 lo : Nat) : Int), ((HT.sIx its.length its.length hi : Nat) : Int), 1) := by
    rw [List.size_toArray]
    exact Prod.ext b1 (Prod.ext b2 b3)
  refine wpAny_bind (wpAny_of_eq ((sliceIndices_raw lo hi none its.toArray.size (by simp)).trans
    (congrArg (pure : Int × Int × Int → Sem (Int × Int × Int)) bd)) ?_)
  refine wpAny_bind (wpAny_rule ?_)
  have size_ok : ∀ ys : List Value, ys = its.take (HT.sIx its.length 0 lo) ++ its.drop (max (HT.sIx its.length 0 lo) (HT.sIx its.length its.length hi)) →
      ys.toArray.size ≤ sizeLine + 1 := by
    intro ys q
    rw [q, List.size_toArray, List.length_append, List.length_take, List.length_drop]
    omega
  refine wpAny_bind (wpAny_updateSeq (hz := by rw [List.size_toArray]; exact hsz) (_hz' := ?z) e rfl ?m)
  case m =>
    refine wpAny_bind (wpAny_letGo ?_)
    refine wpAny_pure ⟨.none, rfl, h _ ?_⟩
    refine congrArg List.toArray ((cut_by (a := HT.sIx its.length 0 lo) (c := HT.sIx its.length its.length hi) (fun x k => ?_) its 0))
    have one := sel_one (HT.sIx its.length 0 lo) (HT.sIx its.length its.length hi) k
    rw [← one]
    rfl
  case z =>
    refine size_ok _ ((cut_by (a := HT.sIx its.length 0 lo) (c := HT.sIx its.length its.length hi) (fun x k => ?_) its 0))
    have one := sel_one (HT.sIx its.length 0 lo) (HT.sIx its.length its.length hi) k
    rw [← one]
    rfl

section
variable {X : Cx}
/-- del xs[lo:hi] of a list -/
def tDelS (to : TE) (tl th : TO) : TS := fun D σ H => to σ H fun x H1 => tl σ H1 fun lo H2 => th σ H2 fun hi H3 =>
  ∃ (l : Addr) (xs : List V), x = .ref l ∧ H3 l = some (.lst xs) ∧
    D.nx σ (upd H3 l (.lst (xs.take (HT.sIx xs.length 0 lo) ++ xs.drop (max (HT.sIx xs.length 0 lo) (HT.sIx xs.length xs.length hi)))))
theorem ps_delS {o : Expr} {lo hi : Option Expr} {to : TE} {tl th : TO} {p2 tpos pos : Pos}
    (ho : PE X o to) (hl : PO X lo tl) (hu : PO X hi th) :
    PS X (.Delete [.Subscript o (.Slice lo hi none p2) tpos] pos) (tDelS to tl th) := by
  refine ⟨fun pins s σ H D I h => ?_⟩
  refine wpAny_Delete (wpAny_deleteEach_cons (wpAny_delete_Subscript (thn (ho.run pins s σ H _ I h) fun u s1 got => ?_)))
  obtain ⟨x, H1, I1, rx, q1⟩ := got
  refine wpAny_Slice (thn (hl.run pins s1 σ H1 _ I1 q1) fun vl s2 got2 => ?_)
  obtain ⟨l, H2, I2, pl, q2⟩ := got2
  refine thn (hu.run pins s2 σ H2 _ I2 q2) fun vu s3 got3 => ?_
  obtain ⟨r, H3, I3, pu, a, xs, ex, hH, q3⟩ := got3
  rw [evalPart_none]
  refine wpAny_pure ?_
  subst ex
  cases (show u = Value.ref a from rx)
  have I4 : Inv X pins σ H3 { s3 with heap := s3.heap.push { cls := .type "slice", data := .fields #[vl, vu, .none] } } :=
    I3.kept (t' := s3.toks) fun b ob q => Heap.get?_push_of_some _ q
  obtain ⟨z, its, n, rv, len, e⟩ := I4.lstM hH
  refine delItem_slice e (Heap.IsSliceOf.new ..) pl pu (by rw [← len]; exact z) fun f hf => ?_
  refine wpAny_deleteEach_nil ⟨σ, _, ?_, q3⟩
  rw [← len] at hf
  refine I4.lset (t' := s3.toks) hH e hf (Vals.append (rv.take _) (rv.drop _)) ?_
  rw [List.length_append, List.length_take, List.length_drop]
  omega
end

def rIxN (K : PySem.W.Frag) : V → V → Hp → VK → Prop := fun x y H Q => ∃ p xs, ∃ (j : Nat) (v : V), x = .ref p ∧ y = .int j ∧ SqL K H p xs ∧ xs[j]? = some v ∧ Q v H
section
variable {X : Cx}
/-- xs[i] op= e reads xs[i] -/
theorem get_list : PGet X (rIxN X.K) := by
  intro pins s σ H o i ov iv Q I ro ri h
  obtain ⟨p, xs, j, z, rfl, rfl, hq, he, q⟩ := h
  cases (show ov = Value.ref p from ro)
  obtain ⟨t, rfl⟩ := (show ∃ t, iv = Value.int (j : Nat) t from ri)
  obtain ⟨its, r, pl, hz⟩ := I.list hq
  obtain ⟨u, eu, ru⟩ := r.get he
  have lt : j < its.length := (List.getElem?_eq_some_iff.mp eu).1
  have line := line63
  have len := r.length
  refine wpAny_getItem_list pl.isList (by omega) (by omega) (x := u) ?_ ⟨z, H, I, ru, q⟩
  rw [Int.toNat_natCast]
  simpa using eu
end
end GX
namespace GX
open PySem PySem.Spec PyProof.Rows L2
/-! ## the greatest of a list of ints; dicts whose keys are ints and None -/
def nthI (l : List Int) (i : Nat) : Int := l.getD i 0
theorem best_lt (bt : Nat → Nat → Bool) : ∀ n, argBest bt n ≤ n
  | 0 => Nat.le_refl _
  | n + 1 => by
    unfold argBest
    split
    · exact Nat.le_refl _
    · exact Nat.le_succ_of_le (best_lt bt n)
theorem best_max (l : List Int) : ∀ n i, i ≤ n → nthI l i ≤ nthI l (argBest (fun i j => decide (nthI l i > nthI l j)) n)
  | 0, i, h => by
    have : i = 0 := Nat.le_zero.mp h
    subst this
    exact Int.le_refl _
  | n + 1, i, h => by
    unfold argBest
    by_cases c : nthI l (n + 1) > nthI l (argBest (fun i j => decide (nthI l i > nthI l j)) n)
    · rw [if_pos (decide_eq_true c)]
      by_cases e : i = n + 1
      · subst e
        exact Int.le_refl _
      · have := best_max l n i (by omega)
        omega
    · rw [if_neg (by rw [decide_eq_true_iff]; exact c)]
      by_cases e : i = n + 1
      · subst e
        omega
      · exact best_max l n i (by omega)
theorem ints_nth : ∀ {l : List Int} {its : List Value} {i : Nat} {v : Value}, Vals (l.map V.int) its → its[i]? = some v → ∃ t, v = .int (nthI l i) t
  | [], its, i, v, r, h => by
    rw [List.map_nil] at r
    cases r
    simp at h
  | x :: l, its, i, v, r, h => by
    rw [List.map_cons] at r
    cases r with
    | @cons a b as bs q t =>
      cases i with
      | zero =>
        have : b = v := by simpa using h
        subst this
        exact q
      | succ i => exact ints_nth (l := l) (i := i) t (by simpa using h)
def rMaxL (K : PySem.W.Frag) : List V → Hp → VK → Prop := fun xs H Q => ∃ (p : Addr) (l : List Int), xs = [.ref p] ∧ SqL K H p (l.map V.int) ∧ l ≠ [] ∧ ∀ m, m ∈ l → (∀ x ∈ l, x ≤ m) → Q (.int m) H
theorem nth_mem {l : List Int} {i : Nat} (h : i < l.length) : nthI l i ∈ l := by
  unfold nthI
  rw [List.getD_eq_getElem?_getD, List.getElem?_eq_getElem h]
  exact List.getElem_mem h
theorem best_is {l : List Int} (h : l ≠ []) {v : Value} {t : Tok} (e : v = .int (nthI l (argBest (fun i j => decide (nthI l i > nthI l j)) (l.length - 1))) t) : ∃ m, m ∈ l ∧ (∀ x ∈ l, x ≤ m) ∧ v = .int m t := by
  have pos : 0 < l.length := List.length_pos_iff.mpr h
  refine ⟨_, nth_mem ?_, fun x hx => ?_, e⟩
  · have := best_lt (fun i j => decide (nthI l i > nthI l j)) (l.length - 1)
    omega
  · obtain ⟨i, hi, rfl⟩ := List.getElem_of_mem hx
    have := best_max l (l.length - 1) i (by omega)
    have z : nthI l i = l[i] := by
      unfold nthI
      rw [List.getD_eq_getElem?_getD, List.getElem?_eq_getElem hi]
      rfl
    rw [z] at this
    exact this
theorem call_maxL {X : Cx} (hc : X.calm = true) : CallR X (.builtin "max") (rMaxL X.K) := by
  intro pins s σ H vs us Q I r h
  obtain ⟨p, l, rfl, hs, hn, q⟩ := h
  obtain ⟨its, rv, hl, _⟩ := I.list hs
  rw [Vals.ref1 r]
  have pos : 0 < l.length := List.length_pos_iff.mpr hn
  have len : l.length = its.length := by rw [← rv.length, List.length_map]
  refine call_max_walk (iter_anyList hl.isList fun s₂ e st hfp hlI => ?_)
  subst e
  refine ⟨_, _, _, _, _, _, _, rfl, Walks.list (A := X.A.in1) (I.ok.hd hc) _ p hlI its.toArray, st, hfp, by simpa [← len] using pos, CmpOf.ints_gt (nthI l) (fun i v hv => ints_nth rv (by simpa using hv)), fun v h' tk hP hk => ?_⟩
  have hP' : its[argBest (fun i j => decide (nthI l i > nthI l j)) (l.length - 1)]? = some v := by simpa [← len] using hP
  obtain ⟨t, e⟩ := ints_nth rv hP'
  obtain ⟨m, hm, hx, rfl⟩ := best_is hn e
  exact ⟨.int m, H, I.kept (PySem.old_kept hk), ⟨_, rfl⟩, q m hm hx⟩
def rMaxD (K : PySem.W.Frag) : List V → List V → Hp → VK → Prop := fun xs zs H Q => ∃ (p : Addr) (l : List Int) (d : V), xs = [.ref p] ∧ zs = [d] ∧ SqL K H p (l.map V.int) ∧ (l = [] → Q d H) ∧ ∀ m, m ∈ l → (∀ x ∈ l, x ≤ m) → Q (.int m) H
theorem call_maxD {X : Cx} (hc : X.calm = true) : CallRK X (.builtin "max") [Str.ofString "default"] (rMaxD X.K) := by
  intro pins s σ H vs zs us ws Q I r rz h
  obtain ⟨p, l, d, rfl, rfl, hs, q0, q⟩ := h
  obtain ⟨its, rv, hl, _⟩ := I.list hs
  rw [Vals.ref1 r]
  obtain ⟨dv, rfl, rd⟩ := vals1 rz
  have len : l.length = its.length := by rw [← rv.length, List.length_map]
  refine call_max_walkD (iter_anyList hl.isList fun s₂ e st hfp hlI => ?_)
  subst e
  refine ⟨_, _, _, _, _, _, _, s.heap, fun i j => decide (nthI l i > nthI l j), rfl, (Walks.list (A := X.A.in1) (I.ok.hd hc) _ p hlI its.toArray).toS, st, hfp, fun b o e hb => ?_, fun b o e => Heap.get?_push_of_some _ e, fun z s' mv => ?_, fun z => ⟨fun i j vi vj s Q E _ => CmpOf.ints_gt (P := fun i v => its.toArray[i]? = some v) (nthI l) (fun i v hv => ints_nth rv (by simpa using hv)) i j vi vj s Q E, fun v s' hP mv => ?_⟩⟩
  · have e1 := Heap.lt_size e
    have : b = s.heap.objs.size := by simpa using hb
    rw [this] at e1
    exact absurd e1 (Nat.lt_irrefl _)
  · have ln : l = [] := List.length_eq_zero_iff.mp (by rw [len]; simpa using z)
    have k : ∀ b u, s.heap.get? b = some u → s'.heap.get? b = some u := fun b u e => mv.heap b u (fun hb => by
      have e1 := Heap.lt_size e
      have : b = s.heap.objs.size := by simpa using hb
      rw [this] at e1
      exact absurd e1 (Nat.lt_irrefl _)) (Heap.get?_push_of_some _ e)
    obtain ⟨hp, g, dd, tk, os⟩ := s'
    have e1 : g = s.gens := mv.gens
    have e2 : dd = s.drawn := mv.drawn
    have e3 : os = s.os := mv.os
    subst e1 e2 e3
    exact ⟨d, H, I.kept k, rd, q0 ln⟩
  · have pos : 0 < its.length := by simpa using z
    have hn : l ≠ [] := fun e => by rw [e, List.length_nil] at len; omega
    have hP' : its[argBest (fun i j => decide (nthI l i > nthI l j)) (l.length - 1)]? = some v := by simpa [← len] using hP
    obtain ⟨t, e⟩ := ints_nth rv hP'
    obtain ⟨m, hm, hx, rfl⟩ := best_is hn e
    have k : ∀ b u, s.heap.get? b = some u → s'.heap.get? b = some u := fun b u e => mv.heap b u (fun hb => by
      have e1 := Heap.lt_size e
      have : b = s.heap.objs.size := by simpa using hb
      rw [this] at e1
      exact absurd e1 (Nat.lt_irrefl _)) (Heap.get?_push_of_some _ e)
    obtain ⟨hp, g, dd, tk, os⟩ := s'
    have e1 : g = s.gens := mv.gens
    have e2 : dd = s.drawn := mv.drawn
    have e3 : os = s.os := mv.os
    subst e1 e2 e3
    exact ⟨.int m, H, I.kept k, ⟨_, rfl⟩, q m hm hx⟩

/-! ### dicts by ints and None -/
def lfV : Leaf → V
  | .none => .non
  | .num i => .int i
  | .text x => .str x
theorem lf_is {k : Leaf} {u : Value} (r : RelV (lfV k) u) : Leaf.isOf k u = true := by
  cases k with
  | none => cases (show u = Value.none from r); rfl
  | num i => obtain ⟨t, rfl⟩ := r; exact decide_eq_true rfl
  | text x => obtain ⟨t, rfl⟩ := r; exact decide_eq_true rfl
def DN (P : Program) (w : World) (a : Addr) (ep : Nat) (kvs : List (Leaf × V)) : HO :=
  .ext fun h => kvs.length ≤ sizeLine ∧ (a == sysModules) = false ∧ ∃ vs, KV kvs vs ∧ h.DictAt (leafKind P w) a vs ep
section
variable {P : Program} {w : World} {a : Addr} {ep : Nat} {kvs : List (Leaf × V)}
theorem dn_new {H : Hp} {h : Heap} {vs : List (Leaf × Value)} (z : kvs.length ≤ sizeLine) (hd : (a == sysModules) = false) (rel : KV kvs vs) (dd : h.DictAt (leafKind P w) a vs ep) : ObjOk P w H h a (DN P w a ep kvs) := by
  have ⟨o, _, ho, _⟩ := dd
  refine ⟨⟨z, hd, vs, rel, dd⟩, ⟨o, ho⟩, fun h1 h2 p k => ?_⟩
  obtain ⟨z, hd, vs, rel, o, es, ho, r⟩ := p
  exact ⟨z, hd, vs, rel, o, es, k o ho, r⟩
theorem dn_get {X : Cx} {pins : List (Addr × Obj)} {σ : L2.St} {H : Hp} {s : Shared} (I : Inv X pins σ H s) (ha : H a = some (DN X.prog X.w a ep kvs)) :
    kvs.length ≤ sizeLine ∧ (a == sysModules) = false ∧ ∃ vs, KV kvs vs ∧ s.heap.DictAt (leafKind X.prog X.w) a vs ep := (I.hok a _ ha).1
end
def tDGetN (P : Program) (w : World) (td ty : TE) : TE := fun σ H Q => td σ H fun x H1 => ty σ H1 fun y H2 => ∃ (a : Addr) (ep : Nat) (kvs : List (Leaf × V)) (k : Leaf) (v : V), x = .ref a ∧ H2 a = some (DN P w a ep kvs) ∧ y = lfV k ∧ valV kvs k = some v ∧ Q v H2
def sDPutN (P : Program) (w : World) (td ty tv : TE) : TS := fun D σ H => tv σ H fun v H1 => td σ H1 fun x H2 => ty σ H2 fun y H3 => ∃ (a : Addr) (ep : Nat) (kvs : List (Leaf × V)) (k : Leaf), x = .ref a ∧ H3 a = some (DN P w a ep kvs) ∧ y = lfV k ∧ kvs.length < sizeLine ∧
  ∀ ep', D.nx σ (upd H3 a (DN P w a ep' (putK kvs k v)))
section
variable {X : Cx} {o i e value : Expr} {pos pos' tpos apos cpos : Pos} {td ty tv : TE} {tg : Expr}
theorem pe_dgetN (P : Program) (w : World) (ho : PE X o td) (hi : PE X i ty) (hs : NoSl i) (hP : X.prog = P := by rfl) (hw : X.w = w := by rfl) : PE X (.Subscript o i pos) (tDGetN P w td ty) := by
  subst hP hw
  refine ⟨fun pins s σ H Q I h => ?_⟩
  refine subD_of PySem.F.slot_dict_getitem.lookup hs (thn (ho.run pins s σ H _ I h) fun u s1 ⟨x, H1, I1, rx, q1⟩ => thn (hi.run pins s1 σ H1 _ I1 q1) fun iv s2 ⟨y, H2, I2, ry, a, ep, kvs, k, v, ex, ha, ey, l, q2⟩ => ?_)
  subst ex ey
  obtain rfl : u = Value.ref a := rx
  obtain ⟨z, hd, vs, rel, dd⟩ := dn_get I2 ha
  obtain ⟨w', hw, rw'⟩ := RelO.some_of (v := v) (o := valueAt vs k) (by rw [← l]; exact rel.val k)
  exact ⟨dd.dictOf.typeIs, wpAny_getItem_of (knd := leafKind X.prog X.w) (lf_is ry) dd.dictOf.mapOf hw ⟨v, H2, I2.tok _, rw', q2⟩⟩
theorem ps_dputN (P : Program) (w : World) (ho : PE X o td) (hi : PE X i ty) (hv : PE X value tv) (hs : swapsWith value (some (.Subscript o i pos')) pos.line X.env = pure false) (hP : X.prog = P := by rfl) (hw : X.w = w := by rfl) :
    PS X (.Assign [.Subscript o i pos'] value pos) (sDPutN P w td ty tv) := by
  subst hP hw
  refine ⟨fun pins s σ H D I h => ?_⟩
  refine wpAny_Assign_Subscript (thn (hv.run pins s σ H _ I h) fun r s1 ⟨v, H1, I1, rv, q1⟩ => thn (ho.run pins s1 σ H1 _ I1 q1) fun u s2 ⟨x, H2, I2, rx, q2⟩ => thn (hi.run pins s2 σ H2 _ I2 q2) fun iv s3 ⟨y, H3, I3, ry, a, ep, kvs, k, ex, ha, ey, l, q3⟩ => ?_) hs
  subst ex ey
  obtain rfl : u = Value.ref a := rx
  obtain ⟨z, hd, vs, rel, dd⟩ := dn_get I3 ha
  have hz : vs.length ≤ sizeLine := by rw [← rel.length]; exact z
  have hl : (putK kvs k v).length ≤ sizeLine := by have := length_putK kvs k v; omega
  refine wpAny_setItem_pairs (knd := leafKind X.prog X.w) (hsz := hz) (lf_is ry) dd.dictOf fun h' dd' hs => ?_
  obtain ⟨q, es, ep', hq, rr⟩ := dd'
  have dd2 : h'.DictAt (leafKind X.prog X.w) a (stored vs k r) ep' := ⟨q, es, hq, rr⟩
  exact ⟨σ, _, d_write I3 (by rw [ha]; exact True.intro) hs ⟨q, hq⟩ (dn_new hl hd (rel.put k rv) dd2), q3 ep'⟩
end
def mergeN (kvs more : List (Leaf × V)) : List (Leaf × V) := more.foldl (fun acc kv => putK acc kv.1 kv.2) kvs
theorem kv_merge : ∀ {more : List (Leaf × V)} {rs : List (Leaf × Value)} {kvs : List (Leaf × V)} {vs : List (Leaf × Value)}, KV more rs → KV kvs vs → KV (mergeN kvs more) (merged vs rs) := by
  intro more rs kvs vs r
  unfold KV at r
  induction r generalizing kvs vs with
  | nil => intro q; exact q
  | @cons p q ps qs h t ih =>
    intro r0
    have e : KV (putK kvs p.1 p.2) (stored vs q.1 q.2) := by
      have := r0.put p.1 h.2
      rw [← h.1]; exact this
    exact ih e
theorem mergeN_len : ∀ (more kvs : List (Leaf × V)), (mergeN kvs more).length ≤ kvs.length + more.length
  | [], kvs => by show kvs.length ≤ kvs.length + 0; omega
  | p :: r, kvs => by
    have h1 := mergeN_len r (putK kvs p.1 p.2)
    have h2 := length_putK kvs p.1 p.2
    show (mergeN (putK kvs p.1 p.2) r).length ≤ _
    rw [List.length_cons]; omega
theorem carriesN {P : Program} {w : World} : ∀ {kvs : List (Leaf × V)} {ws : List (Value × Value)}, VV (kvs.map fun kv => (lfV kv.1, kv.2)) ws → ∃ rs, Carries (leafKind P w) ws rs ∧ KV kvs rs
  | [], _, r => by rw [List.map_nil] at r; cases r; exact ⟨[], True.intro, .nil⟩
  | p :: kvs, _, r => by
    rw [List.map_cons] at r
    cases r with
    | @cons a b as bs h t =>
      obtain ⟨rs, c, q⟩ := carriesN (P := P) (w := w) t
      obtain ⟨b1, b2⟩ := b
      exact ⟨(p.1, b2) :: rs, ⟨lf_is h.1, rfl, c⟩, .cons ⟨rfl, h.2⟩ q⟩
def tDispN (P : Program) (w : World) (trs : List (TE × TE)) : TE := fun σ H Q => ∀ p ep, H p = none → tPairs trs σ (upd H p (DN P w p ep [])) fun ps H2 => H2 p = some (DN P w p ep []) ∧
  ∃ kvs : List (Leaf × V), ps = kvs.map (fun kv => (lfV kv.1, kv.2)) ∧ kvs.length ≤ 15 ∧ ∀ ep', Q (.ref p) (upd H2 p (DN P w p ep' (mergeN [] kvs)))
theorem dn_empty {P : Program} {w : World} (h : Heap) : ∃ ep, (h.push { cls := .type "dict", data := .dict #[] }).DictAt (leafKind P w) h.objs.size [] ep := by
  obtain ⟨o, es, ep, r⟩ := (Heap.DictOf.new (knd := leafKind P w) h)
  exact ⟨ep, o, es, r⟩
section
variable {X : Cx} {pos : Pos}
theorem pe_dispN (P : Program) (w : World) {keys : List (Option Expr)} {values : List Expr} {trs : List (TE × TE)} (h : PPs X pos keys values trs) (hall : keys.all (·.isSome) = true) (hl : keys.length = values.length) (h0 : keys ≠ [])
    (h15 : keys.length ≤ 15) (hP : X.prog = P := by rfl) (hw : X.w = w := by rfl) : PE X (.Dict keys values pos) (tDispN P w trs) := by
  subst hP hw
  refine ⟨fun pins s σ H Q I q => ?_⟩
  have hn := I.hok.fresh (Nat.le_refl s.heap.objs.size)
  obtain ⟨ep, d0⟩ := dn_empty (P := X.prog) (w := X.w) s.heap
  have hb : (s.heap.objs.size == sysModules) = false := beq_eq_false_iff_ne.mpr (Ne.symm (Nat.ne_of_lt I.big))
  have I1 := I.laid (a := s.heap.objs.size) (o := DN X.prog X.w s.heap.objs.size ep []) (h' := s.heap.push { cls := .type "dict", data := .dict #[] }) (t' := s.toks) (fun _ _ q => Heap.get?_push_of_some _ q) (Nat.le_refl _) (dn_new (Nat.zero_le _) hb .nil d0)
  refine wpAny_Dict_walk (knd := leafKind X.prog X.w) hall hl h0 h15 (thn (h.run pins _ σ _ _ I1 (q _ ep hn)) fun ws s2 ⟨ps, H2, I2, rel, e, kvs, eps, lk, q2⟩ => ?_)
  subst eps
  obtain ⟨rs, c, rk⟩ := carriesN (P := X.prog) (w := X.w) rel
  obtain ⟨z, hd, vs0, r0, dd⟩ := dn_get I2 e
  cases r0
  refine ⟨rs, c, dd.dictOf, fun h' dd' hs => ?_⟩
  have hz : (mergeN [] kvs).length ≤ sizeLine := by
    have h1 := mergeN_len kvs []
    rw [List.length_nil] at h1
    rw [sizeLine_eq]; omega
  obtain ⟨q', es, ep', hq, rr⟩ := dd'
  have dd2 : h'.DictAt (leafKind X.prog X.w) s.heap.objs.size (merged [] rs) ep' := ⟨q', es, hq, rr⟩
  exact ⟨.ref s.heap.objs.size, _, d_write I2 (by rw [e]; exact True.intro) hs ⟨q', hq⟩ (dn_new hz hd (kv_merge rk .nil) dd2), rfl, q2 ep'⟩
end
/-- the values of the dict at d, which stands as it is while they are walked -/
def Itn (P : Program) (w : World) (d : Addr) (ep : Nat) (kvs : List (Leaf × V)) : It :=
  ⟨fun i H => H d = some (DN P w d ep kvs) ∧ i < kvs.length, fun i H x H' => H' = H ∧ ∃ k, kvs[i]? = some (k, x), fun i H => H d = some (DN P w d ep kvs) ∧ kvs.length ≤ i⟩
theorem turn_valsN {P : Program} {w : World} {K : PySem.W.Frag} {tg : Expr} {d : Addr} {ep : Nat} {kvs : List (Leaf × V)} (it : Addr) : Turn P w K tg (Itn P w d ep kvs) [it] it (fun i h => h.IsValIter it d i kvs.length ep) where
  mem := by simp
  obj := fun i h st b hb => by
    have e : b = it := by simpa using hb
    subst e
    obtain ⟨oi, e, c, dd⟩ := st
    exact ⟨oi, e, fun v z => by rw [dd] at z; cases z⟩
  keep := fun i h h' st k => st.at fun oi e => k it (by simp) oi e
  item := by
    intro X hP hw hK hc i pins s σ H E I hf st hg
    subst hP hw hK
    obtain ⟨hd, hi⟩ := hg
    obtain ⟨f0, f1, f2, f3, f4, f5⟩ := hf it (by simp)
    obtain ⟨z, hs, vs, kv, hm⟩ := dn_get I hd
    obtain ⟨⟨k, v⟩, hkv⟩ : ∃ p, kvs[i]? = some p := ⟨kvs[i], List.getElem?_eq_getElem hi⟩
    obtain ⟨u, hu, ru⟩ := kv_get kv hkv
    have hl : kvs.length = vs.length := Paired.length kv
    rw [hl] at st
    refine wpAny_pyNext_values_item st hm hu fun h' st' sb => ?_
    have I1 : Inv X pins σ H { s with heap := h' } := I.turned (t' := s.toks) (fun b ob hb e => (sb.2 b hb).trans e) f0 f1 f3 f4 f5
    obtain ⟨oi, e, c, dd⟩ := id st'
    refine ⟨u, rfl, go_of (s := { s with heap := h' }) e c dd (by decide) ⟨v, H, I1, ru, ⟨rfl, k, hkv⟩, ?_, fun b hb => (hf b hb).1⟩⟩
    show h'.IsValIter it d (i + 1) kvs.length _
    rw [hl]
    exact st'
  done := by
    intro X hP hw hK hc i pins s σ H E I hf st hg
    subst hP hw hK
    obtain ⟨hd, hi⟩ := hg
    obtain ⟨f0, f1, f2, f3, f4, f5⟩ := hf it (by simp)
    obtain ⟨z, hs, vs, kv, hm⟩ := dn_get I hd
    have hl : kvs.length = vs.length := Paired.length kv
    rw [hl] at st
    exact wpAny_pyNext_values_end (I.ok.hd hc) st hm (List.getElem?_eq_none (by omega)) fun h' eb => ⟨rfl, I.turned (t' := s.toks) (fun b ob hb e => eb b ob hb e) f0 f1 f3 f4 f5⟩
  self := fun A i s Q E st h => wpAny_pyIter_valiter st h
def iValsN (P : Program) (w : World) (td : TE) : TI := fun σ H R => td σ H fun x H1 => ∃ d ep kvs, x = .ref d ∧ H1 d = some (DN P w d ep kvs) ∧ R (Itn P w d ep kvs) H1
theorem pi_valsN (P : Program) (w : World) {X : Cx} {tg e : Expr} {td : TE} {apos cpos : Pos} (he : PE X e td) (hbase : attributeBase e "values" X.env (eval e X.env) = eval e X.env := by rfl) (hline : (apos.endLine == cpos.line) = true := by rfl) (hP : X.prog = P := by rfl) (hw : X.w = w := by rfl) :
    PI X tg (.Call (.Attribute e "values" apos) [] [] cpos) (iValsN P w td) := by
  subst hP hw
  refine ⟨fun pins s σ H R I h => ?_⟩
  refine wpAny_Call_method (T := "dict") (id := "dict.values") hbase rfl hline F.plainAttrs_dict F.slot_dict_values F.type_dict_values (thn (he.run pins s σ H _ I h) fun u s1 ⟨x, H1, I1, rx, d, ep, kvs, ex, hd, q⟩ => ?_)
  subst ex
  obtain rfl : u = Value.ref d := rx
  obtain ⟨z, hs, vs, kv, hm⟩ := dn_get I1 hd
  have hl : kvs.length = vs.length := Paired.length kv
  refine ⟨hm.dictOf.typeIs, hm.dictOf.mapOf.noDict, ?_⟩
  have I2 : Inv X pins σ H1 { s1 with heap := s1.heap.push { cls := .type "dict_values", data := .fields #[.ref d] } } := I1.kept (t' := s1.toks) fun b ob q => Heap.get?_push_of_some _ q
  have fin : wpAny (model X.prog X.w) X.A (pyIter (.ref s1.heap.objs.size)) (PIE X pins σ tg R) X.xe { s1 with heap := s1.heap.push { cls := .type "dict_values", data := .fields #[.ref d] } } := by
    refine wpAny_pyIter_values (d := d) (knd := leafKind X.prog X.w) ⟨_, Heap.get?_push_size _ rfl, rfl, rfl⟩ (hm.push _) (pi_one (tk := s1.toks) I2 _ (turn_valsN _) ⟨_, Heap.get?_push_size _ rfl, rfl, ?_⟩ q)
    rw [hl] <;> rfl
  show wpAny _ _ (callWith cpos (.builtin "dict.values") [.ref d] [] []) _ X.xe s1
  exact method_meetsIn F.slot_dict_values F.entry_dict_values rfl (PySem.evalArgs_none ⟨rfl, hm.dictOf.typeIs, F.args_dict_values_1 _, _, meets_dict_values (leafKind X.prog X.w) d hs, ⟨vs, hm.dictOf⟩, fin⟩)
end GX
namespace GX
open PySem PySem.Spec PyProof.Rows L2
/-! ## enumerate of a text -/
/-- the signs of the text, each in a new pair -/
def ItS (z : Str) : It :=
  ⟨fun i _ => i < z.cps.size,
   fun i H v H' => ∃ T c, v = .ref T ∧ H T = none ∧ H' = upd H T (.tup [.int (i : Nat), .str ⟨#[c]⟩]) ∧ z.cps[i]? = some c,
   fun i _ => z.cps.size ≤ i⟩
theorem turn_enumS {P : Program} {w : World} {K : PySem.W.Frag} {elts : List Expr} {kk : Nat} {tpos : Pos} (z : Str) (tz : Tok) (e it : Addr) :
    Turn P w K (.Tuple elts kk tpos) (ItS z) [e, it] e
      (fun i h => (∃ old, IsEnum h e it ((i : Nat) : Int) old) ∧ h.IsStrIter it (strIterType z) z tz i ∧ e ≠ it) where
  mem := by simp
  obj := fun i h st b hb => by
    obtain ⟨⟨old, he⟩, ⟨o, ho, hc, hd⟩, _⟩ := st
    rcases (show b = e ∨ b = it by simpa using hb) with z | z
    · rw [z]; exact ⟨_, he, fun v q => nomatch q⟩
    · rw [z]; exact ⟨o, ho, fun v q => by rw [hd] at q; cases q⟩
  keep := fun i h h' st k =>
    let ⟨⟨old, he⟩, ⟨o, ho, r⟩, n1⟩ := st
    ⟨⟨old, k e (by simp) _ he⟩, ⟨o, k it (by simp) o ho, r⟩, n1⟩
  item := by
    intro X hP hw hK hc i pins s σ H E I hf st hg
    subst hP hw hK
    obtain ⟨⟨old, he⟩, hit, n1⟩ := st
    have elt : e < s.heap.objs.size := Heap.lt_size he
    have ilt : it < s.heap.objs.size := by obtain ⟨_, q, _⟩ := hit; exact Heap.lt_size q
    have hH : X.A.in1.handled = none := I.ok.hd hc
    refine wpAny_pyNext_enum_itemD (Draws.text hH it z tz) he hit hg n1 ?_ fun y h' tk hy ho hst hT hsz hk => ?_
    · intro z
      exact n1 (by simpa using z)
    obtain ⟨c, u, hcx, rfl⟩ := hy
    refine ⟨_, rfl, wpAny_letOwnedTupleGo_enum (s := { s with heap := h', toks := tk + 1 }) ho fun h'' he' sb => ?_⟩
    have hT2 : h''.get? s.heap.objs.size = some { cls := .type "tuple", data := .seq #[.int i tk, .str ⟨#[c]⟩ u] } :=
      (sb.2 _ (Nat.ne_of_gt elt)).trans hT
    have new : ObjOk X.prog X.w (upd H s.heap.objs.size (.tup [.int (i : Nat), .str ⟨#[c]⟩])) h'' s.heap.objs.size (.tup [.int (i : Nat), .str ⟨#[c]⟩]) :=
      ⟨by show 2 ≤ sizeLine; decide, [.int i tk, .str ⟨#[c]⟩ u], .cons ⟨_, rfl⟩ (.cons ⟨_, rfl⟩ .nil), ⟨_, hT2, rfl, _, rfl⟩⟩
    have I1 : Inv X pins σ (upd H s.heap.objs.size (.tup [.int (i : Nat), .str ⟨#[c]⟩])) { s with heap := h'', toks := tk + 1 } := by
      refine I.turnedNew (ch := [e, it]) (fun b ob hb q => ?_) hf (Nat.le_refl _) new
      have b1 : b ≠ e := fun z => hb (by simp [z])
      have b2 : b ≠ it := fun z => hb (by simp [z])
      exact (sb.2 b b1).trans (hk b ob b1 b2 q)
    refine ⟨.ref s.heap.objs.size, _, I1, rfl, ⟨_, c, rfl, I.hok.fresh (Nat.le_refl _), rfl, hcx⟩, ⟨⟨.str ⟨#[c]⟩ u, ?_⟩, ?_, n1⟩, fun b hb => ?_⟩
    · have e1 : ((i + 1 : Nat) : Int) = (i : Int) + 1 := by omega
      rw [e1]
      exact he'
    · obtain ⟨o, q, r⟩ := hst
      exact ⟨o, (sb.2 it (Ne.symm n1)).trans q, r⟩
    · have lt : b < s.heap.objs.size := by
        rcases (show b = e ∨ b = it by simpa using hb) with z | z
        · rw [z]; exact elt
        · rw [z]; exact ilt
      rw [upd_ne (Nat.ne_of_lt lt)]
      exact (hf b hb).1
  done := by
    intro X hP hw hK hc i pins s σ H E I hf st hg
    subst hP hw hK
    obtain ⟨⟨old, he⟩, hit, n1⟩ := st
    obtain ⟨f0, f1, f2, f3, f4, f5⟩ := hf it (by simp)
    have hT : s.TypeIs (.ref e) "enumerate" := ⟨_, he, rfl⟩
    have hH : X.A.in1.handled = none := I.ok.hd hc
    unfold pyNext
    refine wpAny_bind (wpAny_attempt (wpAny_callSpecial?_slot (name := Str.ofString "__next__") hT F.slot_enumerate_next
      (wpAny_call_entry F.slot_enumerate_next hT F.entry_enumerate_next ?_ (F.args_enumerate_next_1 _))))
    show wpAny _ _ (field (.ref e) 2 >>= _) _ _ _
    refine wpAny_bind (wpAny_field he rfl (x := .ref it) rfl ?_)
    have hn : z.cps[i]? = none := by
      have q : z.cps.size ≤ i := hg
      simp [q]
    refine wpAny_bind ?_
    cases ha : z.cps.all (· < 128)
    · have hit' : s.heap.IsStrIter it "str_iterator" z tz i := by simpa [strIterType, ha] using hit
      refine wpAny_nextOf_wide_end hH hit' hn (fun h' x eb hx' => ?_)
      obtain ⟨o, ho, hcl⟩ := hx'
      refine wpAny_bind (wpAny_isInstance (T := "StopIteration") (b := true) ⟨o, ho, hcl⟩ isSubtype_stop ?_)
      exact wpAny_pure ⟨rfl, I.turned (t' := s.toks) (fun b o hb q => eb b o hb q) f0 f1 f3 f4 f5⟩
    · have hit' : s.heap.IsStrIter it "str_ascii_iterator" z tz i := by simpa [strIterType, ha] using hit
      refine wpAny_nextOf_ascii_end hH hit' hn (fun h' x eb hx' => ?_)
      obtain ⟨o, ho, hcl⟩ := hx'
      refine wpAny_bind (wpAny_isInstance (T := "StopIteration") (b := true) ⟨o, ho, hcl⟩ isSubtype_stop ?_)
      exact wpAny_pure ⟨rfl, I.turned (t' := s.toks) (fun b o hb q => eb b o hb q) f0 f1 f3 f4 f5⟩
  self := fun A i s Q E st h => let ⟨⟨_, he⟩, _⟩ := st; wpAny_pyIter_enum he h
def iEnumS (ta : TA) : TI := fun σ H R => ta σ H fun vs H1 => ∃ z : Str, vs = [.str z] ∧ R (ItS z) H1
theorem pi_enumS {X : Cx} {e : Expr} {ta : TA} {p pos tpos : Pos} {elts : List Expr} {kk : Nat}
    (hg : Gl X "enumerate") (hm : X.mg "enumerate" = none) (ha : PA X [e] ta)
    (hs : starEach [e] X.env = [(false, eval e X.env)] := by rfl) :
    PI X (.Tuple elts kk tpos) (.Call (.Name "enumerate" p) [e] [] pos) (iEnumS ta) := by
  refine ⟨fun pins s σ H R I h => ?_⟩
  refine Call_ (ld_blt I hg hm boot_enumerate (PyProof.Rows.callWith_type1 (thn (ha.run pos pins s σ H _ I h) fun us s1 got => ?_) hs rfl))
  obtain ⟨vs, H1, I1, r1, z, ex, q⟩ := got
  subst ex
  obtain ⟨u, rfl, t, rfl⟩ := vals1 r1
  refine call_enumerate_str fun h' he hit hsz hk => wpAny_pyIter_enum he ?_
  have I2 : Inv X pins σ H1 { s1 with heap := h' } := I1.kept (t' := s1.toks) hk
  refine ⟨s1.heap.objs.size + 1, [s1.heap.objs.size + 1, s1.heap.objs.size], _, _, H1, rfl, I2,
    turn_enumS z t (s1.heap.objs.size + 1) s1.heap.objs.size, ⟨⟨.none, he⟩, hit, Nat.succ_ne_self _⟩, fun b hb => ?_, q⟩
  have le : s1.heap.objs.size ≤ b := by
    rcases (show b = s1.heap.objs.size + 1 ∨ b = s1.heap.objs.size by simpa using hb) with z | z
    · rw [z]; exact Nat.le_succ _
    · rw [z]; exact Nat.le_refl _
  exact I1.fpOk le (I1.hok.fresh le)
/-! ### c * n, c one sign -/
theorem rep_fold (c : Nat) : ∀ (n : Nat) (a : Array Nat), ((List.replicate n #[c]).foldl (· ++ ·) a).toList = a.toList ++ List.replicate n c
  | 0, a => by simp
  | n + 1, a => by
    rw [List.replicate_succ, List.foldl_cons, rep_fold c n, List.replicate_succ, Array.toList_append, List.append_assoc]
    rfl
def rRepS : R2 := fun x y H Q => ∃ (c n : Nat), x = .str ⟨#[c]⟩ ∧ y = .int (n : Nat) ∧ n ≤ 30000 ∧ Q (.str ⟨(List.replicate n c).toArray⟩) H
theorem op_repS {X : Cx} : OpR X (binaryOp .Mult) rRepS := by
  intro pins s σ H x y v u Q I rx ry h
  obtain ⟨c, n, rfl, rfl, hn, q⟩ := h
  obtain ⟨t, rfl⟩ := rx
  obtain ⟨t', rfl⟩ := ry
  have n0 : ¬ ((n : Nat) : Int) < -(2 ^ 63 : Int) := by omega
  have n1 : ¬ ((n : Nat) : Int) ≥ 2 ^ 63 := by omega
  have sl : 30000 ≤ sizeLine := by decide
  refine P.mul_str (by rw [decide_eq_false n0, decide_eq_false n1]; rfl) (fun _ _ => ?_) (fun _ _ => ?_) ?_
  · show ¬ ((1 : Int) > (2 ^ 63 - 1) / (n : Nat))
    rename_i h1 h2
    have hp : (0 : Int) < (n : Nat) := by omega
    have : (1 : Int) ≤ (2 ^ 63 - 1) / (n : Nat) := (Int.le_ediv_iff_mul_le hp).mpr (by omega)
    omega
  · show Builtin.Str.tooLong (1 * ((n : Nat) : Int).toNat) = false
    rw [Int.toNat_natCast, Nat.one_mul]
    unfold Builtin.Str.tooLong
    exact decide_eq_false (by omega)
  · by_cases z : n = 0
    · subst z
      rw [if_pos (by decide)]
      exact ⟨by decide, ⟨.str ⟨#[]⟩, H, I.tok _, ⟨_, rfl⟩, q⟩⟩
    · rw [if_neg (by omega)]
      by_cases o : n = 1
      · subst o
        rw [if_pos (by rfl)]
        exact ⟨.str ⟨#[c]⟩, H, I, ⟨_, rfl⟩, q⟩
      · have e : (((n : Nat) : Int) == 1 || (⟨#[c]⟩ : Str).length == 0) = false := by
          have a : (((n : Nat) : Int) == 1) = false := by
            rw [beq_eq_false_iff_ne]
            omega
          rw [a]
          rfl
        rw [if_neg (by rw [e]; exact Bool.false_ne_true)]
        have f : (⟨(List.replicate ((n : Nat) : Int).toNat (#[c] : Array Nat)).foldl (· ++ ·) #[]⟩ : Str) = ⟨(List.replicate n c).toArray⟩ := by
          rw [Int.toNat_natCast]
          congr 1
          apply Array.toList_inj.mp
          rw [rep_fold]
          rfl
        show Made.post (Made.str ⟨(List.replicate ((n : Nat) : Int).toNat (#[c] : Array Nat)).foldl (· ++ ·) #[]⟩) _ _
        rw [f]
        exact ⟨by show _ ≤ _; simp [Str.length]; omega, ⟨.str _, H, I.tok _, ⟨_, rfl⟩, q⟩⟩
end GX
namespace W
open PySem L2 GX
def tp (i : Nat) : Stmt := PySem.Challenge.pw_everymatch_k12_edits_and_near_ones.main.body.getD i (.Pass ⟨0, 0, 0, 0⟩)
abbrev sWhole : Stmt := tp 3
abbrev sNumber : Stmt := tp 4
abbrev sMark : Stmt := tp 5
abbrev sIsDoc : Stmt := tp 7
abbrev sEntry : Stmt := tp 8
abbrev sFeed : Stmt := tp 14
abbrev sDraw : Stmt := tp 15
abbrev sOne : Stmt := tp 16
abbrev sDoc : Stmt := tp 18
abbrev sLaw : Stmt := tp 27
abbrev sIsEdit : Stmt := tp 10
abbrev sIsPlace : Stmt := tp 11
abbrev sIsPiece : Stmt := tp 12
abbrev sLMarks : Stmt := tp 17
abbrev sLWhole : Stmt := tp 19
abbrev sLIsDoc : Stmt := tp 20
abbrev sLCount : Stmt := tp 21
abbrev sLPlace : Stmt := tp 22
abbrev sLEdit : Stmt := tp 23
abbrev sLOdd : Stmt := tp 24
abbrev sLSpoil : Stmt := tp 25
abbrev sLAny : Stmt := tp 26
/-! ### a feed of draws -/
/-- what a feed holds, with m draws left that we answer for -/
def FeedOk (m : Nat) (o : List V) : Prop := ∃ x y c : Int, o = [.int x, .int y, .int c] ∧ 0 ≤ x ∧ Wd 2000000 x ∧
  0 ≤ y ∧ Wd 200 y ∧ 0 ≤ c ∧ c + m ≤ 1000000000000
theorem FeedOk.less {m n : Nat} {o : List V} (h : FeedOk m o) (le : n ≤ m) : FeedOk n o := by
  obtain ⟨x, y, c, e, h1, h2, h3, h4, h5, h6⟩ := h
  exact ⟨x, y, c, e, h1, h2, h3, h4, h5, by omega⟩
/-- the draw: some integer from 0 to below many, the feed used -/
def spDraw : Sp := fun vs H Q _ => ∃ (p : Addr) (many : Int) (m : Nat) (o : List V), vs = [.ref p, .int many] ∧ H p = some (.lst o) ∧ FeedOk (m + 1) o ∧
  0 < many ∧ Wd 1000 many ∧ ∀ (o' : List V) (r : Int), FeedOk m o' → 0 ≤ r → r < many → Q (.int r) (upd H p (.lst o'))
abbrev pDraw : List Str := ["feed", "many"]
/-- a new feed -/
def spFeed (K : PySem.W.Frag) : Sp := fun vs H Q _ => ∃ (a : Addr) (k : Int) (ns : List Int), vs = [.ref a, .int k] ∧ SqL K H a (ns.map V.int) ∧
  ns.length ≤ 63 ∧ (∀ z ∈ ns, Builtin.Int.intBits z ≤ 1048576) ∧ 0 ≤ k ∧ k ≤ 1000 ∧
  ∀ (H' : Hp) (p : Addr) (o : List V), Same H H' → H p = none → H' p = some (.lst o) → FeedOk 900000000000 o → Q (.ref p) H'
abbrev pFeed : List Str := ["script", "k"]
/-- what one may be drawn of: the signs of a text, the items of a list -/
def Things (K : PySem.W.Frag) (p : Addr) (H : Hp) (v : V) (zs : List V) : Prop :=
  (∃ z : Str, v = .str z ∧ zs = z.cps.toList.map fun c => V.str ⟨#[c]⟩) ∨ ∃ a, v = .ref a ∧ a ≠ p ∧ SqL K H a zs
def spOne (K : PySem.W.Frag) : Sp := fun vs H Q _ => ∃ (p : Addr) (v : V) (zs : List V) (m : Nat) (o : List V), vs = [.ref p, v] ∧ H p = some (.lst o) ∧
  FeedOk (m + 1) o ∧ Things K p H v zs ∧ 0 < zs.length ∧ zs.length ≤ 1000 ∧ ∀ (o' : List V) (y : V), FeedOk m o' → y ∈ zs → Q y (upd H p (.lst o'))
abbrev pOne : List Str := ["feed", "things"]
def SameBut (p : Addr) (H H' : Hp) : Prop := ∀ b o, b ≠ p → H b = some o → H' b = some o
theorem SameBut.refl {p : Addr} {H : Hp} : SameBut p H H := fun _ _ _ e => e
theorem SameBut.trans {p : Addr} {H H1 H2 : Hp} (a : SameBut p H H1) (b : SameBut p H1 H2) : SameBut p H H2 := fun c o n e => b c o n (a c o n e)
theorem SameBut.put {p : Addr} {H H1 : Hp} {o : HO} (a : SameBut p H H1) : SameBut p H (upd H1 p o) := fun c u n e => by
  rw [upd_ne n]
  exact a c u n e
theorem SameBut.new {p q : Addr} {H H1 : Hp} {o : HO} (a : SameBut p H H1) (f : H1 q = none) : SameBut p H (upd H1 q o) := fun c u n e => by
  have z := a c u n e
  rw [upd_ne (ne_of_none z f)]
  exact z
/-- an object that came later was not there -/
theorem SameBut.free {p q : Addr} {H H1 : Hp} {u : HO} (a : SameBut p H H1) (hp : H p = some u) (hp1 : ∃ u1, H1 p = some u1) (f : H1 q = none) : H q = none := by
  cases e : H q with
  | none => rfl
  | some o =>
    by_cases n : q = p
    · subst n
      obtain ⟨u1, z⟩ := hp1
      rw [z] at f
      cases f
    · rw [a q o n e] at f
      cases f
theorem SameBut.same {p : Addr} {H H1 H2 : Hp} (a : Same H H1) (hn : H p = none) (b : SameBut p H1 H2) : Same H H2 := fun c o e =>
  b c o (ne_of_none e hn) (a c o e)

theorem sq_put {K : PySem.W.Frag} {H : Hp} {a p : Addr} {xs : List V} {o : HO} (ne : a ≠ p) (h : SqL K H a xs) : SqL K (upd H p o) a xs := by
  rcases h with (h | ⟨ob, h⟩) | h
  · exact .inl (.inl (by rw [upd_ne ne]; exact h))
  · exact .inl (.inr ⟨ob, by rw [upd_ne ne]; exact h⟩)
  · exact .inr h

/-! ### documents -/
abbrev Doc := List (Nat × Nat)
def EntAt (H : Hp) (v : V) (e : Nat × Nat) : Prop := ∃ r : Addr, v = .ref r ∧ H r = some (.tup [.str ⟨#[e.1]⟩, .int (e.2 : Nat)])
def EntsAt (H : Hp) (vs : List V) (doc : Doc) : Prop := Paired (EntAt H) vs doc
def DocAt (H : Hp) (p : Addr) (doc : Doc) : Prop := ∃ vs, H p = some (.tup vs) ∧ EntsAt H vs doc
theorem EntAt.mono {H H' : Hp} {v : V} {e : Nat × Nat} (k : ∀ b xs, H b = some (.tup xs) → H' b = some (.tup xs)) (h : EntAt H v e) : EntAt H' v e := by
  obtain ⟨r, e1, e2⟩ := h
  exact ⟨r, e1, k _ _ e2⟩
theorem EntsAt.mono {H H' : Hp} {vs : List V} {doc : Doc} (k : ∀ b xs, H b = some (.tup xs) → H' b = some (.tup xs)) (h : EntsAt H vs doc) : EntsAt H' vs doc :=
  Paired.mapP h fun _ _ q => q.mono k
theorem DocAt.mono {H H' : Hp} {p : Addr} {doc : Doc} (k : ∀ b xs, H b = some (.tup xs) → H' b = some (.tup xs)) (h : DocAt H p doc) : DocAt H' p doc := by
  obtain ⟨vs, e, q⟩ := h
  exact ⟨vs, k _ _ e, q.mono k⟩
theorem Same.tups {H H' : Hp} (s : Same H H') : ∀ b xs, H b = some (.tup xs) → H' b = some (.tup xs) := fun b xs e => s b _ e
theorem DocAt.same {H H' : Hp} {p : Addr} {doc : Doc} (h : DocAt H p doc) (s : Same H H') : DocAt H' p doc := h.mono (Same.tups s)
theorem SameBut.tups {p : Addr} {H H' : Hp} {o : List V} (s : SameBut p H H') (hp : H p = some (.lst o)) : ∀ b xs, H b = some (.tup xs) → H' b = some (.tup xs) := fun b xs e =>
  s b _ (fun z => by subst z; rw [hp] at e; cases e) e
theorem upd_tups {H : Hp} {p : Addr} {o : List V} {u : HO} (hp : H p = some (.lst o)) : ∀ b xs, H b = some (.tup xs) → upd H p u b = some (.tup xs) := fun b xs e => by
  rw [upd_ne (fun z => by subst z; rw [hp] at e; cases e)]
  exact e
theorem new_tups {H : Hp} {p : Addr} {u : HO} (hp : H p = none) : ∀ b xs, H b = some (.tup xs) → upd H p u b = some (.tup xs) := fun b xs e => by
  rw [upd_ne (ne_of_none e hp)]
  exact e
theorem Paired.snoc {α β : Type} {F : α → β → Prop} : ∀ {l₁ : List α} {l₂ : List β} {a : α} {b : β}, Paired F l₁ l₂ → F a b → Paired F (l₁ ++ [a]) (l₂ ++ [b])
  | _, _, _, _, .nil, q => .cons q .nil
  | _, _, _, _, .cons r t, q => .cons r (Paired.snoc t q)
/-- marks a to h, no depth more than one below the one ahead -/
def okFrom : Nat → Doc → Prop
  | _, [] => True
  | m, (c, d) :: r => 97 ≤ c ∧ c ≤ 104 ∧ d ≤ m ∧ okFrom (d + 1) r
def endOf : Nat → Doc → Nat
  | m, [] => m
  | _, (_, d) :: r => endOf (d + 1) r
theorem okFrom_snoc {c d : Nat} : ∀ {m : Nat} {doc : Doc}, okFrom m doc → 97 ≤ c → c ≤ 104 → d ≤ endOf m doc → okFrom m (doc ++ [(c, d)])
  | _, [], _, h1, h2, h3 => ⟨h1, h2, h3, trivial⟩
  | _, (_, _) :: _, h, h1, h2, h3 => ⟨h.1, h.2.1, h.2.2.1, okFrom_snoc h.2.2.2 h1 h2 h3⟩
theorem endOf_snoc {c d : Nat} : ∀ {m : Nat} {doc : Doc}, endOf m (doc ++ [(c, d)]) = d + 1
  | _, [] => rfl
  | _, (_, e) :: r => endOf_snoc (m := e + 1) (doc := r)
theorem endOf_le : ∀ {m : Nat} {doc : Doc}, okFrom m doc → endOf m doc ≤ m + doc.length
  | _, [], _ => Nat.le_refl _
  | m, (_, d) :: r, h => by
    have q := endOf_le h.2.2.2
    have l := h.2.2.1
    show endOf (d + 1) r ≤ m + (r.length + 1)
    omega

section
variable {P : Program} {w : World} {K : PySem.W.Frag} {mg : Str → Option Value} {base : Heap}
theorem scDraw : FnScope ["feed", "many", "rest", "got", "stir"] pDraw (defScope sDraw) := ⟨rfl, rfl, rfl, by decide +kernel, rfl, by decide +kernel, by decide +kernel⟩
theorem ok_draw (T : Bl mg) (D : Dn K mg "_law_draw" sDraw pDraw) : FnOk P w K mg base CX0 1 D.f D.fd pDraw spDraw := by
  refine D.F.ok scDraw (fun vs H Q E h => ?_) (fun cdv A outer s H vs Q E hr h => ?_)
  · obtain ⟨p, many, m, o, rfl, _⟩ := h
    rfl
  · obtain ⟨p, many, m, o, rfl, hp, ⟨x, y, c, rfl, x0, xb, y0, yb, c0, cm⟩, h0, hb, k⟩ := h
    refine ⟨_, pss_cons (ps_if (pt_cmpR op_gt (pe_ix ix_list (pv 0) pe_int (fun _ _ => rfl)) pe_int (nomark _))
      (pss_cons (ps_set (i := 2) scDraw.nd rfl (.inl rfl) (pe_op op_fdivW (pe_ix ix_list (pv 0) pe_int (fun _ _ => rfl)) (pv 1)))
      (pss_cons (ps_set (i := 3) scDraw.nd rfl (.inl rfl) (pe_op op_sub (pe_ix ix_list (pv 0) pe_int (fun _ _ => rfl)) (pe_op op_mulX (pv 2) (pv 1))))
      (pss_cons (ps_asg (pv 2) (pg_sub (pv 0) pe_int set_list))
      (pss_one (ps_ret (pv 3)))))) pss_nil)
      (pss_cons (ps_asg (pe_op op_add (pe_ix ix_list (pv 0) pe_int (fun _ _ => rfl)) pe_int) (pg_sub (pv 0) pe_int set_list))
      (pss_cons (ps_set (i := 4) scDraw.nd rfl (.inl rfl) (pe_op op_add (pe_ix ix_list (pv 0) pe_int (fun _ _ => rfl)) (pe_op op_mulX pe_int (pe_ix ix_list (pv 0) pe_int (fun _ _ => rfl)))))
      (pss_cons (ps_set (i := 4) scDraw.nd rfl (.inl rfl) (pe_op op_mod (pe_callTy call_intI (by rfl) T.int b_int (pa_cons (pe_op op_add (pe_op op_mulX (pe_op op_mulX (pv 4) (pv 4)) (pv 4)) (pe_op op_mulX pe_int (pe_ix ix_list (pv 0) pe_int (fun _ _ => rfl))))  pa_nil)) (pe_op op_add (pe_op op_pow pe_int pe_int) pe_int)))
      (pss_cons (ps_set (i := 4) scDraw.nd rfl (.inl rfl) (pe_op op_mod (pe_callTy call_intI (by rfl) T.int b_int (pa_cons (pe_op op_add (pe_op op_mulX (pv 4) (pv 4)) pe_int)  pa_nil)) (pe_op op_add (pe_op op_pow pe_int pe_int) pe_int)))
      (pss_one (ps_ret (pe_op op_mod (pe_callTy call_intI (by rfl) T.int b_int (pa_cons (pe_op op_fdivW (pv 4) (pe_op op_pow pe_int pe_int))  pa_nil)) (pv 1)))))))), ?_⟩
    have sq0 : SqL K H p [.int x, .int y, .int c] := SqL.of hp
    refine ⟨_, rfl, p, _, 0, _, rfl, rfl, sq0, rfl, _, _, rfl, rfl, _, rfl, ?_⟩
    refine ite2 (fun hx => ?_) (fun hx => ?_)
    · have rb : Wd 2000000 (x / many) := xb.div x0 h0
      refine ⟨_, rfl, p, _, 0, _, rfl, rfl, sq0, rfl, _, rfl, _, _, rfl, rfl, hb.cdiv h0 (by decide) (by decide), ?_⟩
      refine ⟨_, rfl, p, _, 0, _, rfl, rfl, sq0, rfl, _, rfl, _, rfl, _, _, rfl, rfl, rb.ok hb (by decide), _, _, rfl, rfl, ?_⟩
      refine ⟨_, rfl, _, rfl, p, _, 0, 0, rfl, rfl, hp, rfl, ?_⟩
      refine ⟨_, rfl, ?_⟩
      have r1 : x - x / many * many = x % many := by
        have := Int.mul_ediv_add_emod x many
        rw [Int.mul_comm] at this
        omega
      refine k _ _ ⟨x / many, y, c, rfl, Int.ediv_nonneg x0 (Int.le_of_lt h0), rb, y0, yb, c0, by omega⟩ ?_ ?_
      · rw [r1]; exact Int.emod_nonneg _ (by omega)
      · rw [r1]; exact Int.emod_lt_of_pos _ h0
    · have cw : Wd 41 (c + 1) := ⟨by omega⟩
      have sq1 : SqL K (upd H p (.lst [.int x, .int y, .int (c + 1)])) p [.int x, .int y, .int (c + 1)] := SqL.of upd_same
      have w1 : Wd 80 (6700417 * (c + 1)) := ⟨by omega⟩
      have w2 : Wd 201 (y + 6700417 * (c + 1)) := yb.add w1 (n := 200) (by decide) (by decide)
      have k1 : Wd 24 (6700417 : Int) := ⟨by decide⟩
      have k2 : Wd 24 (15485863 : Int) := ⟨by decide⟩
      refine ⟨_, rfl, p, _, 2, _, rfl, rfl, sq0, rfl, _, _, rfl, rfl, _, rfl, p, _, 2, 2, rfl, rfl, hp, rfl, ?_⟩
      refine ⟨_, rfl, p, _, 1, _, rfl, rfl, sq1, rfl, _, rfl, p, _, 2, _, rfl, rfl, sq1, rfl, _, _, rfl, rfl, k1.ok cw (by decide), _, _, rfl, rfl, ?_⟩
      refine ⟨_, rfl, _, rfl, _, _, rfl, rfl, w2.ok w2 (by decide), _, rfl, _, _, rfl, rfl, (w2.mul w2).ok w2 (by decide), _, rfl, p, _, 2, _, rfl, rfl, sq1, rfl, _, _, rfl, rfl, k2.ok cw (by decide), _, _, rfl, rfl, _, rfl, ?_⟩
      have m43 : (0 : Int) < 10 ^ 43 + 57 := by decide +kernel
      have m38 : (0 : Int) < 10 ^ 38 + 133 := by decide +kernel
      have b43 : Wd 200 ((10 : Int) ^ 43 + 57) := ⟨by decide +kernel⟩
      refine ⟨_, _, rfl, rfl, ⟨by decide, by decide, by decide⟩, _, _, rfl, rfl, _, _, rfl, rfl, m43, ?_⟩
      generalize hz : ((y + 6700417 * (c + 1)) * (y + 6700417 * (c + 1)) * (y + 6700417 * (c + 1)) + 15485863 * (c + 1)) = z
      have z0 : 0 ≤ z % (10 ^ 43 + 57) := Int.emod_nonneg _ (by omega)
      have zw : Wd 200 (z % (10 ^ 43 + 57)) := b43.within z0 (Int.le_of_lt (Int.emod_lt_of_pos _ m43))
      refine ⟨_, rfl, _, rfl, _, _, rfl, rfl, zw.ok zw (by decide), _, _, rfl, rfl, _, rfl, _, _, rfl, rfl, ⟨by decide, by decide, by decide⟩, _, _, rfl, rfl, _, _, rfl, rfl, m38, ?_⟩
      refine ⟨_, rfl, _, _, rfl, rfl, ⟨by decide, by decide, by decide⟩, _, _, rfl, rfl, (Wd.mk (n := 40) (by decide)).cdiv (by decide) (by decide) (by decide), _, rfl, _, rfl, _, _, rfl, rfl, h0, ?_⟩
      exact k _ _ ⟨x, y, c + 1, rfl, x0, xb, y0, yb, by omega, by omega⟩ (Int.emod_nonneg _ (by omega)) (Int.emod_lt_of_pos _ h0)

theorem scFeed : FnScope ["script", "k", "cell"] pFeed (defScope sFeed) := ⟨rfl, rfl, rfl, by decide +kernel, rfl, by decide +kernel, by decide +kernel⟩
theorem ok_feed (T : Bl mg) (D : Dn K mg "_law_feed" sFeed pFeed) : FnOk P w K mg base CX0 1 D.f D.fd pFeed (spFeed K) := by
  refine D.F.ok scFeed (fun vs H Q E h => ?_) (fun cdv A outer s H vs Q E hr h => ?_)
  · obtain ⟨a, n, ns, rfl, _⟩ := h
    rfl
  · obtain ⟨a, n, ns, rfl, hs, hl, hbits, n0, n1, k⟩ := h
    refine ⟨_, pss_cons (ps_set (i := 2) scFeed.nd rfl (.inl rfl) (pe_op op_add (pe_op op_mul pe_int (pv 1)) (pe_callB (cr_sum rfl) (by rfl) T.sum b_sum (pa_cons (pe_slice sl_list (pv 0) po_none (po_some pe_int)) pa_nil))))
      (pss_cons (ps_if (pt_cmpR op_lt (pv 1) (pe_callB call_len_seq (by rfl) T.len b_len (pa_cons (pv 0) pa_nil)) (nomark _)) (pss_one (ps_set (i := 2) scFeed.nd rfl (.inl rfl) (pe_ix ix_list (pv 0) (pv 1) (fun _ _ => rfl)))) pss_nil)
      (pss_one (ps_ret (pe_lst (pa_cons (pe_callB (call_max2 rfl) (by rfl) T.max b_max (pa_cons pe_int (pa_cons (pe_op op_sub (pv 2) (pe_op op_pow pe_int pe_int)) pa_nil)))
        (pa_cons (pe_op op_mod (pe_callTy call_intI (by rfl) T.int b_int (pa_cons (pe_op op_add (pe_op op_mulX (pv 2) pe_int) (pe_op op_mul pe_int (pv 1)))  pa_nil)) (pe_op op_add (pe_op op_pow pe_int pe_int) pe_int)) (pa_cons pe_int pa_nil))))))), ?_⟩
    have wide : ∀ z ∈ ns, Wd 1048577 z := fun z hz => Wd.bits (hbits z hz)
    have sumw : Wd 1048577 (ns.take 1).sum := by
      cases ns with
      | nil => exact ⟨by show (0 : Int).natAbs < _; exact Nat.two_pow_pos _⟩
      | cons z r =>
        have q := wide z List.mem_cons_self
        have e : ((z :: r).take 1).sum = z := by simp
        rw [e]
        exact q
    have m39 : (0 : Int) < 10 ^ 39 + 23 := by decide +kernel
    have b39 : Wd 200 ((10 : Int) ^ 39 + 23) := ⟨by decide +kernel⟩
    have k19 : Wd 5 (19 : Int) := ⟨by decide⟩
    have nw : Wd 20 (977 * n) := ⟨by omega⟩
    have w0 : Wd 1048578 (977 * n + (ns.take 1).sum) := nw.add sumw (n := 1048577) (by decide) (by decide)
    have fin : ∀ (H1 : Hp) (cell : Int), Same H H1 → Wd 1048578 cell → ∀ p, H1 p = none →
        Q (.ref p) (upd H1 p (.lst [.int (if cell - 10 ^ 18 > 0 then cell - 10 ^ 18 else 0), .int ((cell * 19 + 7 * n) % (10 ^ 39 + 23)), .int 0])) := by
      intro H1 cell s1 cw p hp
      have e18 : Wd 100 ((10 : Int) ^ 18) := ⟨by decide +kernel⟩
      have d : Wd 1048579 (cell - 10 ^ 18) := cw.sub e18 (n := 1048578) (by decide) (by decide)
      have z0 := Int.emod_nonneg (cell * 19 + 7 * n) (show (10 : Int) ^ 39 + 23 ≠ 0 by omega)
      refine k _ p _ (fun b o e => ?_) (s1.free hp) upd_same ⟨_, _, _, rfl, ?_, ?_, z0, ?_, Int.le_refl _, by omega⟩
      · rw [upd_ne (ne_of_none (s1 b o e) hp)]
        exact s1 b o e
      · split <;> omega
      · split
        · exact d.mono (by decide)
        · exact ⟨by show (0 : Int).natAbs < _; exact Nat.two_pow_pos _⟩
      · exact b39.within z0 (Int.le_of_lt (Int.emod_lt_of_pos _ m39))
    refine ⟨_, rfl, _, _, rfl, rfl, .inr ⟨by omega, by omega⟩, _, rfl, _, rfl, a, _, rfl, hs, fun q hq => ?_⟩
    have ce : cutV (ns.map V.int) none (some 1) = (ns.take 1).map V.int := by
      have := cutV_to (ns.map V.int) 1
      rw [← List.map_take] at this
      exact this
    have s1 : Same H (upd H q (.lst ((ns.take 1).map V.int))) := fun b o e => by
      rw [upd_ne (ne_of_none e hq)]
      exact e
    rw [ce]
    refine ⟨q, ns.take 1, rfl, SqL.of upd_same, _, _, rfl, rfl, ?_⟩
    refine ⟨_, rfl, _, rfl, a, _, rfl, .inl (s1.seq hs), _, _, rfl, rfl, _, rfl, ?_⟩
    refine ite2 (fun hlt => ?_) (fun hlt => ?_)
    · have lt : n < (ns.length : Int) := by
        have := of_decide_eq_true hlt
        rw [List.length_map] at this
        exact this
      obtain ⟨j, rfl⟩ := Int.eq_ofNat_of_zero_le n0
      have jl : j < ns.length := by omega
      have at_ : atI (ns.map V.int) (j : Int) = some (V.int ns[j]) := atI_nat (by rw [List.getElem?_map, List.getElem?_eq_getElem jl]; rfl)
      have cw : Wd 1048578 ns[j] := (wide _ (List.getElem_mem jl)).mono (by decide)
      refine ⟨_, rfl, _, rfl, a, _, _, _, rfl, rfl, s1.seq hs, at_, ?_⟩
      refine ⟨_, rfl, _, _, rfl, rfl, ⟨by decide, by decide, by decide⟩, _, _, rfl, rfl, _, _, rfl, ?_⟩
      refine ⟨_, rfl, _, _, rfl, rfl, cw.ok k19 (by decide), _, rfl, _, _, rfl, rfl, .inl ⟨by decide, by decide⟩, _, _, rfl, rfl, _, rfl, _, _, rfl, rfl, ⟨by decide, by decide, by decide⟩, _, _, rfl, rfl, _, _, rfl, rfl, m39, ?_⟩
      exact ⟨by show 3 ≤ sizeLine; decide, fun p hp => fin _ _ s1 cw p hp⟩
    · refine ⟨_, rfl, _, _, rfl, rfl, ⟨by decide, by decide, by decide⟩, _, _, rfl, rfl, _, _, rfl, ?_⟩
      refine ⟨_, rfl, _, _, rfl, rfl, w0.ok k19 (by decide), _, rfl, _, _, rfl, rfl, .inl ⟨by decide, by decide⟩, _, _, rfl, rfl, _, rfl, _, _, rfl, rfl, ⟨by decide, by decide, by decide⟩, _, _, rfl, rfl, _, _, rfl, rfl, m39, ?_⟩
      exact ⟨by show 3 ≤ sizeLine; decide, fun p hp => fin _ _ s1 w0 p hp⟩

theorem scOne : FnScope ["feed", "things"] pOne (defScope sOne) := ⟨rfl, rfl, rfl, by decide +kernel, rfl, by decide +kernel, by decide +kernel⟩
theorem ok_one (T : Bl mg) (Dd : Dn K mg "_law_draw" sDraw pDraw) (D : Dn K mg "_law_one" sOne pOne) : FnOk P w K mg base CX0 2 D.f D.fd pOne (spOne K) := by
  have GD : FnOk P w K mg base CX0 1 Dd.f Dd.fd pDraw spDraw := ok_draw T Dd
  refine D.F.ok scOne (fun vs H Q E h => ?_) (fun cdv A outer s H vs Q E hr h => ?_)
  · obtain ⟨p, v, zs, m, o, rfl, _⟩ := h
    rfl
  · obtain ⟨p, v, zs, m, o, rfl, hp, hf, ht, h0, h1, k⟩ := h
    refine ⟨_, pss_one (ps_ret (pe_ix ix_seq (pv 1) (de_call Dd GD hr (pa_cons (pv 0) (pa_cons (pe_callB (CallR.or call_len_seq call_len_str) (by rfl) T.len b_len (pa_cons (pv 1) pa_nil)) pa_nil))) (fun _ _ => rfl))), ?_⟩
    have room : Wd 1000 (zs.length : Int) := ⟨Nat.lt_of_le_of_lt (show ((zs.length : Int)).natAbs ≤ 1000 by omega) (by decide +kernel)⟩
    rcases ht with ⟨z, rfl, rfl⟩ | ⟨a, rfl, hne, hsq⟩
    · have zl : z.cps.toList.length = z.length := by first | rfl | exact Array.length_toList | simp [Str.length]
      have small : z.length ≤ 1000 := by rw [List.length_map, zl] at h1; exact h1
      have pos : 0 < z.length := by rw [List.length_map, zl] at h0; exact h0
      have zw : Wd 1000 ((z.length : Nat) : Int) := by rw [List.length_map, zl] at room; exact room
      refine ⟨_, rfl, _, rfl, _, rfl, .inr ⟨z, rfl, Nat.le_of_lt (small1000 small), ?_⟩⟩
      refine ⟨p, _, m, o, rfl, hp, hf, by omega, zw, fun o' r fo r0 r1 => ?_⟩
      obtain ⟨j, rfl⟩ := Int.eq_ofNat_of_zero_le r0
      have jl : j < z.cps.toList.length := by rw [zl]; omega
      refine .inr (.inr ⟨z, _, z.cps.toList[j], rfl, rfl, Nat.le_of_lt (small1000 small), atI_nat (List.getElem?_eq_getElem jl), ?_⟩)
      exact k o' _ fo (List.mem_map.mpr ⟨_, List.getElem_mem jl, rfl⟩)
    · refine ⟨_, rfl, _, rfl, _, rfl, .inl ⟨a, zs, rfl, .inl hsq, ?_⟩⟩
      refine ⟨p, _, m, o, rfl, hp, hf, by omega, room, fun o' r fo r0 r1 => ?_⟩
      obtain ⟨j, rfl⟩ := Int.eq_ofNat_of_zero_le r0
      have jl : j < zs.length := by omega
      refine .inl ⟨a, zs, _, zs[j], rfl, rfl, ?_, atI_nat (List.getElem?_eq_getElem jl), k o' _ fo (List.getElem_mem jl)⟩
      exact sq_put hne hsq
end

theorem endOf_pos : ∀ {m : Nat} {e : Nat × Nat} {r : Doc}, 1 ≤ endOf m (e :: r)
  | _, (_, d), [] => Nat.le_add_left _ _
  | _, (_, d), e :: r => endOf_pos (m := d + 1) (e := e) (r := r)
/-- texts of marks -/
def MarksOk (z : Str) : Prop := 0 < z.cps.toList.length ∧ z.cps.toList.length ≤ 8 ∧ ∀ c ∈ z.cps.toList, 97 ≤ c ∧ c ≤ 104
def spMarks (K : PySem.W.Frag) : Sp := fun vs H Q _ => ∃ (p : Addr) (m : Nat) (o : List V), vs = [.ref p] ∧ H p = some (.lst o) ∧ FeedOk (m + 1) o ∧
  ∀ (H' : Hp) (o' : List V) (z : Str), SameBut p H H' → H' p = some (.lst o') → FeedOk m o' → MarksOk z → Q (.str z) H'
def spDoc : Sp := fun vs H Q _ => ∃ (p : Addr) (most : Nat) (m : Nat) (o : List V), vs = [.ref p, .int most] ∧ H p = some (.lst o) ∧ FeedOk (m + 200) o ∧ most ≤ 62 ∧
  ∀ (H' : Hp) (q : Addr) (doc : Doc) (o' : List V), SameBut p H H' → H' p = some (.lst o') → FeedOk m o' → H q = none → DocAt H' q doc → okFrom 0 doc → doc.length ≤ most → Q (.ref q) H'
abbrev pDoc : List Str := ["feed", "most"]
/-- where the loop of a drawn document stands -/
structure DocInv (H : Hp) (p : Addr) (g : Addr) (i : Nat) (m : Nat) (d : Int) (H' : Hp) : Prop where
  but : SameBut p H H'
  new : H g = none
  ex : ∃ (o : List V) (vs : List V) (doc : Doc), H' p = some (.lst o) ∧ FeedOk m o ∧ H' g = some (.lst vs) ∧ EntsAt H' vs doc ∧ okFrom 0 doc ∧ doc.length = i ∧ d + 1 = (endOf 0 doc : Nat)
section
variable {P : Program} {w : World} {K : PySem.W.Frag} {mg : Str → Option Value} {base : Heap}
theorem scDoc : FnScope ["feed", "most", "marks", "many", "way", "got", "depth", "turn"] pDoc (defScope sDoc) := ⟨rfl, rfl, rfl, by decide +kernel, rfl, by decide +kernel, by decide +kernel⟩
theorem ok_marks (T : Bl mg) (Dd : Dn K mg "_law_draw" sDraw pDraw) (D1 : Dn K mg "_law_one" sOne pOne) (D : Dn K mg "_law_marks" sLMarks ["feed"]) : FnOk P w K mg base CX0 3 D.f D.fd ["feed"] (spMarks K) := by
  have G1 : FnOk P w K mg base CX0 2 D1.f D1.fd pOne (spOne K) := ok_one T Dd D1
  have sc : FnScope ["feed"] ["feed"] (defScope sLMarks) := ⟨rfl, rfl, rfl, by decide +kernel, rfl, by decide +kernel, by decide +kernel⟩
  refine D.F.ok sc (fun vs H Q E h => ?_) (fun cdv A outer s H vs Q E hr h => ?_)
  · obtain ⟨p, m, o, rfl, _⟩ := h
    rfl
  · obtain ⟨p, m, o, rfl, hp, hf, k⟩ := h
    refine ⟨_, pss_one (ps_ret (de_call D1 G1 hr (pa_cons (pv 0) (pa_cons (pe_lst (pa_cons pe_str (pa_cons pe_str (pa_cons pe_str (pa_cons pe_str (pa_cons pe_str pa_nil)))))) pa_nil)))), ?_⟩
    refine ⟨_, rfl, by show 5 ≤ sizeLine; decide, fun l0 hl0 => ?_⟩
    have n0 : l0 ≠ p := fun z => by subst z; rw [hp] at hl0; cases hl0
    have b1 : SameBut p H (upd H l0 (.lst [.str "a", .str "ab", .str "ab", .str "abc", .str "abcdefgh"])) := SameBut.refl.new hl0
    have p1 : (upd H l0 (.lst [.str "a", .str "ab", .str "ab", .str "abc", .str "abcdefgh"])) p = some (.lst o) := by rw [upd_ne n0.symm]; exact hp
    refine ⟨p, _, [.str "a", .str "ab", .str "ab", .str "abc", .str "abcdefgh"], m, o, rfl, p1, hf, .inr ⟨l0, rfl, n0, SqL.of upd_same⟩, by decide, by decide, fun o1 y1 f1 m1 => ?_⟩
    obtain ⟨mk, rfl, mok⟩ : ∃ z : Str, y1 = .str z ∧ MarksOk z := by
      simp only [List.mem_cons, List.not_mem_nil, or_false] at m1
      rcases m1 with e | e | e | e | e <;> exact ⟨_, e, by decide +kernel, by decide +kernel, by decide +kernel⟩
    exact k _ o1 mk b1.put upd_same f1 mok
theorem ok_doc (T : Bl mg) (Dd : Dn K mg "_law_draw" sDraw pDraw) (D1 : Dn K mg "_law_one" sOne pOne) (Dmk : Dn K mg "_law_marks" sLMarks ["feed"]) (D : Dn K mg "_law_document" sDoc pDoc) : FnOk P w K mg base CX0 4 D.f D.fd pDoc spDoc := by
  have GMK : FnOk P w K mg base CX0 3 Dmk.f Dmk.fd ["feed"] (spMarks K) := ok_marks T Dd D1 Dmk
  have GD : FnOk P w K mg base CX0 1 Dd.f Dd.fd pDraw spDraw := ok_draw T Dd
  have G1 : FnOk P w K mg base CX0 2 D1.f D1.fd pOne (spOne K) := ok_one T Dd D1
  refine D.F.ok scDoc (fun vs H Q E h => ?_) (fun cdv A outer s H vs Q E hr h => ?_)
  · obtain ⟨p, most, m, o, rfl, _⟩ := h
    rfl
  · obtain ⟨p, most, m, o, rfl, hp, hf, hm, k⟩ := h
    refine ⟨_, pss_cons (ps_par3 (i := 2) (j := 3) (l := 4) rfl scDoc.nd rfl rfl rfl (by decide) (by decide) (by decide) rfl rfl rfl
        (pa_cons (de_call Dmk GMK hr (pa_cons (pv 0) pa_nil))
        (pa_cons (de_call Dd GD hr (pa_cons (pv 0) (pa_cons (pe_op op_add (pv 1) pe_int) pa_nil)))
        (pa_cons (de_call Dd GD hr (pa_cons (pv 0) (pa_cons pe_int pa_nil))) pa_nil))) rfl)
      (pss_cons (ps_par (i := 5) (j := 6) rfl scDoc.nd rfl rfl (by decide) rfl rfl (pa_cons (pe_lst pa_nil) (pa_cons (pe_un un_neg pe_int) pa_nil)) rfl)
      (pss_cons (ps_for PassesOwn.never rfl (pi_range1 (by rfl) T.range (pa_cons (pv 3) pa_nil)) (pg_name (i := 7) scDoc.nd rfl (.inl rfl))
        (C8.pss_cut (ps_if (pt_cmpR op_eq (pv 4) pe_int (nomark _))
            (pss_one (ps_set (i := 6) scDoc.nd rfl (.inl rfl) (pe_ifExp (pt_cmpR op_eq (pv 7) pe_int (nomark _)) pe_int pe_int)))
            (pss_one (ps_if (pt_cmpR op_eq (pv 4) pe_int (nomark _))
              (pss_one (ps_set (i := 6) scDoc.nd rfl (.inl rfl) (pe_ifExp (pt_cmpR op_gt (de_call Dd GD hr (pa_cons (pv 0) (pa_cons pe_int pa_nil))) pe_int (nomark _)) (pe_op op_add (pv 6) pe_int)
                 (de_call Dd GD hr (pa_cons (pv 0) (pa_cons (pe_op op_add (pv 6) pe_int) pa_nil))))))
              (pss_one (ps_set (i := 6) scDoc.nd rfl (.inl rfl) (pe_callB (call_max2 rfl) (by rfl) T.max b_max (pa_cons pe_int (pa_cons (pe_callB (call_min2 rfl) (by rfl) T.min b_min (pa_cons (pe_op op_add (pv 6) pe_int) (pa_cons (de_call D1 G1 hr (pa_cons (pv 0) (pa_cons (pe_lst (pa_cons (pe_op op_add (pv 6) pe_int) (pa_cons (pe_op op_add (pv 6) pe_int) (pa_cons (pv 6) (pa_cons (pv 6) (pa_cons (pe_op op_sub (pv 6) pe_int) (pa_cons pe_int
                  (pa_cons (de_call Dd GD hr (pa_cons (pv 0) (pa_cons (pe_op op_add (pv 6) pe_int) pa_nil))) pa_nil)))))))) pa_nil))) pa_nil))) pa_nil))))))))
        (pss_one (ps_expr (pe_bm PySem.F.plainAttrs_list PySem.F.slot_list_append PySem.F.type_list_append mt_append (pv 5) (pa_cons (pe_tup (pa_cons (de_call D1 G1 hr (pa_cons (pv 0) (pa_cons (pv 2) pa_nil))) (pa_cons (pv 6) pa_nil))) pa_nil))))))
      (pss_one (ps_ret (pe_callTy call_tuple_of (by rfl) T.tuple b_tuple (pa_cons (pv 5) pa_nil)))))), ?_⟩
    -- the draws ahead of the loop
    refine ⟨_, rfl, p, m + 199, o, rfl, hp, hf, fun HM o1 mk b1 p1 f1 mok => ?_⟩
    have mw : Wd 1000 ((most : Int) + 1) := ⟨Nat.lt_of_le_of_lt (show ((most : Int) + 1).natAbs ≤ 63 by omega) (by decide +kernel)⟩
    refine ⟨_, rfl, _, rfl, _, _, rfl, rfl, p, _, m + 198, o1, rfl, p1, f1, by omega, mw, fun o2 r2 f2 r20 r21 => ?_⟩
    refine ⟨_, rfl, p, _, m + 197, o2, rfl, upd_same, f2, by decide, ⟨by decide +kernel⟩, fun o3 r3 f3 r30 r31 => ?_⟩
    rw [upd_upd]
    refine ⟨_, _, _, rfl, ?_⟩
    obtain ⟨many, rfl⟩ := Int.eq_ofNat_of_zero_le r20
    -- got, depth
    refine ⟨Nat.zero_le _, fun g hg => ?_⟩
    have g0 : g ≠ p := fun z => by subst z; rw [upd_same] at hg; cases hg
    have bp : SameBut p H (upd HM p (.lst o3)) := b1.put
    have gn : H g = none := bp.free hp ⟨_, upd_same⟩ hg
    refine ⟨_, rfl, _, _, rfl, ?_⟩
    -- the loop
    refine ⟨_, rfl, _, rfl, by omega, by omega, for_range (lo := 0) (n := many) (fun i σ H' => ∃ (d : Int) (t : Option V),
      σ = [some (.ref p), some (.int most), some (.str mk), some (.int many), some (.int r3), some (.ref g), some (.int d), t] ∧ DocInv H p g i (m + 3 * (many - i)) d H') ?_ ?_ ?_⟩
    · refine ⟨-1, none, rfl, bp.new hg, gn, o3, [], [], ?_, f3.less (by omega), upd_same, .nil, trivial, rfl, rfl⟩
      rw [upd_ne g0.symm]
      exact upd_same
    · rintro i σ H1 hi ⟨d, t, rfl, but, _, o4, vs, doc, hp1, hf1, hg1, ents, ok, len, hd⟩
      have up : endOf 0 doc ≤ 62 := by
        have := endOf_le ok
        omega
      -- what follows the if: depth is e
      refine ⟨fun σ' H' => ∃ (e : Nat) (o' : List V), σ' = [some (.ref p), some (.int most), some (.str mk), some (.int many), some (.int r3), some (.ref g), some (.int e), some (.int (0 + (i : Int)))] ∧
        e ≤ endOf 0 doc ∧ SameBut p H1 H' ∧ H' p = some (.lst o') ∧ FeedOk (m + 3 * (many - (i + 1)) + 1) o', ?_, ?_⟩
      · have fd2 : FeedOk (m + 3 * (many - (i + 1)) + 3) o4 := hf1.less (by omega)
        refine ⟨_, rfl, rfl, _, rfl, ?_⟩
        refine ite2 (fun way => ?_) (fun way => ?_)
        · refine ⟨_, rfl, rfl, _, rfl, ?_⟩
          refine ite2 (fun first => ?_) (fun first => ?_)
          · exact ⟨0, o4, rfl, Nat.zero_le _, SameBut.refl, hp1, fd2.less (by omega)⟩
          · refine ⟨1, o4, rfl, ?_, SameBut.refl, hp1, fd2.less (by omega)⟩
            have i0 : i ≠ 0 := fun z => by
              subst z
              exact first (decide_eq_true rfl)
            cases doc with
            | nil => exact absurd len.symm i0
            | cons e r => exact endOf_pos
        · refine ⟨_, rfl, rfl, _, rfl, ?_⟩
          refine ite2 (fun way => ?_) (fun way => ?_)
          · refine ⟨_, rfl, p, 9, m + 3 * (many - (i + 1)) + 2, o4, rfl, hp1, fd2, by decide, ⟨by decide +kernel⟩, fun o5 r5 f5 r50 r51 => ?_⟩
            refine ⟨_, _, rfl, rfl, _, rfl, ?_⟩
            refine ite2 (fun up1 => ?_) (fun up1 => ?_)
            · refine ⟨_, rfl, _, _, rfl, rfl, ?_⟩
              refine ⟨endOf 0 doc, o5, ?_, Nat.le_refl _, SameBut.refl.put, upd_same, f5.less (by omega)⟩
              rw [← hd]
              rfl
            · have dw : Wd 1000 (d + 2) := ⟨Nat.lt_of_le_of_lt (show (d + 2).natAbs ≤ 100 by omega) (by decide +kernel)⟩
              refine ⟨_, rfl, _, rfl, _, _, rfl, rfl, p, _, m + 3 * (many - (i + 1)) + 1, o5, rfl, upd_same, f5, by omega, dw, fun o6 r6 f6 r60 r61 => ?_⟩
              obtain ⟨e, rfl⟩ := Int.eq_ofNat_of_zero_le r60
              refine ⟨e, o6, rfl, by omega, ?_, upd_same, f6⟩
              exact SameBut.refl.put.put
          · have dw : Wd 1000 (d + 2) := ⟨Nat.lt_of_le_of_lt (show (d + 2).natAbs ≤ 100 by omega) (by decide +kernel)⟩
            refine ⟨_, rfl, _, _, rfl, rfl, _, rfl, _, rfl, _, _, rfl, rfl, _, rfl, _, _, rfl, rfl, _, rfl, _, rfl, _, rfl, _, _, rfl, rfl, ?_⟩
            refine ⟨_, rfl, _, rfl, _, _, rfl, rfl, p, _, m + 3 * (many - (i + 1)) + 2, o4, rfl, hp1, fd2, by omega, dw, fun o5 r5 f5 r50 r51 => ?_⟩
            refine ⟨by show 7 ≤ sizeLine; decide, fun l1 hl1 => ?_⟩
            have n1 : l1 ≠ p := fun z => by subst z; rw [upd_same] at hl1; cases hl1
            have b5 : SameBut p H1 (upd (upd H1 p (.lst o5)) l1 (.lst [.int (d + 1), .int (d + 1), .int d, .int d, .int (d - 1), .int 0, .int r5])) := (SameBut.refl.put).new hl1
            have p5 : (upd (upd H1 p (.lst o5)) l1 (.lst [.int (d + 1), .int (d + 1), .int d, .int d, .int (d - 1), .int 0, .int r5])) p = some (.lst o5) := by
              rw [upd_ne n1.symm]
              exact upd_same
            refine ⟨p, _, [.int (d + 1), .int (d + 1), .int d, .int d, .int (d - 1), .int 0, .int r5], m + 3 * (many - (i + 1)) + 1, o5, rfl, p5, f5, .inr ⟨l1, rfl, n1, SqL.of upd_same⟩, by show 0 < 7; decide, by show 7 ≤ 1000; decide, fun o6 y6 f6 m6 => ?_⟩
            obtain ⟨u, rfl⟩ : ∃ u : Int, y6 = .int u := by
              simp only [List.mem_cons, List.not_mem_nil, or_false] at m6
              rcases m6 with z | z | z | z | z | z | z <;> exact ⟨_, z⟩
            refine ⟨_, _, rfl, _, _, rfl, ?_⟩
            have q0 : ∃ e : Nat, (if (if u < d + 1 then u else d + 1) > 0 then (if u < d + 1 then u else d + 1) else 0) = (e : Int) ∧ e ≤ endOf 0 doc := by
              by_cases c1 : u < d + 1
              · rw [if_pos c1]
                by_cases c2 : u > 0
                · rw [if_pos c2]
                  exact ⟨u.toNat, by omega, by omega⟩
                · rw [if_neg c2]
                  exact ⟨0, rfl, Nat.zero_le _⟩
              · rw [if_neg c1]
                by_cases c2 : d + 1 > 0
                · rw [if_pos c2]
                  exact ⟨endOf 0 doc, by omega, Nat.le_refl _⟩
                · rw [if_neg c2]
                  exact ⟨0, rfl, Nat.zero_le _⟩
            obtain ⟨e, ee, el⟩ := q0
            refine ⟨e, o6, ?_, el, b5.put, upd_same, f6⟩
            show [some (V.ref p), some (V.int most), some (V.str mk), some (V.int many), some (V.int r3), some (V.ref g), some (V.int (if (if u < d + 1 then u else d + 1) > 0 then (if u < d + 1 then u else d + 1) else 0)), some (V.int (0 + (i : Int)))] = _
            rw [ee]
      · rintro σ' H' ⟨e, o', rfl, el, b6, hp6, f6⟩
        have hg6 : H' g = some (.lst vs) := b6 g _ g0 hg1
        have en6 : EntsAt H' vs doc := ents.mono (b6.tups hp1)
        have vl : vs.length = i := by rw [Paired.length en6]; exact len
        refine ⟨_, rfl, .inl ⟨rfl, _, SqL.of hg6⟩, ?_⟩
        refine ⟨_, rfl, _, rfl, p, _, mk.cps.toList.map (fun c => V.str ⟨#[c]⟩), m + 3 * (many - (i + 1)), o', rfl, hp6, f6, .inl ⟨mk, rfl, rfl⟩, by rw [List.length_map]; exact mok.1, by rw [List.length_map]; exact Nat.le_trans mok.2.1 (by decide), fun o7 y7 f7 m7 => ?_⟩
        obtain ⟨c, hc, rfl⟩ := List.mem_map.mp m7
        refine ⟨_, rfl, by show 2 ≤ sizeLine; decide, fun t7 ht7 => ?_⟩
        have tp7 : t7 ≠ p := fun z => by subst z; rw [upd_same] at ht7; cases ht7
        have ht6 : H' t7 = none := by rw [upd_ne tp7] at ht7; exact ht7
        have tg : t7 ≠ g := fun z => by subst z; rw [hg6] at ht6; cases ht6
        have hg7 : (upd (upd H' p (.lst o7)) t7 (.tup [.str ⟨#[c]⟩, .int (e : Nat)])) g = some (.lst vs) := by
          rw [upd_ne tg.symm, upd_ne g0]
          exact hg6
        refine ⟨g, vs, _, rfl, rfl, hg7, by rw [vl]; exact Nat.lt_of_lt_of_le (show i < 63 by omega) (by decide), ?_⟩
        refine ⟨e, _, rfl, ?_, gn, o7, vs ++ [.ref t7], doc ++ [(c, e)], ?_, f7, upd_same, ?_, okFrom_snoc ok (mok.2.2 c hc).1 (mok.2.2 c hc).2 el, ?_, ?_⟩
        · intro b ob nb eb
          have z := b6 b ob nb (but b ob nb eb)
          have z1 : (upd H' p (.lst o7)) b = some ob := by rw [upd_ne nb]; exact z
          rw [upd_ne (fun q => by subst q; rw [gn] at eb; cases eb), upd_ne (ne_of_none z1 ht7)]
          exact z1
        · rw [upd_ne g0.symm, upd_ne tp7.symm]
          exact upd_same
        · have k1 : ∀ b xs, H' b = some (.tup xs) → (upd (upd (upd H' p (.lst o7)) t7 (.tup [.str ⟨#[c]⟩, .int (e : Nat)])) g (.lst (vs ++ [.ref t7]))) b = some (.tup xs) := by
            intro b xs eb
            exact upd_tups hg7 b xs (new_tups ht7 b xs (upd_tups hp6 b xs eb))
          refine Paired.snoc (en6.mono k1) ⟨t7, rfl, ?_⟩
          rw [upd_ne tg]
          exact upd_same
        · rw [List.length_append, len]
          rfl
        · rw [endOf_snoc]
          rfl
    · rintro σ H1 ⟨d, t, rfl, but, _, o4, vs, doc, hp1, hf1, hg1, ents, ok, len, hd⟩
      refine ⟨_, rfl, g, vs, rfl, .inl ⟨SqL.of hg1, fun q hq => ?_⟩⟩
      have qp : q ≠ p := fun z => by subst z; rw [hp1] at hq; cases hq
      refine k _ q doc o4 (but.new hq) (by rw [upd_ne qp.symm]; exact hp1) (hf1.less (by omega)) (but.free hp ⟨_, hp1⟩ hq) ⟨vs, upd_same, ents.mono (new_tups hq)⟩ ok (by omega)
end

/-! ### basics: kinds of things -/
def markTexts : List Str := ["a", "b", "c", "d", "e", "f", "g", "h"]
def MarksAt (K : PySem.W.Frag) (mg : Str → Option Value) : Prop := ∃ a : Addr, mg "MARKS" = some (.ref a) ∧ ∀ H, SqT K H a (markTexts.map V.str)
def numberV : V → Bool
  | .int i => decide (0 ≤ i)
  | _ => false
def markV : V → Bool
  | .str z => decide (z ∈ markTexts)
  | _ => false
theorem any_text (z : Str) : ∀ l : List Str, (l.map V.str).any (fun y => eqV y (.str z)) = decide (z ∈ l)
  | [] => rfl
  | y :: l => by
    rw [List.map_cons, List.any_cons, any_text z l]
    show ((y == z) || decide (z ∈ l)) = _
    by_cases e : y = z
    · subst e
      simp
    · have e' : ¬ z = y := fun q => e q.symm
      simp [e, e']
def spWhole (K : PySem.W.Frag) : Sp := fun vs H Q _ => ∃ (x : V) (T : String), vs = [x] ∧ Any K H x T ∧ Q (.bl (T == "int")) H
def spNumber (K : PySem.W.Frag) : Sp := fun vs H Q _ => ∃ (x : V) (T : String), vs = [x] ∧ Any K H x T ∧ Q (.bl (numberV x)) H
def spMark (K : PySem.W.Frag) : Sp := fun vs H Q _ => ∃ (x : V) (T : String), vs = [x] ∧ Any K H x T ∧ Q (.bl (markV x)) H
def spNode (K : PySem.W.Frag) : Sp := fun vs H Q _ => ∃ (p : Addr) (xs : List V) (x : V) (T : String), vs = [.ref p, x] ∧ SqT K H p xs ∧ Any K H x T ∧
  Q (.bl (numberV x && (match x with | .int i => decide (i < xs.length) | _ => false))) H
abbrev pThing : List Str := ["thing"]
abbrev pNode : List Str := ["document", "thing"]
section
variable {P : Program} {w : World} {K : PySem.W.Frag} {mg : Str → Option Value} {base : Heap}
theorem ok_whole (T : Bl mg) (D : Dn K mg "is_whole" sWhole pThing) : FnOk P w K mg base CX0 1 D.f D.fd pThing (spWhole K) := by
  have sc : FnScope ["thing"] pThing (defScope sWhole) := ⟨rfl, rfl, rfl, by decide +kernel, rfl, by decide +kernel, by decide +kernel⟩
  refine D.F.ok sc (fun vs H Q E h => ?_) (fun cdv A outer s H vs Q E hr h => ?_)
  · obtain ⟨x, ty, rfl, _⟩ := h
    rfl
  · obtain ⟨x, ty, rfl, any, k⟩ := h
    refine ⟨_, pss_one (ps_ret (pe_and (pe_callB call_isi (by rfl) T.isinstance b_isinstance (pa_cons (pv 0) (pa_cons (pe_bltn (v := .ty "int") rfl T.int b_int rfl) pa_nil))) (pe_one (pe_not (pe_callB call_isi (by rfl) T.isinstance b_isinstance (pa_cons (pv 0) (pa_cons (pe_bltn (v := .ty "bool") rfl T.bool b_bool rfl) pa_nil))))))), ?_⟩
    obtain ⟨k1, k2, _, _⟩ := any.kit
    refine ⟨_, rfl, _, _, _, _, _, rfl, .ty "int", any.ty, k1, _, rfl, ite2 (fun c => ?_) (fun c => ?_)⟩
    · refine ⟨_, rfl, _, _, _, _, _, rfl, .ty "bool", any.ty, k2, _, rfl, ?_⟩
      have e : (!(ty == "bool")) = (ty == "int") := by cases any <;> first | rfl | exact absurd c (by decide)
      rw [e]
      exact k
    · have e : false = (ty == "int") := by cases any <;> first | rfl | exact absurd (by decide) c
      rw [e]
      exact k
theorem ok_number (T : Bl mg) (Dw : Dn K mg "is_whole" sWhole pThing) (D : Dn K mg "is_number" sNumber pThing) : FnOk P w K mg base CX0 2 D.f D.fd pThing (spNumber K) := by
  have GW : FnOk P w K mg base CX0 1 Dw.f Dw.fd pThing (spWhole K) := ok_whole T Dw
  have sc : FnScope ["thing"] pThing (defScope sNumber) := ⟨rfl, rfl, rfl, by decide +kernel, rfl, by decide +kernel, by decide +kernel⟩
  refine D.F.ok sc (fun vs H Q E h => ?_) (fun cdv A outer s H vs Q E hr h => ?_)
  · obtain ⟨x, ty, rfl, _⟩ := h
    rfl
  · obtain ⟨x, ty, rfl, any, k⟩ := h
    refine ⟨_, pss_one (ps_ret (pe_and (de_call Dw GW hr (pa_cons (pv 0) pa_nil)) (pe_one (pe_cmpR op_ge (pv 0) pe_int (nomark _))))), ?_⟩
    refine ⟨_, rfl, x, ty, rfl, any, _, rfl, ite2 (fun c => ?_) (fun c => ?_)⟩
    · cases any with
      | int i => exact ⟨_, rfl, _, _, rfl, rfl, k⟩
      | _ => exact absurd c (by decide)
    · cases any with
      | int i => exact absurd (by decide) c
      | _ => exact k
theorem ok_mark (T : Bl mg) (hm : MarksAt K mg) (D : Dn K mg "is_mark" sMark pThing) : FnOk P w K mg base CX0 1 D.f D.fd pThing (spMark K) := by
  have sc : FnScope ["thing"] pThing (defScope sMark) := ⟨rfl, rfl, rfl, by decide +kernel, rfl, by decide +kernel, by decide +kernel⟩
  refine D.F.ok sc (fun vs H Q E h => ?_) (fun cdv A outer s H vs Q E hr h => ?_)
  · obtain ⟨x, ty, rfl, _⟩ := h
    rfl
  · obtain ⟨x, ty, rfl, any, k⟩ := h
    obtain ⟨aM, gM, sM⟩ := hm
    refine ⟨_, pss_one (ps_ret (pe_and (pe_callB call_isi (by rfl) T.isinstance b_isinstance (pa_cons (pv 0) (pa_cons (pe_bltn (v := .ty "str") rfl T.str b_str rfl) pa_nil))) (pe_one (pe_cmpR op_in_seq (pv 0) (pe_glob (v := .ref aM) rfl gM rfl) (by rfl))))), ?_⟩
    obtain ⟨_, _, k3, _⟩ := any.kit
    refine ⟨_, rfl, _, _, _, _, _, rfl, .ty "str", any.ty, k3, _, rfl, ite2 (fun c => ?_) (fun c => ?_)⟩
    · cases any with
      | str z =>
        refine ⟨_, rfl, aM, _, rfl, .inr (sM _), rfl, by decide +kernel, ?_⟩
        have e : inV (.str z) (markTexts.map V.str) = markV (.str z) := by
          exact any_text z markTexts
        show Q (.bl (if false = true then _ else inV (.str z) (markTexts.map V.str))) H
        rw [if_neg Bool.false_ne_true, e]
        exact k
      | _ => exact absurd c (by decide)
    · cases any with
      | str i => exact absurd (by decide) c
      | _ => exact k
end

/-! ### basics: ways through a document -/
def dep (doc : Doc) (i : Nat) : Nat := (doc.getD i (0, 0)).2
def vO : Option Nat → V
  | none => .non
  | some i => .int (i : Nat)
def belowOf (doc : Doc) : Option Nat → Nat
  | none => 0
  | some i => dep doc i + 1
def firstOf : Option Nat → Nat
  | none => 0
  | some i => i + 1
def inDoc (doc : Doc) (o : Option Nat) : Prop := ∀ i, o = some i → i < doc.length
/-- the numbers, from k on, of the entries of the depth d, until one comes that is less deep -/
def rowL (d : Nat) : Nat → Doc → List Nat
  | _, [] => []
  | k, (_, e) :: r => if e < d then [] else if e = d then k :: rowL d (k + 1) r else rowL d (k + 1) r
def rowOf (doc : Doc) (o : Option Nat) : List Nat := rowL (belowOf doc o) (firstOf o) (doc.drop (firstOf o))
def nV (l : List Nat) : List V := l.map fun n => V.int (n : Nat)
/-- the parents: the path down to each node, shortened to its depth -/
def parL : List Nat → Nat → Doc → List (Option Nat)
  | _, _, [] => []
  | path, i, (_, d) :: r => (path.take d).getLast? :: parL (path.take d ++ [i]) (i + 1) r
def parsOf (doc : Doc) : List (Option Nat) := parL [] 0 doc
theorem DocAt.ent {H : Hp} {p : Addr} {doc : Doc} (h : DocAt H p doc) {i : Nat} (hi : i < doc.length) :
    ∃ vs r c, H p = some (.tup vs) ∧ vs[i]? = some (V.ref r) ∧ H r = some (.tup [.str ⟨#[c]⟩, .int (dep doc i : Nat)]) ∧ vs.length = doc.length ∧ c = (doc.getD i (0, 0)).1 := by
  obtain ⟨vs, e, q⟩ := h
  have len := Paired.length q
  have get : ∀ {vs : List V} {doc : Doc} {i : Nat}, EntsAt H vs doc → i < doc.length → ∃ v, vs[i]? = some v ∧ EntAt H v (doc.getD i (0, 0)) := by
    intro vs doc i q
    induction q generalizing i with
    | nil => intro h; exact absurd h (Nat.not_lt_zero _)
    | cons r t ih =>
      intro h
      cases i with
      | zero => exact ⟨_, rfl, r⟩
      | succ i =>
        obtain ⟨v, e1, e2⟩ := ih (Nat.lt_of_succ_lt_succ h)
        exact ⟨v, by simpa using e1, by simpa using e2⟩
  obtain ⟨v, e1, r, rfl, e2⟩ := get q hi
  exact ⟨vs, r, _, e, e1, e2, len, rfl⟩
def spBelow : Sp := fun vs H Q _ => ∃ (p : Addr) (doc : Doc) (o : Option Nat), vs = [.ref p, vO o] ∧ DocAt H p doc ∧ inDoc doc o ∧ Q (.int (belowOf doc o : Nat)) H
def spFirst : Sp := fun vs H Q _ => ∃ o : Option Nat, vs = [vO o] ∧ Q (.int (firstOf o : Nat)) H
def spRow : Sp := fun vs H Q _ => ∃ (p : Addr) (doc : Doc) (o : Option Nat), vs = [.ref p, vO o] ∧ DocAt H p doc ∧ inDoc doc o ∧ doc.length ≤ 20000 ∧
  ∀ q, H q = none → Q (.ref q) (upd H q (.lst (nV (rowOf doc o))))
def spParents : Sp := fun vs H Q _ => ∃ (p : Addr) (doc : Doc), vs = [.ref p] ∧ DocAt H p doc ∧ doc.length ≤ 20000 ∧
  ∀ (H' : Hp) (q : Addr), Same H H' → H q = none → H' q = some (.lst ((parsOf doc).map vO)) → Q (.ref q) H'
abbrev pPar : List Str := ["document", "parent"]
abbrev pDocu : List Str := ["document"]
section
variable {P : Program} {w : World} {K : PySem.W.Frag} {mg : Str → Option Value} {base : Heap}
theorem rowL_cons {d k : Nat} {doc : Doc} {i : Nat} (h : i < doc.length) : rowL d k (doc.drop i) =
    if dep doc i < d then [] else if dep doc i = d then k :: rowL d (k + 1) (doc.drop (i + 1)) else rowL d (k + 1) (doc.drop (i + 1)) := by
  rw [List.drop_eq_getElem_cons h]
  have e : doc[i] = ((doc[i]).1, dep doc i) := by
    unfold dep
    rw [List.getD_eq_getElem?_getD, List.getElem?_eq_getElem h]
    rfl
  rw [e]
  rfl
theorem delV (xs : List V) (d : Nat) : xs.take (HT.sIx xs.length 0 (some (d : Int))) ++ xs.drop (max (HT.sIx xs.length 0 (some (d : Int))) (HT.sIx xs.length xs.length none)) = xs.take d := by
  rw [HT.sIx_none, HT.sIx_nat, Nat.max_eq_right (Nat.min_le_right _ _), List.drop_length, List.append_nil]
  by_cases h : d ≤ xs.length
  · rw [Nat.min_eq_left h]
  · rw [Nat.min_eq_right (by omega), List.take_of_length_le (Nat.le_refl _), List.take_of_length_le (by omega)]
theorem parL_len : ∀ {path : List Nat} {i : Nat} {doc : Doc}, (parL path i doc).length = doc.length
  | _, _, [] => rfl
  | _, _, (_, _) :: r => congrArg (· + 1) (parL_len (doc := r))
end

/-! ### documents that are right -/
abbrev pNode' : List Str := ["document", "node"]
def MostAt (mg : Str → Option Value) : Prop := ∃ t, mg "MOST_NODES" = some (.int 20000 t)
theorem mark_ok {c : Nat} (h0 : 97 ≤ c) (h1 : c ≤ 104) : markV (.str ⟨#[c]⟩) = true := by
  obtain ⟨k, rfl⟩ : ∃ k, c = 97 + k := ⟨c - 97, by omega⟩
  have hk : k < 8 := by omega
  match k, hk with
  | 0, _ => decide +kernel
  | 1, _ => decide +kernel
  | 2, _ => decide +kernel
  | 3, _ => decide +kernel
  | 4, _ => decide +kernel
  | 5, _ => decide +kernel
  | 6, _ => decide +kernel
  | 7, _ => decide +kernel
  | n + 8, h => exact absurd h (by omega)
def spEntryV : Sp := fun vs H Q _ => ∃ (v : V) (e : Nat × Nat), vs = [v] ∧ EntAt H v e ∧ 97 ≤ e.1 ∧ e.1 ≤ 104 ∧ Q (.bl true) H
def spIsDocV : Sp := fun vs H Q _ => ∃ (p : Addr) (doc : Doc), vs = [.ref p] ∧ DocAt H p doc ∧ okFrom 0 doc ∧ doc.length ≤ 20000 ∧ Q (.bl true) H
def spChkDocV : Sp := fun vs H Q _ => ∃ (p : Addr) (doc : Doc), vs = [.ref p] ∧ DocAt H p doc ∧ okFrom 0 doc ∧ doc.length ≤ 20000 ∧ Q .non H
def spChkNodeV : Sp := fun vs H Q _ => ∃ (p : Addr) (doc : Doc) (i : Nat), vs = [.ref p, .int i] ∧ DocAt H p doc ∧ i < doc.length ∧ Q .non H
def sizStep (pars : List (Option Nat)) (l : List Nat) (k : Nat) : List Nat :=
  match pars.getD k none with
  | none => l
  | some a => l.set a (l.getD a 0 + l.getD k 0)
def sizL (pars : List (Option Nat)) : Nat → List Nat → List Nat
  | 0, l => l
  | k + 1, l => sizL pars k (sizStep pars l k)
def sizesOf (doc : Doc) : List Nat := sizL (parsOf doc) doc.length (List.replicate doc.length 1)
def spPars : Sp := fun vs H Q _ => ∃ (p : Addr) (doc : Doc), vs = [.ref p] ∧ DocAt H p doc ∧ okFrom 0 doc ∧ doc.length ≤ 20000 ∧
  ∀ (H' : Hp) (q : Addr), Same H H' → H q = none → H' q = some (.tup ((parsOf doc).map vO)) → Q (.ref q) H'
def spKids : Sp := fun vs H Q _ => ∃ (p : Addr) (doc : Doc) (o : Option Nat), vs = [.ref p, vO o] ∧ DocAt H p doc ∧ okFrom 0 doc ∧ doc.length ≤ 20000 ∧ inDoc doc o ∧
  ∀ (H' : Hp) (q : Addr), Same H H' → H q = none → H' q = some (.tup (nV (rowOf doc o))) → Q (.ref q) H'
def spSizes : Sp := fun vs H Q _ => ∃ (p : Addr) (doc : Doc), vs = [.ref p] ∧ DocAt H p doc ∧ okFrom 0 doc ∧ doc.length ≤ 20000 ∧
  ∀ (H' : Hp) (q : Addr), Same H H' → H q = none → H' q = some (.tup (nV (sizesOf doc))) → Q (.ref q) H'
theorem EntsAt.get {H : Hp} {vs : List V} {doc : Doc} (q : EntsAt H vs doc) : ∀ {i : Nat} {v : V}, vs[i]? = some v → ∃ e, doc[i]? = some e ∧ EntAt H v e := by
  induction q with
  | nil => intro i v h; simp at h
  | cons r t ih =>
    intro i v h
    cases i with
    | zero =>
      have q := h
      simp at q
      subst q
      exact ⟨_, rfl, r⟩
    | succ i =>
      obtain ⟨e, e1, e2⟩ := ih (i := i) (v := v) (by simpa using h)
      exact ⟨e, by simpa using e1, e2⟩
theorem okFrom_at : ∀ {m : Nat} {doc : Doc} {i : Nat} {e : Nat × Nat}, okFrom m doc → doc[i]? = some e → 97 ≤ e.1 ∧ e.1 ≤ 104 ∧ e.2 ≤ endOf m (doc.take i)
  | _, [], _, _, _, h => by simp at h
  | m, (c, d) :: r, 0, e, h, he => by
    have : (c, d) = e := by simpa using he
    subst this
    exact ⟨h.1, h.2.1, h.2.2.1⟩
  | m, (c, d) :: r, i + 1, e, h, he => okFrom_at (m := d + 1) h.2.2.2 (by simpa using he)
theorem endOf_take {m : Nat} {doc : Doc} {i : Nat} {e : Nat × Nat} (he : doc[i]? = some e) : endOf m (doc.take (i + 1)) = e.2 + 1 := by
  obtain ⟨lt, rfl⟩ := List.getElem?_eq_some_iff.mp he
  rw [List.take_succ_eq_append_getElem lt]
  have : doc[i] = ((doc[i]).1, (doc[i]).2) := rfl
  rw [this, endOf_snoc]
section
variable {P : Program} {w : World} {K : PySem.W.Frag} {mg : Str → Option Value} {base : Heap}
theorem ok_entryV (T : Bl mg) (hm : MarksAt K mg) (Dw : Dn K mg "is_whole" sWhole pThing) (Dnu : Dn K mg "is_number" sNumber pThing) (Dm : Dn K mg "is_mark" sMark pThing)
    (D : Dn K mg "_is_entry" sEntry pThing) : FnOk P w K mg base CX0 3 D.f D.fd pThing spEntryV := by
  have GN : FnOk P w K mg base CX0 2 Dnu.f Dnu.fd pThing (spNumber K) := ok_number T Dw Dnu
  have GM : FnOk P w K mg base CX0 1 Dm.f Dm.fd pThing (spMark K) := ok_mark T hm Dm
  have sc : FnScope ["thing"] pThing (defScope sEntry) := ⟨rfl, rfl, rfl, by decide +kernel, rfl, by decide +kernel, by decide +kernel⟩
  refine D.F.ok sc (fun vs H Q E h => ?_) (fun cdv A outer s H vs Q E hr h => ?_)
  · obtain ⟨v, e, rfl, _⟩ := h
    rfl
  · obtain ⟨v, ⟨c, d⟩, rfl, ⟨r, rfl, hr1⟩, h0, h1, k⟩ := h
    refine ⟨_, pss_one (ps_ret (pe_and (pe_callB call_isi (by rfl) T.isinstance b_isinstance (pa_cons (pv 0) (pa_cons (pe_bltn (v := .ty "tuple") rfl T.tuple b_tuple rfl) pa_nil))) (pe_and (pe_cmpR op_eq (pe_callB call_len_seq (by rfl) T.len b_len (pa_cons (pv 0) pa_nil)) pe_int (nomark _))
      (pe_and (de_call Dm GM hr (pa_cons (pe_ix ix_tup (pv 0) pe_int (fun _ _ => rfl)) pa_nil)) (pe_one (de_call Dnu GN hr (pa_cons (pe_ix ix_tup (pv 0) pe_int (fun _ _ => rfl)) pa_nil))))))), ?_⟩
    have any : Any K H (.ref r) "tuple" := .tup (SqT.of hr1)
    refine ⟨_, rfl, _, _, _, _, _, rfl, .ty "tuple", any.ty, any.kit.2.2.2, _, rfl, iteT ?_⟩
    refine ⟨_, rfl, r, _, rfl, .inr (SqT.of hr1), rfl, _, rfl, iteT ?_⟩
    refine ⟨_, rfl, r, _, 0, _, rfl, rfl, SqT.of hr1, rfl, _, _, rfl, .str _, _, rfl, ?_⟩
    rw [mark_ok h0 h1]
    refine iteT ?_
    refine ⟨_, rfl, r, _, 1, _, rfl, rfl, SqT.of hr1, rfl, _, _, rfl, .int _, ?_⟩
    have z : numberV (.int (d : Nat)) = true := by
      show decide (0 ≤ ((d : Nat) : Int)) = true
      exact decide_eq_true (by omega)
    show Q (.bl (numberV (.int (d : Nat)))) H
    rw [z]
    exact k
theorem ok_isdocV (T : Bl mg) (hm : MarksAt K mg) (hM : MostAt mg) (Dw : Dn K mg "is_whole" sWhole pThing) (Dnu : Dn K mg "is_number" sNumber pThing) (Dm : Dn K mg "is_mark" sMark pThing)
    (De : Dn K mg "_is_entry" sEntry pThing) (D : Dn K mg "is_document" sIsDoc pThing) : FnOk P w K mg base CX0 4 D.f D.fd pThing spIsDocV := by
  have GE : FnOk P w K mg base CX0 3 De.f De.fd pThing spEntryV := ok_entryV T hm Dw Dnu Dm De
  obtain ⟨tM, gM⟩ := hM
  have sc : FnScope ["thing", "deepest", "entry"] pThing (defScope sIsDoc) := ⟨rfl, rfl, rfl, by decide +kernel, rfl, by decide +kernel, by decide +kernel⟩
  refine D.F.ok sc (fun vs H Q E h => ?_) (fun cdv A outer s H vs Q E hr h => ?_)
  · obtain ⟨v, e, rfl, _⟩ := h
    rfl
  · obtain ⟨p, doc, rfl, hd, ok, hl, k⟩ := h
    refine ⟨_, pss_cons (ps_if (PW.pt (pw_or (pt_not (pt_val (pe_callB call_isi (by rfl) T.isinstance b_isinstance (pa_cons (pv 0) (pa_cons (pe_bltn (v := .ty "tuple") rfl T.tuple b_tuple rfl) pa_nil))))) (pw_or1 (pt_cmpR op_gt (pe_callB call_len_seq (by rfl) T.len b_len (pa_cons (pv 0) pa_nil)) (pe_glob (v := .int 20000) rfl gM ⟨tM, rfl⟩) (nomark _))))) (pss_never) pss_nil)
      (pss_cons (ps_set (i := 1) sc.nd rfl (.inl rfl) pe_int)
      (pss_cons (ps_for PassesOwn.never rfl (pi_tup (pv 0)) (pg_name (i := 2) sc.nd rfl (.inl rfl))
        (pss_cons (ps_if (PW.pt (pw_or (pt_not (pt_val (de_call De GE hr (pa_cons (pv 2) pa_nil)))) (pw_or1 (pt_cmpR op_gt (pe_ix ix_tup (pv 2) pe_int (fun _ _ => rfl)) (pv 1) (nomark _))))) (pss_never) pss_nil)
        (pss_one (ps_set (i := 1) sc.nd rfl (.inl rfl) (pe_op op_add (pe_ix ix_tup (pv 2) pe_int (fun _ _ => rfl)) pe_int)))))
      (pss_one (ps_ret pe_bl)))), ?_⟩
    obtain ⟨ws, ews, qws⟩ := id hd
    have len := Paired.length qws
    have sq : SqT K H p ws := SqT.of ews
    have any : Any K H (.ref p) "tuple" := .tup sq
    refine ⟨_, rfl, _, _, _, _, _, rfl, .ty "tuple", any.ty, any.kit.2.2.2, _, rfl, iteF ?_⟩
    refine ⟨_, rfl, p, ws, rfl, .inr sq, _, _, rfl, rfl, _, rfl, ?_⟩
    rw [decide_eq_false (by omega)]
    refine iteF ?_
    refine ⟨_, rfl, p, rfl, ⟨ws, sq⟩, for_tup (K := K) (a := p) (xs := ws) (fun i σ H' => H' = H ∧ i ≤ doc.length ∧ ∃ b : Option V, σ = [some (.ref p), some (.int (endOf 0 (doc.take i) : Nat)), b]) ?_ ?_ ?_ ?_⟩
    · exact ⟨rfl, Nat.zero_le _, none, rfl⟩
    · rintro i σ H' hi ⟨rfl, _, _⟩
      exact sq
    · rintro i x σ H' hx ⟨rfl, il, b, rfl⟩
      obtain ⟨e, he, r, rfl, hr2⟩ := qws.get hx
      obtain ⟨m0, m1, dle⟩ := okFrom_at ok he
      refine ⟨_, rfl, .ref r, e, rfl, ⟨r, rfl, hr2⟩, m0, m1, _, rfl, iteF ?_⟩
      refine ⟨_, rfl, r, _, 1, _, rfl, rfl, SqT.of hr2, rfl, _, rfl, _, _, rfl, rfl, _, rfl, ?_⟩
      rw [decide_eq_false (by omega)]
      refine iteF ?_
      refine ⟨_, rfl, r, _, 1, _, rfl, rfl, SqT.of hr2, rfl, _, _, rfl, rfl, rfl, (List.getElem?_eq_some_iff.mp he).1, some (.ref r), ?_⟩
      rw [endOf_take he]
      rfl
    · rintro σ H' ⟨rfl, il, b, rfl⟩
      exact k
/-! ### parents, children, sizes -/
theorem sizStep_len {pars : List (Option Nat)} {l : List Nat} {k : Nat} : (sizStep pars l k).length = l.length := by
  unfold sizStep
  split
  · rfl
  · rw [List.length_set]
theorem parL_lt : ∀ {path : List Nat} {i : Nat} {doc : Doc}, (∀ a ∈ path, a < i) → ∀ {j a : Nat}, (parL path i doc)[j]? = some (some a) → a < i + j
  | _, _, [], _, _, _, h => by simp [parL] at h
  | path, i, (_, d) :: r, hp, 0, a, h => by
    have e : (path.take d).getLast? = some a := by simpa [parL] using h
    have m := List.mem_of_getLast? e
    exact hp a (List.mem_of_mem_take m)
  | path, i, (_, d) :: r, hp, j + 1, a, h => by
    have q := parL_lt (path := path.take d ++ [i]) (i := i + 1) (doc := r) (fun b hb => ?_) (j := j) (a := a) (by simpa [parL] using h)
    · omega
    · rcases List.mem_append.mp hb with hb | hb
      · exact Nat.lt_succ_of_lt (hp b (List.mem_of_mem_take hb))
      · rw [List.mem_singleton.mp hb]
        exact Nat.lt_succ_self _
theorem parsOf_lt {doc : Doc} {j a : Nat} (h : (parsOf doc)[j]? = some (some a)) : a < j := by
  have := parL_lt (path := []) (i := 0) (doc := doc) (fun b hb => absurd hb (List.not_mem_nil)) h
  omega
end

theorem Same.new {H : Hp} {p : Addr} {o : HO} (h : H p = none) : Same H (upd H p o) := fun b u e => by
  rw [upd_ne (ne_of_none e h)]
  exact e

/-! ### any object, as far as documents and edits look at it -/
inductive PD where
  | non | bl (b : Bool) | int (i : Int) | str (z : Str) | tup (ds : List PD) | oth
mutual
inductive Rep (K : PySem.W.Frag) (H : Hp) : V → PD → Prop
  | non : Rep K H .non .non
  | bl (b : Bool) : Rep K H (.bl b) (.bl b)
  | int (i : Int) : Rep K H (.int i) (.int i)
  | str (z : Str) (hz : z.length ≤ 1000) : Rep K H (.str z) (.str z)
  | tup {a : Addr} {xs : List V} {ds : List PD} : H a = some (.tup xs) → Reps K H xs ds → Rep K H (.ref a) (.tup ds)
  | oth {a : Addr} {T : String} : Any K H (.ref a) T → (T == "tuple") = false → (∀ xs, H a ≠ some (.tup xs)) → Rep K H (.ref a) .oth
inductive Reps (K : PySem.W.Frag) (H : Hp) : List V → List PD → Prop
  | nil : Reps K H [] []
  | cons {v : V} {vs : List V} {d : PD} {ds : List PD} : Rep K H v d → Reps K H vs ds → Reps K H (v :: vs) (d :: ds)
end
def tyP : PD → String
  | .non => "NoneType" | .bl _ => "bool" | .int _ => "int" | .str _ => "str" | .tup _ => "tuple" | .oth => "list"
theorem Rep.any {K : PySem.W.Frag} {H : Hp} {v : V} {d : PD} (h : Rep K H v d) : ∃ T, Any K H v T ∧ (T == "tuple") = (match d with | .tup _ => true | _ => false) ∧ (T == "str") = (match d with | .str _ => true | _ => false) := by
  cases h with
  | non => exact ⟨_, .non, rfl, rfl⟩
  | bl b => exact ⟨_, .bl b, rfl, rfl⟩
  | int i => exact ⟨_, .int i, rfl, rfl⟩
  | str z _ => exact ⟨_, .str z, rfl, rfl⟩
  | tup e _ => exact ⟨_, .tup (SqT.of e), rfl, rfl⟩
  | oth a n _ =>
    refine ⟨_, a, n, ?_⟩
    cases a <;> rfl
def numP : PD → Bool
  | .int i => decide (0 ≤ i)
  | _ => false
def markP : PD → Bool
  | .str z => decide (z ∈ markTexts)
  | _ => false
theorem Rep.num {K : PySem.W.Frag} {H : Hp} {v : V} {d : PD} (h : Rep K H v d) : numberV v = numP d := by cases h <;> rfl
theorem Rep.mark {K : PySem.W.Frag} {H : Hp} {v : V} {d : PD} (h : Rep K H v d) : markV v = markP d := by cases h <;> rfl
theorem Reps.len {K : PySem.W.Frag} {H : Hp} : ∀ {vs : List V} {ds : List PD}, Reps K H vs ds → vs.length = ds.length
  | _, _, .nil => rfl
  | _, _, .cons _ t => congrArg (· + 1) t.len
theorem Reps.at_ {K : PySem.W.Frag} {H : Hp} : ∀ {vs : List V} {ds : List PD} {i : Nat} {v : V}, Reps K H vs ds → vs[i]? = some v → ∃ d, ds[i]? = some d ∧ Rep K H v d
  | _, _, _, _, .nil, e => by simp at e
  | _, _, 0, _, .cons r _, e => by simp at e; subst e; exact ⟨_, rfl, r⟩
  | _, _, i + 1, v, .cons _ t, e => by
    obtain ⟨d, h1, h2⟩ := t.at_ (i := i) (v := v) (by simpa using e)
    exact ⟨d, by simpa using h1, h2⟩
/-- what is said of an entry of a document: its depth, if it is one -/
def entP : PD → Option Int
  | .tup [m, n] => if markP m = true then (match n with | .int i => if 0 ≤ i then some i else none | _ => none) else none
  | _ => none
def docFrom : Int → List PD → Bool
  | _, [] => true
  | m, e :: r => match entP e with
    | none => false
    | some i => if m < i then false else docFrom (i + 1) r
def docP : PD → Bool
  | .tup ds => decide (ds.length ≤ 20000) && docFrom 0 ds
  | _ => false
def spEntryG (K : PySem.W.Frag) : Sp := fun vs H Q _ => ∃ (v : V) (d : PD), vs = [v] ∧ Rep K H v d ∧ Q (.bl (entP d).isSome) H
def spIsDocG (K : PySem.W.Frag) : Sp := fun vs H Q _ => ∃ (v : V) (d : PD), vs = [v] ∧ Rep K H v d ∧ Q (.bl (docP d)) H
theorem Rep.tupOf {K : PySem.W.Frag} {H : Hp} {v : V} {ds : List PD} (h : Rep K H v (.tup ds)) : ∃ a xs, v = .ref a ∧ H a = some (.tup xs) ∧ Reps K H xs ds := by
  cases h with
  | tup e q => exact ⟨_, _, rfl, e, q⟩
theorem reps2 {K : PySem.W.Frag} {H : Hp} {xs : List V} {a b : PD} (h : Reps K H xs [a, b]) : ∃ x y, xs = [x, y] ∧ Rep K H x a ∧ Rep K H y b := by
  cases h with
  | cons h1 t => cases t with
    | cons h2 t2 => cases t2; exact ⟨_, _, rfl, h1, h2⟩
section
variable {P : Program} {w : World} {K : PySem.W.Frag} {mg : Str → Option Value} {base : Heap}
theorem ok_entryG (T : Bl mg) (hm : MarksAt K mg) (Dw : Dn K mg "is_whole" sWhole pThing) (Dnu : Dn K mg "is_number" sNumber pThing) (Dm : Dn K mg "is_mark" sMark pThing)
    (D : Dn K mg "_is_entry" sEntry pThing) : FnOk P w K mg base CX0 3 D.f D.fd pThing (spEntryG K) := by
  have GN : FnOk P w K mg base CX0 2 Dnu.f Dnu.fd pThing (spNumber K) := ok_number T Dw Dnu
  have GM : FnOk P w K mg base CX0 1 Dm.f Dm.fd pThing (spMark K) := ok_mark T hm Dm
  have sc : FnScope ["thing"] pThing (defScope sEntry) := ⟨rfl, rfl, rfl, by decide +kernel, rfl, by decide +kernel, by decide +kernel⟩
  refine D.F.ok sc (fun vs H Q E h => ?_) (fun cdv A outer s H vs Q E hr h => ?_)
  · obtain ⟨v, e, rfl, _⟩ := h
    rfl
  · obtain ⟨v, d, rfl, rep, k⟩ := h
    refine ⟨_, pss_one (ps_ret (pe_and (pe_callB call_isi (by rfl) T.isinstance b_isinstance (pa_cons (pv 0) (pa_cons (pe_bltn (v := .ty "tuple") rfl T.tuple b_tuple rfl) pa_nil))) (pe_and (pe_cmpR op_eq (pe_callB call_len_seq (by rfl) T.len b_len (pa_cons (pv 0) pa_nil)) pe_int (nomark _))
      (pe_and (de_call Dm GM hr (pa_cons (pe_ix ix_tup (pv 0) pe_int (fun _ _ => rfl)) pa_nil)) (pe_one (de_call Dnu GN hr (pa_cons (pe_ix ix_tup (pv 0) pe_int (fun _ _ => rfl)) pa_nil))))))), ?_⟩
    obtain ⟨ty, any, t1, _⟩ := rep.any
    refine ⟨_, rfl, _, _, _, _, _, rfl, .ty "tuple", any.ty, any.kit.2.2.2, _, rfl, ?_⟩
    rw [t1]
    have no : ∀ e, entP e = none → Q (.bl (entP e).isSome) H = Q (.bl false) H := fun e z => by rw [z]; rfl
    match d, rep, k with
    | .non, _, k => exact iteF k
    | .bl _, _, k => exact iteF k
    | .int _, _, k => exact iteF k
    | .str _, _, k => exact iteF k
    | .oth, _, k => exact iteF k
    | .tup ds, rep, k =>
      obtain ⟨a, xs, rfl, e, reps⟩ := rep.tupOf
      have len := reps.len
      refine iteT ⟨_, rfl, a, xs, rfl, .inr (SqT.of e), rfl, _, rfl, ?_⟩
      match ds, reps, k, len with
      | [], _, k, len =>
        refine ite2 (fun c => ?_) (fun _ => k)
        have := of_decide_eq_true c
        injection this with this
        rw [List.length_nil] at len
        omega
      | [x], _, k, len =>
        refine ite2 (fun c => ?_) (fun _ => k)
        have := of_decide_eq_true c
        injection this with this
        rw [List.length_singleton] at len
        omega
      | x :: y :: z :: r, _, k, len =>
        refine ite2 (fun c => ?_) (fun _ => k)
        have := of_decide_eq_true c
        injection this with this
        rw [List.length_cons, List.length_cons, List.length_cons] at len
        omega
      | [m, n], reps, k, len =>
        obtain ⟨x, y, rfl, rx, ry⟩ := reps2 reps
        refine ite2 (fun _ => ?_) (fun c => absurd rfl c)
        obtain ⟨tx, anx, _⟩ := rx.any
        obtain ⟨ty', any', _⟩ := ry.any
        refine ⟨_, rfl, a, _, 0, _, rfl, rfl, SqT.of e, rfl, x, tx, rfl, anx, _, rfl, ?_⟩
        rw [rx.mark]
        refine ite2 (fun c => ?_) (fun c => ?_)
        · refine ⟨_, rfl, a, _, 1, _, rfl, rfl, SqT.of e, rfl, y, ty', rfl, any', ?_⟩
          rw [ry.num]
          have z : (entP (.tup [m, n])).isSome = numP n := by
            show (if markP m = true then (match n with | .int i => if 0 ≤ i then some i else none | _ => none) else none).isSome = _
            rw [if_pos c]
            cases n with
            | int i =>
              show (if 0 ≤ i then some i else none).isSome = decide (0 ≤ i)
              by_cases q : 0 ≤ i
              · rw [if_pos q, decide_eq_true q]; rfl
              · rw [if_neg q, decide_eq_false q]; rfl
            | _ => rfl
          rw [z] at k
          exact k
        · have z : (entP (.tup [m, n])).isSome = false := by
            show (if markP m = true then (match n with | .int i => if 0 ≤ i then some i else none | _ => none) else none).isSome = _
            rw [if_neg c]
            rfl
          rw [z] at k
          exact k
theorem ent_shape {d : PD} {i : Int} (h : entP d = some i) : ∃ m, d = .tup [m, .int i] ∧ markP m = true ∧ 0 ≤ i := by
  match d, h with
  | .tup [m, n], h =>
    have h' : (if markP m = true then (match n with | .int i => if 0 ≤ i then some i else none | _ => none) else none) = some i := h
    by_cases c : markP m = true
    · rw [if_pos c] at h'
      cases n with
      | int j =>
        have h2 : (if 0 ≤ j then some j else none) = some i := h'
        by_cases q : 0 ≤ j
        · rw [if_pos q] at h2
          cases h2
          exact ⟨m, rfl, c, q⟩
        · rw [if_neg q] at h2
          cases h2
      | _ => cases h'
    · rw [if_neg c] at h'
      cases h'
theorem docFrom_drop {m : Int} {ds : List PD} {i : Nat} {d : PD} (h : ds[i]? = some d) : docFrom m (ds.drop i) = match entP d with | none => false | some x => if m < x then false else docFrom (x + 1) (ds.drop (i + 1)) := by
  obtain ⟨lt, rfl⟩ := List.getElem?_eq_some_iff.mp h
  rw [List.drop_eq_getElem_cons lt]
  rfl
theorem ok_isdocG (T : Bl mg) (hm : MarksAt K mg) (hM : MostAt mg) (Dw : Dn K mg "is_whole" sWhole pThing) (Dnu : Dn K mg "is_number" sNumber pThing) (Dm : Dn K mg "is_mark" sMark pThing)
    (De : Dn K mg "_is_entry" sEntry pThing) (D : Dn K mg "is_document" sIsDoc pThing) : FnOk P w K mg base CX0 4 D.f D.fd pThing (spIsDocG K) := by
  have GE : FnOk P w K mg base CX0 3 De.f De.fd pThing (spEntryG K) := ok_entryG T hm Dw Dnu Dm De
  obtain ⟨tM, gM⟩ := hM
  have sc : FnScope ["thing", "deepest", "entry"] pThing (defScope sIsDoc) := ⟨rfl, rfl, rfl, by decide +kernel, rfl, by decide +kernel, by decide +kernel⟩
  refine D.F.ok sc (fun vs H Q E h => ?_) (fun cdv A outer s H vs Q E hr h => ?_)
  · obtain ⟨v, e, rfl, _⟩ := h
    rfl
  · obtain ⟨v, d, rfl, rep, k⟩ := h
    refine ⟨_, pss_cons (ps_if (PW.pt (pw_or (pt_not (pt_val (pe_callB call_isi (by rfl) T.isinstance b_isinstance (pa_cons (pv 0) (pa_cons (pe_bltn (v := .ty "tuple") rfl T.tuple b_tuple rfl) pa_nil))))) (pw_or1 (pt_cmpR op_gt (pe_callB call_len_seq (by rfl) T.len b_len (pa_cons (pv 0) pa_nil)) (pe_glob (v := .int 20000) rfl gM ⟨tM, rfl⟩) (nomark _))))) (pss_one (ps_ret pe_bl)) pss_nil)
      (pss_cons (ps_set (i := 1) sc.nd rfl (.inl rfl) pe_int)
      (pss_cons (ps_for PassesOwn.never rfl (pi_tup (pv 0)) (pg_name (i := 2) sc.nd rfl (.inl rfl))
        (pss_cons (ps_if (PW.pt (pw_or (pt_not (pt_val (de_call De GE hr (pa_cons (pv 2) pa_nil)))) (pw_or1 (pt_cmpR op_gt (pe_ix ix_tup (pv 2) pe_int (fun _ _ => rfl)) (pv 1) (nomark _))))) (pss_one (ps_ret pe_bl)) pss_nil)
        (pss_one (ps_set (i := 1) sc.nd rfl (.inl rfl) (pe_op op_add (pe_ix ix_tup (pv 2) pe_int (fun _ _ => rfl)) pe_int)))))
      (pss_one (ps_ret pe_bl)))), ?_⟩
    obtain ⟨ty, any, t1, _⟩ := rep.any
    refine ⟨_, rfl, _, _, _, _, _, rfl, .ty "tuple", any.ty, any.kit.2.2.2, _, rfl, ?_⟩
    rw [t1]
    match d, rep, k with
    | .non, _, k => exact iteT (iteT k)
    | .bl _, _, k => exact iteT (iteT k)
    | .int _, _, k => exact iteT (iteT k)
    | .str _, _, k => exact iteT (iteT k)
    | .oth, _, k => exact iteT (iteT k)
    | .tup ds, rep, k =>
      obtain ⟨p, ws, rfl, ews, reps⟩ := rep.tupOf
      have len := reps.len
      have sq : SqT K H p ws := SqT.of ews
      refine iteF ⟨_, rfl, p, ws, rfl, .inr sq, _, _, rfl, rfl, _, rfl, ?_⟩
      have kk : docP (.tup ds) = (decide (ds.length ≤ 20000) && docFrom 0 ds) := rfl
      rw [kk] at k
      refine ite2 (fun c => ?_) (fun c => ?_)
      · have := of_decide_eq_true c
        rw [decide_eq_false (by omega)] at k
        exact k
      have small : ds.length ≤ 20000 := by
        by_cases q : ds.length ≤ 20000
        · exact q
        · exact absurd (decide_eq_true (by omega)) c
      rw [decide_eq_true small, Bool.true_and] at k
      refine ⟨_, rfl, p, rfl, ⟨ws, sq⟩, for_tup (K := K) (a := p) (xs := ws) (fun i σ H' => H' = H ∧ i ≤ ds.length ∧ ∃ (m : Int) (b : Option V), σ = [some (.ref p), some (.int m), b] ∧ docFrom m (ds.drop i) = docFrom 0 ds) ?_ ?_ ?_ ?_⟩
      · exact ⟨rfl, Nat.zero_le _, 0, none, rfl, rfl⟩
      · rintro i σ H' hi ⟨rfl, _, _⟩
        exact sq
      · rintro i x σ H' hx ⟨rfl, il, m, b, rfl, eq⟩
        obtain ⟨d, hd, rd⟩ := reps.at_ hx
        rw [docFrom_drop hd] at eq
        refine ⟨_, rfl, x, d, rfl, rd, _, rfl, ?_⟩
        cases he : entP d with
        | none =>
          rw [he] at eq
          have eq' : false = docFrom 0 ds := eq
          rw [← eq'] at k
          exact iteT (iteT k)
        | some y =>
          rw [he] at eq
          have eq' : (if m < y then false else docFrom (y + 1) (ds.drop (i + 1))) = docFrom 0 ds := eq
          obtain ⟨mm, rfl, _, _⟩ := ent_shape he
          obtain ⟨r, ys, rfl, er, rys⟩ := rd.tupOf
          obtain ⟨y0, y1, rfl, _, r1⟩ := reps2 rys
          cases r1
          refine iteF ⟨_, rfl, r, _, 1, _, rfl, rfl, SqT.of er, rfl, _, rfl, _, _, rfl, rfl, _, rfl, ?_⟩
          refine ite2 (fun c => ?_) (fun c => ?_)
          · rw [if_pos (by have := of_decide_eq_true c; omega)] at eq'
            rw [← eq'] at k
            exact k
          · rw [if_neg (fun z => c (decide_eq_true (by omega)))] at eq'
            exact ⟨_, rfl, r, _, 1, _, rfl, rfl, SqT.of er, rfl, _, _, rfl, rfl, rfl, (List.getElem?_eq_some_iff.mp hd).1, _, _, rfl, eq'⟩
      · rintro σ H' ⟨rfl, il, m, b, rfl, eq⟩
        have z : ds.drop ws.length = [] := List.drop_of_length_le (by omega)
        rw [z] at eq
        have e2 : true = docFrom 0 ds := eq
        rw [← e2] at k
        exact k
end

/-! ### the form of edits -/
def isNone : PD → Bool
  | .non => true
  | _ => false
theorem Rep.isNon {K : PySem.W.Frag} {H : Hp} {v : V} {d : PD} (h : Rep K H v d) : decide (v = V.non) = isNone d := by
  cases h <;> rfl
def placeP : PD → Bool
  | .tup [a, b] => (isNone a || numP a) && numP b
  | _ => false
def zerosP : List PD → Nat
  | [] => 0
  | e :: r => (if entP e = some 0 then 1 else 0) + zerosP r
def oneP : PD → Bool
  | .tup ds => decide (zerosP ds = 1)
  | _ => false
def pieceP (d : PD) : Bool := docP d && oneP d
def edit3 (z : Str) (x : PD) : List PD → Bool
  | [y] => if z = ("mark" : Str) then numP x && markP y else if z = ("put" : Str) then placeP x && pieceP y else decide (z = ("move" : Str)) && (numP x && placeP y)
  | _ => false
def editP : PD → Bool
  | .tup (.str z :: x :: r) => if z = ("take" : Str) then r.isEmpty && numP x else edit3 z x r
  | _ => false
theorem reps_cons {K : PySem.W.Frag} {H : Hp} {xs : List V} {a : PD} {r : List PD} (h : Reps K H xs (a :: r)) : ∃ x ys, xs = x :: ys ∧ Rep K H x a ∧ Reps K H ys r := by
  cases h with
  | cons h1 t => exact ⟨_, _, rfl, h1, t⟩
theorem docFrom_all : ∀ {m : Int} {ds : List PD}, docFrom m ds = true → ∀ {i : Nat} {d : PD}, ds[i]? = some d → ∃ x, entP d = some x
  | _, [], _, i, d, h => by simp at h
  | m, e :: r, hd, i, d, h => by
    have hd' : (match entP e with | none => false | some x => if m < x then false else docFrom (x + 1) r) = true := hd
    cases he : entP e with
    | none => rw [he] at hd'; cases hd'
    | some x =>
      rw [he] at hd'
      cases i with
      | zero =>
        have : e = d := by simpa using h
        subst this
        exact ⟨x, he⟩
      | succ i =>
        by_cases q : m < x
        · have : (if m < x then false else docFrom (x + 1) r) = true := hd'
          rw [if_pos q] at this
          cases this
        · have : (if m < x then false else docFrom (x + 1) r) = true := hd'
          rw [if_neg q] at this
          exact docFrom_all this (i := i) (by simpa using h)
theorem zerosP_take {ds : List PD} {i : Nat} {d : PD} (h : ds[i]? = some d) : zerosP (ds.take (i + 1)) = zerosP (ds.take i) + (if entP d = some 0 then 1 else 0) := by
  obtain ⟨lt, rfl⟩ := List.getElem?_eq_some_iff.mp h
  rw [List.take_succ_eq_append_getElem lt]
  generalize ds.take i = l
  induction l with
  | nil => show _ + 0 = 0 + _; omega
  | cons e r ih =>
    show _ + zerosP (r ++ [ds[i]]) = _ + zerosP r + _
    rw [ih]
    omega
def spPlaceG (K : PySem.W.Frag) : Sp := fun vs H Q _ => ∃ (v : V) (d : PD), vs = [v] ∧ Rep K H v d ∧ Q (.bl (placeP d)) H
def spPieceG (K : PySem.W.Frag) : Sp := fun vs H Q _ => ∃ (v : V) (d : PD), vs = [v] ∧ Rep K H v d ∧ ∀ H', Same H H' → Q (.bl (pieceP d)) H'
def spEditG (K : PySem.W.Frag) : Sp := fun vs H Q _ => ∃ (v : V) (d : PD), vs = [v] ∧ Rep K H v d ∧ ∀ H', Same H H' → Q (.bl (editP d)) H'
mutual
theorem Rep.same {K : PySem.W.Frag} {H H' : Hp} (s : Same H H') : ∀ {v : V} {d : PD}, Rep K H v d → Rep K H' v d
  | _, _, .non => .non
  | _, _, .bl b => .bl b
  | _, _, .int i => .int i
  | _, _, .str z hz => .str z hz
  | _, _, .tup e q => .tup (s _ _ e) (Reps.same s q)
  | _, _, .oth a n ne => by
    cases a with
    | lst e => exact .oth (.lst (s _ _ e)) n fun xs z => by rw [s _ _ e] at z; cases z
    | tup e => exact absurd n (by decide)
    | dct e => exact .oth (.dct (s _ _ e)) n fun xs z => by rw [s _ _ e] at z; cases z
    | dctT e => exact .oth (.dctT (s _ _ e)) n fun xs z => by rw [s _ _ e] at z; cases z
theorem Reps.same {K : PySem.W.Frag} {H H' : Hp} (s : Same H H') : ∀ {vs : List V} {ds : List PD}, Reps K H vs ds → Reps K H' vs ds
  | _, _, .nil => .nil
  | _, _, .cons r t => .cons (Rep.same s r) (Reps.same s t)
end
section
variable {P : Program} {w : World} {K : PySem.W.Frag} {mg : Str → Option Value} {base : Heap}
theorem ok_place (T : Bl mg) (Dw : Dn K mg "is_whole" sWhole pThing) (Dnu : Dn K mg "is_number" sNumber pThing) (D : Dn K mg "_is_place" sIsPlace pThing) : FnOk P w K mg base CX0 3 D.f D.fd pThing (spPlaceG K) := by
  have GN : FnOk P w K mg base CX0 2 Dnu.f Dnu.fd pThing (spNumber K) := ok_number T Dw Dnu
  have sc : FnScope ["thing"] pThing (defScope sIsPlace) := ⟨rfl, rfl, rfl, by decide +kernel, rfl, by decide +kernel, by decide +kernel⟩
  refine D.F.ok sc (fun vs H Q E h => ?_) (fun cdv A outer s H vs Q E hr h => ?_)
  · obtain ⟨v, e, rfl, _⟩ := h
    rfl
  · obtain ⟨v, d, rfl, rep, k⟩ := h
    refine ⟨_, pss_cons (ps_if (PW.pt (pw_or (pt_not (pt_val (pe_callB call_isi (by rfl) T.isinstance b_isinstance (pa_cons (pv 0) (pa_cons (pe_bltn (v := .ty "tuple") rfl T.tuple b_tuple rfl) pa_nil))))) (pw_or1 (pt_cmpR op_ne (pe_callB call_len_seq (by rfl) T.len b_len (pa_cons (pv 0) pa_nil)) pe_int (nomark _))))) (pss_one (ps_ret pe_bl)) pss_nil)
      (pss_one (ps_ret (pe_and (pe_or (pe_cmp (pc_isN (pe_ix ix_tup (pv 0) pe_int (fun _ _ => rfl)))) (pe_one (de_call Dnu GN hr (pa_cons (pe_ix ix_tup (pv 0) pe_int (fun _ _ => rfl)) pa_nil)))) (pe_one (de_call Dnu GN hr (pa_cons (pe_ix ix_tup (pv 0) pe_int (fun _ _ => rfl)) pa_nil)))))), ?_⟩
    obtain ⟨ty, any, t1, _⟩ := rep.any
    refine ⟨_, rfl, _, _, _, _, _, rfl, .ty "tuple", any.ty, any.kit.2.2.2, _, rfl, ?_⟩
    rw [t1]
    match d, rep, k with
    | .non, _, k => exact iteT (iteT k)
    | .bl _, _, k => exact iteT (iteT k)
    | .int _, _, k => exact iteT (iteT k)
    | .str _, _, k => exact iteT (iteT k)
    | .oth, _, k => exact iteT (iteT k)
    | .tup ds, rep, k =>
      obtain ⟨a, xs, rfl, e, reps⟩ := rep.tupOf
      have len := reps.len
      refine iteF ⟨_, rfl, a, xs, rfl, .inr (SqT.of e), rfl, _, rfl, ?_⟩
      match ds, reps, k, len with
      | [], _, k, len =>
        refine ite2 (fun _ => k) (fun c => absurd ?_ c)
        rw [len]; rfl
      | [x], _, k, len =>
        refine ite2 (fun _ => k) (fun c => absurd ?_ c)
        rw [len]; rfl
      | x :: y :: z :: r, _, k, len =>
        refine ite2 (fun _ => k) (fun c => absurd ?_ c)
        have ne : ¬ V.int ((xs.length : Nat) : Int) = V.int 2 := fun q => by
          injection q with q
          rw [len, List.length_cons, List.length_cons, List.length_cons] at q
          omega
        rw [decide_eq_false ne]
        rfl
      | [m, n], reps, k, len =>
        obtain ⟨x, y, rfl, rx, ry⟩ := reps2 reps
        refine iteNS rfl ?_
        obtain ⟨tx, anx, _⟩ := rx.any
        obtain ⟨ty', any', _⟩ := ry.any
        have second : ∀ b : Bool, b = true → placeP (.tup [m, n]) = numP n → (if b = true then tCall (spNumber K) [] E0 (tCons (tOp (rIxT K) (tVar 0) (tC (V.int 1))) tNil) [some (.ref a)] H (fun v H => Q v H) else Q (.bl false) H) := by
          rintro b rfl z
          refine iteT ⟨_, rfl, a, _, 1, _, rfl, rfl, SqT.of e, rfl, y, ty', rfl, any', ?_⟩
          rw [ry.num, ← z]
          exact k
        refine ⟨_, rfl, a, _, 0, _, rfl, rfl, SqT.of e, rfl, _, rfl, ?_⟩
        rw [rx.isNon]
        cases hn : isNone m with
        | true => exact iteT ⟨_, rfl, second true rfl (by show ((isNone m || numP m) && numP n) = _; rw [hn]; rfl)⟩
        | false =>
          refine iteF ⟨_, rfl, a, _, 0, _, rfl, rfl, SqT.of e, rfl, x, tx, rfl, anx, _, rfl, ?_⟩
          rw [rx.num]
          cases hm : numP m with
          | true => exact second true rfl (by show ((isNone m || numP m) && numP n) = _; rw [hn, hm]; rfl)
          | false =>
            have z : placeP (.tup [m, n]) = false := by show ((isNone m || numP m) && numP n) = _; rw [hn, hm]; rfl
            rw [z] at k
            exact iteF k
theorem ok_piece1 (T : Bl mg) (hm : MarksAt K mg) (hM : MostAt mg) (Dw : Dn K mg "is_whole" sWhole pThing) (Dnu : Dn K mg "is_number" sNumber pThing) (Dm : Dn K mg "is_mark" sMark pThing)
    (De : Dn K mg "_is_entry" sEntry pThing) (Di : Dn K mg "is_document" sIsDoc pThing) (D : Dn K mg "_is_piece" sIsPiece pThing) : FnOk P w K mg base CX0 5 D.f D.fd pThing (spPieceG K) := by
  have GI : FnOk P w K mg base CX0 4 Di.f Di.fd pThing (spIsDocG K) := ok_isdocG T hm hM Dw Dnu Dm De Di
  have sc : FnScope ["thing", "_", "depth"] pThing (defScope sIsPiece) := ⟨rfl, rfl, rfl, by decide +kernel, rfl, by decide +kernel, by decide +kernel⟩
  refine D.F.ok sc (fun vs H Q E h => ?_) (fun cdv A outer s H vs Q E hr h => ?_)
  · obtain ⟨v, e, rfl, _⟩ := h
    rfl
  · obtain ⟨v, d, rfl, rep, k⟩ := h
    refine ⟨_, pss_one (ps_ret (pe_and (de_call Di GI hr (pa_cons (pv 0) pa_nil)) (pe_one (pe_cmpR op_eq (pe_callB (cr_sum rfl) (by rfl) T.sum b_sum (pa_cons (pe_lc (own := [("_", 1), ("depth", 2)]) (g := gTup K 2 (gCons (gName 1) (gCons (gName 2) gNil))) rfl sc.nd (pi_tup (pv 0))
        (blkOk_by (N := ["thing", "_", "depth"]) (sc := defScope sIsPiece) (by decide +kernel)) (fun _ _ _ _ _ => pg_tup rfl (pgs_cons (pg_name (i := 1) sc.nd rfl (.inl rfl)) (pgs_cons (pg_name (i := 2) sc.nd rfl (.inl rfl)) pgs_nil))) (fun _ _ _ _ _ => pts_one (pt_cmpR op_eq (pv 2) pe_int (nomark _))) (fun _ _ _ _ _ => pe_int)) pa_nil)) pe_int (nomark _))))), ?_⟩
    refine ⟨_, rfl, v, d, rfl, rep, _, rfl, ?_⟩
    cases hd : docP d with
    | false =>
      have z : pieceP d = false := by unfold pieceP; rw [hd]; rfl
      rw [z] at k
      exact iteF (k _ fun _ _ e => e)
    | true =>
      match d, rep, k, hd with
      | .tup ds, rep, k, hd =>
        obtain ⟨p, ws, rfl, ews, reps⟩ := rep.tupOf
        have len := reps.len
        have hd' : (decide (ds.length ≤ 20000) && docFrom 0 ds) = true := hd
        have small : ds.length ≤ 20000 := by
          by_cases q : ds.length ≤ 20000
          · exact q
          · rw [decide_eq_false q] at hd'; cases hd'
        rw [decide_eq_true small, Bool.true_and] at hd'
        have line : 100000 ≤ sizeLine := by decide
        refine iteT ⟨_, rfl, p, rfl, ⟨ws, SqT.of ews⟩, fun D1 hD1 => ?_⟩
        refine lc_it (walk_tup (K := K) (a := p) (xs := ws)) (fun j H' => j ≤ ds.length ∧ Same H H' ∧ zerosP (ds.take j) ≤ j ∧ H' D1 = some (.lst ((List.replicate (zerosP (ds.take j)) (1 : Int)).map V.int))) ?_ ?_ ?_ ?_
        · exact ⟨Nat.zero_le _, Same.new hD1, Nat.le_refl _, upd_same⟩
        · rintro j H' hj ⟨_, s2, _⟩
          exact SqT.of (s2 _ _ ews)
        · rintro j y H1 H2 hj ⟨jl, s2, zl, ed⟩ ⟨rfl, hy⟩
          obtain ⟨dd, hdd, rd⟩ := reps.at_ hy
          obtain ⟨x, hx⟩ := docFrom_all hd' hdd
          obtain ⟨mm, rfl, _, _⟩ := ent_shape hx
          obtain ⟨r, ys, rfl, er, rys⟩ := rd.tupOf
          obtain ⟨y0, y1, rfl, _, r1⟩ := reps2 rys
          cases r1
          refine ⟨r, _, rfl, SqT.of (s2 _ _ er), rfl, _, _, rfl, _, _, rfl, rfl, rfl, ?_⟩
          refine ⟨_, rfl, rfl, _, rfl, ?_⟩
          have tk := zerosP_take hdd
          rw [hx] at tk
          refine ite2 (fun c => ?_) (fun c => ?_)
          · have z := of_decide_eq_true c
            injection z with z
            subst z
            rw [if_pos rfl] at tk
            refine ⟨_, ed, ?_, by omega, fun b o e => ?_, by omega, ?_⟩
            · rw [List.length_map, List.length_replicate]
              omega
            · rw [upd_ne (ne_of_none e hD1)]
              exact s2 b o e
            · rw [upd_same, tk, List.replicate_succ', List.map_append]
              rfl
          · have z : ¬ some x = some 0 := fun q => c (decide_eq_true (by cases q; rfl))
            rw [if_neg z] at tk
            refine ⟨by omega, s2, by omega, ?_⟩
            rw [tk]
            exact ed
        · rintro H1 ⟨_, s2, zl, ed⟩
          rw [len, List.take_length] at ed
          refine ⟨D1, _, rfl, SqL.of ed, rfl, ?_⟩
          have sm : ∀ n : Nat, (List.replicate n (1 : Int)).sum = (n : Nat) := fun n => by
            induction n with
            | zero => rfl
            | succ n ih => rw [List.replicate_succ, List.sum_cons, ih]; omega
          have kk := k _ s2
          have z : pieceP (.tup ds) = decide (zerosP ds = 1) := by unfold pieceP; rw [hd]; rfl
          rw [z] at kk
          rw [sm]
          have e2 : decide (V.int ((zerosP ds : Nat) : Int) = V.int 1) = decide (zerosP ds = 1) := by
            by_cases q : zerosP ds = 1
            · rw [decide_eq_true q, q]; rfl
            · rw [decide_eq_false q]
              exact decide_eq_false fun h => by
                injection h with h
                omega
          rw [e2]
          exact kk
end

/-! ### is_edit -/
theorem dstr (z w : Str) : decide (V.str z = V.str w) = decide (z = w) := by
  by_cases q : z = w
  · subst q; rw [decide_eq_true rfl, decide_eq_true rfl]
  · rw [decide_eq_false q]
    exact decide_eq_false fun h => by injection h with h; exact q h
theorem dint (n m : Nat) : decide (V.int ((n : Nat) : Int) = V.int ((m : Nat) : Int)) = decide (n = m) := by
  by_cases q : n = m
  · subst q; rw [decide_eq_true rfl, decide_eq_true rfl]
  · rw [decide_eq_false q]
    exact decide_eq_false fun h => by injection h with h; omega
theorem at0 {a : V} {r : List V} : atI (a :: r) 0 = some a := atI_nat (j := 0) rfl
theorem at1 {a b : V} {r : List V} : atI (a :: b :: r) 1 = some b := atI_nat (j := 1) rfl
theorem at2 {a b c : V} {r : List V} : atI (a :: b :: c :: r) 2 = some c := atI_nat (j := 2) rfl
theorem edit1 (x : PD) : editP (.tup [x]) = false := by cases x <;> rfl
def isStr : PD → Bool
  | .str _ => true
  | _ => false
section
variable {P : Program} {w : World} {K : PySem.W.Frag} {mg : Str → Option Value} {base : Heap}
theorem ok_isedit (T : Bl mg) (hm : MarksAt K mg) (hM : MostAt mg) (Dw : Dn K mg "is_whole" sWhole pThing) (Dnu : Dn K mg "is_number" sNumber pThing) (Dm : Dn K mg "is_mark" sMark pThing)
    (De : Dn K mg "_is_entry" sEntry pThing) (Di : Dn K mg "is_document" sIsDoc pThing) (Dpl : Dn K mg "_is_place" sIsPlace pThing) (Dpc : Dn K mg "_is_piece" sIsPiece pThing) (D : Dn K mg "is_edit" sIsEdit pThing) :
    FnOk P w K mg base CX0 6 D.f D.fd pThing (spEditG K) := by
  have GN : FnOk P w K mg base CX0 2 Dnu.f Dnu.fd pThing (spNumber K) := ok_number T Dw Dnu
  have GM : FnOk P w K mg base CX0 1 Dm.f Dm.fd pThing (spMark K) := ok_mark T hm Dm
  have GP : FnOk P w K mg base CX0 3 Dpl.f Dpl.fd pThing (spPlaceG K) := ok_place T Dw Dnu Dpl
  have GC : FnOk P w K mg base CX0 5 Dpc.f Dpc.fd pThing (spPieceG K) := ok_piece1 T hm hM Dw Dnu Dm De Di Dpc
  have sc : FnScope ["thing", "word"] pThing (defScope sIsEdit) := ⟨rfl, rfl, rfl, by decide +kernel, rfl, by decide +kernel, by decide +kernel⟩
  refine D.F.ok sc (fun vs H Q E h => ?_) (fun cdv A outer s H vs Q E hr h => ?_)
  · obtain ⟨v, e, rfl, _⟩ := h
    rfl
  · obtain ⟨v, d, rfl, rep, k⟩ := h
    refine ⟨_, pss_cons (ps_if (PW.pt (pw_or (pt_not (pt_val (pe_callB call_isi (by rfl) T.isinstance b_isinstance (pa_cons (pv 0) (pa_cons (pe_bltn (v := .ty "tuple") rfl T.tuple b_tuple rfl) pa_nil))))) (pw_or (pt_cmpR op_lt (pe_callB call_len_seq (by rfl) T.len b_len (pa_cons (pv 0) pa_nil)) pe_int (nomark _)) (pw_or1 (pt_not (pt_val (pe_callB call_isi (by rfl) T.isinstance b_isinstance (pa_cons (pe_ix ix_tup (pv 0) pe_int (fun _ _ => rfl)) (pa_cons (pe_bltn (v := .ty "str") rfl T.str b_str rfl) pa_nil))))))))) (pss_one (ps_ret pe_bl)) pss_nil)
      (pss_cons (ps_set (i := 1) sc.nd rfl (.inl rfl) (pe_ix ix_tup (pv 0) pe_int (fun _ _ => rfl)))
      (pss_cons (ps_if (pt_cmpR op_eq (pv 1) pe_str (nomark _)) (pss_one (ps_ret (pe_and (pe_cmpR op_eq (pe_callB call_len_seq (by rfl) T.len b_len (pa_cons (pv 0) pa_nil)) pe_int (nomark _)) (pe_one (de_call Dnu GN hr (pa_cons (pe_ix ix_tup (pv 0) pe_int (fun _ _ => rfl)) pa_nil)))))) pss_nil)
      (pss_cons (ps_if (pt_cmpR op_ne (pe_callB call_len_seq (by rfl) T.len b_len (pa_cons (pv 0) pa_nil)) pe_int (nomark _)) (pss_one (ps_ret pe_bl)) pss_nil)
      (pss_cons (ps_if (pt_cmpR op_eq (pv 1) pe_str (nomark _)) (pss_one (ps_ret (pe_and (de_call Dnu GN hr (pa_cons (pe_ix ix_tup (pv 0) pe_int (fun _ _ => rfl)) pa_nil)) (pe_one (de_call Dm GM hr (pa_cons (pe_ix ix_tup (pv 0) pe_int (fun _ _ => rfl)) pa_nil)))))) pss_nil)
      (pss_cons (ps_if (pt_cmpR op_eq (pv 1) pe_str (nomark _)) (pss_one (ps_ret (pe_and (de_call Dpl GP hr (pa_cons (pe_ix ix_tup (pv 0) pe_int (fun _ _ => rfl)) pa_nil)) (pe_one (de_call Dpc GC hr (pa_cons (pe_ix ix_tup (pv 0) pe_int (fun _ _ => rfl)) pa_nil)))))) pss_nil)
      (pss_one (ps_ret (pe_and (pe_cmpR op_eq (pv 1) pe_str (nomark _)) (pe_and (de_call Dnu GN hr (pa_cons (pe_ix ix_tup (pv 0) pe_int (fun _ _ => rfl)) pa_nil)) (pe_one (de_call Dpl GP hr (pa_cons (pe_ix ix_tup (pv 0) pe_int (fun _ _ => rfl)) pa_nil)))))))))))), ?_⟩
    have k0 := k H fun _ _ e => e
    obtain ⟨ty, any, t1, _⟩ := rep.any
    refine ⟨_, rfl, _, _, _, _, _, rfl, .ty "tuple", any.ty, any.kit.2.2.2, _, rfl, ?_⟩
    rw [t1]
    match d, rep, k0 with
    | .non, _, k0 => exact iteT (iteT k0)
    | .bl _, _, k0 => exact iteT (iteT k0)
    | .int _, _, k0 => exact iteT (iteT k0)
    | .str _, _, k0 => exact iteT (iteT k0)
    | .oth, _, k0 => exact iteT (iteT k0)
    | .tup ds, rep, k0 =>
      obtain ⟨a, xs, rfl, e, reps⟩ := rep.tupOf
      have len := reps.len
      have sq : SqT K H a xs := SqT.of e
      refine iteF ⟨_, rfl, a, xs, rfl, .inr sq, _, _, rfl, rfl, _, rfl, ?_⟩
      match ds, reps, k0, len with
      | [], _, k0, len =>
        refine ite2 (fun _ => iteT k0) (fun c => absurd (decide_eq_true ?_) c)
        rw [len]; decide
      | [x], _, k0, len =>
        rw [edit1] at k0
        refine ite2 (fun _ => iteT k0) (fun c => absurd (decide_eq_true ?_) c)
        rw [len]; show ((1 : Nat) : Int) < 2; decide
      | a0 :: x :: r, reps, k0, len =>
        have l2 : xs.length = r.length + 2 := len
        refine ite2 (fun c => absurd (of_decide_eq_true c) (by omega)) (fun _ => ?_)
        obtain ⟨v0, ys, rfl, r0, reps1⟩ := reps_cons reps
        obtain ⟨v1, zs, rfl, r1, reps2⟩ := reps_cons reps1
        obtain ⟨t0, an0, _, s0⟩ := r0.any
        obtain ⟨t1', an1, _, _⟩ := r1.any
        refine ⟨_, rfl, a, _, 0, _, rfl, rfl, sq, at0, _, _, _, _, _, rfl, .ty "str", an0.ty, an0.kit.2.2.1, _, rfl, ?_⟩
        rw [s0]
        match a0, r0, k0 with
        | .non, _, k0 => exact iteT k0
        | .bl _, _, k0 => exact iteT k0
        | .int _, _, k0 => exact iteT k0
        | .oth, _, k0 => exact iteT k0
        | .tup _, _, k0 => exact iteT k0
        | .str z, r0, k0 =>
          cases r0
          refine iteF ⟨_, rfl, a, _, 0, _, rfl, rfl, sq, at0, ?_⟩
          refine ⟨_, rfl, rfl, _, rfl, ?_⟩
          rw [dstr]
          have kz : editP (.tup (.str z :: x :: r)) = if z = ("take" : Str) then r.isEmpty && numP x else edit3 z x r := rfl
          rw [kz] at k0
          refine ite2 (fun c1 => ?_) (fun c1 => ?_)
          · rw [if_pos (of_decide_eq_true c1)] at k0
            refine ⟨_, rfl, a, _, rfl, .inr sq, rfl, _, rfl, ?_⟩
            rw [show decide (V.int (((V.str z :: v1 :: zs).length : Nat) : Int) = V.int 2) = decide ((V.str z :: v1 :: zs).length = 2) from dint _ 2, l2]
            cases r with
            | nil =>
              refine ite2 (fun _ => ?_) (fun c => absurd rfl c)
              refine ⟨_, rfl, a, _, 1, _, rfl, rfl, sq, at1, v1, t1', rfl, an1, ?_⟩
              rw [r1.num]
              exact k0
            | cons y r' => exact ite2 (fun c => absurd (of_decide_eq_true c) (by rw [List.length_cons]; omega)) (fun _ => k0)
          · have z1 : ¬ z = ("take" : Str) := fun q => c1 (decide_eq_true q)
            rw [if_neg z1] at k0 kz
            refine ⟨_, rfl, a, _, rfl, .inr sq, rfl, _, rfl, ?_⟩
            rw [show decide (V.int (((V.str z :: v1 :: zs).length : Nat) : Int) = V.int 3) = decide ((V.str z :: v1 :: zs).length = 3) from dint _ 3, l2]
            match r, reps2, k0, kz with
            | [], _, k0, _ => exact ite2 (fun _ => k0) (fun c => absurd rfl c)
            | y :: y' :: r', _, k0, _ =>
              refine ite2 (fun _ => k0) (fun c => absurd ?_ c)
              rw [decide_eq_false (by rw [List.length_cons, List.length_cons]; omega)]
              rfl
            | [y], reps2, k0, kz =>
              obtain ⟨v2, z0, rfl, r2, rz⟩ := reps_cons reps2
              cases rz
              obtain ⟨t2, an2, _, _⟩ := r2.any
              refine iteNS rfl ?_
              have k0' : Q (.bl (if z = ("mark" : Str) then numP x && markP y else if z = ("put" : Str) then placeP x && pieceP y else decide (z = ("move" : Str)) && (numP x && placeP y))) H := k0
              have kz' : editP (.tup [.str z, x, y]) = if z = ("mark" : Str) then numP x && markP y else if z = ("put" : Str) then placeP x && pieceP y else decide (z = ("move" : Str)) && (numP x && placeP y) := kz
              refine ⟨_, rfl, rfl, _, rfl, ?_⟩
              rw [dstr]
              refine ite2 (fun c2 => ?_) (fun c2 => ?_)
              · rw [if_pos (of_decide_eq_true c2)] at k0'
                refine ⟨_, rfl, a, _, 1, _, rfl, rfl, sq, at1, v1, t1', rfl, an1, _, rfl, ?_⟩
                rw [r1.num]
                cases hn : numP x with
                | false => rw [hn] at k0'; exact iteF k0'
                | true =>
                  rw [hn] at k0'
                  refine iteT ⟨_, rfl, a, _, 2, _, rfl, rfl, sq, at2, v2, t2, rfl, an2, ?_⟩
                  rw [r2.mark]
                  exact k0'
              · have z2 : ¬ z = ("mark" : Str) := fun q => c2 (decide_eq_true q)
                rw [if_neg z2] at k0' kz'
                refine ⟨_, rfl, rfl, _, rfl, ?_⟩
                rw [dstr]
                refine ite2 (fun c3 => ?_) (fun c3 => ?_)
                · rw [if_pos (of_decide_eq_true c3)] at k0' kz'
                  refine ⟨_, rfl, a, _, 1, _, rfl, rfl, sq, at1, v1, x, rfl, r1, _, rfl, ?_⟩
                  cases hn : placeP x with
                  | false => rw [hn] at k0'; exact iteF k0'
                  | true =>
                    rw [hn] at kz'
                    refine iteT ⟨_, rfl, a, _, 2, _, rfl, rfl, sq, at2, v2, y, rfl, r2, fun H' s' => ?_⟩
                    have := k H' s'
                    rw [kz'] at this
                    exact this
                · have z3 : ¬ z = ("put" : Str) := fun q => c3 (decide_eq_true q)
                  rw [if_neg z3] at k0'
                  refine ⟨_, rfl, rfl, _, rfl, ?_⟩
                  rw [dstr]
                  cases hz : decide (z = ("move" : Str)) with
                  | false => rw [hz] at k0'; exact iteF k0'
                  | true =>
                    rw [hz] at k0'
                    refine iteT ⟨_, rfl, a, _, 1, _, rfl, rfl, sq, at1, v1, t1', rfl, an1, _, rfl, ?_⟩
                    rw [r1.num]
                    cases hn : numP x with
                    | false => rw [hn] at k0'; exact iteF k0'
                    | true =>
                      rw [hn] at k0'
                      exact iteT ⟨_, rfl, a, _, 2, _, rfl, rfl, sq, at2, v2, y, rfl, r2, k0'⟩
end

/-! ### the law's own look at the form -/
theorem mark_len : ∀ z ∈ markTexts, z.length = 1 := by decide +kernel
theorem mark_sign (c : Nat) : decide (c ∈ ("abcdefgh" : Str).cps.toList) = decide ((⟨#[c]⟩ : Str) ∈ markTexts) := by
  by_cases q : c ∈ ("abcdefgh" : Str).cps.toList
  · rw [decide_eq_true q]
    have h : c ∈ [97, 98, 99, 100, 101, 102, 103, 104] := q
    simp only [List.mem_cons, List.not_mem_nil, or_false] at h
    rcases h with h | h | h | h | h | h | h | h <;> (subst h; decide +kernel)
  · rw [decide_eq_false q]
    refine (decide_eq_false fun h => q ?_).symm
    have h' : (⟨#[c]⟩ : Str) ∈ [(⟨#[97]⟩ : Str), ⟨#[98]⟩, ⟨#[99]⟩, ⟨#[100]⟩, ⟨#[101]⟩, ⟨#[102]⟩, ⟨#[103]⟩, ⟨#[104]⟩] := h
    show c ∈ [97, 98, 99, 100, 101, 102, 103, 104]
    simp only [List.mem_cons, List.not_mem_nil, or_false] at h' ⊢
    have inj : ∀ k : Nat, (⟨#[c]⟩ : Str) = ⟨#[k]⟩ → c = k := fun k e => by
      injection e with e
      have := congrArg Array.toList e
      injection this
    rcases h' with h | h | h | h | h | h | h | h
    · exact .inl (inj _ h)
    · exact .inr (.inl (inj _ h))
    · exact .inr (.inr (.inl (inj _ h)))
    · exact .inr (.inr (.inr (.inl (inj _ h))))
    · exact .inr (.inr (.inr (.inr (.inl (inj _ h)))))
    · exact .inr (.inr (.inr (.inr (.inr (.inl (inj _ h))))))
    · exact .inr (.inr (.inr (.inr (.inr (.inr (.inl (inj _ h)))))))
    · exact .inr (.inr (.inr (.inr (.inr (.inr (.inr (inj _ h)))))))
theorem one_sign {z : Str} (h : z.length = 1) : ∃ c, z = ⟨#[c]⟩ := by
  have h2 : z.cps.toList.length = 1 := by rw [← TL.len_tl]; exact h
  match e : z.cps.toList, h2 with
  | [c], _ => exact ⟨c, TL.ext_tl e⟩
section
variable {P : Program} {w : World} {K : PySem.W.Frag} {mg : Str → Option Value} {base : Heap}
theorem ok_lwhole (T : Bl mg) (D : Dn K mg "_law_whole_number" sLWhole pThing) : FnOk P w K mg base CX0 1 D.f D.fd pThing (spWhole K) := by
  have sc : FnScope ["thing"] pThing (defScope sLWhole) := ⟨rfl, rfl, rfl, by decide +kernel, rfl, by decide +kernel, by decide +kernel⟩
  refine D.F.ok sc (fun vs H Q E h => ?_) (fun cdv A outer s H vs Q E hr h => ?_)
  · obtain ⟨x, ty, rfl, _⟩ := h
    rfl
  · obtain ⟨x, ty, rfl, any, k⟩ := h
    refine ⟨_, pss_one (ps_ret (pe_and (pe_callB call_isi (by rfl) T.isinstance b_isinstance (pa_cons (pv 0) (pa_cons (pe_bltn (v := .ty "int") rfl T.int b_int rfl) pa_nil))) (pe_one (pe_not (pe_callB call_isi (by rfl) T.isinstance b_isinstance (pa_cons (pv 0) (pa_cons (pe_bltn (v := .ty "bool") rfl T.bool b_bool rfl) pa_nil))))))), ?_⟩
    obtain ⟨k1, k2, _, _⟩ := any.kit
    refine ⟨_, rfl, _, _, _, _, _, rfl, .ty "int", any.ty, k1, _, rfl, ite2 (fun c => ?_) (fun c => ?_)⟩
    · refine ⟨_, rfl, _, _, _, _, _, rfl, .ty "bool", any.ty, k2, _, rfl, ?_⟩
      have e : (!(ty == "bool")) = (ty == "int") := by cases any <;> first | rfl | exact absurd c (by decide)
      rw [e]
      exact k
    · have e : false = (ty == "int") := by cases any <;> first | rfl | exact absurd (by decide) c
      rw [e]
      exact k
def spCountG (K : PySem.W.Frag) : Sp := fun vs H Q _ => ∃ (v : V) (d : PD), vs = [v] ∧ Rep K H v d ∧ Q (.bl (numP d)) H
theorem ok_lcount (T : Bl mg) (D : Dn K mg "_law_is_count" sLCount pThing) : FnOk P w K mg base CX0 1 D.f D.fd pThing (spCountG K) := by
  have sc : FnScope ["thing"] pThing (defScope sLCount) := ⟨rfl, rfl, rfl, by decide +kernel, rfl, by decide +kernel, by decide +kernel⟩
  refine D.F.ok sc (fun vs H Q E h => ?_) (fun cdv A outer s H vs Q E hr h => ?_)
  · obtain ⟨x, ty, rfl, _⟩ := h
    rfl
  · obtain ⟨v, d, rfl, rep, k⟩ := h
    refine ⟨_, pss_one (ps_ret (pe_and (pe_callB call_isi (by rfl) T.isinstance b_isinstance (pa_cons (pv 0) (pa_cons (pe_bltn (v := .ty "int") rfl T.int b_int rfl) pa_nil))) (pe_and (pe_not (pe_callB call_isi (by rfl) T.isinstance b_isinstance (pa_cons (pv 0) (pa_cons (pe_bltn (v := .ty "bool") rfl T.bool b_bool rfl) pa_nil)))) (pe_one (pe_cmpR op_ge (pv 0) pe_int (nomark _)))))), ?_⟩
    obtain ⟨ty, any, _⟩ := rep.any
    obtain ⟨k1, k2, _, _⟩ := any.kit
    refine ⟨_, rfl, _, _, _, _, _, rfl, .ty "int", any.ty, k1, _, rfl, ite2 (fun c => ?_) (fun c => ?_)⟩
    · refine ⟨_, rfl, _, _, _, _, _, rfl, .ty "bool", any.ty, k2, _, rfl, _, rfl, ?_⟩
      cases rep with
      | int i =>
        cases any
        exact iteT ⟨_, rfl, _, _, rfl, rfl, k⟩
      | bl b =>
        cases any
        exact iteF k
      | non => cases any; exact absurd c (by decide)
      | str z _ => cases any; exact absurd c (by decide)
      | tup e q => cases any <;> exact absurd c (by decide)
      | oth a n ne => cases any <;> exact absurd c (by decide)
    · cases rep with
      | int i => cases any; exact absurd (by decide) c
      | bl b => cases any; exact absurd (by decide) c
      | non => exact k
      | str z _ => exact k
      | tup e q => exact k
      | oth a n ne => exact k
theorem ok_lplace (T : Bl mg) (Dc : Dn K mg "_law_is_count" sLCount pThing) (D : Dn K mg "_law_is_place" sLPlace pThing) : FnOk P w K mg base CX0 2 D.f D.fd pThing (spPlaceG K) := by
  have GN : FnOk P w K mg base CX0 1 Dc.f Dc.fd pThing (spCountG K) := ok_lcount T Dc
  have sc : FnScope ["thing"] pThing (defScope sLPlace) := ⟨rfl, rfl, rfl, by decide +kernel, rfl, by decide +kernel, by decide +kernel⟩
  refine D.F.ok sc (fun vs H Q E h => ?_) (fun cdv A outer s H vs Q E hr h => ?_)
  · obtain ⟨v, e, rfl, _⟩ := h
    rfl
  · obtain ⟨v, d, rfl, rep, k⟩ := h
    refine ⟨_, pss_cons (ps_if (PW.pt (pw_or (pt_not (pt_val (pe_callB call_isi (by rfl) T.isinstance b_isinstance (pa_cons (pv 0) (pa_cons (pe_bltn (v := .ty "tuple") rfl T.tuple b_tuple rfl) pa_nil))))) (pw_or1 (pt_cmpR op_ne (pe_callB call_len_seq (by rfl) T.len b_len (pa_cons (pv 0) pa_nil)) pe_int (nomark _))))) (pss_one (ps_ret pe_bl)) pss_nil)
      (pss_one (ps_ret (pe_and (pe_or (pe_cmp (pc_isN (pe_ix ix_tup (pv 0) pe_int (fun _ _ => rfl)))) (pe_one (de_call Dc GN hr (pa_cons (pe_ix ix_tup (pv 0) pe_int (fun _ _ => rfl)) pa_nil)))) (pe_one (de_call Dc GN hr (pa_cons (pe_ix ix_tup (pv 0) pe_int (fun _ _ => rfl)) pa_nil)))))), ?_⟩
    obtain ⟨ty, any, t1, _⟩ := rep.any
    refine ⟨_, rfl, _, _, _, _, _, rfl, .ty "tuple", any.ty, any.kit.2.2.2, _, rfl, ?_⟩
    rw [t1]
    match d, rep, k with
    | .non, _, k => exact iteT (iteT k)
    | .bl _, _, k => exact iteT (iteT k)
    | .int _, _, k => exact iteT (iteT k)
    | .str _, _, k => exact iteT (iteT k)
    | .oth, _, k => exact iteT (iteT k)
    | .tup ds, rep, k =>
      obtain ⟨a, xs, rfl, e, reps⟩ := rep.tupOf
      have len := reps.len
      refine iteF ⟨_, rfl, a, xs, rfl, .inr (SqT.of e), rfl, _, rfl, ?_⟩
      match ds, reps, k, len with
      | [], _, k, len =>
        refine ite2 (fun _ => k) (fun c => absurd ?_ c)
        rw [len]; rfl
      | [x], _, k, len =>
        refine ite2 (fun _ => k) (fun c => absurd ?_ c)
        rw [len]; rfl
      | x :: y :: z :: r, _, k, len =>
        refine ite2 (fun _ => k) (fun c => absurd ?_ c)
        have ne : ¬ V.int ((xs.length : Nat) : Int) = V.int 2 := fun q => by
          injection q with q
          rw [len, List.length_cons, List.length_cons, List.length_cons] at q
          omega
        rw [decide_eq_false ne]
        rfl
      | [m, n], reps, k, len =>
        obtain ⟨x, y, rfl, rx, ry⟩ := reps2 reps
        refine iteNS rfl ?_
        have second : ∀ b : Bool, b = true → placeP (.tup [m, n]) = numP n → (if b = true then tCall (spCountG K) [] E0 (tCons (tOp (rIxT K) (tVar 0) (tC (V.int 1))) tNil) [some (.ref a)] H (fun v H => Q v H) else Q (.bl false) H) := by
          rintro b rfl z
          refine iteT ⟨_, rfl, a, _, 1, _, rfl, rfl, SqT.of e, rfl, y, n, rfl, ry, ?_⟩
          rw [← z]
          exact k
        refine ⟨_, rfl, a, _, 0, _, rfl, rfl, SqT.of e, rfl, _, rfl, ?_⟩
        rw [rx.isNon]
        cases hn : isNone m with
        | true => exact iteT ⟨_, rfl, second true rfl (by show ((isNone m || numP m) && numP n) = _; rw [hn]; rfl)⟩
        | false =>
          refine iteF ⟨_, rfl, a, _, 0, _, rfl, rfl, SqT.of e, rfl, x, m, rfl, rx, _, rfl, ?_⟩
          cases hm : numP m with
          | true => exact second true rfl (by show ((isNone m || numP m) && numP n) = _; rw [hn, hm]; rfl)
          | false =>
            have z : placeP (.tup [m, n]) = false := by show ((isNone m || numP m) && numP n) = _; rw [hn, hm]; rfl
            rw [z] at k
            exact iteF k
/-- what the mark's test says -/
theorem ent_mark {m n : PD} (h : markP m = false) : entP (.tup [m, n]) = none := by
  show (if markP m = true then (match n with | .int i => if 0 ≤ i then some i else none | _ => none) else none) = none
  rw [h]
  rfl
def depP : PD → Option Int
  | .int i => if 0 ≤ i then some i else none
  | _ => none
theorem ent_good {m dp : PD} (h : markP m = true) : entP (.tup [m, dp]) = depP dp := by
  show (if markP m = true then (match dp with | .int i => if 0 ≤ i then some i else none | _ => none) else none) = _
  rw [h, if_pos rfl]
  cases dp <;> rfl
theorem ok_lisdoc (T : Bl mg) (Dlw : Dn K mg "_law_whole_number" sLWhole pThing) (D : Dn K mg "_law_is_document" sLIsDoc pThing) : FnOk P w K mg base CX0 2 D.f D.fd pThing (spIsDocG K) := by
  have GW : FnOk P w K mg base CX0 1 Dlw.f Dlw.fd pThing (spWhole K) := ok_lwhole T Dlw
  have sc : FnScope ["thing", "most", "entry", "mark", "depth"] pThing (defScope sLIsDoc) := ⟨rfl, rfl, rfl, by decide +kernel, rfl, by decide +kernel, by decide +kernel⟩
  refine D.F.ok sc (fun vs H Q E h => ?_) (fun cdv A outer s H vs Q E hr h => ?_)
  · obtain ⟨v, e, rfl, _⟩ := h
    rfl
  · obtain ⟨v, d, rfl, rep, k⟩ := h
    refine ⟨_, pss_cons (ps_if (PW.pt (pw_or (pt_not (pt_val (pe_callB call_isi (by rfl) T.isinstance b_isinstance (pa_cons (pv 0) (pa_cons (pe_bltn (v := .ty "tuple") rfl T.tuple b_tuple rfl) pa_nil))))) (pw_or1 (pt_cmpR op_gt (pe_callB call_len_seq (by rfl) T.len b_len (pa_cons (pv 0) pa_nil)) pe_int (nomark _))))) (pss_one (ps_ret pe_bl)) pss_nil)
      (pss_cons (ps_set (i := 1) sc.nd rfl (.inl rfl) pe_int)
      (pss_cons (ps_for PassesOwn.never rfl (pi_tup (pv 0)) (pg_name (i := 2) sc.nd rfl (.inl rfl))
        (pss_cons (ps_if (PW.pt (pw_or (pt_not (pt_val (pe_callB call_isi (by rfl) T.isinstance b_isinstance (pa_cons (pv 2) (pa_cons (pe_bltn (v := .ty "tuple") rfl T.tuple b_tuple rfl) pa_nil))))) (pw_or1 (pt_cmpR op_ne (pe_callB call_len_seq (by rfl) T.len b_len (pa_cons (pv 2) pa_nil)) pe_int (nomark _))))) (pss_one (ps_ret pe_bl)) pss_nil)
        (pss_cons (ps_asg (pv 2) (pg_tup rfl (pgs_cons (pg_name (i := 3) sc.nd rfl (.inl rfl)) (pgs_cons (pg_name (i := 4) sc.nd rfl (.inl rfl)) pgs_nil))))
        (pss_cons (ps_if (PW.pt (pw_or (pt_not (pt_val (pe_callB call_isi (by rfl) T.isinstance b_isinstance (pa_cons (pv 3) (pa_cons (pe_bltn (v := .ty "str") rfl T.str b_str rfl) pa_nil))))) (pw_or (pt_cmpR op_ne (pe_callB call_len_str (by rfl) T.len b_len (pa_cons (pv 3) pa_nil)) pe_int (nomark _)) (pw_or1 (pt_cmpR op_notIn_sign (pv 3) pe_str (by rfl)))))) (pss_one (ps_ret pe_bl)) pss_nil)
        (pss_cons (ps_if (PW.pt (pw_or (pt_not (pt_val (de_call Dlw GW hr (pa_cons (pv 4) pa_nil)))) (pw_or (pt_cmpR op_lt (pv 4) pe_int (nomark _)) (pw_or1 (pt_cmpR op_gt (pv 4) (pv 1) (nomark _)))))) (pss_one (ps_ret pe_bl)) pss_nil)
        (pss_one (ps_set (i := 1) sc.nd rfl (.inl rfl) (pe_op op_add (pv 4) pe_int))))))))
      (pss_one (ps_ret pe_bl)))), ?_⟩
    have line : 100000 ≤ sizeLine := by decide
    obtain ⟨ty, any, t1, _⟩ := rep.any
    refine ⟨_, rfl, _, _, _, _, _, rfl, .ty "tuple", any.ty, any.kit.2.2.2, _, rfl, ?_⟩
    rw [t1]
    match d, rep, k with
    | .non, _, k => exact iteT (iteT k)
    | .bl _, _, k => exact iteT (iteT k)
    | .int _, _, k => exact iteT (iteT k)
    | .str _, _, k => exact iteT (iteT k)
    | .oth, _, k => exact iteT (iteT k)
    | .tup ds, rep, k =>
      obtain ⟨p, ws, rfl, ews, reps⟩ := rep.tupOf
      have len := reps.len
      have sq : SqT K H p ws := SqT.of ews
      refine iteF ⟨_, rfl, p, ws, rfl, .inr sq, _, _, rfl, rfl, _, rfl, ?_⟩
      have kk : docP (.tup ds) = (decide (ds.length ≤ 20000) && docFrom 0 ds) := rfl
      rw [kk] at k
      refine ite2 (fun c => ?_) (fun c => ?_)
      · have := of_decide_eq_true c
        rw [decide_eq_false (by omega)] at k
        exact k
      have small : ds.length ≤ 20000 := by
        by_cases q : ds.length ≤ 20000
        · exact q
        · exact absurd (decide_eq_true (by omega)) c
      rw [decide_eq_true small, Bool.true_and] at k
      refine ⟨_, rfl, p, rfl, ⟨ws, sq⟩, for_tup (K := K) (a := p) (xs := ws) (fun i σ H' => H' = H ∧ i ≤ ds.length ∧ ∃ (m : Int) (b x y : Option V), σ = [some (.ref p), some (.int m), b, x, y] ∧ docFrom m (ds.drop i) = docFrom 0 ds) ?_ ?_ ?_ ?_⟩
      · exact ⟨rfl, Nat.zero_le _, 0, none, none, none, rfl, rfl⟩
      · rintro i σ H' hi ⟨rfl, _, _⟩
        exact sq
      · rintro i x σ H' hx ⟨rfl, il, m, b, x1, x2, rfl, eq⟩
        obtain ⟨d, hd, rd⟩ := reps.at_ hx
        rw [docFrom_drop hd] at eq
        have bad : entP d = none → Q (.bl false) H' := fun he => by
          rw [he] at eq
          have eq' : false = docFrom 0 ds := eq
          rw [← eq'] at k
          exact k
        obtain ⟨ty2, any2, t2, _⟩ := rd.any
        refine ⟨_, rfl, _, _, _, _, _, rfl, .ty "tuple", any2.ty, any2.kit.2.2.2, _, rfl, ?_⟩
        rw [t2]
        match d, rd, hd, eq, bad with
        | .non, _, _, _, bad => exact iteT (iteT (bad rfl))
        | .bl _, _, _, _, bad => exact iteT (iteT (bad rfl))
        | .int _, _, _, _, bad => exact iteT (iteT (bad rfl))
        | .str _, _, _, _, bad => exact iteT (iteT (bad rfl))
        | .oth, _, _, _, bad => exact iteT (iteT (bad rfl))
        | .tup es, rd, hd, eq, bad =>
          obtain ⟨r, ys, rfl, er, rys⟩ := rd.tupOf
          have len2 := rys.len
          refine iteF ⟨_, rfl, r, ys, rfl, .inr (SqT.of er), rfl, _, rfl, ?_⟩
          rw [show decide (V.int ((ys.length : Nat) : Int) = V.int 2) = decide (ys.length = 2) from dint _ 2, len2]
          match es, rys, hd, eq, bad with
          | [], _, _, _, bad => exact ite2 (fun _ => bad rfl) (fun c => absurd rfl c)
          | [x], _, _, _, bad => exact ite2 (fun _ => bad rfl) (fun c => absurd rfl c)
          | x :: y :: z :: q, _, _, _, bad =>
            refine ite2 (fun _ => bad rfl) (fun c => absurd ?_ c)
            rw [decide_eq_false (by rw [List.length_cons, List.length_cons, List.length_cons]; omega)]
            rfl
          | [mk, dp], rys, hd, eq, bad =>
            obtain ⟨y0, y1, rfl, r0, r1⟩ := reps2 rys
            refine iteNS rfl ⟨_, rfl, r, _, rfl, SqT.of er, rfl, _, _, rfl, _, _, rfl, rfl, ?_⟩
            obtain ⟨ty3, any3, _, s3⟩ := r0.any
            refine ⟨_, rfl, _, _, _, _, _, rfl, .ty "str", any3.ty, any3.kit.2.2.1, _, rfl, ?_⟩
            rw [s3]
            match mk, r0, hd, eq, bad with
            | .non, _, _, _, bad => exact iteT (iteT (bad (ent_mark rfl)))
            | .bl _, _, _, _, bad => exact iteT (iteT (bad (ent_mark rfl)))
            | .int _, _, _, _, bad => exact iteT (iteT (bad (ent_mark rfl)))
            | .oth, _, _, _, bad => exact iteT (iteT (bad (ent_mark rfl)))
            | .tup _, _, _, _, bad => exact iteT (iteT (bad (ent_mark rfl)))
            | .str z, r0, hd, eq, bad =>
              cases r0 with
              | str z hz =>
                refine iteF ⟨_, rfl, z, rfl, by omega, rfl, _, rfl, ?_⟩
                rw [show decide (V.int ((z.length : Nat) : Int) = V.int 1) = decide (z.length = 1) from dint _ 1]
                by_cases z1 : z.length = 1
                · obtain ⟨c, rfl⟩ := one_sign z1
                  refine ite2 (fun q => absurd q (by rw [decide_eq_true z1]; decide)) (fun _ => ?_)
                  refine ⟨_, rfl, c, _, rfl, rfl, _, rfl, ?_⟩
                  rw [mark_sign]
                  cases hm : decide ((⟨#[c]⟩ : Str) ∈ markTexts) with
                  | false => exact iteT (bad (ent_mark hm))
                  | true =>
                    have ee : entP (.tup [.str ⟨#[c]⟩, dp]) = depP dp := ent_good hm
                    obtain ⟨ty4, any4, _⟩ := r1.any
                    refine iteF ⟨_, rfl, y1, ty4, rfl, any4, _, rfl, ?_⟩
                    cases r1 with
                    | non => cases any4; exact iteT (iteT (bad ee))
                    | bl b => cases any4; exact iteT (iteT (bad ee))
                    | str z hz => cases any4; exact iteT (iteT (bad ee))
                    | tup e q => cases any4 <;> exact iteT (iteT (bad ee))
                    | oth a n ne => cases any4 <;> exact iteT (iteT (bad ee))
                    | int j =>
                      cases any4
                      refine iteF ⟨_, rfl, _, _, rfl, rfl, _, rfl, ?_⟩
                      have ej : entP (.tup [.str ⟨#[c]⟩, .int j]) = if 0 ≤ j then some j else none := ee
                      refine ite2 (fun q => ?_) (fun q => ?_)
                      · have := of_decide_eq_true q
                        rw [if_neg (by omega)] at ej
                        exact iteT (bad ej)
                      · have q' : ¬ j < 0 := fun z => q (decide_eq_true z)
                        rw [if_pos (by omega)] at ej
                        rw [ej] at eq
                        have eq' : (if m < j then false else docFrom (j + 1) (ds.drop (i + 1))) = docFrom 0 ds := eq
                        refine ⟨_, rfl, _, rfl, _, _, rfl, rfl, _, rfl, ?_⟩
                        refine ite2 (fun q2 => ?_) (fun q2 => ?_)
                        · rw [if_pos (by have := of_decide_eq_true q2; omega)] at eq'
                          rw [← eq'] at k
                          exact k
                        · rw [if_neg (fun z => q2 (decide_eq_true (by omega)))] at eq'
                          exact ⟨_, rfl, _, _, rfl, rfl, rfl, (List.getElem?_eq_some_iff.mp hd).1, _, _, _, _, rfl, eq'⟩
                · refine ite2 (fun _ => iteT (bad (ent_mark (decide_eq_false fun q => z1 (mark_len _ q))))) (fun q => absurd ?_ q)
                  rw [decide_eq_false z1]
                  rfl
      · rintro σ H' ⟨rfl, il, m, b, x1, x2, rfl, eq⟩
        have z : ds.drop ws.length = [] := List.drop_of_length_le (by omega)
        rw [z] at eq
        have e2 : true = docFrom 0 ds := eq
        rw [← e2] at k
        exact k
end

theorem editLong (a x y z : PD) (r : List PD) : editP (.tup (a :: x :: y :: z :: r)) = false := by
  cases a with
  | str s =>
    show (if s = ("take" : Str) then (y :: z :: r).isEmpty && numP x else edit3 s x (y :: z :: r)) = false
    by_cases q : s = ("take" : Str)
    · rw [if_pos q]; rfl
    · rw [if_neg q]; rfl
  | _ => rfl
theorem inE (n : Nat) : (!inV (.int ((n : Nat) : Int)) [V.int 2, V.int 3]) = !(decide (n = 2) || decide (n = 3)) := by
  by_cases h2 : n = 2
  · subst h2; decide +kernel
  · by_cases h3 : n = 3
    · subst h3; decide +kernel
    · rw [decide_eq_false h2, decide_eq_false h3]
      have a : ((2 : Int) == ((n : Nat) : Int)) = false := by rw [beq_eq_false_iff_ne]; omega
      have b : ((3 : Int) == ((n : Nat) : Int)) = false := by rw [beq_eq_false_iff_ne]; omega
      show (!(((2 : Int) == ((n : Nat) : Int)) || (((3 : Int) == ((n : Nat) : Int)) || false))) = _
      rw [a, b]
      rfl
theorem editNoStr {a : PD} {r : List PD} (h : isStr a = false) : editP (.tup (a :: r)) = false := by
  cases a with
  | str s => cases h
  | _ => cases r <;> rfl
theorem count_zeros {ds : List PD} : ∀ {m : Int}, docFrom m ds = true → ∃ ns : List Int, (∀ (i : Nat) (d : PD), ds[i]? = some d → ∃ x, entP d = some x ∧ ns[i]? = some x) ∧ ns.length = ds.length ∧ ns.count 0 = zerosP ds := by
  induction ds with
  | nil => exact fun _ => ⟨[], fun i d h => by simp at h, rfl, rfl⟩
  | cons e r ih =>
    intro m h
    have h' : (match entP e with | none => false | some x => if m < x then false else docFrom (x + 1) r) = true := h
    cases he : entP e with
    | none => rw [he] at h'; cases h'
    | some x =>
      rw [he] at h'
      have h2 : (if m < x then false else docFrom (x + 1) r) = true := h'
      by_cases q : m < x
      · rw [if_pos q] at h2; cases h2
      · rw [if_neg q] at h2
        obtain ⟨ns, h3, h4, h5⟩ := ih h2
        refine ⟨x :: ns, fun i d hd => ?_, by rw [List.length_cons, List.length_cons, h4], ?_⟩
        · cases i with
          | zero =>
            have : e = d := by simpa using hd
            subst this
            exact ⟨x, he, rfl⟩
          | succ i =>
            obtain ⟨y, z1, z2⟩ := h3 i d (by simpa using hd)
            exact ⟨y, z1, by simpa using z2⟩
        · show (x :: ns).count 0 = (if entP e = some 0 then 1 else 0) + zerosP r
          rw [List.count_cons, h5, he]
          by_cases q : x = 0
          · subst q; simp; omega
          · have : ¬ (some x = some (0 : Int)) := fun z => q (by cases z; rfl)
            simp [q]
section
variable {P : Program} {w : World} {K : PySem.W.Frag} {mg : Str → Option Value} {base : Heap}
theorem ok_ledit (T : Bl mg) (Dlw : Dn K mg "_law_whole_number" sLWhole pThing) (Dld : Dn K mg "_law_is_document" sLIsDoc pThing) (Dlc : Dn K mg "_law_is_count" sLCount pThing) (Dlp : Dn K mg "_law_is_place" sLPlace pThing)
    (D : Dn K mg "_law_is_edit" sLEdit pThing) : FnOk P w K mg base CX0 3 D.f D.fd pThing (spEditG K) := by
  have GD : FnOk P w K mg base CX0 2 Dld.f Dld.fd pThing (spIsDocG K) := ok_lisdoc T Dlw Dld
  have GN : FnOk P w K mg base CX0 1 Dlc.f Dlc.fd pThing (spCountG K) := ok_lcount T Dlc
  have GP : FnOk P w K mg base CX0 2 Dlp.f Dlp.fd pThing (spPlaceG K) := ok_lplace T Dlc Dlp
  have sc : FnScope ["thing", "word", "good", "mark", "depth"] pThing (defScope sLEdit) := ⟨rfl, rfl, rfl, by decide +kernel, rfl, by decide +kernel, by decide +kernel⟩
  refine D.F.ok sc (fun vs H Q E h => ?_) (fun cdv A outer s H vs Q E hr h => ?_)
  · obtain ⟨v, e, rfl, _⟩ := h
    rfl
  · obtain ⟨v, d, rfl, rep, k⟩ := h
    refine ⟨_, pss_cons (ps_if (PW.pt (pw_or (pt_not (pt_val (pe_callB call_isi (by rfl) T.isinstance b_isinstance (pa_cons (pv 0) (pa_cons (pe_bltn (v := .ty "tuple") rfl T.tuple b_tuple rfl) pa_nil))))) (pw_or (pt_cmpR op_notIn_seq (pe_callB call_len_seq (by rfl) T.len b_len (pa_cons (pv 0) pa_nil)) (pe_tup (pa_cons pe_int (pa_cons pe_int pa_nil))) (by rfl)) (pw_or1 (pt_not (pt_val (pe_callB call_isi (by rfl) T.isinstance b_isinstance (pa_cons (pe_ix ix_tup (pv 0) pe_int (fun _ _ => rfl)) (pa_cons (pe_bltn (v := .ty "str") rfl T.str b_str rfl) pa_nil))))))))) (pss_one (ps_ret pe_bl)) pss_nil)
      (pss_cons (ps_set (i := 1) sc.nd rfl (.inl rfl) (pe_ix ix_tup (pv 0) pe_int (fun _ _ => rfl)))
      (pss_cons (ps_if (pt_cmpR op_eq (pv 1) pe_str (nomark _)) (pss_one (ps_ret (pe_and (pe_cmpR op_eq (pe_callB call_len_seq (by rfl) T.len b_len (pa_cons (pv 0) pa_nil)) pe_int (nomark _)) (pe_one (de_call Dlc GN hr (pa_cons (pe_ix ix_tup (pv 0) pe_int (fun _ _ => rfl)) pa_nil)))))) pss_nil)
      (pss_cons (ps_if (pt_cmpR op_eq (pe_callB call_len_seq (by rfl) T.len b_len (pa_cons (pv 0) pa_nil)) pe_int (nomark _)) (pss_one (ps_ret pe_bl)) pss_nil)
      (pss_cons (ps_if (pt_cmpR op_eq (pv 1) pe_str (nomark _))
        (pss_cons (ps_if (PW.pt (pw_or (pt_not (pt_val (de_call Dlp GP hr (pa_cons (pe_ix ix_tup (pv 0) pe_int (fun _ _ => rfl)) pa_nil)))) (pw_or1 (pt_not (pt_val (de_call Dld GD hr (pa_cons (pe_ix ix_tup (pv 0) pe_int (fun _ _ => rfl)) pa_nil))))))) (pss_one (ps_ret pe_bl)) pss_nil)
        (pss_one (ps_ret (pe_cmpR op_eq (pe_bm PySem.F.plainAttrs_list PySem.F.slot_list_count PySem.F.type_list_count mt_lcount
          (pe_lc (own := [("mark", 3), ("depth", 4)]) (g := gTup K 2 (gCons (gName 3) (gCons (gName 4) gNil))) (tt := tYes) rfl sc.nd (pi_tup (pe_ix ix_tup (pv 0) pe_int (fun _ _ => rfl)))
            (blkOk_by (N := ["thing", "word", "good", "mark", "depth"]) (sc := defScope sLEdit) (by decide +kernel)) (fun _ _ _ _ _ => pg_tup rfl (pgs_cons (pg_name (i := 3) sc.nd rfl (.inl rfl)) (pgs_cons (pg_name (i := 4) sc.nd rfl (.inl rfl)) pgs_nil))) (fun _ _ _ _ _ => pts_nil) (fun _ _ _ _ _ => pv 4)) (pa_cons pe_int pa_nil)) pe_int (nomark _))))) pss_nil)
      (pss_cons (ps_if (pt_cmpR op_eq (pv 1) pe_str (nomark _)) (pss_one (ps_ret (pe_and (de_call Dlc GN hr (pa_cons (pe_ix ix_tup (pv 0) pe_int (fun _ _ => rfl)) pa_nil)) (pe_one (de_call Dlp GP hr (pa_cons (pe_ix ix_tup (pv 0) pe_int (fun _ _ => rfl)) pa_nil)))))) pss_nil)
      (pss_cons (ps_set (i := 2) sc.nd rfl (.inl rfl) (pe_and (pe_callB call_isi (by rfl) T.isinstance b_isinstance (pa_cons (pe_ix ix_tup (pv 0) pe_int (fun _ _ => rfl)) (pa_cons (pe_bltn (v := .ty "str") rfl T.str b_str rfl) pa_nil))) (pe_and (pe_cmpR op_eq (pe_callB call_len_str (by rfl) T.len b_len (pa_cons (pe_ix ix_tup (pv 0) pe_int (fun _ _ => rfl)) pa_nil)) pe_int (nomark _)) (pe_one (pe_cmpR op_in_sign (pe_ix ix_tup (pv 0) pe_int (fun _ _ => rfl)) pe_str (by rfl))))))
      (pss_one (ps_ret (pe_and (pe_cmpR op_eq (pv 1) pe_str (nomark _)) (pe_and (de_call Dlc GN hr (pa_cons (pe_ix ix_tup (pv 0) pe_int (fun _ _ => rfl)) pa_nil)) (pe_one (pv 2)))))))))))), ?_⟩
    have line : 100000 ≤ sizeLine := by decide
    have k0 := k H fun _ _ e => e
    obtain ⟨ty, any, t1, _⟩ := rep.any
    refine ⟨_, rfl, _, _, _, _, _, rfl, .ty "tuple", any.ty, any.kit.2.2.2, _, rfl, ?_⟩
    rw [t1]
    match d, rep, k0 with
    | .non, _, k0 => exact iteT (iteT k0)
    | .bl _, _, k0 => exact iteT (iteT k0)
    | .int _, _, k0 => exact iteT (iteT k0)
    | .str _, _, k0 => exact iteT (iteT k0)
    | .oth, _, k0 => exact iteT (iteT k0)
    | .tup ds, rep, k0 =>
      clear k0
      obtain ⟨a, xs, rfl, e, reps⟩ := rep.tupOf
      have len := reps.len
      refine iteF ⟨_, rfl, a, xs, rfl, .inr (SqT.of e), by show 2 ≤ sizeLine; decide, fun q hq => ⟨q, [.int 2, .int 3], rfl, .inr (SqT.of upd_same), rfl, by decide +kernel, _, rfl, ?_⟩⟩
      have sn : Same H (upd H q (.tup [.int 2, .int 3])) := Same.new hq
      have sq : SqT K (upd H q (.tup [.int 2, .int 3])) a xs := SqT.of (sn _ _ e)
      have reps' := Reps.same sn reps
      have kS : ∀ H', Same (upd H q (.tup [.int 2, .int 3])) H' → Q (.bl (editP (.tup ds))) H' := fun H' s' => k H' (sn.trans s')
      have k0 := kS _ fun _ _ e => e
      clear k
      generalize upd H q (.tup [.int 2, .int 3]) = H1 at sq reps' kS k0
      rw [if_pos rfl, inE, len]
      match ds, reps', k0, kS, len with
      | [], _, k0, _, _ => exact ite2 (fun _ => iteT k0) (fun c => absurd rfl c)
      | [x], _, k0, _, _ =>
        rw [edit1] at k0
        exact ite2 (fun _ => iteT k0) (fun c => absurd rfl c)
      | a0 :: x :: y :: z :: r, _, k0, _, _ =>
        rw [editLong] at k0
        refine ite2 (fun _ => iteT k0) (fun c => absurd ?_ c)
        rw [decide_eq_false (by rw [List.length_cons, List.length_cons, List.length_cons, List.length_cons]; omega), decide_eq_false (by rw [List.length_cons, List.length_cons, List.length_cons, List.length_cons]; omega)]
        rfl
      | [a0, x], reps, k0, _, len =>
        obtain ⟨v0, ys, rfl, r0, reps1⟩ := reps_cons reps
        obtain ⟨v1, zs, rfl, r1, reps2⟩ := reps_cons reps1
        cases reps2
        refine iteF ?_
        obtain ⟨t0, an0, _, s0⟩ := r0.any
        refine ⟨_, rfl, a, _, 0, _, rfl, rfl, sq, at0, _, _, _, _, _, rfl, .ty "str", an0.ty, an0.kit.2.2.1, _, rfl, ?_⟩
        rw [s0]
        match a0, r0, k0 with
        | .non, _, k0 => exact iteT k0
        | .bl _, _, k0 => exact iteT k0
        | .int _, _, k0 => exact iteT k0
        | .oth, _, k0 => exact iteT k0
        | .tup _, _, k0 => exact iteT k0
        | .str z, r0, k0 =>
          cases r0
          refine iteF ⟨_, rfl, a, _, 0, _, rfl, rfl, sq, at0, ?_⟩
          refine ⟨_, rfl, rfl, _, rfl, ?_⟩
          rw [dstr]
          have kz : editP (.tup [.str z, x]) = if z = ("take" : Str) then true && numP x else false := rfl
          rw [kz] at k0
          refine ite2 (fun c1 => ?_) (fun c1 => ?_)
          · rw [if_pos (of_decide_eq_true c1)] at k0
            refine ⟨_, rfl, a, _, rfl, .inr sq, rfl, _, rfl, ite2 (fun _ => ?_) (fun c => absurd rfl c)⟩
            exact ⟨_, rfl, a, _, 1, _, rfl, rfl, sq, at1, v1, x, rfl, r1, k0⟩
          · rw [if_neg (fun q => c1 (decide_eq_true q))] at k0
            exact ⟨_, rfl, a, _, rfl, .inr sq, rfl, _, rfl, ite2 (fun _ => k0) (fun c => absurd rfl c)⟩
      | [a0, x, y], reps, k0, kS, len =>
        obtain ⟨v0, ys, rfl, r0, reps1⟩ := reps_cons reps
        obtain ⟨v1, zs, rfl, r1, reps2⟩ := reps_cons reps1
        obtain ⟨v2, z0, rfl, r2, reps3⟩ := reps_cons reps2
        cases reps3
        refine iteF ?_
        obtain ⟨t0, an0, _, s0⟩ := r0.any
        refine ⟨_, rfl, a, _, 0, _, rfl, rfl, sq, at0, _, _, _, _, _, rfl, .ty "str", an0.ty, an0.kit.2.2.1, _, rfl, ?_⟩
        rw [s0]
        match a0, r0, k0, kS with
        | .non, _, k0, _ => exact iteT k0
        | .bl _, _, k0, _ => exact iteT k0
        | .int _, _, k0, _ => exact iteT k0
        | .oth, _, k0, _ => exact iteT k0
        | .tup _, _, k0, _ => exact iteT k0
        | .str z, r0, k0, kS =>
          cases r0
          refine iteF ⟨_, rfl, a, _, 0, _, rfl, rfl, sq, at0, ?_⟩
          refine ⟨_, rfl, rfl, _, rfl, ?_⟩
          rw [dstr]
          have kz : editP (.tup [.str z, x, y]) = if z = ("take" : Str) then false && numP x else if z = ("mark" : Str) then numP x && markP y else if z = ("put" : Str) then placeP x && pieceP y else decide (z = ("move" : Str)) && (numP x && placeP y) := rfl
          rw [kz] at k0
          refine ite2 (fun c1 => ?_) (fun c1 => ?_)
          · rw [if_pos (of_decide_eq_true c1)] at k0
            exact ⟨_, rfl, a, _, rfl, .inr sq, rfl, _, rfl, iteF k0⟩
          have z1 : ¬ z = ("take" : Str) := fun q => c1 (decide_eq_true q)
          rw [if_neg z1] at k0 kz
          refine ⟨_, rfl, a, _, rfl, .inr sq, rfl, _, rfl, iteF ?_⟩
          refine ⟨_, rfl, rfl, _, rfl, ?_⟩
          rw [dstr]
          refine ite2 (fun c2 => ?_) (fun c2 => ?_)
          · -- put
            have zp := of_decide_eq_true c2
            have zm : ¬ z = ("mark" : Str) := by rw [zp]; decide +kernel
            rw [if_neg zm, if_pos zp] at k0 kz
            rw [kz] at kS
            refine ⟨_, rfl, a, _, 1, _, rfl, rfl, sq, at1, v1, x, rfl, r1, _, rfl, ?_⟩
            cases hp : placeP x with
            | false => rw [hp] at k0; exact iteT (iteT k0)
            | true =>
              rw [hp] at k0 kS
              refine iteF ⟨_, rfl, a, _, 2, _, rfl, rfl, sq, at2, v2, y, rfl, r2, _, rfl, ?_⟩
              have hpc : pieceP y = (docP y && oneP y) := rfl
              cases hd : docP y with
              | false =>
                rw [hpc, hd] at k0
                exact iteT k0
              | true =>
                refine iteF ?_
                match y, r2, kS, hpc, hd with
                | .tup ds, r2, kS, hpc, hd =>
                  obtain ⟨p, ws, rfl, ews, rws⟩ := r2.tupOf
                  have wl := rws.len
                  have hd' : (decide (ds.length ≤ 20000) && docFrom 0 ds) = true := hd
                  have small : ds.length ≤ 20000 := by
                    by_cases q : ds.length ≤ 20000
                    · exact q
                    · rw [decide_eq_false q] at hd'; cases hd'
                  rw [decide_eq_true small, Bool.true_and] at hd'
                  obtain ⟨ns, n1, n2, n3⟩ := count_zeros hd'
                  refine ⟨_, rfl, a, _, 2, _, rfl, rfl, sq, at2, p, rfl, ⟨ws, SqT.of ews⟩, fun D1 hD1 => ?_⟩
                  refine lc_it (walk_tup (K := K) (a := p) (xs := ws)) (fun j H' => j ≤ ds.length ∧ Same H1 H' ∧ H' D1 = some (.lst ((ns.take j).map V.int))) ?_ ?_ ?_ ?_
                  · exact ⟨Nat.zero_le _, Same.new hD1, upd_same⟩
                  · rintro j H' hj ⟨_, s2, _⟩
                    exact SqT.of (s2 _ _ ews)
                  · rintro j v H2 H3 hj ⟨jl, s2, ed⟩ ⟨rfl, hy⟩
                    obtain ⟨dd, hdd, rd⟩ := rws.at_ hy
                    obtain ⟨x0, hx, hn⟩ := n1 _ _ hdd
                    obtain ⟨mm, rfl, _, _⟩ := ent_shape hx
                    obtain ⟨r, ys, rfl, er, rys⟩ := rd.tupOf
                    obtain ⟨y0, y1, rfl, _, r1'⟩ := W.reps2 rys
                    cases r1'
                    have lt := (List.getElem?_eq_some_iff.mp hdd).1
                    have ln : j < ns.length := by omega
                    refine ⟨r, _, rfl, SqT.of (s2 _ _ er), rfl, _, _, rfl, _, _, rfl, rfl, rfl, ?_⟩
                    refine ⟨_, rfl, _, ed, ?_, lt, fun b o e => ?_, ?_⟩
                    · rw [List.length_map, List.length_take]
                      omega
                    · rw [upd_ne (ne_of_none e hD1)]
                      exact s2 b o e
                    · rw [upd_same, List.take_succ_eq_append_getElem ln, List.map_append]
                      have : ns[j] = x0 := (List.getElem?_eq_some_iff.mp hn).2
                      rw [this]
                      rfl
                  · rintro H2 ⟨_, s2, ed⟩
                    have tk : ns.take ws.length = ns := List.take_of_length_le (by omega)
                    rw [tk] at ed
                    refine ⟨.inl ⟨rfl, _, SqL.of ed⟩, D1, ns, 0, rfl, rfl, SqL.of ed, rfl, ?_⟩
                    rw [n3, show decide (V.int ((zerosP ds : Nat) : Int) = V.int 1) = decide (zerosP ds = 1) from dint _ 1]
                    have := kS _ s2
                    rw [hpc, hd] at this
                    exact this
          have z2 : ¬ z = ("put" : Str) := fun q => c2 (decide_eq_true q)
          refine ⟨_, rfl, rfl, _, rfl, ?_⟩
          rw [dstr]
          refine ite2 (fun c3 => ?_) (fun c3 => ?_)
          · have zp := of_decide_eq_true c3
            have zm : ¬ z = ("mark" : Str) := by rw [zp]; decide +kernel
            rw [if_neg zm, if_neg z2, decide_eq_true zp, Bool.true_and] at k0
            refine ⟨_, rfl, a, _, 1, _, rfl, rfl, sq, at1, v1, x, rfl, r1, _, rfl, ?_⟩
            cases hn : numP x with
            | false => rw [hn] at k0; exact iteF k0
            | true =>
              rw [hn] at k0
              exact iteT ⟨_, rfl, a, _, 2, _, rfl, rfl, sq, at2, v2, y, rfl, r2, k0⟩
          have z3 : ¬ z = ("move" : Str) := fun q => c3 (decide_eq_true q)
          rw [if_neg z2, decide_eq_false z3, Bool.false_and] at k0
          -- good
          obtain ⟨t2, an2, _, s2⟩ := r2.any
          have last : (tAsg (tC (.bl (markP y))) (gName 2)) { nx := (tRet (tAndV (tOp rEq (tVar 1) (tC (.str "mark"))) (tAndV (tCall (spCountG K) [] E0 (tCons (tOp (rIxT K) (tVar 0) (tC (V.int 1))) tNil)) (tVar 2)))) { nx := fun _ H' => Q .non H', rt := Q }, rt := Q }
              [some (.ref a), some (.str z), none, none, none] H1 := by
            refine ⟨_, rfl, rfl, _, rfl, ?_⟩
            rw [dstr]
            refine ite2 (fun c4 => ?_) (fun c4 => ?_)
            · rw [if_pos (of_decide_eq_true c4)] at k0
              refine ⟨_, rfl, a, _, 1, _, rfl, rfl, sq, at1, v1, x, rfl, r1, _, rfl, ?_⟩
              cases hn : numP x with
              | false => rw [hn] at k0; exact iteF k0
              | true =>
                rw [hn, Bool.true_and] at k0
                exact iteT ⟨_, rfl, k0⟩
            · rw [if_neg (fun q => c4 (decide_eq_true q))] at k0
              exact k0
          refine ⟨_, rfl, a, _, 2, _, rfl, rfl, sq, at2, _, _, _, _, _, rfl, .ty "str", an2.ty, an2.kit.2.2.1, _, rfl, ?_⟩
          rw [s2]
          match y, r2, last with
          | .non, _, last => exact iteF last
          | .bl _, _, last => exact iteF last
          | .int _, _, last => exact iteF last
          | .oth, _, last => exact iteF last
          | .tup _, _, last => exact iteF last
          | .str u, r2, last =>
            cases r2 with
            | str u hu =>
              refine iteT ⟨_, rfl, a, _, 2, _, rfl, rfl, sq, at2, u, rfl, by omega, rfl, _, rfl, ?_⟩
              rw [show decide (V.int ((u.length : Nat) : Int) = V.int 1) = decide (u.length = 1) from dint _ 1]
              by_cases u1 : u.length = 1
              · obtain ⟨c, rfl⟩ := one_sign u1
                refine ite2 (fun _ => ?_) (fun q => absurd (decide_eq_true u1) q)
                refine ⟨_, rfl, a, _, 2, _, rfl, rfl, sq, at2, c, _, rfl, rfl, ?_⟩
                rw [mark_sign]
                exact last
              · refine ite2 (fun q => absurd (of_decide_eq_true q) u1) (fun _ => ?_)
                have e3 : markP (.str u) = false := decide_eq_false fun q => u1 (mark_len _ q)
                rw [e3] at last
                exact last
end

/-! ### objects of many kinds -/
def szP (W : Nat) : Nat → PD → Prop
  | 0, .tup _ => False
  | n + 1, .tup ds => ds.length ≤ W ∧ ∀ d ∈ ds, szP W n d
  | _, _ => True
theorem szP_leaf {W n : Nat} {d : PD} (h : ∀ ds, d ≠ .tup ds) : szP W n d := by
  cases n <;> cases d <;> first | exact trivial | exact absurd rfl (h _)
theorem szP_mono {W W' : Nat} (hw : W ≤ W') : ∀ {n n' : Nat} {d : PD}, n ≤ n' → szP W n d → szP W' n' d
  | n, n', .non, _, _ => szP_leaf fun _ z => nomatch z
  | n, n', .bl _, _, _ => szP_leaf fun _ z => nomatch z
  | n, n', .int _, _, _ => szP_leaf fun _ z => nomatch z
  | n, n', .str _, _, _ => szP_leaf fun _ z => nomatch z
  | n, n', .oth, _, _ => szP_leaf fun _ z => nomatch z
  | 0, n', .tup ds, _, h => h.elim
  | n + 1, 0, .tup ds, le, h => absurd le (Nat.not_succ_le_zero _)
  | n + 1, n' + 1, .tup ds, le, h => ⟨Nat.le_trans h.1 hw, fun d hd => szP_mono hw (Nat.le_of_succ_le_succ le) (h.2 d hd)⟩
mutual
theorem Rep.but {K : PySem.W.Frag} {p : Addr} {H H' : Hp} {o o' : List V} (s : SameBut p H H') (hp : H p = some (.lst o)) (hp' : H' p = some (.lst o')) : ∀ {v : V} {d : PD}, Rep K H v d → Rep K H' v d
  | _, _, .non => .non
  | _, _, .bl b => .bl b
  | _, _, .int i => .int i
  | _, _, .str z hz => .str z hz
  | _, _, .tup e q => .tup (s _ _ (fun z => by subst z; rw [hp] at e; cases e) e) (Reps.but s hp hp' q)
  | _, _, @Rep.oth _ _ a T an n ne => by
    by_cases h : a = p
    · subst h
      exact .oth (.lst hp') rfl fun xs z => by rw [hp'] at z; cases z
    · cases an with
      | lst e => exact .oth (.lst (s _ _ h e)) n fun xs z => by rw [s _ _ h e] at z; cases z
      | tup e => exact absurd n (by decide)
      | dct e => exact .oth (.dct (s _ _ h e)) n fun xs z => by rw [s _ _ h e] at z; cases z
      | dctT e => exact .oth (.dctT (s _ _ h e)) n fun xs z => by rw [s _ _ h e] at z; cases z
theorem Reps.but {K : PySem.W.Frag} {p : Addr} {H H' : Hp} {o o' : List V} (s : SameBut p H H') (hp : H p = some (.lst o)) (hp' : H' p = some (.lst o')) : ∀ {vs : List V} {ds : List PD}, Reps K H vs ds → Reps K H' vs ds
  | _, _, .nil => .nil
  | _, _, .cons r t => .cons (Rep.but s hp hp' r) (Reps.but s hp hp' t)
end
theorem Reps.take {K : PySem.W.Frag} {H : Hp} : ∀ {vs : List V} {ds : List PD} (n : Nat), Reps K H vs ds → Reps K H (vs.take n) (ds.take n)
  | _, _, 0, _ => .nil
  | _, _, _ + 1, .nil => .nil
  | _, _, n + 1, .cons r t => .cons r (t.take n)
theorem Reps.drop {K : PySem.W.Frag} {H : Hp} : ∀ {vs : List V} {ds : List PD} (n : Nat), Reps K H vs ds → Reps K H (vs.drop n) (ds.drop n)
  | _, _, 0, r => r
  | _, _, _ + 1, .nil => .nil
  | _, _, n + 1, .cons _ t => t.drop n
theorem Reps.app {K : PySem.W.Frag} {H : Hp} : ∀ {vs us : List V} {ds es : List PD}, Reps K H vs ds → Reps K H us es → Reps K H (vs ++ us) (ds ++ es)
  | _, _, _, _, .nil, q => q
  | _, _, _, _, .cons r t, q => .cons r (t.app q)
/-- what an expression makes -/
def Mk (K : PySem.W.Frag) (t : TE) (d : PD) : Prop := ∀ σ H (Q : VK), (∀ H' v, Same H H' → Rep K H' v d → Q v H') → t σ H Q
def MkA (K : PySem.W.Frag) (t : TA) (ds : List PD) : Prop := ∀ σ H (Q : List V → Hp → Prop), (∀ H' vs, Same H H' → Reps K H' vs ds → Q vs H') → t σ H Q
section
variable {K : PySem.W.Frag}
theorem mk_non : Mk K (tC .non) .non := fun σ H Q k => k H _ (fun _ _ e => e) .non
theorem mk_bl (b : Bool) : Mk K (tC (.bl b)) (.bl b) := fun σ H Q k => k H _ (fun _ _ e => e) (.bl b)
theorem mk_int (i : Int) : Mk K (tC (.int i)) (.int i) := fun σ H Q k => k H _ (fun _ _ e => e) (.int i)
theorem mk_str (z : Str) (h : z.length ≤ 1000 := by decide +kernel) : Mk K (tC (.str z)) (.str z) := fun σ H Q k => k H _ (fun _ _ e => e) (.str z h)
theorem mka_nil : MkA K tNil [] := fun σ H Q k => k H _ (fun _ _ e => e) .nil
theorem mka_cons {t : TE} {r : TA} {d : PD} {ds : List PD} (h : Mk K t d) (hr : MkA K r ds) : MkA K (tCons t r) (d :: ds) := fun σ H Q k =>
  h σ H _ fun H1 v s1 rv => hr σ H1 _ fun H2 vs s2 rvs => k H2 _ (s1.trans s2) (.cons (Rep.same s2 rv) rvs)
theorem mk_tup {t : TA} {ds : List PD} (h : MkA K t ds) (l : ds.length ≤ 1000 := by first | decide | simp) : Mk K (tTup t) (.tup ds) := fun σ H Q k =>
  h σ H _ fun H1 vs s1 r => ⟨by rw [r.len]; exact Nat.le_trans l (by decide), fun p hp => k _ _ (s1.trans (Same.new hp)) (.tup upd_same (Reps.same (Same.new hp) r))⟩
theorem mk_lst {t : TA} {ds : List PD} (h : MkA K t ds) (l : ds.length ≤ 1000 := by first | decide | simp) : Mk K (tLst t) .oth := fun σ H Q k =>
  h σ H _ fun H1 vs s1 r => ⟨by rw [r.len]; exact Nat.le_trans l (by decide), fun p hp => k _ _ (s1.trans (Same.new hp)) (.oth (.lst upd_same) rfl fun xs z => by rw [upd_same] at z; cases z)⟩
theorem mk_dct : Mk K tDNewK .oth := fun σ H Q k p hp => k _ _ (Same.new hp) (.oth (.dct upd_same) rfl fun xs z => by rw [upd_same] at z; cases z)
theorem mk_dct1 : Mk K (tDisp [(tC (.str "a"), tC (.int 0))]) .oth := fun σ H Q k p hp =>
  ⟨upd_same, [(.inr "a", .int 0)], rfl, by decide, k _ _ (fun b o e => by rw [upd_upd, upd_ne (ne_of_none e hp)]; exact e) (.oth (.dct upd_same) rfl fun xs z => by rw [upd_same] at z; cases z)⟩
theorem mk_pow (i j : Int) (h : CPow i j) : Mk K (tOp (rI CPow fun i j => .int (i ^ j.toNat)) (tC (.int i)) (tC (.int j))) (.int (i ^ j.toNat)) := fun σ H Q k => ⟨_, _, rfl, rfl, h, k H _ (fun _ _ e => e) (.int _)⟩
theorem mk_neg {t : TE} {i : Int} (h : Mk K t (.int i)) : Mk K (tUn (rU fun i => .int (-i)) t) (.int (-i)) := fun σ H Q k => h σ H _ fun H1 v s1 r => by
  cases r
  exact ⟨_, rfl, k H1 _ s1 (.int _)⟩
end
theorem seq_of {te : TE} {g : TG} {rest : TS} {D : Ends} {σ : L2.St} {H : Hp} (h : te σ H fun v H1 => g v σ H1 fun σ2 H2 => rest D σ2 H2) : tSeq (tAsg te g) rest D σ H := h
theorem ret_of {te : TE} {D : Ends} {σ : L2.St} {H : Hp} (h : te σ H D.rt) : tRet te D σ H := h
theorem lst_of {t : TA} {σ : L2.St} {H : Hp} {Q : VK} (h : t σ H fun xs H1 => xs.length ≤ sizeLine ∧ ∀ p, H1 p = none → Q (.ref p) (upd H1 p (.lst xs))) : tLst t σ H Q := h
theorem cat_of {t : TA} {σ : L2.St} {H : Hp} {Q : VK} {q : Addr} (h : σ[0]? = some (some (.ref q)))
    (k : t σ H fun xs H1 => xs.length ≤ sizeLine ∧ ∀ p, H1 p = none → rCat (.ref q) (.ref p) (upd H1 p (.lst xs)) Q) : tOp rCat (tVar 0) (tLst t) σ H Q := ⟨_, h, k⟩
def spOdd (K : PySem.W.Frag) : Sp := fun vs H Q _ => vs = [] ∧ ∀ (H' : Hp) (q : Addr) (xs : List V), Same H H' → H q = none → H' q = some (.lst xs) → (∀ x ∈ xs, ∃ d, Rep K H' x d ∧ szP 20 4 d) → 0 < xs.length → xs.length ≤ 1000 → Q (.ref q) H'
theorem sz_all {ds : List PD} {W n : Nat} (h : ds.length ≤ W) (all : ∀ d ∈ ds, szP W n d) : szP W (n + 1) (.tup ds) := ⟨h, all⟩
theorem reps_mem {K : PySem.W.Frag} {H : Hp} : ∀ {vs : List V} {ds : List PD} {x : V}, Reps K H vs ds → x ∈ vs → ∃ d ∈ ds, Rep K H x d
  | _, _, _, .nil, h => absurd h List.not_mem_nil
  | _, _, x, .cons r t, h => by
    rcases List.mem_cons.mp h with h | h
    · subst h
      exact ⟨_, List.mem_cons_self, r⟩
    · obtain ⟨d, h1, h2⟩ := reps_mem t h
      exact ⟨d, List.mem_cons_of_mem _ h1, h2⟩
abbrev sA : PD := .str "a"
def odd1 : List PD := [.non, .bl true, .bl false, .int 0, .int 1, .int (-1), .int 7, .int (10 ^ 50), .int (-(10 ^ 50)), .str "", sA, .str "h", .str "i", .str "A", .str "ab", .str "mark", .str "put", .str "take", .str "move"]
def odd2 : List PD := [.str "Mark", .str "mark ", .str "0", .oth, .tup [], .oth, .oth, .tup [.non, .int 0], .oth, .tup [.int 0, .non], .tup [.int 0, .int 0], .tup [.non, .bl true]]
def odd3 : List PD := [.tup [.tup [sA, .int 0]], .oth, .tup [.oth], .tup [.tup [sA, .int 1]], .tup [.tup [sA, .int 0], .tup [.str "b", .int 2]], .tup [.tup [sA, .int 0], .tup [.str "b", .int 0]], .tup [sA, .int 0]]
def odd4 : List PD := [.tup [.tup [sA, .int 0], .tup [.str "b", .int 1], .tup [.str "h", .int 1]], .tup [.tup [sA, .bl false]], .tup [.tup [.str "i", .int 0]], .tup [.tup [sA, .int 0, .int 0]], .tup [.str "take", .int 0], .tup [.str "mark", .int 0, sA]]
theorem odd_sz : ∀ d ∈ odd1 ++ odd2 ++ odd3 ++ odd4, szP 20 4 d := by
  intro d hd
  simp only [odd1, odd2, odd3, odd4, List.cons_append, List.nil_append, List.mem_cons, List.not_mem_nil, or_false] at hd
  rcases hd with rfl | rfl | rfl | rfl | rfl | rfl | rfl | rfl | rfl | rfl | rfl | rfl | rfl | rfl | rfl | rfl | rfl | rfl | rfl | rfl | rfl | rfl | rfl | rfl | rfl | rfl | rfl | rfl | rfl | rfl | rfl | rfl | rfl | rfl | rfl | rfl | rfl | rfl | rfl | rfl | rfl | rfl | rfl | rfl <;> simp [szP]
section
variable {P : Program} {w : World} {K : PySem.W.Frag} {mg : Str → Option Value} {base : Heap}
theorem ok_odd (T : Bl mg) (D : Dn K mg "_law_odd" sLOdd []) : FnOk P w K mg base CX0 1 D.f D.fd [] (spOdd K) := by
  have sc : FnScope ["odd"] [] (defScope sLOdd) := ⟨rfl, rfl, rfl, by decide +kernel, rfl, by decide +kernel, by decide +kernel⟩
  refine D.F.ok sc (fun vs H Q E h => ?_) (fun cdv A outer s H vs Q E hr h => ?_)
  · obtain ⟨rfl, _⟩ := h
    rfl
  · obtain ⟨rfl, k⟩ := h
    refine ⟨_, pss_cons (ps_set (i := 0) sc.nd rfl (.inl rfl) (pe_lst (pa_cons pe_non (pa_cons pe_bl (pa_cons pe_bl (pa_cons pe_int (pa_cons pe_int (pa_cons (pe_un un_neg pe_int) (pa_cons pe_int (pa_cons (pe_op op_pow pe_int pe_int) (pa_cons (pe_un un_neg (pe_op op_pow pe_int pe_int)) (pa_cons pe_str (pa_cons pe_str (pa_cons pe_str (pa_cons pe_str (pa_cons pe_str (pa_cons pe_str (pa_cons pe_str (pa_cons pe_str (pa_cons pe_str (pa_cons pe_str pa_nil)))))))))))))))))))))
      (pss_cons (ps_set (i := 0) sc.nd rfl (.inl rfl) (pe_op op_cat (pv 0) (pe_lst (pa_cons pe_str (pa_cons pe_str (pa_cons pe_str (pa_cons (pe_lst pa_nil) (pa_cons (pe_tup pa_nil) (pa_cons pe_dnewK (pa_cons (pe_disp (pps_cons pe_str pe_int pps_nil) rfl rfl (fun z => nomatch z) (by show 1 ≤ 15; decide)) (pa_cons (pe_tup (pa_cons pe_non (pa_cons pe_int pa_nil))) (pa_cons (pe_lst (pa_cons pe_non (pa_cons pe_int pa_nil))) (pa_cons (pe_tup (pa_cons pe_int (pa_cons pe_non pa_nil))) (pa_cons (pe_tup (pa_cons pe_int (pa_cons pe_int pa_nil))) (pa_cons (pe_tup (pa_cons pe_non (pa_cons pe_bl pa_nil))) pa_nil)))))))))))))))
      (pss_cons (ps_set (i := 0) sc.nd rfl (.inl rfl) (pe_op op_cat (pv 0) (pe_lst (pa_cons (pe_tup (pa_cons (pe_tup (pa_cons pe_str (pa_cons pe_int pa_nil))) pa_nil)) (pa_cons (pe_lst (pa_cons (pe_tup (pa_cons pe_str (pa_cons pe_int pa_nil))) pa_nil)) (pa_cons (pe_tup (pa_cons (pe_lst (pa_cons pe_str (pa_cons pe_int pa_nil))) pa_nil)) (pa_cons (pe_tup (pa_cons (pe_tup (pa_cons pe_str (pa_cons pe_int pa_nil))) pa_nil)) (pa_cons (pe_tup (pa_cons (pe_tup (pa_cons pe_str (pa_cons pe_int pa_nil))) (pa_cons (pe_tup (pa_cons pe_str (pa_cons pe_int pa_nil))) pa_nil))) (pa_cons (pe_tup (pa_cons (pe_tup (pa_cons pe_str (pa_cons pe_int pa_nil))) (pa_cons (pe_tup (pa_cons pe_str (pa_cons pe_int pa_nil))) pa_nil))) (pa_cons (pe_tup (pa_cons pe_str (pa_cons pe_int pa_nil))) pa_nil))))))))))
      (pss_one (ps_ret (pe_op op_cat (pv 0) (pe_lst (pa_cons (pe_tup (pa_cons (pe_tup (pa_cons pe_str (pa_cons pe_int pa_nil))) (pa_cons (pe_tup (pa_cons pe_str (pa_cons pe_int pa_nil))) (pa_cons (pe_tup (pa_cons pe_str (pa_cons pe_int pa_nil))) pa_nil)))) (pa_cons (pe_tup (pa_cons (pe_tup (pa_cons pe_str (pa_cons pe_bl pa_nil))) pa_nil)) (pa_cons (pe_tup (pa_cons (pe_tup (pa_cons pe_str (pa_cons pe_int pa_nil))) pa_nil)) (pa_cons (pe_tup (pa_cons (pe_tup (pa_cons pe_str (pa_cons pe_int (pa_cons pe_int pa_nil)))) pa_nil)) (pa_cons (pe_tup (pa_cons pe_str (pa_cons pe_int pa_nil))) (pa_cons (pe_tup (pa_cons pe_str (pa_cons pe_int (pa_cons pe_str pa_nil)))) pa_nil)))))))))))), ?_⟩
    have c50 : CPow 10 50 := ⟨by decide, by decide, by decide⟩
    have pr : ∀ (z : Str) (i : Int), z.length ≤ 1000 → Mk K (tTup (tCons (tC (.str z)) (tCons (tC (.int i)) tNil))) (.tup [.str z, .int i]) := fun z i hz => mk_tup (mka_cons (mk_str z hz) (mka_cons (mk_int i) mka_nil)) (by simp)
    have m1 : MkA K _ odd1 := mka_cons mk_non (mka_cons (mk_bl _) (mka_cons (mk_bl _) (mka_cons (mk_int _) (mka_cons (mk_int _) (mka_cons (mk_neg (mk_int _)) (mka_cons (mk_int _) (mka_cons (mk_pow 10 50 c50) (mka_cons (mk_neg (mk_pow 10 50 c50)) (mka_cons (mk_str _) (mka_cons (mk_str _) (mka_cons (mk_str _) (mka_cons (mk_str _) (mka_cons (mk_str _) (mka_cons (mk_str _) (mka_cons (mk_str _) (mka_cons (mk_str _) (mka_cons (mk_str _) (mka_cons (mk_str _) mka_nil))))))))))))))))))
    have m2 : MkA K _ odd2 := mka_cons (mk_str _) (mka_cons (mk_str _) (mka_cons (mk_str _) (mka_cons (mk_lst mka_nil) (mka_cons (mk_tup mka_nil) (mka_cons mk_dct (mka_cons mk_dct1 (mka_cons (mk_tup (mka_cons mk_non (mka_cons (mk_int _) mka_nil))) (mka_cons (mk_lst (mka_cons mk_non (mka_cons (mk_int 0) mka_nil))) (mka_cons (mk_tup (mka_cons (mk_int _) (mka_cons mk_non mka_nil))) (mka_cons (mk_tup (mka_cons (mk_int _) (mka_cons (mk_int _) mka_nil))) (mka_cons (mk_tup (mka_cons mk_non (mka_cons (mk_bl _) mka_nil))) mka_nil)))))))))))
    have p1 : ∀ {t : TE} {d : PD}, Mk K t d → Mk K (tTup (tCons t tNil)) (.tup [d]) := fun h => mk_tup (mka_cons h mka_nil) (by simp)
    have p2 : ∀ {t u : TE} {d e : PD}, Mk K t d → Mk K u e → Mk K (tTup (tCons t (tCons u tNil))) (.tup [d, e]) := fun h g => mk_tup (mka_cons h (mka_cons g mka_nil)) (by simp)
    have p3 : ∀ {t u r : TE} {d e f : PD}, Mk K t d → Mk K u e → Mk K r f → Mk K (tTup (tCons t (tCons u (tCons r tNil)))) (.tup [d, e, f]) := fun h g r => mk_tup (mka_cons h (mka_cons g (mka_cons r mka_nil))) (by simp)
    have l1 : ∀ {t : TE} {d : PD}, Mk K t d → Mk K (tLst (tCons t tNil)) .oth := fun h => mk_lst (mka_cons h mka_nil) (by simp)
    have l2 : ∀ {t u : TE} {d e : PD}, Mk K t d → Mk K u e → Mk K (tLst (tCons t (tCons u tNil))) .oth := fun h g => mk_lst (mka_cons h (mka_cons g mka_nil)) (by simp)
    have m3 : MkA K _ odd3 := mka_cons (p1 (p2 (mk_str _) (mk_int _))) (mka_cons (l1 (p2 (mk_str "a") (mk_int 0))) (mka_cons (p1 (l2 (mk_str "a") (mk_int 0))) (mka_cons (p1 (p2 (mk_str _) (mk_int _))) (mka_cons (p2 (p2 (mk_str _) (mk_int _)) (p2 (mk_str _) (mk_int _))) (mka_cons (p2 (p2 (mk_str _) (mk_int _)) (p2 (mk_str _) (mk_int _))) (mka_cons (p2 (mk_str _) (mk_int _)) mka_nil))))))
    have m4 : MkA K _ odd4 := mka_cons (p3 (p2 (mk_str _) (mk_int _)) (p2 (mk_str _) (mk_int _)) (p2 (mk_str _) (mk_int _))) (mka_cons (p1 (p2 (mk_str _) (mk_bl _))) (mka_cons (p1 (p2 (mk_str _) (mk_int _))) (mka_cons (p1 (p3 (mk_str _) (mk_int _) (mk_int _))) (mka_cons (p2 (mk_str _) (mk_int _)) (mka_cons (p3 (mk_str _) (mk_int _) (mk_str _)) mka_nil)))))
    have line : 1000 ≤ sizeLine := by decide
    refine seq_of (lst_of (m1 _ _ _ fun H1 x1 s1 r1 => ?_))
    have n1 : x1.length = 19 := r1.len
    refine ⟨by omega, fun q1 hq1 => ?_⟩
    refine seq_of (cat_of (q := q1) rfl (m2 _ _ _ fun H2 x2 s2 r2 => ?_))
    have n2 : x2.length = 12 := r2.len
    refine ⟨by omega, fun q2 hq2 => ?_⟩
    have s12 := (Same.new (o := .lst x1) hq1).trans s2
    have e1 : (upd H2 q2 (.lst x2)) q1 = some (.lst x1) := Same.new hq2 _ _ (s2 _ _ upd_same)
    refine ⟨q1, q2, x1, x2, rfl, rfl, e1, upd_same, by omega, fun q3 hq3 => ?_⟩
    have s3 := s12.trans ((Same.new (o := .lst x2) hq2).trans (Same.new (o := .lst (x1 ++ x2)) hq3))
    have r12 : Reps K (upd (upd H2 q2 (.lst x2)) q3 (.lst (x1 ++ x2))) (x1 ++ x2) (odd1 ++ odd2) := (Reps.same s3 r1).app (Reps.same ((Same.new hq2).trans (Same.new hq3)) r2)
    refine seq_of (cat_of (q := q3) rfl (m3 _ _ _ fun H4 x3 s4 r3 => ?_))
    have n3 : x3.length = 7 := r3.len
    refine ⟨by omega, fun q4 hq4 => ?_⟩
    have e3 : (upd H4 q4 (.lst x3)) q3 = some (.lst (x1 ++ x2)) := Same.new hq4 _ _ (s4 _ _ upd_same)
    have n12 : (x1 ++ x2).length = 31 := by rw [List.length_append, n1, n2]
    refine ⟨q3, q4, _, _, rfl, rfl, e3, upd_same, by omega, fun q5 hq5 => ?_⟩
    have s5 := s4.trans ((Same.new (o := .lst x3) hq4).trans (Same.new (o := .lst (x1 ++ x2 ++ x3)) hq5))
    have r123 : Reps K (upd (upd H4 q4 (.lst x3)) q5 (.lst (x1 ++ x2 ++ x3))) (x1 ++ x2 ++ x3) (odd1 ++ odd2 ++ odd3) := (Reps.same s5 r12).app (Reps.same ((Same.new hq4).trans (Same.new hq5)) r3)
    refine ret_of (cat_of (q := q5) rfl (m4 _ _ _ fun H6 x4 s6 r4 => ?_))
    have n4 : x4.length = 6 := r4.len
    refine ⟨by omega, fun q6 hq6 => ?_⟩
    have e5 : (upd H6 q6 (.lst x4)) q5 = some (.lst (x1 ++ x2 ++ x3)) := Same.new hq6 _ _ (s6 _ _ upd_same)
    have n123 : (x1 ++ x2 ++ x3).length = 38 := by rw [List.length_append, n12, n3]
    refine ⟨q5, q6, _, _, rfl, rfl, e5, upd_same, by omega, fun q7 hq7 => ?_⟩
    have s7 := s6.trans ((Same.new (o := .lst x4) hq6).trans (Same.new (o := .lst (x1 ++ x2 ++ x3 ++ x4)) hq7))
    have rall : Reps K (upd (upd H6 q6 (.lst x4)) q7 (.lst (x1 ++ x2 ++ x3 ++ x4))) (x1 ++ x2 ++ x3 ++ x4) (odd1 ++ odd2 ++ odd3 ++ odd4) := (Reps.same s7 r123).app (Reps.same ((Same.new hq6).trans (Same.new hq7)) r4)
    have sall := s1.trans (s3.trans (s5.trans s7))
    have nall : (x1 ++ x2 ++ x3 ++ x4).length = 44 := by rw [List.length_append, n123, n4]
    refine k _ q7 _ sall ?_ upd_same (fun x hx => ?_) (by omega) (by omega)
    · have a6 := (Same.new (o := .lst x4) hq6)
      exact (s1.trans (s3.trans (s5.trans (s6.trans a6)))).free hq7
    · obtain ⟨d, h1, h2⟩ := reps_mem rall hx
      exact ⟨d, h2, odd_sz d h1⟩
end

/-! ### an object spoilt -/
def rEqNil (K : PySem.W.Frag) : R2 := fun x y H Q => ∃ (a b : Addr) (xs : List V), x = .ref a ∧ y = .ref b ∧ SqT K H a xs ∧ SqT K H b [] ∧ Q (.bl xs.isEmpty) H
theorem op_eqNil {X : Cx} (hu : X.A.units < cLine) : OpR X (compareOp .Eq) (rEqNil X.K) := by
  intro pins s σ H x y v u Q I rx ry h
  obtain ⟨a, b, xs, rfl, rfl, ha, hb, q⟩ := h
  cases rx
  cases ry
  obtain ⟨its, r1, p1, _⟩ := I.tuple ha
  obtain ⟨its2, r2, p2, _⟩ := I.tuple hb
  cases r2
  have R := SeqAt.RcAt.tuples (A := X.A) (s := s) (e := fun _ => true) p1 p2 hu (fun j h1 h2 => absurd h2 (by simp))
  refine R X.prog X.w X.xe (EP X pins σ Q) ⟨.bl _, H, I, rfl, ?_⟩
  have e : ((List.range (min its.toArray.size (#[] : Array Value).size)).all (fun _ => true) && its.toArray.size == (#[] : Array Value).size) = xs.isEmpty := by
    have l := r1.length
    cases xs with
    | nil =>
      cases r1
      rfl
    | cons x r =>
      cases r1
      simp
  show Q (.bl ((List.range (min its.toArray.size (#[] : Array Value).size)).all (fun _ => true) && its.toArray.size == (#[] : Array Value).size)) H
  rw [e]
  exact q
theorem slice_of {K : PySem.W.Frag} {H : Hp} {a : Addr} {xs : List V} {lo hi : Option Int} {Q : VK} (h : H a = some (.tup xs)) (k : ∀ (H' : Hp) (q : Addr), Same H H' → H' q = some (.tup (cutV xs lo hi)) → Q (.ref q) H') :
    rSlA K (.ref a) lo hi H Q := by
  refine ⟨a, xs, rfl, SqT.of h, fun z => ?_, fun _ p hp => k _ p (Same.new hp) upd_same⟩
  refine k H a (fun _ _ e => e) ?_
  rw [h]
  unfold cutV
  rw [z.1, z.2, List.drop_zero, Nat.sub_zero, List.take_length]
theorem slice_end {K : PySem.W.Frag} {σ : L2.St} {H : Hp} {a : Addr} {xs : List V} {lo : Option Int} {Q : VK} (h : H a = some (.tup xs)) (k : ∀ (H' : Hp) (q : Addr), Same H H' → H' q = some (.tup (cutV xs lo none)) → Q (.ref q) H') :
    tNoPart σ H fun u H3 => rSlA K (.ref a) lo u H3 Q := slice_of (hi := none) h k
theorem bS {p : Addr} {H H' : Hp} (s : Same H H') : SameBut p H H' := fun b o _ e => s b o e
theorem cat_tups {K : PySem.W.Frag} {H : Hp} {p q : Addr} {xs ys : List V} {Q : VK} (h1 : H p = some (.tup xs)) (h2 : H q = some (.tup ys)) (l : xs.length + ys.length ≤ 10000)
    (k : ∀ (H' : Hp) (r : Addr), Same H H' → H' r = some (.tup (xs ++ ys)) → Q (.ref r) H') : rCatA K (.ref p) (.ref q) H Q := by
  refine ⟨p, q, xs, ys, rfl, rfl, SqT.of h1, SqT.of h2, Nat.le_trans l (by decide), fun z => ?_, fun _ z => ?_, fun _ _ r hr => ?_⟩
  · subst z
    exact k H q (fun _ _ e => e) h2
  · subst z
    exact k H p (fun _ _ e => e) (by rw [List.append_nil]; exact h1)
  · exact k _ r (Same.new hr) upd_same
def spSpoil (K : PySem.W.Frag) (N : Nat) : Sp := fun vs H Q _ => ∃ (p : Addr) (v : V) (d : PD) (m n W : Nat) (o : List V), vs = [.ref p, v] ∧ H p = some (.lst o) ∧ FeedOk (m + 3 * (N + 1)) o ∧ Rep K H v d ∧ n ≤ N ∧ 20 ≤ W ∧ W ≤ 1000 ∧ szP W n d ∧
  ∀ (H' : Hp) (v' : V) (d' : PD) (o' : List V), SameBut p H H' → H' p = some (.lst o') → FeedOk m o' → Rep K H' v' d' → szP (W + 1) (n + 4) d' → Q v' H'
theorem odd_draw {K : PySem.W.Frag} {σ : L2.St} {H : Hp} {Q : VK} {p : Addr} {m W n : Nat} {o : List V} (h0 : σ[0]? = some (some (.ref p))) (hp : H p = some (.lst o)) (hf : FeedOk (m + 1) o) (w20 : 20 ≤ W)
    (k : ∀ (H' : Hp) (v' : V) (d' : PD) (o' : List V), SameBut p H H' → H' p = some (.lst o') → FeedOk m o' → Rep K H' v' d' → szP (W + 1) (n + 4) d' → Q v' H') :
    tCall (spOne K) [] E0 (tCons (tVar 0) (tCons (tCall (spOdd K) [] E0 tNil) tNil)) σ H Q := by
  refine ⟨_, h0, rfl, fun H' q xs s hq eq all pos le => ⟨p, .ref q, xs, m, o, rfl, s _ _ hp, hf, .inr ⟨q, rfl, (fun z => by subst z; rw [hp] at hq; cases hq), SqL.of eq⟩, pos, le, fun o' y f' my => ?_⟩⟩
  obtain ⟨d, rd, sz⟩ := all y my
  exact k _ y d o' ((bS s).trans SameBut.refl.put) upd_same f' (Rep.but SameBut.refl.put (s _ _ hp) upd_same rd) (szP_mono (by omega) (by omega) sz)
theorem nontup_sz {W : Nat} {d : PD} (h : szP W 0 d) : ∀ ds, d ≠ .tup ds := fun ds z => by subst z; exact h
abbrev pSpoil : List Str := ["feed", "thing"]
section
variable {P : Program} {w : World} {K : PySem.W.Frag} {mg : Str → Option Value} {base : Heap}
theorem ok_spoil (T : Bl mg) (Dd : Dn K mg "_law_draw" sDraw pDraw) (D1 : Dn K mg "_law_one" sOne pOne) (Do : Dn K mg "_law_odd" sLOdd []) (D : Dn K mg "_law_spoiled" sLSpoil pSpoil) :
    ∀ N, FnOk P w K mg base CX0 (N + 4) D.f D.fd pSpoil (spSpoil K N) := by
  have GD : FnOk P w K mg base CX0 1 Dd.f Dd.fd pDraw spDraw := ok_draw T Dd
  have G1 : FnOk P w K mg base CX0 2 D1.f D1.fd pOne (spOne K) := ok_one T Dd D1
  have GO : FnOk P w K mg base CX0 1 Do.f Do.fd [] (spOdd K) := ok_odd T Do
  have sc : FnScope ["feed", "thing", "way", "at"] pSpoil (defScope sLSpoil) := ⟨rfl, rfl, rfl, by decide +kernel, rfl, by decide +kernel, by decide +kernel⟩
  intro N
  induction N with
  | zero =>
    refine D.F.ok sc (fun vs H Q E h => ?_) (fun cdv A outer s H vs Q E hr h => ?_)
    · obtain ⟨p, v, d, m, n, W, o, rfl, _⟩ := h
      rfl
    · obtain ⟨p, v, d, m, n, W, o, rfl, hp, hf, rep, hn, w20, w1k, sz, k⟩ := h
      refine ⟨_, pss_cons (ps_if (PW.pt (pw_or (pt_not (pt_val (pe_callB call_isi (by rfl) T.isinstance b_isinstance (pa_cons (pv 1) (pa_cons (pe_bltn (v := .ty "tuple") rfl T.tuple b_tuple rfl) pa_nil))))) (pw_or1 (pt_cmpR (op_eqNil hr.units0) (pv 1) (pe_tup pa_nil) (nomark _))))) (pss_one (ps_ret (de_call D1 G1 hr (pa_cons (pv 0) (pa_cons (pe_call0 GO (hr.mono (by omega)) (by rfl) Do.g Do.F.kp Do.b .nil pass0) pa_nil)) (by omega)))) pss_nil) pss_never, ?_⟩
      have n0 : n = 0 := Nat.le_zero.mp hn
      subst n0
      have nt := nontup_sz sz
      obtain ⟨ty, any, t1, _⟩ := rep.any
      refine ⟨_, rfl, _, _, _, _, _, rfl, .ty "tuple", any.ty, any.kit.2.2.2, _, rfl, ?_⟩
      rw [t1]
      have od : tCall (spOne K) [] E0 (tCons (tVar 0) (tCons (tCall (spOdd K) [] E0 tNil) tNil)) [some (.ref p), some v, none, none] H (fun v H => Q v H) := odd_draw (m := m) rfl hp (hf.less (by omega)) w20 k
      match d, nt with
      | .non, _ => exact iteT (iteT od)
      | .bl _, _ => exact iteT (iteT od)
      | .int _, _ => exact iteT (iteT od)
      | .str _, _ => exact iteT (iteT od)
      | .oth, _ => exact iteT (iteT od)
      | .tup ds, nt => exact absurd rfl (nt ds)
  | succ N IH =>
    refine D.F.ok sc (fun vs H Q E h => ?_) (fun cdv A outer s H vs Q E hr h => ?_)
    · obtain ⟨p, v, d, m, n, W, o, rfl, _⟩ := h
      rfl
    · obtain ⟨p, v, d, m, n, W, o, rfl, hp, hf, rep, hn, w20, w1k, sz, k⟩ := h
      refine ⟨_, pss_cons (ps_if (PW.pt (pw_or (pt_not (pt_val (pe_callB call_isi (by rfl) T.isinstance b_isinstance (pa_cons (pv 1) (pa_cons (pe_bltn (v := .ty "tuple") rfl T.tuple b_tuple rfl) pa_nil))))) (pw_or1 (pt_cmpR (op_eqNil hr.units0) (pv 1) (pe_tup pa_nil) (nomark _))))) (pss_one (ps_ret (de_call D1 G1 hr (pa_cons (pv 0) (pa_cons (pe_call0 GO (hr.mono (by omega)) (by rfl) Do.g Do.F.kp Do.b .nil pass0) pa_nil)) (by omega)))) pss_nil)
        (pss_cons (ps_par (i := 2) (j := 3) rfl sc.nd rfl rfl (by decide) rfl rfl (pa_cons (de_call Dd GD hr (pa_cons (pv 0) (pa_cons pe_int pa_nil)) (by omega)) (pa_cons (de_call Dd GD hr (pa_cons (pv 0) (pa_cons (pe_callB call_len_seq (by rfl) T.len b_len (pa_cons (pv 1) pa_nil)) pa_nil)) (by omega)) pa_nil)) rfl)
        (pss_cons (ps_if (pt_cmpR op_eq (pv 2) pe_int (nomark _)) (pss_one (ps_ret (pe_callTy call_list_of (by rfl) T.list b_list (pa_cons (pv 1) pa_nil)))) pss_nil)
        (pss_cons (ps_if (pt_cmpR op_eq (pv 2) pe_int (nomark _)) (pss_one (ps_ret (pe_op op_catA (pe_slice sl_tupA (pv 1) po_none (po_some (pv 3))) (pe_slice sl_tupA (pv 1) (po_some (pe_op op_add (pv 3) pe_int)) po_none)))) pss_nil)
        (pss_cons (ps_if (pt_cmpR op_eq (pv 2) pe_int (nomark _)) (pss_one (ps_ret (pe_op op_catA (pe_slice sl_tupA (pv 1) po_none (po_some (pe_op op_add (pv 3) pe_int))) (pe_slice sl_tupA (pv 1) (po_some (pv 3)) po_none)))) pss_nil)
        (pss_cons (ps_if (pt_cmpR op_eq (pv 2) pe_int (nomark _)) (pss_one (ps_ret (de_call D1 G1 hr (pa_cons (pv 0) (pa_cons (pe_call0 GO (hr.mono (by omega)) (by rfl) Do.g Do.F.kp Do.b .nil pass0) pa_nil)) (by omega)))) pss_nil)
        (pss_one (ps_ret (pe_op op_catA (pe_op op_catA (pe_slice sl_tupA (pv 1) po_none (po_some (pv 3))) (pe_tup (pa_cons (de_call D IH hr (pa_cons (pv 0) (pa_cons (pe_ix ix_tup (pv 1) (pv 3) (fun _ _ => rfl)) pa_nil)) (by omega)) pa_nil))) (pe_slice sl_tupA (pv 1) (po_some (pe_op op_add (pv 3) pe_int)) po_none)))))))))
        , ?_⟩
      obtain ⟨ty, any, t1, _⟩ := rep.any
      refine ⟨_, rfl, _, _, _, _, _, rfl, .ty "tuple", any.ty, any.kit.2.2.2, _, rfl, ?_⟩
      rw [t1]
      have od : tCall (spOne K) [] E0 (tCons (tVar 0) (tCons (tCall (spOdd K) [] E0 tNil) tNil)) [some (.ref p), some v, none, none] H (fun v H => Q v H) := odd_draw (m := m) rfl hp (hf.less (by omega)) w20 k
      match d, rep, sz with
      | .non, _, _ => exact iteT (iteT od)
      | .bl _, _, _ => exact iteT (iteT od)
      | .int _, _, _ => exact iteT (iteT od)
      | .str _, _, _ => exact iteT (iteT od)
      | .oth, _, _ => exact iteT (iteT od)
      | .tup ds, rep, sz =>
        clear od
        obtain ⟨a, xs, rfl, e, reps⟩ := rep.tupOf
        have len := reps.len
        obtain ⟨n', rfl⟩ : ∃ n', n = n' + 1 := by
          cases n with
          | zero => exact sz.elim
          | succ n' => exact ⟨n', rfl⟩
        have szl : ds.length ≤ W := sz.1
        have sza : ∀ d ∈ ds, szP W n' d := sz.2
        refine iteF ⟨_, rfl, Nat.zero_le _, fun u hu => ⟨a, u, xs, rfl, rfl, SqT.of (Same.new hu _ _ e), SqT.of upd_same, _, rfl, ?_⟩⟩
        have su : Same H (upd H u (.tup [])) := Same.new hu
        have e1 := su _ _ e
        have hp1 := su _ _ hp
        have reps1 := Reps.same su reps
        have k1 : ∀ (H' : Hp) (v' : V) (d' : PD) (o' : List V), SameBut p (upd H u (.tup [])) H' → H' p = some (.lst o') → FeedOk m o' → Rep K H' v' d' → szP (W + 1) (n' + 1 + 4) d' → Q v' H' := fun H' v' d' o' sb => k H' v' d' o' ((bS su).trans sb)
        generalize upd H u (.tup []) = H1 at e1 hp1 reps1 k1
        refine ite2 (fun c => ?_) (fun c => ?_)
        · exact odd_draw (m := m) (n := n' + 1) rfl hp1 (hf.less (by omega)) w20 k1
        have pos : 0 < xs.length := by
          cases xs with
          | nil => exact absurd rfl c
          | cons x r => exact Nat.zero_lt_succ _
        have xl : xs.length ≤ 1000 := by omega
        refine ⟨_, rfl, p, 8, m + 3 * (N + 1) + 2, o, rfl, hp1, hf.less (by omega), by decide, ⟨by decide +kernel⟩, fun o1 r1 f1 r10 r11 => ?_⟩
        have ap : a ≠ p := fun z => by subst z; rw [hp1] at e1; cases e1
        have lw : Wd 1000 ((xs.length : Nat) : Int) := ⟨Nat.lt_of_le_of_lt (show (((xs.length : Nat) : Int)).natAbs ≤ 1000 by omega) (by decide +kernel)⟩
        refine ⟨_, rfl, _, rfl, a, xs, rfl, .inr (SqT.of (by rw [upd_ne ap]; exact e1)), p, _, m + 3 * (N + 1) + 1, o1, rfl, upd_same, f1, by omega, lw, fun o2 r2 f2 r20 r21 => ⟨_, _, rfl, ?_⟩⟩
        rw [upd_upd]
        obtain ⟨i, rfl⟩ := Int.eq_ofNat_of_zero_le r20
        have il : i < xs.length := by omega
        have sb2 : SameBut p H1 (upd H1 p (.lst o2)) := SameBut.refl.put
        have hp2 : (upd H1 p (.lst o2)) p = some (.lst o2) := upd_same
        have reps2 := Reps.but sb2 hp1 hp2 reps1
        have e2 : (upd H1 p (.lst o2)) a = some (.tup xs) := by rw [upd_ne ap]; exact e1
        have k2 : ∀ (H' : Hp) (v' : V) (d' : PD) (o' : List V), SameBut p (upd H1 p (.lst o2)) H' → H' p = some (.lst o') → FeedOk m o' → Rep K H' v' d' → szP (W + 1) (n' + 1 + 4) d' → Q v' H' := fun H' v' d' o' sb => k1 H' v' d' o' (sb2.trans sb)
        generalize upd H1 p (.lst o2) = H2 at hp2 reps2 e2 k2
        have up : ∀ d ∈ ds, szP (W + 1) (n' + 4) d := fun d hd => szP_mono (by omega) (by omega) (sza d hd)
        have done : ∀ (H' : Hp) (r : Addr) (zs : List V) (es : List PD), Same H2 H' → H' r = some (.tup zs) → Reps K H' zs es → es.length ≤ W + 1 → (∀ d ∈ es, szP (W + 1) (n' + 4) d) → Q (.ref r) H' := fun H' r zs es s' er rz l al =>
          k2 H' (.ref r) (.tup es) o2 (bS s') (s' _ _ hp2) (f2.less (by omega)) (.tup er rz) ⟨l, al⟩
        refine ⟨_, rfl, rfl, _, rfl, ite2 (fun c1 => ?_) (fun c1 => ?_)⟩
        · refine ⟨_, rfl, a, xs, rfl, .inr (SqT.of e2), fun l hl => ?_⟩
          exact k2 _ _ .oth o2 (bS (Same.new hl)) ((Same.new hl) _ _ hp2) (f2.less (by omega)) (.oth (.lst upd_same) rfl fun xs z => by rw [upd_same] at z; cases z) (szP_leaf fun _ z => nomatch z)
        refine ⟨_, rfl, rfl, _, rfl, ite2 (fun c2 => ?_) (fun c2 => ?_)⟩
        · refine ⟨_, rfl, _, rfl, _, rfl, slice_of e2 fun H3 q1 s3 e3 => ?_⟩
          refine ⟨_, rfl, _, rfl, _, _, rfl, rfl, _, rfl, slice_end (s3 _ _ e2) fun H4 q2 s4 e4 => ?_⟩
          rw [cutV_to] at e3
          have e4' : H4 q2 = some (.tup (xs.drop (i + 1))) := by rw [e4]; exact congrArg (fun z => some (HO.tup z)) (cutV_from xs (i + 1))
          refine cat_tups (s4 _ _ e3) e4' (by rw [List.length_take, List.length_drop]; omega) fun H5 r s5 er => ?_
          refine done H5 r _ (ds.take i ++ ds.drop (i + 1)) (s3.trans (s4.trans s5)) er ((Reps.same (s3.trans (s4.trans s5)) (reps2.take i)).app (Reps.same (s3.trans (s4.trans s5)) (reps2.drop (i + 1)))) (by rw [List.length_append, List.length_take, List.length_drop]; omega) fun d hd => ?_
          rcases List.mem_append.mp hd with hd | hd
          · exact up d (List.mem_of_mem_take hd)
          · exact up d (List.mem_of_mem_drop hd)
        refine ⟨_, rfl, rfl, _, rfl, ite2 (fun c3 => ?_) (fun c3 => ?_)⟩
        · refine ⟨_, rfl, _, rfl, _, _, rfl, rfl, _, rfl, slice_of e2 fun H3 q1 s3 e3 => ?_⟩
          refine ⟨_, rfl, _, rfl, _, rfl, slice_end (s3 _ _ e2) fun H4 q2 s4 e4 => ?_⟩
          have e3' : H3 q1 = some (.tup (xs.take (i + 1))) := by rw [e3]; exact congrArg (fun z => some (HO.tup z)) (cutV_to xs (i + 1))
          rw [cutV_from] at e4
          refine cat_tups (s4 _ _ e3') e4 (by rw [List.length_take, List.length_drop]; omega) fun H5 r s5 er => ?_
          refine done H5 r _ (ds.take (i + 1) ++ ds.drop i) (s3.trans (s4.trans s5)) er ((Reps.same (s3.trans (s4.trans s5)) (reps2.take (i + 1))).app (Reps.same (s3.trans (s4.trans s5)) (reps2.drop i))) (by rw [List.length_append, List.length_take, List.length_drop]; omega) fun d hd => ?_
          rcases List.mem_append.mp hd with hd | hd
          · exact up d (List.mem_of_mem_take hd)
          · exact up d (List.mem_of_mem_drop hd)
        refine ⟨_, rfl, rfl, _, rfl, ite2 (fun c4 => ?_) (fun c4 => ?_)⟩
        · exact odd_draw (m := m) (n := n' + 1) rfl hp2 (f2.less (by omega)) w20 k2
        -- one of its own is spoilt
        obtain ⟨dd, hdd, rdd⟩ := reps2.at_ (List.getElem?_eq_getElem il)
        refine ⟨_, rfl, _, rfl, _, rfl, slice_of e2 fun H3 q1 s3 e3 => ?_⟩
        rw [cutV_to] at e3
        refine ⟨_, rfl, _, rfl, _, rfl, a, xs, _, xs[i], rfl, rfl, SqT.of (s3 _ _ e2), atI_nat (List.getElem?_eq_getElem il), ?_⟩
        refine ⟨p, xs[i], dd, m, n', W, o2, rfl, s3 _ _ hp2, f2.less (by omega), Rep.same s3 rdd, by omega, w20, w1k, sza dd (List.mem_of_getElem? hdd), fun H4 v4 d4 o4 sb4 hp4 f4 rep4 sz4 => ?_⟩
        refine ⟨by show 1 ≤ sizeLine; decide, fun t ht => ?_⟩
        have st : Same H4 (upd H4 t (.tup [v4])) := Same.new ht
        have et : (upd H4 t (.tup [v4])) t = some (.tup [v4]) := upd_same
        have tp4 := sb4.tups (s3 _ _ hp2)
        refine cat_tups (st _ _ (tp4 _ _ e3)) et (by rw [List.length_take]; show _ + 1 ≤ _; omega) fun H5 r5 s5 e5 => ?_
        have s45 := st.trans s5
        refine ⟨_, rfl, _, rfl, _, _, rfl, rfl, _, rfl, slice_end (s45 _ _ (tp4 _ _ (s3 _ _ e2))) fun H6 q6 s6 e6 => ?_⟩
        have e6' : H6 q6 = some (.tup (xs.drop (i + 1))) := by rw [e6]; exact congrArg (fun z => some (HO.tup z)) (cutV_from xs (i + 1))
        refine cat_tups (s6 _ _ e5) e6' (by rw [List.length_append, List.length_take, List.length_drop]; show _ + 1 + _ ≤ _; omega) fun H7 r7 s7 e7 => ?_
        have s47 := s45.trans (s6.trans s7)
        have reps4 := Reps.but sb4 (s3 _ _ hp2) hp4 (Reps.same s3 reps2)
        refine k2 H7 (.ref r7) (.tup (ds.take i ++ [d4] ++ ds.drop (i + 1))) o4 (((bS s3).trans sb4).trans (bS s47)) (s47 _ _ hp4) f4 (.tup e7 (((Reps.same s47 (reps4.take i)).app (.cons (Rep.same s47 rep4) .nil)).app (Reps.same s47 (reps4.drop (i + 1))))) ⟨?_, fun d hd => ?_⟩
        · rw [List.length_append, List.length_append, List.length_take, List.length_drop]
          show _ + 1 + _ ≤ _
          omega
        · rcases List.mem_append.mp hd with hd | hd
          · rcases List.mem_append.mp hd with hd | hd
            · exact up d (List.mem_of_mem_take hd)
            · rw [List.mem_singleton.mp hd]
              exact sz4
          · exact up d (List.mem_of_mem_drop hd)
end

/-! ### an edit of any form -/
def entPD (e : Nat × Nat) : PD := .tup [.str ⟨#[e.1]⟩, .int (e.2 : Nat)]
theorem ents_rep {K : PySem.W.Frag} {H : Hp} : ∀ {vs : List V} {doc : Doc}, EntsAt H vs doc → Reps K H vs (doc.map entPD)
  | _, _, .nil => .nil
  | _, _, .cons h t => by
    obtain ⟨r, rfl, e⟩ := h
    exact .cons (.tup e (.cons (.str _ (by show 1 ≤ 1000; decide)) (.cons (.int _) .nil))) (ents_rep t)
theorem entPD_is {c d : Nat} (h0 : 97 ≤ c) (h1 : c ≤ 104) : entP (entPD (c, d)) = some (d : Int) := by
  show (if markP (.str ⟨#[c]⟩) = true then (if (0 : Int) ≤ (d : Int) then some (d : Int) else none) else none) = _
  have m : markP (.str ⟨#[c]⟩) = true := mark_ok h0 h1
  rw [if_pos m, if_pos (by omega)]
theorem docFrom_ok : ∀ {m : Nat} {doc : Doc}, okFrom m doc → docFrom (m : Int) (doc.map entPD) = true
  | _, [], _ => rfl
  | m, (c, d) :: r, h => by
    have ih := docFrom_ok h.2.2.2
    show (match entP (entPD (c, d)) with | none => false | some x => if (m : Int) < x then false else docFrom (x + 1) (r.map entPD)) = true
    rw [entPD_is h.1 h.2.1]
    show (if (m : Int) < (d : Int) then false else docFrom ((d : Int) + 1) (r.map entPD)) = true
    rw [if_neg (by have := h.2.2.1; omega)]
    exact ih
def shD (doc : Doc) : Doc := doc.map fun e => (e.1, e.2 + 1)
theorem ok_shD : ∀ {m : Nat} {doc : Doc}, okFrom m doc → okFrom (m + 1) (shD doc)
  | _, [], _ => trivial
  | _, (_, _) :: _, h => ⟨h.1, h.2.1, Nat.succ_le_succ h.2.2.1, ok_shD h.2.2.2⟩
theorem zeros_sh : ∀ {m : Nat} {doc : Doc}, okFrom m doc → zerosP ((shD doc).map entPD) = 0
  | _, [], _ => rfl
  | _, (c, d) :: r, h => by
    show (if entP (entPD (c, d + 1)) = some 0 then 1 else 0) + zerosP ((shD r).map entPD) = 0
    rw [entPD_is h.1 h.2.1, zeros_sh h.2.2.2, if_neg (fun z => by injection z with z; omega)]
theorem piece_good {c : Nat} {doc : Doc} (h0 : 97 ≤ c) (h1 : c ≤ 104) (ok : okFrom 0 doc) (l : doc.length ≤ 62) : pieceP (.tup (((c, 0) :: shD doc).map entPD)) = true := by
  have okb : okFrom 0 ((c, 0) :: shD doc) := ⟨h0, h1, Nat.le_refl _, ok_shD ok⟩
  have d1 : docP (.tup (((c, 0) :: shD doc).map entPD)) = true := by
    show (decide ((((c, 0) :: shD doc).map entPD).length ≤ 20000) && docFrom 0 (((c, 0) :: shD doc).map entPD)) = true
    have := docFrom_ok okb
    rw [decide_eq_true (by rw [List.length_map, List.length_cons]; unfold shD; rw [List.length_map]; omega), Bool.true_and]
    exact this
  unfold pieceP
  rw [d1, Bool.true_and]
  show decide ((if entP (entPD (c, 0)) = some 0 then 1 else 0) + zerosP ((shD doc).map entPD) = 1) = true
  rw [entPD_is h0 h1, zeros_sh ok]
  rfl
theorem piece_sz {c : Nat} {doc : Doc} (l : doc.length ≤ 5) : szP 20 3 (.tup (((c, 0) :: shD doc).map entPD)) := by
  refine ⟨by rw [List.length_map, List.length_cons]; unfold shD; rw [List.length_map]; omega, fun d hd => ?_⟩
  obtain ⟨e, _, rfl⟩ := List.mem_map.mp hd
  exact ⟨by show 2 ≤ 20; decide, fun d hd => szP_leaf fun ds z => by
    subst z
    simp at hd⟩
theorem draw_of {H : Hp} {p : Addr} {n : Int} {m : Nat} {o : List V} {Q : VK} {E : XK} (hp : H p = some (.lst o)) (hf : FeedOk (m + 1) o) (n0 : 0 < n) (wn : Wd 1000 n)
    (k : ∀ (H' : Hp) (o' : List V) (r : Int), SameBut p H H' → H' p = some (.lst o') → FeedOk m o' → 0 ≤ r → r < n → Q (.int r) H') : spDraw [.ref p, .int n] H Q E :=
  ⟨p, n, m, o, rfl, hp, hf, n0, wn, fun o' r f a b => k _ o' r SameBut.refl.put upd_same f a b⟩
theorem one_lst {K : PySem.W.Frag} {H : Hp} {p l : Addr} {m : Nat} {o vs : List V} {Q : VK} {E : XK} (hp : H p = some (.lst o)) (hf : FeedOk (m + 1) o) (hl : H l = none) (n0 : 0 < vs.length) (n1 : vs.length ≤ 1000)
    (k : ∀ (H' : Hp) (o' : List V) (y : V), SameBut p H H' → H' p = some (.lst o') → FeedOk m o' → y ∈ vs → Q y H') : spOne K [.ref p, .ref l] (upd H l (.lst vs)) Q E := by
  have lp : l ≠ p := fun z => by subst z; rw [hp] at hl; cases hl
  exact ⟨p, .ref l, vs, m, o, rfl, by rw [upd_ne lp.symm]; exact hp, hf, .inr ⟨l, rfl, lp, SqL.of upd_same⟩, n0, n1, fun o' y f my => k _ o' y (SameBut.refl.new hl).put upd_same f my⟩
theorem one_str {K : PySem.W.Frag} {H : Hp} {p : Addr} {m : Nat} {o : List V} {Q : VK} {E : XK} (hp : H p = some (.lst o)) (hf : FeedOk (m + 1) o)
    (k : ∀ (H' : Hp) (o' : List V) (c : Nat), SameBut p H H' → H' p = some (.lst o') → FeedOk m o' → 97 ≤ c → c ≤ 104 → Q (.str ⟨#[c]⟩) H') : spOne K [.ref p, .str "abcdefgh"] H Q E := by
  refine ⟨p, .str "abcdefgh", (("abcdefgh" : Str).cps.toList.map fun c => V.str ⟨#[c]⟩), m, o, rfl, hp, hf, .inl ⟨_, rfl, rfl⟩, by decide +kernel, by decide +kernel, fun o' y f my => ?_⟩
  obtain ⟨c, hc, rfl⟩ := List.mem_map.mp my
  have : ∀ c ∈ ("abcdefgh" : Str).cps.toList, 97 ≤ c ∧ c ≤ 104 := by decide +kernel
  exact k _ o' c SameBut.refl.put upd_same f (this c hc).1 (this c hc).2
theorem edit3is (z : Str) (x y : PD) : editP (.tup [.str z, x, y]) = if z = ("take" : Str) then false && numP x else if z = ("mark" : Str) then numP x && markP y else if z = ("put" : Str) then placeP x && pieceP y else decide (z = ("move" : Str)) && (numP x && placeP y) := rfl
theorem edit2is (z : Str) (x : PD) : editP (.tup [.str z, x]) = if z = ("take" : Str) then true && numP x else false := rfl
def spAny (K : PySem.W.Frag) : Sp := fun vs H Q _ => ∃ (p : Addr) (m : Nat) (o : List V), vs = [.ref p] ∧ H p = some (.lst o) ∧ FeedOk (m + 300) o ∧
  ∀ (H' : Hp) (v : V) (d : PD) (o' : List V), SameBut p H H' → H' p = some (.lst o') → FeedOk m o' → Rep K H' v d → editP d = true → szP 20 4 d → Q v H'
section
variable {P : Program} {w : World} {K : PySem.W.Frag} {mg : Str → Option Value} {base : Heap}
theorem ok_any (T : Bl mg) (Dd : Dn K mg "_law_draw" sDraw pDraw) (D1 : Dn K mg "_law_one" sOne pOne) (Dmk : Dn K mg "_law_marks" sLMarks ["feed"]) (Dc : Dn K mg "_law_document" sDoc pDoc) (D : Dn K mg "_law_any_edit" sLAny ["feed"]) :
    FnOk P w K mg base CX0 5 D.f D.fd ["feed"] (spAny K) := by
  have GD : FnOk P w K mg base CX0 1 Dd.f Dd.fd pDraw spDraw := ok_draw T Dd
  have G1 : FnOk P w K mg base CX0 2 D1.f D1.fd pOne (spOne K) := ok_one T Dd D1
  have GC : FnOk P w K mg base CX0 4 Dc.f Dc.fd pDoc spDoc := ok_doc T Dd D1 Dmk Dc
  have sc : FnScope ["feed", "node", "which", "place", "inner", "mark", "piece", "depth"] ["feed"] (defScope sLAny) := ⟨rfl, rfl, rfl, by decide +kernel, rfl, by decide +kernel, by decide +kernel⟩
  refine D.F.ok sc (fun vs H Q E h => ?_) (fun cdv A outer s H vs Q E hr h => ?_)
  · obtain ⟨p, m, o, rfl, _⟩ := h
    rfl
  · obtain ⟨p, m, o, rfl, hp, hf, k⟩ := h
    refine ⟨_, pss_cons (ps_set (i := 1) sc.nd rfl (.inl rfl) (de_call D1 G1 hr (pa_cons (pv 0) (pa_cons (pe_lst (pa_cons pe_int (pa_cons (de_call Dd GD hr (pa_cons (pv 0) (pa_cons pe_int pa_nil))) (pa_cons (de_call Dd GD hr (pa_cons (pv 0) (pa_cons pe_int pa_nil))) (pa_cons (pe_op op_add (pe_op op_pow pe_int pe_int) (de_call Dd GD hr (pa_cons (pv 0) (pa_cons pe_int pa_nil)))) pa_nil))))) pa_nil))))
      (pss_cons (ps_set (i := 2) sc.nd rfl (.inl rfl) (de_call D1 G1 hr (pa_cons (pv 0) (pa_cons (pe_lst (pa_cons pe_int (pa_cons (de_call Dd GD hr (pa_cons (pv 0) (pa_cons pe_int pa_nil))) (pa_cons (pe_op op_pow pe_int pe_int) pa_nil)))) pa_nil))))
      (pss_cons (ps_set (i := 3) sc.nd rfl (.inl rfl) (pe_tup (pa_cons (de_call D1 G1 hr (pa_cons (pv 0) (pa_cons (pe_lst (pa_cons pe_non (pa_cons (de_call Dd GD hr (pa_cons (pv 0) (pa_cons pe_int pa_nil))) (pa_cons (pe_op op_pow pe_int pe_int) pa_nil)))) pa_nil))) (pa_cons (pv 2) pa_nil))))
      (pss_cons (ps_set (i := 4) sc.nd rfl (.inl rfl) (de_call Dc GC hr (pa_cons (pv 0) (pa_cons pe_int pa_nil))))
      (pss_cons (ps_set (i := 6) sc.nd rfl (.inl rfl) (pe_op op_catA (pe_tup (pa_cons (pe_tup (pa_cons (de_call D1 G1 hr (pa_cons (pv 0) (pa_cons pe_str pa_nil))) (pa_cons pe_int pa_nil))) pa_nil))
          (pe_callTy call_tuple_of (by rfl) T.tuple b_tuple (pa_cons (pe_lc (own := [("mark", 5), ("depth", 7)]) (g := gTup K 2 (gCons (gName 5) (gCons (gName 7) gNil))) (tt := tYes) rfl sc.nd (pi_tup (pv 4))
            (blkOk_by (N := ["feed", "node", "which", "place", "inner", "mark", "piece", "depth"]) (sc := defScope sLAny) (by decide +kernel)) (fun _ _ _ _ _ => pg_tup rfl (pgs_cons (pg_name (i := 5) sc.nd rfl (.inl rfl)) (pgs_cons (pg_name (i := 7) sc.nd rfl (.inl rfl)) pgs_nil))) (fun _ _ _ _ _ => pts_nil) (fun _ _ _ _ _ => pe_tup (pa_cons (pv 5) (pa_cons (pe_op op_add (pv 7) pe_int) pa_nil)))) pa_nil))))
      (pss_cons (ps_set (i := 5) sc.nd rfl (.inl rfl) (de_call D1 G1 hr (pa_cons (pv 0) (pa_cons pe_str pa_nil))))
      (pss_one (ps_ret (de_call D1 G1 hr (pa_cons (pv 0) (pa_cons (pe_lst (pa_cons (pe_tup (pa_cons pe_str (pa_cons (pv 1) (pa_cons (pv 5) pa_nil)))) (pa_cons (pe_tup (pa_cons pe_str (pa_cons (pv 3) (pa_cons (pv 6) pa_nil)))) (pa_cons (pe_tup (pa_cons pe_str (pa_cons (pv 1) pa_nil))) (pa_cons (pe_tup (pa_cons pe_str (pa_cons (pv 1) (pa_cons (pv 3) pa_nil)))) pa_nil))))) pa_nil)))))))))), ?_⟩
    have w9 : Wd 1000 (9 : Int) := ⟨by decide +kernel⟩
    have w3 : Wd 1000 (30000 : Int) := ⟨by decide +kernel⟩
    have w1 : Wd 1000 (1000 : Int) := ⟨by decide +kernel⟩
    have c40 : CPow 10 40 := ⟨by decide, by decide, by decide⟩
    have c30 : CPow 10 30 := ⟨by decide, by decide, by decide⟩
    have c20 : CPow 10 20 := ⟨by decide, by decide, by decide⟩
    -- node
    refine ⟨_, rfl, _, rfl, p, 9, m + 299, o, rfl, hp, hf, by decide, w9, fun o1 r1 f1 a1 _ => ?_⟩
    have s1 : SameBut p H (upd H p (.lst o1)) := SameBut.refl.put
    have p1 : (upd H p (.lst o1)) p = some (.lst o1) := upd_same
    generalize upd H p (.lst o1) = H1 at s1 p1 ⊢
    refine ⟨_, rfl, p, 30000, m + 298, o1, rfl, p1, f1, by decide, w3, fun o2 r2 f2 a2 _ => ?_⟩
    have s2 : SameBut p H1 (upd H1 p (.lst o2)) := SameBut.refl.put
    have p2 : (upd H1 p (.lst o2)) p = some (.lst o2) := upd_same
    generalize upd H1 p (.lst o2) = H2 at s2 p2 ⊢
    refine ⟨_, _, rfl, rfl, c40, _, rfl, p, 1000, m + 297, o2, rfl, p2, f2, by decide, w1, fun o3 r3 f3 a3 _ => ?_⟩
    have s3 : SameBut p H2 (upd H2 p (.lst o3)) := SameBut.refl.put
    have p3 : (upd H2 p (.lst o3)) p = some (.lst o3) := upd_same
    generalize upd H2 p (.lst o3) = H3 at s3 p3 ⊢
    refine ⟨_, _, rfl, rfl, by show 4 ≤ sizeLine; decide, fun l hl => ?_⟩
    have lp : l ≠ p := fun z => by subst z; rw [p3] at hl; cases hl
    refine ⟨p, .ref l, [.int 0, .int r1, .int r2, .int (10 ^ (40 : Int).toNat + r3)], m + 296, o3, rfl, by rw [upd_ne lp.symm]; exact p3, f3, .inr ⟨l, rfl, lp, SqL.of upd_same⟩, by show 0 < 4; decide, by show 4 ≤ 1000; decide, fun o4 y4 f4 m4 => ?_⟩
    have s4 : SameBut p H3 (upd (upd H3 l (.lst [.int 0, .int r1, .int r2, .int (10 ^ (40 : Int).toNat + r3)])) p (.lst o4)) := (SameBut.refl.new hl).put
    have p4 : (upd (upd H3 l (.lst [.int 0, .int r1, .int r2, .int (10 ^ (40 : Int).toNat + r3)])) p (.lst o4)) p = some (.lst o4) := upd_same
    generalize upd (upd H3 l (.lst [.int 0, .int r1, .int r2, .int (10 ^ (40 : Int).toNat + r3)])) p (.lst o4) = H4 at s4 p4 ⊢
    obtain ⟨u, rfl, u0⟩ : ∃ u : Int, y4 = .int u ∧ 0 ≤ u := by
      simp only [List.mem_cons, List.not_mem_nil, or_false] at m4
      rcases m4 with z | z | z | z
      · exact ⟨_, z, by decide⟩
      · exact ⟨_, z, a1⟩
      · exact ⟨_, z, a2⟩
      · exact ⟨_, z, Int.add_nonneg (Int.pow_nonneg (by decide)) a3⟩
    have s04 := s1.trans (s2.trans (s3.trans s4))
    -- which
    refine ⟨_, rfl, _, rfl, p, 9, m + 295, o4, rfl, p4, f4, by decide, w9, fun o5 r5 f5 a5 _ => ?_⟩
    have s5 : SameBut p H4 (upd H4 p (.lst o5)) := SameBut.refl.put
    have p5 : (upd H4 p (.lst o5)) p = some (.lst o5) := upd_same
    generalize upd H4 p (.lst o5) = H5 at s5 p5 ⊢
    refine ⟨_, _, rfl, rfl, c30, by show 3 ≤ sizeLine; decide, fun l2 hl2 => ?_⟩
    have l2p : l2 ≠ p := fun z => by subst z; rw [p5] at hl2; cases hl2
    refine ⟨p, .ref l2, [.int 0, .int r5, .int (10 ^ (30 : Int).toNat)], m + 294, o5, rfl, by rw [upd_ne l2p.symm]; exact p5, f5, .inr ⟨l2, rfl, l2p, SqL.of upd_same⟩, by show 0 < 3; decide, by show 3 ≤ 1000; decide, fun o6 y6 f6 m6 => ?_⟩
    have s6 : SameBut p H5 (upd (upd H5 l2 (.lst [.int 0, .int r5, .int (10 ^ (30 : Int).toNat)])) p (.lst o6)) := (SameBut.refl.new hl2).put
    have p6 : (upd (upd H5 l2 (.lst [.int 0, .int r5, .int (10 ^ (30 : Int).toNat)])) p (.lst o6)) p = some (.lst o6) := upd_same
    generalize upd (upd H5 l2 (.lst [.int 0, .int r5, .int (10 ^ (30 : Int).toNat)])) p (.lst o6) = H6 at s6 p6 ⊢
    obtain ⟨v, rfl, v0⟩ : ∃ u : Int, y6 = .int u ∧ 0 ≤ u := by
      simp only [List.mem_cons, List.not_mem_nil, or_false] at m6
      rcases m6 with z | z | z
      · exact ⟨_, z, by decide⟩
      · exact ⟨_, z, a5⟩
      · exact ⟨_, z, Int.pow_nonneg (by decide)⟩
    have s06 := s04.trans (s5.trans s6)
    -- place
    refine ⟨_, rfl, _, rfl, p, 9, m + 293, o6, rfl, p6, f6, by decide, w9, fun o7 r7 f7 a7 _ => ?_⟩
    have s7 : SameBut p H6 (upd H6 p (.lst o7)) := SameBut.refl.put
    have p7 : (upd H6 p (.lst o7)) p = some (.lst o7) := upd_same
    generalize upd H6 p (.lst o7) = H7 at s7 p7 ⊢
    refine ⟨_, _, rfl, rfl, c20, by show 3 ≤ sizeLine; decide, fun l3 hl3 => ?_⟩
    have l3p : l3 ≠ p := fun z => by subst z; rw [p7] at hl3; cases hl3
    refine ⟨p, .ref l3, [.non, .int r7, .int (10 ^ (20 : Int).toNat)], m + 292, o7, rfl, by rw [upd_ne l3p.symm]; exact p7, f7, .inr ⟨l3, rfl, l3p, SqL.of upd_same⟩, by show 0 < 3; decide, by show 3 ≤ 1000; decide, fun o8 y8 f8 m8 => ?_⟩
    have s8 : SameBut p H7 (upd (upd H7 l3 (.lst [.non, .int r7, .int (10 ^ (20 : Int).toNat)])) p (.lst o8)) := (SameBut.refl.new hl3).put
    have p8 : (upd (upd H7 l3 (.lst [.non, .int r7, .int (10 ^ (20 : Int).toNat)])) p (.lst o8)) p = some (.lst o8) := upd_same
    generalize upd (upd H7 l3 (.lst [.non, .int r7, .int (10 ^ (20 : Int).toNat)])) p (.lst o8) = H8 at s8 p8 ⊢
    obtain ⟨dp, rdp, gdp, sdp⟩ : ∃ d : PD, (∀ H', Rep K H' y8 d) ∧ (isNone d || numP d) = true ∧ ∀ n, szP 20 n d := by
      simp only [List.mem_cons, List.not_mem_nil, or_false] at m8
      rcases m8 with rfl | rfl | rfl
      · exact ⟨.non, fun _ => .non, rfl, fun _ => szP_leaf fun _ z => nomatch z⟩
      · exact ⟨.int _, fun _ => .int _, by show (false || decide (0 ≤ r7)) = true; rw [decide_eq_true a7]; rfl, fun _ => szP_leaf fun _ z => nomatch z⟩
      · exact ⟨.int _, fun _ => .int _, by show (false || decide ((0 : Int) ≤ 10 ^ (20 : Int).toNat)) = true; rw [decide_eq_true (Int.pow_nonneg (by decide))]; rfl, fun _ => szP_leaf fun _ z => nomatch z⟩
    have s08 := s06.trans (s7.trans s8)
    refine ⟨_, rfl, by show 2 ≤ sizeLine; decide, fun t ht => ?_⟩
    have s9 : SameBut p H8 (upd H8 t (.tup [y8, .int v])) := SameBut.refl.new ht
    have tp : t ≠ p := fun z => by subst z; rw [p8] at ht; cases ht
    have p9 : (upd H8 t (.tup [y8, .int v])) p = some (.lst o8) := by rw [upd_ne tp.symm]; exact p8
    have et : (upd H8 t (.tup [y8, .int v])) t = some (.tup [y8, .int v]) := upd_same
    generalize upd H8 t (.tup [y8, .int v]) = H9 at s9 p9 et
    have s09 := s08.trans s9
    -- inner
    refine ⟨_, rfl, p, 5, m + 92, o8, rfl, p9, f8, by decide, fun HA q doc oA sA pA fA q0 hd ok dl => ?_⟩
    have etA := sA.tups p9 _ _ et
    -- piece
    refine ⟨_, rfl, p, .str "abcdefgh", (("abcdefgh" : Str).cps.toList.map fun c => V.str ⟨#[c]⟩), m + 91, oA, rfl, pA, fA, .inl ⟨_, rfl, rfl⟩, by decide +kernel, by decide +kernel, fun oB yyc fB myc => ?_⟩
    obtain ⟨c, hcc, rfl⟩ := List.mem_map.mp myc
    obtain ⟨c0, c1⟩ : 97 ≤ c ∧ c ≤ 104 := by
      have : ∀ c ∈ ("abcdefgh" : Str).cps.toList, 97 ≤ c ∧ c ≤ 104 := by decide +kernel
      exact this c hcc
    have sB : SameBut p HA (upd HA p (.lst oB)) := SameBut.refl.put
    have pB : (upd HA p (.lst oB)) p = some (.lst oB) := upd_same
    generalize upd HA p (.lst oB) = HB at sB pB ⊢
    have etB := sB.tups pA _ _ etA
    have hdB := hd.mono (sB.tups pA)
    have s0B := (s09.trans sA).trans sB
    refine ⟨by show 2 ≤ sizeLine; decide, fun t1 ht1 => ⟨by show 1 ≤ sizeLine; decide, fun t2 ht2 => ?_⟩⟩
    have sC : Same HB (upd (upd HB t1 (.tup [.str ⟨#[c]⟩, .int 0])) t2 (.tup [.ref t1])) := (Same.new ht1).trans (Same.new ht2)
    have t12 : t1 ≠ t2 := fun z => by subst z; rw [upd_same] at ht2; cases ht2
    have et1 : (upd (upd HB t1 (.tup [.str ⟨#[c]⟩, .int 0])) t2 (.tup [.ref t1])) t1 = some (.tup [.str ⟨#[c]⟩, .int 0]) := by rw [upd_ne t12, upd_same]
    have et2 : (upd (upd HB t1 (.tup [.str ⟨#[c]⟩, .int 0])) t2 (.tup [.ref t1])) t2 = some (.tup [.ref t1]) := upd_same
    generalize upd (upd HB t1 (.tup [.str ⟨#[c]⟩, .int 0])) t2 (.tup [.ref t1]) = HC at sC et1 et2
    have hdC := hdB.same sC
    obtain ⟨ws, ews, qws⟩ := id hdC
    have wl := Paired.length qws
    refine ⟨_, rfl, q, rfl, ⟨ws, SqT.of ews⟩, fun B hB => ?_⟩
    refine lc_it (walk_tup (K := K) (a := q) (xs := ws)) (fun j H' => j ≤ doc.length ∧ Same HC H' ∧ ∃ vs, H' B = some (.lst vs) ∧ vs.length = j ∧ EntsAt H' vs (shD (doc.take j))) ?_ ?_ ?_ ?_
    · exact ⟨Nat.zero_le _, Same.new hB, [], upd_same, rfl, .nil⟩
    · rintro j H' hj ⟨_, s7, _⟩
      exact SqT.of (s7 _ _ ews)
    · rintro j y H' H'' hj ⟨jl, s7, vs, eB, vl, ents⟩ ⟨rfl, hy⟩
      obtain ⟨e, he, r, rfl, hr2⟩ := qws.get hy
      obtain ⟨cc, dd⟩ := e
      have lt := (List.getElem?_eq_some_iff.mp he).1
      refine ⟨r, _, rfl, SqT.of (s7 _ _ hr2), rfl, _, _, rfl, _, _, rfl, rfl, rfl, ?_⟩
      refine ⟨_, rfl, _, rfl, _, _, rfl, rfl, by show 2 ≤ sizeLine; decide, fun t ht => ?_⟩
      have tB : t ≠ B := fun z => by subst z; rw [eB] at ht; cases ht
      refine ⟨vs, by rw [upd_ne tB.symm]; exact eB, by rw [vl]; exact Nat.lt_of_lt_of_le (show j < 63 by omega) (by decide), lt, fun b o e => ?_, vs ++ [.ref t], upd_same, by rw [List.length_append, vl]; rfl, ?_⟩
      · have z := s7 b o e
        rw [upd_ne (ne_of_none e hB), upd_ne (ne_of_none z ht)]
        exact z
      · have k1 : ∀ b xs, H'' b = some (.tup xs) → (upd (upd H'' t (.tup [.str ⟨#[cc]⟩, .int ((dd : Nat) + 1)])) B (.lst (vs ++ [.ref t]))) b = some (.tup xs) := fun b xs e =>
          upd_tups (by rw [upd_ne tB.symm]; exact eB) b xs (new_tups ht b xs e)
        have e : shD (doc.take (j + 1)) = shD (doc.take j) ++ [(cc, dd + 1)] := by
          rw [List.take_succ_eq_append_getElem lt]
          unfold shD
          rw [List.map_append, (List.getElem?_eq_some_iff.mp he).2]
          rfl
        rw [e]
        refine Paired.snoc (ents.mono k1) ⟨t, rfl, ?_⟩
        rw [upd_ne tB, upd_same]
        rfl
    rintro HD ⟨_, sD, vs, eB, vl, ents⟩
    rw [wl, List.take_length] at ents
    refine ⟨B, vs, rfl, .inl ⟨SqL.of eB, fun q2 hq2 => ?_⟩⟩
    have sE : Same HC (upd HD q2 (.tup vs)) := sD.trans (Same.new hq2)
    have eE : (upd HD q2 (.tup vs)) q2 = some (.tup vs) := upd_same
    have entsE := ents.mono (new_tups (u := .tup vs) hq2)
    generalize upd HD q2 (.tup vs) = HE at sE eE entsE
    refine cat_tups (sE _ _ et2) eE (by rw [vl]; show 1 + ws.length ≤ _; omega) fun HF pc sF epc => ?_
    have sCF := sE.trans sF
    have repc : Rep K HF (.ref pc) (.tup (((c, 0) :: shD doc).map entPD)) := .tup epc (.cons (.tup (sCF _ _ et1) (.cons (.str _ (by show 1 ≤ 1000; decide)) (.cons (.int _) .nil))) (Reps.same sF (ents_rep entsE)))
    have sBF := sC.trans sCF
    have pF := sBF _ _ pB
    have etF := sBF _ _ etB
    -- mark
    refine ⟨_, rfl, p, .str "abcdefgh", (("abcdefgh" : Str).cps.toList.map fun c => V.str ⟨#[c]⟩), m + 90, oB, rfl, pF, fB, .inl ⟨_, rfl, rfl⟩, by decide +kernel, by decide +kernel, fun oG yyc2 fG myc2 => ?_⟩
    obtain ⟨c2, hcc2, rfl⟩ := List.mem_map.mp myc2
    obtain ⟨c20', c21⟩ : 97 ≤ c2 ∧ c2 ≤ 104 := by
      have : ∀ c ∈ ("abcdefgh" : Str).cps.toList, 97 ≤ c ∧ c ≤ 104 := by decide +kernel
      exact this c2 hcc2
    have sG : SameBut p HF (upd HF p (.lst oG)) := SameBut.refl.put
    have pG : (upd HF p (.lst oG)) p = some (.lst oG) := upd_same
    generalize upd HF p (.lst oG) = HG at sG pG ⊢
    have repcG := Rep.but sG pF pG repc
    have etG := sG.tups pF _ _ etF
    have repl : Rep K HG (.ref t) (.tup [dp, .int v]) := .tup etG (.cons (rdp _) (.cons (.int v) .nil))
    have s0G := (s0B.trans (bS sBF)).trans sG
    have mk1 : Rep K HG (.str ⟨#[c2]⟩) (.str ⟨#[c2]⟩) := .str _ (by show 1 ≤ 1000; decide)
    -- the four
    refine ⟨_, rfl, _, rfl, _, rfl, by show 3 ≤ sizeLine; decide, fun x1 hx1 => ?_⟩
    have g1 := Same.new (o := .tup [.str "mark", .int u, .str ⟨#[c2]⟩]) hx1
    refine ⟨_, rfl, _, rfl, by show 3 ≤ sizeLine; decide, fun x2 hx2 => ?_⟩
    have g2 := Same.new (o := .tup [.str "put", .ref t, .ref pc]) hx2
    refine ⟨_, rfl, by show 2 ≤ sizeLine; decide, fun x3 hx3 => ?_⟩
    have g3 := Same.new (o := .tup [.str "take", .int u]) hx3
    refine ⟨_, rfl, _, rfl, by show 3 ≤ sizeLine; decide, fun x4 hx4 => ?_⟩
    have g4 := Same.new (o := .tup [.str "move", .int u, .ref t]) hx4
    have gg := g1.trans (g2.trans (g3.trans g4))
    have str : ∀ (H' : Hp) (z : Str), z.length ≤ 1000 → Rep K H' (.str z) (.str z) := fun _ z h => .str z h
    have e1 := (g2.trans (g3.trans g4)) _ _ (show (upd HG x1 (.tup [.str "mark", .int u, .str ⟨#[c2]⟩])) x1 = some _ from upd_same)
    have e2 := (g3.trans g4) _ _ (show (upd (upd HG x1 (.tup [.str "mark", .int u, .str ⟨#[c2]⟩])) x2 (.tup [.str "put", .ref t, .ref pc])) x2 = some _ from upd_same)
    have e3 := g4 _ _ (show (upd (upd (upd HG x1 (.tup [.str "mark", .int u, .str ⟨#[c2]⟩])) x2 (.tup [.str "put", .ref t, .ref pc])) x3 (.tup [.str "take", .int u])) x3 = some _ from upd_same)
    have e4 := show (upd (upd (upd (upd HG x1 (.tup [.str "mark", .int u, .str ⟨#[c2]⟩])) x2 (.tup [.str "put", .ref t, .ref pc])) x3 (.tup [.str "take", .int u])) x4 (.tup [.str "move", .int u, .ref t])) x4 = some _ from upd_same
    have lf : ∀ {d : PD} {n : Nat}, (∀ ds, d ≠ .tup ds) → szP 20 n d := fun h => szP_leaf h
    have plg : placeP (.tup [dp, .int v]) = true := by
      show ((isNone dp || numP dp) && decide (0 ≤ v)) = true
      rw [gdp, decide_eq_true v0]
      rfl
    have nu : numP (.int u) = true := decide_eq_true u0
    have plz : ∀ n, szP 20 (n + 1) (.tup [dp, .int v]) := fun n => ⟨by show 2 ≤ 20; decide, fun d hd => by
      simp only [List.mem_cons, List.not_mem_nil, or_false] at hd
      rcases hd with rfl | rfl
      · exact sdp n
      · exact lf fun _ z => nomatch z⟩
    have all : ∀ x ∈ [V.ref x1, V.ref x2, V.ref x3, V.ref x4], ∃ d, Rep K (upd (upd (upd (upd HG x1 (.tup [.str "mark", .int u, .str ⟨#[c2]⟩])) x2 (.tup [.str "put", .ref t, .ref pc])) x3 (.tup [.str "take", .int u])) x4 (.tup [.str "move", .int u, .ref t])) x d ∧ editP d = true ∧ szP 20 4 d := by
      intro x hx
      simp only [List.mem_cons, List.not_mem_nil, or_false] at hx
      rcases hx with rfl | rfl | rfl | rfl
      · refine ⟨.tup [.str "mark", .int u, .str ⟨#[c2]⟩], .tup e1 (.cons (str _ _ (by decide +kernel)) (.cons (.int u) (.cons (Rep.same gg mk1) .nil))), ?_, by show 3 ≤ 20; decide, fun d hd => ?_⟩
        · rw [edit3is, if_neg (by decide +kernel), if_pos rfl, nu, show markP (.str ⟨#[c2]⟩) = true from mark_ok c20' c21]
          rfl
        · simp only [List.mem_cons, List.not_mem_nil, or_false] at hd
          rcases hd with rfl | rfl | rfl <;> exact lf fun _ z => nomatch z
      · refine ⟨.tup [.str "put", .tup [dp, .int v], .tup (((c, 0) :: shD doc).map entPD)], .tup e2 (.cons (str _ _ (by decide +kernel)) (.cons (Rep.same gg repl) (.cons (Rep.same gg repcG) .nil))), ?_, by show 3 ≤ 20; decide, fun d hd => ?_⟩
        · rw [edit3is, if_neg (by decide +kernel), if_neg (by decide +kernel), if_pos rfl, plg, piece_good c0 c1 ok (by omega)]
          rfl
        · simp only [List.mem_cons, List.not_mem_nil, or_false] at hd
          rcases hd with rfl | rfl | rfl
          · exact lf fun _ z => nomatch z
          · exact plz 2
          · exact piece_sz dl
      · refine ⟨.tup [.str "take", .int u], .tup e3 (.cons (str _ _ (by decide +kernel)) (.cons (.int u) .nil)), ?_, by show 2 ≤ 20; decide, fun d hd => ?_⟩
        · rw [edit2is, if_pos rfl, nu]
          rfl
        · simp only [List.mem_cons, List.not_mem_nil, or_false] at hd
          rcases hd with rfl | rfl <;> exact lf fun _ z => nomatch z
      · refine ⟨.tup [.str "move", .int u, .tup [dp, .int v]], .tup e4 (.cons (str _ _ (by decide +kernel)) (.cons (.int u) (.cons (Rep.same gg repl) .nil))), ?_, by show 3 ≤ 20; decide, fun d hd => ?_⟩
        · rw [edit3is, if_neg (by decide +kernel), if_neg (by decide +kernel), if_neg (by decide +kernel), nu, plg]
          decide +kernel
        · simp only [List.mem_cons, List.not_mem_nil, or_false] at hd
          rcases hd with rfl | rfl | rfl
          · exact lf fun _ z => nomatch z
          · exact lf fun _ z => nomatch z
          · exact plz 2
    have pZ := gg _ _ pG
    generalize upd (upd (upd (upd HG x1 (.tup [.str "mark", .int u, .str ⟨#[c2]⟩])) x2 (.tup [.str "put", .ref t, .ref pc])) x3 (.tup [.str "take", .int u])) x4 (.tup [.str "move", .int u, .ref t]) = HZ at gg all pZ ⊢
    refine ⟨by show 4 ≤ sizeLine; decide, fun l4 hl4 => ?_⟩
    have l4p : l4 ≠ p := fun z => by subst z; rw [pZ] at hl4; cases hl4
    refine ⟨p, .ref l4, [.ref x1, .ref x2, .ref x3, .ref x4], m + 89, oG, rfl, by rw [upd_ne l4p.symm]; exact pZ, fG, .inr ⟨l4, rfl, l4p, SqL.of upd_same⟩, by show 0 < 4; decide, by show 4 ≤ 1000; decide, fun oQ yQ fQ mQ => ?_⟩
    have sQ : SameBut p HZ (upd (upd HZ l4 (.lst [.ref x1, .ref x2, .ref x3, .ref x4])) p (.lst oQ)) := (SameBut.refl.new hl4).put
    have pQ : (upd (upd HZ l4 (.lst [.ref x1, .ref x2, .ref x3, .ref x4])) p (.lst oQ)) p = some (.lst oQ) := upd_same
    generalize upd (upd HZ l4 (.lst [.ref x1, .ref x2, .ref x3, .ref x4])) p (.lst oQ) = HQ at sQ pQ ⊢
    obtain ⟨d, rd, ed, sd⟩ := all yQ mQ
    exact k HQ yQ d oQ ((s0G.trans (bS gg)).trans sQ) pQ (fQ.less (by omega)) (Rep.but sQ pZ pQ rd) ed sd
end

/-! ### the law of edits and near ones -/
def spLaw (K : PySem.W.Frag) : Sp := fun vs H Q _ => ∃ (a : Addr) (ns : List Int), vs = [.ref a] ∧ SqL K H a (ns.map V.int) ∧ (∀ H', Same H H' → SqL K H' a (ns.map V.int)) ∧ ns.length ≤ 63 ∧ (∀ z ∈ ns, Builtin.Int.intBits z ≤ 1048576) ∧ ∀ H', Q (.bl true) H'
abbrev nLaw : List Str := ["script", "k", "feed", "turns", "good", "thing", "turn", "one", "found"]
section
variable {P : Program} {w : World} {K : PySem.W.Frag} {mg : Str → Option Value} {base : Heap}
theorem ok_law (T : Bl mg) (hm : MarksAt K mg) (hM : MostAt mg) (Dw : Dn K mg "is_whole" sWhole pThing) (Dnu : Dn K mg "is_number" sNumber pThing) (Dm : Dn K mg "is_mark" sMark pThing)
    (De : Dn K mg "_is_entry" sEntry pThing) (Di : Dn K mg "is_document" sIsDoc pThing) (Dpl : Dn K mg "_is_place" sIsPlace pThing) (Dpc : Dn K mg "_is_piece" sIsPiece pThing) (Die : Dn K mg "is_edit" sIsEdit pThing)
    (Dd : Dn K mg "_law_draw" sDraw pDraw) (D1 : Dn K mg "_law_one" sOne pOne) (Dfe : Dn K mg "_law_feed" sFeed pFeed) (Dmk : Dn K mg "_law_marks" sLMarks ["feed"]) (Dc : Dn K mg "_law_document" sDoc pDoc)
    (Dlw : Dn K mg "_law_whole_number" sLWhole pThing) (Dld : Dn K mg "_law_is_document" sLIsDoc pThing) (Dlc : Dn K mg "_law_is_count" sLCount pThing) (Dlp : Dn K mg "_law_is_place" sLPlace pThing) (Dle : Dn K mg "_law_is_edit" sLEdit pThing)
    (Do : Dn K mg "_law_odd" sLOdd []) (Dsp : Dn K mg "_law_spoiled" sLSpoil pSpoil) (Da : Dn K mg "_law_any_edit" sLAny ["feed"])
    (D : Dn K mg "law" sLaw ["script"]) : GOk P w K mg base CX0 14 D.f D.fd ["script"] (spLaw K) := by
  have GF : FnOk P w K mg base CX0 1 Dfe.f Dfe.fd pFeed (spFeed K) := ok_feed T Dfe
  have GD : FnOk P w K mg base CX0 1 Dd.f Dd.fd pDraw spDraw := ok_draw T Dd
  have GIE : FnOk P w K mg base CX0 6 Die.f Die.fd pThing (spEditG K) := ok_isedit T hm hM Dw Dnu Dm De Di Dpl Dpc Die
  have GLE : FnOk P w K mg base CX0 3 Dle.f Dle.fd pThing (spEditG K) := ok_ledit T Dlw Dld Dlc Dlp Dle
  have GA : FnOk P w K mg base CX0 5 Da.f Da.fd ["feed"] (spAny K) := ok_any T Dd D1 Dmk Dc Da
  have GS : FnOk P w K mg base CX0 12 Dsp.f Dsp.fd pSpoil (spSpoil K 8) := ok_spoil T Dd D1 Do Dsp 8
  have sc : FnScope nLaw ["script"] (defScope sLaw) := ⟨rfl, rfl, rfl, by decide +kernel, rfl, by decide +kernel, by decide +kernel⟩
  refine gok0 D.F sc (fun vs H Q E h => ?_) (fun cdv A outer s H vs Q E hgd hr h => ?_)
  · obtain ⟨a, ns, rfl, _⟩ := h
    rfl
  · obtain ⟨a, ns, rfl, hs, hsS, hl, hb, k⟩ := h
    refine ⟨_, pss_cons (ps_for PassesOwn.never rfl (pi_range1 (by rfl) T.range (pa_cons (pe_callB (call_max2 rfl) (by rfl) T.max b_max (pa_cons pe_int (pa_cons (pe_callB (call_min2 rfl) (by rfl) T.min b_min (pa_cons pe_int (pa_cons (pe_callB call_len_seq (by rfl) T.len b_len (pa_cons (pv 0) pa_nil)) pa_nil))) pa_nil))) pa_nil)) (pg_name (i := 1) sc.nd rfl (.inl rfl))
        (pss_cons (ps_set (i := 2) sc.nd rfl (.inl rfl) (de_call Dfe GF hr (pa_cons (pv 0) (pa_cons (pv 1) pa_nil))))
        (pss_cons (ps_set (i := 3) sc.nd rfl (.inl rfl) (de_call Dd GD hr (pa_cons (pv 2) (pa_cons pe_int pa_nil))))
        (pss_cons (ps_set (i := 4) sc.nd rfl (.inl rfl) (de_call Da GA hr (pa_cons (pv 2) pa_nil)))
        (pss_cons (ps_set (i := 5) sc.nd rfl (.inl rfl) (pv 4))
        (pss_cons (ps_for PassesOwn.never rfl (pi_range1 (by rfl) T.range (pa_cons (pv 3) pa_nil)) (pg_name (i := 6) sc.nd rfl (.inl rfl)) (pss_one (ps_set (i := 5) sc.nd rfl (.inl rfl) (de_call Dsp GS hr (pa_cons (pv 2) (pa_cons (pv 5) pa_nil))))))
        (pss_cons (ps_for PassesOwn.never rfl (pi_list (pe_lst (pa_cons (pv 5) (pa_cons (pv 4) (pa_cons (pv 5) pa_nil))))) (pg_name (i := 7) sc.nd rfl (.inl rfl))
          (pss_cons (ps_set (i := 8) sc.nd rfl (.inl rfl) (de_call Die GIE hr (pa_cons (pv 7) pa_nil)))
          (pss_one (ps_if (PW.pt (pw_or (pt_not (pt_val (pe_callB call_isi (by rfl) T.isinstance b_isinstance (pa_cons (pv 8) (pa_cons (pe_bltn (v := .ty "bool") rfl T.bool b_bool rfl) pa_nil))))) (pw_or1 (pt_cmpR op_ne (pv 8) (de_call Dle GLE hr (pa_cons (pv 7) pa_nil)) (nomark _))))) pss_never pss_nil))))
        (pss_one (ps_if (pt_not (pt_val (de_call Die GIE hr (pa_cons (pv 4) pa_nil)))) pss_never pss_nil)))))))))
      (pss_one (ps_ret pe_bl)), ?_⟩
    refine ⟨_, rfl, a, _, rfl, .inl hs, _, _, rfl, _, _, rfl, _, rfl, ?_⟩
    have hN : (3 : Int) ≤ (if (if (((ns.map V.int).length : Nat) : Int) < 40 then (((ns.map V.int).length : Nat) : Int) else 40) > 3 then (if (((ns.map V.int).length : Nat) : Int) < 40 then (((ns.map V.int).length : Nat) : Int) else 40) else 3) ∧
        (if (if (((ns.map V.int).length : Nat) : Int) < 40 then (((ns.map V.int).length : Nat) : Int) else 40) > 3 then (if (((ns.map V.int).length : Nat) : Int) < 40 then (((ns.map V.int).length : Nat) : Int) else 40) else 3) ≤ 40 := by
      constructor <;> (split <;> (try split) <;> omega)
    generalize (if (if (((ns.map V.int).length : Nat) : Int) < 40 then (((ns.map V.int).length : Nat) : Int) else 40) > 3 then (if (((ns.map V.int).length : Nat) : Int) < 40 then (((ns.map V.int).length : Nat) : Int) else 40) else 3) = N at hN ⊢
    obtain ⟨n3, n40⟩ := hN
    refine ⟨by omega, by omega, for_range (lo := 0) (n := N.toNat) (fun i σ H' => Same H H' ∧ ∃ b1 b2 b3 b4 b5 b6 b7 b8 : Option V, σ = [some (.ref a), b1, b2, b3, b4, b5, b6, b7, b8]) ?_ ?_ ?_⟩
    · exact ⟨fun _ _ e => e, none, none, none, none, none, none, none, none, rfl⟩
    · rintro i σ H1 hi ⟨s1, b1, b2, b3, b4, b5, b6, b7, b8, rfl⟩
      refine ⟨_, rfl, _, rfl, a, _, ns, rfl, hsS H1 s1, hl, hb, by omega, by omega, fun H2 f o s2 f0 e2 fo => ?_⟩
      refine ⟨_, rfl, f, 3, 800000000000, o, rfl, e2, fo.less (by omega), by decide, ⟨by decide +kernel⟩, fun o3 r3 f3 a3 b3' => ?_⟩
      have s3 : SameBut f H2 (upd H2 f (.lst o3)) := SameBut.refl.put
      have p3 : (upd H2 f (.lst o3)) f = some (.lst o3) := upd_same
      generalize upd H2 f (.lst o3) = H3 at s3 p3 ⊢
      refine ⟨_, rfl, f, 700000000000, o3, rfl, p3, f3.less (by omega), fun H4 v d o4 s4 p4 f4 rep ed sz => ?_⟩
      refine ⟨_, rfl, ?_⟩
      refine ⟨_, rfl, _, rfl, by omega, by omega, for_range (lo := 0) (n := r3.toNat) (fun t σ H' => ∃ (x : V) (d' : PD) (o' : List V) (c6 : Option V), σ = [some (.ref a), some (.int (0 + (i : Int))), some (.ref f), some (.int r3), some v, some x, c6, b7, b8] ∧
        SameBut f H4 H' ∧ H' f = some (.lst o') ∧ FeedOk (500000000000 + 27 * (3 - t)) o' ∧ Rep K H' x d' ∧ szP (20 + t) (4 + 4 * t) d') ?_ ?_ ?_⟩
      · exact ⟨v, d, o4, b6, rfl, SameBut.refl, p4, f4.less (by omega), rep, sz⟩
      · rintro t σ H5 ht ⟨x, d', o', c6, rfl, s5, p5, f5, rep5, sz5⟩
        refine ⟨_, rfl, _, rfl, f, x, d', 500000000000 + 27 * (3 - (t + 1)), 4 + 4 * t, 20 + t, o', rfl, p5, f5.less (by omega), rep5, by omega, by omega, by omega, sz5, fun H6 x6 d6 o6 s6 p6 f6 rep6 sz6 => ?_⟩
        refine ⟨x6, d6, o6, _, rfl, s5.trans s6, p6, f6, rep6, ?_⟩
        have e : 4 + 4 * (t + 1) = 4 + 4 * t + 4 := by omega
        rw [e]
        exact sz6
      · rintro σ H5 ⟨x, d', o', c6, rfl, s5, p5, f5, rep5, sz5⟩
        have repg := Rep.but s5 p4 p5 rep
        refine ⟨_, rfl, _, rfl, _, rfl, by show 3 ≤ sizeLine; decide, fun l hl' => ?_⟩
        have sL : Same H5 (upd H5 l (.lst [x, v, x])) := Same.new hl'
        have all : ∀ (j : Nat) (y : V), [x, v, x][j]? = some y → ∃ dd, Rep K H5 y dd := by
          intro j y hy
          match j, hy with
          | 0, hy => cases hy; exact ⟨d', rep5⟩
          | 1, hy => cases hy; exact ⟨d, repg⟩
          | 2, hy => cases hy; exact ⟨d', rep5⟩
          | n + 3, hy => exact absurd hy (fun z => nomatch z)
        refine ⟨l, rfl, ⟨_, SqL.of upd_same⟩, for_list (K := K) (a := l) (xs := [x, v, x]) (fun j σ H' => Same H5 H' ∧ H' l = some (.lst [x, v, x]) ∧ ∃ c7 c8 : Option V,
          σ = [some (.ref a), some (.int (0 + (i : Int))), some (.ref f), some (.int r3), some v, some x, c6, c7, c8]) ?_ ?_ ?_ ?_⟩
        · exact ⟨sL, upd_same, _, _, rfl⟩
        · rintro j σ H6 hj ⟨_, e, _⟩
          exact SqL.of e
        · rintro j y σ H6 hy ⟨s6, e6, c7, c8, rfl⟩
          obtain ⟨dd, rd⟩ := all j y hy
          have rd6 := Rep.same s6 rd
          refine ⟨_, rfl, y, dd, rfl, rd6, fun H7 s7 => ?_⟩
          have any : Any K H7 (.bl (editP dd)) "bool" := .bl _
          refine ⟨_, rfl, _, _, _, _, _, rfl, .ty "bool", any.ty, any.kit.2.1, _, rfl, iteF ?_⟩
          refine ⟨_, rfl, _, rfl, y, dd, rfl, Rep.same s7 rd6, fun H8 s8 => ⟨rfl, _, rfl, iteNS rfl ?_⟩⟩
          exact ⟨s6.trans (s7.trans s8), (s7.trans s8) _ _ e6, _, _, rfl⟩
        · rintro σ H6 ⟨s6, _, c7, c8, rfl⟩
          refine ⟨_, rfl, v, d, rfl, Rep.same s6 repg, fun H7 s7 => ⟨_, rfl, ?_⟩⟩
          rw [ed]
          refine iteF ⟨?_, _, _, _, _, _, _, _, _, rfl⟩
          have s12 := SameBut.same s2 f0 ((s3.trans s4).trans s5)
          exact s1.trans (s12.trans (s6.trans s7))
    · rintro σ H1 ⟨s1, b1, b2, b3, b4, b5, b6, b7, b8, rfl⟩
      exact k _
end

theorem sq_same {K : PySem.W.Frag} {H H' : Hp} {a : Addr} {xs : List V} (h : SqL K H a xs) (s : Same H H') : SqL K H' a xs := by
  rcases h with (h | ⟨o, h⟩) | h
  · exact .inl (.inl (s _ _ h))
  · exact .inl (.inr ⟨o, s _ _ h⟩)
  · exact .inr h

/-! ### what the top has written, the head -/
theorem all_mk {l : PySem.W.OpenLaw} {w : World} {K : PySem.W.Frag} {h : Heap} {mg : Str → Option Value} {fa f0 f1 f2 f3 f4 f5 f6 f7 f8 f9 f10 f11 f12 f13 f14 f15 f16 f17 f18 f19 f20 f21 fM : Addr} (X : K.In h) (G : h.Ns mainGlobals mg) (hfa : mg "law" = some (.ref fa))
    {od0 an0 od1 an1 od2 an2 od3 an3 od4 an4 od5 an5 od6 an6 od7 an7 od8 an8 od9 an9 od10 an10 od11 an11 od12 an12 od13 an13 od14 an14 od15 an15 od16 an16 od17 an17 od18 an18 od19 an19 od20 an20 od21 an21 dM : Option Addr} {sl0 sl1 sl2 sl3 sl4 sl5 sl6 sl7 sl8 sl9 sl10 sl11 sl12 sl13 sl14 sl15 sl16 sl17 sl18 sl19 sl20 sl21 sM : Array (Option Value)} {oc0 kV0 dc0 pm0 cd0 ct0 oc1 kV1 dc1 pm1 cd1 ct1 oc2 kV2 dc2 pm2 cd2 ct2 oc3 kV3 dc3 pm3 cd3 ct3 oc4 kV4 dc4 pm4 cd4 ct4 oc5 kV5 dc5 pm5 cd5 ct5 oc6 kV6 dc6 pm6 cd6 ct6 oc7 kV7 dc7 pm7 cd7 ct7 oc8 kV8 dc8 pm8 cd8 ct8 oc9 kV9 dc9 pm9 cd9 ct9 oc10 kV10 dc10 pm10 cd10 ct10 oc11 kV11 dc11 pm11 cd11 ct11 oc12 kV12 dc12 pm12 cd12 ct12 oc13 kV13 dc13 pm13 cd13 ct13 oc14 kV14 dc14 pm14 cd14 ct14 oc15 kV15 dc15 pm15 cd15 ct15 oc16 kV16 dc16 pm16 cd16 ct16 oc17 kV17 dc17 pm17 cd17 ct17 oc18 kV18 dc18 pm18 cd18 ct18 oc19 kV19 dc19 pm19 cd19 ct19 oc20 kV20 dc20 pm20 cd20 ct20 oc21 kV21 dc21 pm21 cd21 ct21 : Value} {t1 t2 t3 t4 t5 t6 t7 t8 tN : Tok} {nM : Nat}
    (a0 : PySem.W.nsIn K mainGlobals "is_whole" = some (some (.ref f0)))
    (l0 : K.lookup f0 = some ⟨oc0, od0, .func (PySem.W.fnOf "is_whole" "is_whole" (defArgs sWhole) (defBody sWhole) (defScope sWhole) .none kV0 dc0 pm0 an0 cd0 ct0), sl0⟩)
    (c0 : PySem.W.codeIn K cd0 "is_whole" = true) (k0 : PySem.W.keepIn K (.ref f0) = true)
    (a1 : PySem.W.nsIn K mainGlobals "is_number" = some (some (.ref f1)))
    (l1 : K.lookup f1 = some ⟨oc1, od1, .func (PySem.W.fnOf "is_number" "is_number" (defArgs sNumber) (defBody sNumber) (defScope sNumber) .none kV1 dc1 pm1 an1 cd1 ct1), sl1⟩)
    (c1 : PySem.W.codeIn K cd1 "is_number" = true) (k1 : PySem.W.keepIn K (.ref f1) = true)
    (a2 : PySem.W.nsIn K mainGlobals "is_mark" = some (some (.ref f2)))
    (l2 : K.lookup f2 = some ⟨oc2, od2, .func (PySem.W.fnOf "is_mark" "is_mark" (defArgs sMark) (defBody sMark) (defScope sMark) .none kV2 dc2 pm2 an2 cd2 ct2), sl2⟩)
    (c2 : PySem.W.codeIn K cd2 "is_mark" = true) (k2 : PySem.W.keepIn K (.ref f2) = true)
    (a3 : PySem.W.nsIn K mainGlobals "_is_entry" = some (some (.ref f3)))
    (l3 : K.lookup f3 = some ⟨oc3, od3, .func (PySem.W.fnOf "_is_entry" "_is_entry" (defArgs sEntry) (defBody sEntry) (defScope sEntry) .none kV3 dc3 pm3 an3 cd3 ct3), sl3⟩)
    (c3 : PySem.W.codeIn K cd3 "_is_entry" = true) (k3 : PySem.W.keepIn K (.ref f3) = true)
    (a4 : PySem.W.nsIn K mainGlobals "is_document" = some (some (.ref f4)))
    (l4 : K.lookup f4 = some ⟨oc4, od4, .func (PySem.W.fnOf "is_document" "is_document" (defArgs sIsDoc) (defBody sIsDoc) (defScope sIsDoc) .none kV4 dc4 pm4 an4 cd4 ct4), sl4⟩)
    (c4 : PySem.W.codeIn K cd4 "is_document" = true) (k4 : PySem.W.keepIn K (.ref f4) = true)
    (a5 : PySem.W.nsIn K mainGlobals "_is_place" = some (some (.ref f5)))
    (l5 : K.lookup f5 = some ⟨oc5, od5, .func (PySem.W.fnOf "_is_place" "_is_place" (defArgs sIsPlace) (defBody sIsPlace) (defScope sIsPlace) .none kV5 dc5 pm5 an5 cd5 ct5), sl5⟩)
    (c5 : PySem.W.codeIn K cd5 "_is_place" = true) (k5 : PySem.W.keepIn K (.ref f5) = true)
    (a6 : PySem.W.nsIn K mainGlobals "_is_piece" = some (some (.ref f6)))
    (l6 : K.lookup f6 = some ⟨oc6, od6, .func (PySem.W.fnOf "_is_piece" "_is_piece" (defArgs sIsPiece) (defBody sIsPiece) (defScope sIsPiece) .none kV6 dc6 pm6 an6 cd6 ct6), sl6⟩)
    (c6 : PySem.W.codeIn K cd6 "_is_piece" = true) (k6 : PySem.W.keepIn K (.ref f6) = true)
    (a7 : PySem.W.nsIn K mainGlobals "is_edit" = some (some (.ref f7)))
    (l7 : K.lookup f7 = some ⟨oc7, od7, .func (PySem.W.fnOf "is_edit" "is_edit" (defArgs sIsEdit) (defBody sIsEdit) (defScope sIsEdit) .none kV7 dc7 pm7 an7 cd7 ct7), sl7⟩)
    (c7 : PySem.W.codeIn K cd7 "is_edit" = true) (k7 : PySem.W.keepIn K (.ref f7) = true)
    (a8 : PySem.W.nsIn K mainGlobals "_law_draw" = some (some (.ref f8)))
    (l8 : K.lookup f8 = some ⟨oc8, od8, .func (PySem.W.fnOf "_law_draw" "_law_draw" (defArgs sDraw) (defBody sDraw) (defScope sDraw) .none kV8 dc8 pm8 an8 cd8 ct8), sl8⟩)
    (c8 : PySem.W.codeIn K cd8 "_law_draw" = true) (k8 : PySem.W.keepIn K (.ref f8) = true)
    (a9 : PySem.W.nsIn K mainGlobals "_law_one" = some (some (.ref f9)))
    (l9 : K.lookup f9 = some ⟨oc9, od9, .func (PySem.W.fnOf "_law_one" "_law_one" (defArgs sOne) (defBody sOne) (defScope sOne) .none kV9 dc9 pm9 an9 cd9 ct9), sl9⟩)
    (c9 : PySem.W.codeIn K cd9 "_law_one" = true) (k9 : PySem.W.keepIn K (.ref f9) = true)
    (a10 : PySem.W.nsIn K mainGlobals "_law_feed" = some (some (.ref f10)))
    (l10 : K.lookup f10 = some ⟨oc10, od10, .func (PySem.W.fnOf "_law_feed" "_law_feed" (defArgs sFeed) (defBody sFeed) (defScope sFeed) .none kV10 dc10 pm10 an10 cd10 ct10), sl10⟩)
    (c10 : PySem.W.codeIn K cd10 "_law_feed" = true) (k10 : PySem.W.keepIn K (.ref f10) = true)
    (a11 : PySem.W.nsIn K mainGlobals "_law_marks" = some (some (.ref f11)))
    (l11 : K.lookup f11 = some ⟨oc11, od11, .func (PySem.W.fnOf "_law_marks" "_law_marks" (defArgs sLMarks) (defBody sLMarks) (defScope sLMarks) .none kV11 dc11 pm11 an11 cd11 ct11), sl11⟩)
    (c11 : PySem.W.codeIn K cd11 "_law_marks" = true) (k11 : PySem.W.keepIn K (.ref f11) = true)
    (a12 : PySem.W.nsIn K mainGlobals "_law_document" = some (some (.ref f12)))
    (l12 : K.lookup f12 = some ⟨oc12, od12, .func (PySem.W.fnOf "_law_document" "_law_document" (defArgs sDoc) (defBody sDoc) (defScope sDoc) .none kV12 dc12 pm12 an12 cd12 ct12), sl12⟩)
    (c12 : PySem.W.codeIn K cd12 "_law_document" = true) (k12 : PySem.W.keepIn K (.ref f12) = true)
    (a13 : PySem.W.nsIn K mainGlobals "_law_whole_number" = some (some (.ref f13)))
    (l13 : K.lookup f13 = some ⟨oc13, od13, .func (PySem.W.fnOf "_law_whole_number" "_law_whole_number" (defArgs sLWhole) (defBody sLWhole) (defScope sLWhole) .none kV13 dc13 pm13 an13 cd13 ct13), sl13⟩)
    (c13 : PySem.W.codeIn K cd13 "_law_whole_number" = true) (k13 : PySem.W.keepIn K (.ref f13) = true)
    (a14 : PySem.W.nsIn K mainGlobals "_law_is_document" = some (some (.ref f14)))
    (l14 : K.lookup f14 = some ⟨oc14, od14, .func (PySem.W.fnOf "_law_is_document" "_law_is_document" (defArgs sLIsDoc) (defBody sLIsDoc) (defScope sLIsDoc) .none kV14 dc14 pm14 an14 cd14 ct14), sl14⟩)
    (c14 : PySem.W.codeIn K cd14 "_law_is_document" = true) (k14 : PySem.W.keepIn K (.ref f14) = true)
    (a15 : PySem.W.nsIn K mainGlobals "_law_is_count" = some (some (.ref f15)))
    (l15 : K.lookup f15 = some ⟨oc15, od15, .func (PySem.W.fnOf "_law_is_count" "_law_is_count" (defArgs sLCount) (defBody sLCount) (defScope sLCount) .none kV15 dc15 pm15 an15 cd15 ct15), sl15⟩)
    (c15 : PySem.W.codeIn K cd15 "_law_is_count" = true) (k15 : PySem.W.keepIn K (.ref f15) = true)
    (a16 : PySem.W.nsIn K mainGlobals "_law_is_place" = some (some (.ref f16)))
    (l16 : K.lookup f16 = some ⟨oc16, od16, .func (PySem.W.fnOf "_law_is_place" "_law_is_place" (defArgs sLPlace) (defBody sLPlace) (defScope sLPlace) .none kV16 dc16 pm16 an16 cd16 ct16), sl16⟩)
    (c16 : PySem.W.codeIn K cd16 "_law_is_place" = true) (k16 : PySem.W.keepIn K (.ref f16) = true)
    (a17 : PySem.W.nsIn K mainGlobals "_law_is_edit" = some (some (.ref f17)))
    (l17 : K.lookup f17 = some ⟨oc17, od17, .func (PySem.W.fnOf "_law_is_edit" "_law_is_edit" (defArgs sLEdit) (defBody sLEdit) (defScope sLEdit) .none kV17 dc17 pm17 an17 cd17 ct17), sl17⟩)
    (c17 : PySem.W.codeIn K cd17 "_law_is_edit" = true) (k17 : PySem.W.keepIn K (.ref f17) = true)
    (a18 : PySem.W.nsIn K mainGlobals "_law_odd" = some (some (.ref f18)))
    (l18 : K.lookup f18 = some ⟨oc18, od18, .func (PySem.W.fnOf "_law_odd" "_law_odd" (defArgs sLOdd) (defBody sLOdd) (defScope sLOdd) .none kV18 dc18 pm18 an18 cd18 ct18), sl18⟩)
    (c18 : PySem.W.codeIn K cd18 "_law_odd" = true) (k18 : PySem.W.keepIn K (.ref f18) = true)
    (a19 : PySem.W.nsIn K mainGlobals "_law_spoiled" = some (some (.ref f19)))
    (l19 : K.lookup f19 = some ⟨oc19, od19, .func (PySem.W.fnOf "_law_spoiled" "_law_spoiled" (defArgs sLSpoil) (defBody sLSpoil) (defScope sLSpoil) .none kV19 dc19 pm19 an19 cd19 ct19), sl19⟩)
    (c19 : PySem.W.codeIn K cd19 "_law_spoiled" = true) (k19 : PySem.W.keepIn K (.ref f19) = true)
    (a20 : PySem.W.nsIn K mainGlobals "_law_any_edit" = some (some (.ref f20)))
    (l20 : K.lookup f20 = some ⟨oc20, od20, .func (PySem.W.fnOf "_law_any_edit" "_law_any_edit" (defArgs sLAny) (defBody sLAny) (defScope sLAny) .none kV20 dc20 pm20 an20 cd20 ct20), sl20⟩)
    (c20 : PySem.W.codeIn K cd20 "_law_any_edit" = true) (k20 : PySem.W.keepIn K (.ref f20) = true)
    (a21 : PySem.W.nsIn K mainGlobals "law" = some (some (.ref f21)))
    (l21 : K.lookup f21 = some ⟨oc21, od21, .func (PySem.W.fnOf "law" "law" (defArgs sLaw) (defBody sLaw) (defScope sLaw) .none kV21 dc21 pm21 an21 cd21 ct21), sl21⟩)
    (c21 : PySem.W.codeIn K cd21 "law" = true) (k21 : PySem.W.keepIn K (.ref f21) = true)
    (z_int : PySem.W.nsIn K mainGlobals "int" = some none)
    (z_len : PySem.W.nsIn K mainGlobals "len" = some none)
    (z_sum : PySem.W.nsIn K mainGlobals "sum" = some none)
    (z_max : PySem.W.nsIn K mainGlobals "max" = some none)
    (z_min : PySem.W.nsIn K mainGlobals "min" = some none)
    (z_range : PySem.W.nsIn K mainGlobals "range" = some none)
    (z_tuple : PySem.W.nsIn K mainGlobals "tuple" = some none)
    (z_list : PySem.W.nsIn K mainGlobals "list" = some none)
    (z_repr : PySem.W.nsIn K mainGlobals "repr" = some none)
    (z_isinstance : PySem.W.nsIn K mainGlobals "isinstance" = some none)
    (z_enumerate : PySem.W.nsIn K mainGlobals "enumerate" = some none)
    (z_reversed : PySem.W.nsIn K mainGlobals "reversed" = some none)
    (z_sorted : PySem.W.nsIn K mainGlobals "sorted" = some none)
    (z_str : PySem.W.nsIn K mainGlobals "str" = some none)
    (z_bool : PySem.W.nsIn K mainGlobals "bool" = some none)
    (aM : PySem.W.nsIn K mainGlobals "MARKS" = some (some (.ref fM)))
    (lM : K.lookup fM = some ⟨.type "tuple", dM, .seq #[.str "a" t1, .str "b" t2, .str "c" t3, .str "d" t4, .str "e" t5, .str "f" t6, .str "g" t7, .str "h" t8] nM, sM⟩)
    (aN : PySem.W.nsIn K mainGlobals "MOST_NODES" = some (some (.int 20000 tN))) :
    ∃ fd : FuncData, (∀ (s : Shared) (v : Value), BindsTo s fd ⟨[v], []⟩ [("script", v)]) ∧ ∀ base : Heap, K.In base → base.Ns mainGlobals mg → GOk l.prog w K mg base CX0 14 fa fd ["script"] (spLaw K) := by
  have e := hfa.symm.trans (PySem.W.mg_of X G a21)
  cases e
  have T : Bl mg := { int := PySem.W.mg_none_of X G z_int, len := PySem.W.mg_none_of X G z_len, sum := PySem.W.mg_none_of X G z_sum, max := PySem.W.mg_none_of X G z_max, min := PySem.W.mg_none_of X G z_min, range := PySem.W.mg_none_of X G z_range, tuple := PySem.W.mg_none_of X G z_tuple, list := PySem.W.mg_none_of X G z_list, repr := PySem.W.mg_none_of X G z_repr, isinstance := PySem.W.mg_none_of X G z_isinstance, enumerate := PySem.W.mg_none_of X G z_enumerate, reversed := PySem.W.mg_none_of X G z_reversed, sorted := PySem.W.mg_none_of X G z_sorted, str := PySem.W.mg_none_of X G z_str, bool := PySem.W.mg_none_of X G z_bool }
  have hm : MarksAt K mg := ⟨fM, PySem.W.mg_of X G aM, fun H => .inr ⟨_, _, _, lM, rfl, rfl, by show 8 ≤ sizeLine; decide,
    .cons ⟨_, rfl⟩ (.cons ⟨_, rfl⟩ (.cons ⟨_, rfl⟩ (.cons ⟨_, rfl⟩ (.cons ⟨_, rfl⟩ (.cons ⟨_, rfl⟩ (.cons ⟨_, rfl⟩ (.cons ⟨_, rfl⟩ .nil)))))))⟩⟩
  have hM : MostAt mg := ⟨tN, PySem.W.mg_of X G aN⟩
  have F0 := fun_mk (st := sWhole) l0 c0 k0
  have g0 := PySem.W.mg_of X G a0
  have b0 := F0.binds (ps := ["thing"]) fun _ _ _ _ _ _ us hl => match us, hl with | [_], _ => rfl
  let Dw : Dn K mg "is_whole" sWhole ["thing"] := ⟨_, _, F0, g0, b0⟩
  have F1 := fun_mk (st := sNumber) l1 c1 k1
  have g1 := PySem.W.mg_of X G a1
  have b1 := F1.binds (ps := ["thing"]) fun _ _ _ _ _ _ us hl => match us, hl with | [_], _ => rfl
  let Dnu : Dn K mg "is_number" sNumber ["thing"] := ⟨_, _, F1, g1, b1⟩
  have F2 := fun_mk (st := sMark) l2 c2 k2
  have g2 := PySem.W.mg_of X G a2
  have b2 := F2.binds (ps := ["thing"]) fun _ _ _ _ _ _ us hl => match us, hl with | [_], _ => rfl
  let Dm : Dn K mg "is_mark" sMark ["thing"] := ⟨_, _, F2, g2, b2⟩
  have F3 := fun_mk (st := sEntry) l3 c3 k3
  have g3 := PySem.W.mg_of X G a3
  have b3 := F3.binds (ps := ["thing"]) fun _ _ _ _ _ _ us hl => match us, hl with | [_], _ => rfl
  let De : Dn K mg "_is_entry" sEntry ["thing"] := ⟨_, _, F3, g3, b3⟩
  have F4 := fun_mk (st := sIsDoc) l4 c4 k4
  have g4 := PySem.W.mg_of X G a4
  have b4 := F4.binds (ps := ["thing"]) fun _ _ _ _ _ _ us hl => match us, hl with | [_], _ => rfl
  let Di : Dn K mg "is_document" sIsDoc ["thing"] := ⟨_, _, F4, g4, b4⟩
  have F5 := fun_mk (st := sIsPlace) l5 c5 k5
  have g5 := PySem.W.mg_of X G a5
  have b5 := F5.binds (ps := ["thing"]) fun _ _ _ _ _ _ us hl => match us, hl with | [_], _ => rfl
  let Dpl : Dn K mg "_is_place" sIsPlace ["thing"] := ⟨_, _, F5, g5, b5⟩
  have F6 := fun_mk (st := sIsPiece) l6 c6 k6
  have g6 := PySem.W.mg_of X G a6
  have b6 := F6.binds (ps := ["thing"]) fun _ _ _ _ _ _ us hl => match us, hl with | [_], _ => rfl
  let Dpc : Dn K mg "_is_piece" sIsPiece ["thing"] := ⟨_, _, F6, g6, b6⟩
  have F7 := fun_mk (st := sIsEdit) l7 c7 k7
  have g7 := PySem.W.mg_of X G a7
  have b7 := F7.binds (ps := ["thing"]) fun _ _ _ _ _ _ us hl => match us, hl with | [_], _ => rfl
  let Die : Dn K mg "is_edit" sIsEdit ["thing"] := ⟨_, _, F7, g7, b7⟩
  have F8 := fun_mk (st := sDraw) l8 c8 k8
  have g8 := PySem.W.mg_of X G a8
  have b8 := F8.binds (ps := ["feed", "many"]) fun _ _ _ _ _ _ us hl => match us, hl with | [_, _], _ => rfl
  let Dd : Dn K mg "_law_draw" sDraw ["feed", "many"] := ⟨_, _, F8, g8, b8⟩
  have F9 := fun_mk (st := sOne) l9 c9 k9
  have g9 := PySem.W.mg_of X G a9
  have b9 := F9.binds (ps := ["feed", "things"]) fun _ _ _ _ _ _ us hl => match us, hl with | [_, _], _ => rfl
  let D1 : Dn K mg "_law_one" sOne ["feed", "things"] := ⟨_, _, F9, g9, b9⟩
  have F10 := fun_mk (st := sFeed) l10 c10 k10
  have g10 := PySem.W.mg_of X G a10
  have b10 := F10.binds (ps := ["script", "k"]) fun _ _ _ _ _ _ us hl => match us, hl with | [_, _], _ => rfl
  let Dfe : Dn K mg "_law_feed" sFeed ["script", "k"] := ⟨_, _, F10, g10, b10⟩
  have F11 := fun_mk (st := sLMarks) l11 c11 k11
  have g11 := PySem.W.mg_of X G a11
  have b11 := F11.binds (ps := ["feed"]) fun _ _ _ _ _ _ us hl => match us, hl with | [_], _ => rfl
  let Dmk : Dn K mg "_law_marks" sLMarks ["feed"] := ⟨_, _, F11, g11, b11⟩
  have F12 := fun_mk (st := sDoc) l12 c12 k12
  have g12 := PySem.W.mg_of X G a12
  have b12 := F12.binds (ps := ["feed", "most"]) fun _ _ _ _ _ _ us hl => match us, hl with | [_, _], _ => rfl
  let Dc : Dn K mg "_law_document" sDoc ["feed", "most"] := ⟨_, _, F12, g12, b12⟩
  have F13 := fun_mk (st := sLWhole) l13 c13 k13
  have g13 := PySem.W.mg_of X G a13
  have b13 := F13.binds (ps := ["thing"]) fun _ _ _ _ _ _ us hl => match us, hl with | [_], _ => rfl
  let Dlw : Dn K mg "_law_whole_number" sLWhole ["thing"] := ⟨_, _, F13, g13, b13⟩
  have F14 := fun_mk (st := sLIsDoc) l14 c14 k14
  have g14 := PySem.W.mg_of X G a14
  have b14 := F14.binds (ps := ["thing"]) fun _ _ _ _ _ _ us hl => match us, hl with | [_], _ => rfl
  let Dld : Dn K mg "_law_is_document" sLIsDoc ["thing"] := ⟨_, _, F14, g14, b14⟩
  have F15 := fun_mk (st := sLCount) l15 c15 k15
  have g15 := PySem.W.mg_of X G a15
  have b15 := F15.binds (ps := ["thing"]) fun _ _ _ _ _ _ us hl => match us, hl with | [_], _ => rfl
  let Dlc : Dn K mg "_law_is_count" sLCount ["thing"] := ⟨_, _, F15, g15, b15⟩
  have F16 := fun_mk (st := sLPlace) l16 c16 k16
  have g16 := PySem.W.mg_of X G a16
  have b16 := F16.binds (ps := ["thing"]) fun _ _ _ _ _ _ us hl => match us, hl with | [_], _ => rfl
  let Dlp : Dn K mg "_law_is_place" sLPlace ["thing"] := ⟨_, _, F16, g16, b16⟩
  have F17 := fun_mk (st := sLEdit) l17 c17 k17
  have g17 := PySem.W.mg_of X G a17
  have b17 := F17.binds (ps := ["thing"]) fun _ _ _ _ _ _ us hl => match us, hl with | [_], _ => rfl
  let Dle : Dn K mg "_law_is_edit" sLEdit ["thing"] := ⟨_, _, F17, g17, b17⟩
  have F18 := fun_mk (st := sLOdd) l18 c18 k18
  have g18 := PySem.W.mg_of X G a18
  have b18 := F18.binds (ps := []) fun _ _ _ _ _ _ us hl => match us, hl with | [], _ => rfl
  let Do : Dn K mg "_law_odd" sLOdd [] := ⟨_, _, F18, g18, b18⟩
  have F19 := fun_mk (st := sLSpoil) l19 c19 k19
  have g19 := PySem.W.mg_of X G a19
  have b19 := F19.binds (ps := ["feed", "thing"]) fun _ _ _ _ _ _ us hl => match us, hl with | [_, _], _ => rfl
  let Dsp : Dn K mg "_law_spoiled" sLSpoil ["feed", "thing"] := ⟨_, _, F19, g19, b19⟩
  have F20 := fun_mk (st := sLAny) l20 c20 k20
  have g20 := PySem.W.mg_of X G a20
  have b20 := F20.binds (ps := ["feed"]) fun _ _ _ _ _ _ us hl => match us, hl with | [_], _ => rfl
  let Da : Dn K mg "_law_any_edit" sLAny ["feed"] := ⟨_, _, F20, g20, b20⟩
  have F21 := fun_mk (st := sLaw) l21 c21 k21
  have g21 := PySem.W.mg_of X G a21
  have b21 := F21.binds (ps := ["script"]) fun _ _ _ _ _ _ us hl => match us, hl with | [_], _ => rfl
  let Dl : Dn K mg "law" sLaw ["script"] := ⟨_, _, F21, g21, b21⟩

  exact ⟨_, fun s v => .of_eq rfl, fun base _ _ => ok_law T hm hM Dw Dnu Dm De Di Dpl Dpc Die Dd D1 Dfe Dmk Dc Dlw Dld Dlc Dlp Dle Do Dsp Da Dl⟩
theorem walk {l : PySem.W.OpenLaw} {q : Program} {loose : List Str} {XP : (Str → Option Value) → Heap → Prop} {YP : World → Heap → Prop} {d : DefRec} {K : Params → PySem.W.Frag} (hn : l.most = some 63) (hdf : d.params.defaults = [])
    (hY : ∀ (w : World) (h : Heap), YP w h → (K w.params).In h)
    (F : ∀ (w : World) (mg : Str → Option Value) (fa : Addr) (h : Heap), (K w.params).In h → h.Ns mainGlobals mg → mg d.name = some (.ref fa) →
      ∃ fd : FuncData, (∀ (s : Shared) (u : Value), BindsTo s fd ⟨[u], []⟩ [("script", u)]) ∧ ∀ base : Heap, (K w.params).In base → base.Ns mainGlobals mg → GOk l.prog w (K w.params) mg base CX0 14 fa fd ["script"] (spLaw (K w.params))) :
    PySem.W.WalkO q loose XP YP l.row.toRowW d [] (fun f vs => PySem.call f vs) :=
  walk_top (n := 63) (k := 14) (x := "script") (sp := fun w => spLaw (K w.params)) hn (by decide) hdf ⟨rfl, by decide, by decide⟩ hY F
    fun w H a ns hl hb only sq => ⟨a, ns, rfl, sq, fun H' s => sq_same sq s, hl, hb, fun _ => rfl⟩
end W

open PySem PySem.W PyProof.Rows in
set_option maxRecDepth 100000 in
set_option maxHeartbeats 0 in
theorem PySem.Challenge.cw_everymatch_k12_edits_and_near_ones_holds : PySem.Challenge.rw_everymatch_k12_edits_and_near_ones.Holds := by
  w_on; o_law; k_head; (case hw => w_witness2)
  k_fill
  refine W.walk (l := PySem.Challenge.rw_everymatch_k12_edits_and_near_ones) rfl rfl (fun w h Y => PySem.W.kIn_of Y) ?F
  case F =>
    intro w mg fa h KX G hmg
    refine' W.all_mk KX G hmg ?a0 ?l0 ?c0 ?k0 ?a1 ?l1 ?c1 ?k1 ?a2 ?l2 ?c2 ?k2 ?a3 ?l3 ?c3 ?k3 ?a4 ?l4 ?c4 ?k4 ?a5 ?l5 ?c5 ?k5 ?a6 ?l6 ?c6 ?k6 ?a7 ?l7 ?c7 ?k7 ?a8 ?l8 ?c8 ?k8 ?a9 ?l9 ?c9 ?k9 ?a10 ?l10 ?c10 ?k10 ?a11 ?l11 ?c11 ?k11 ?a12 ?l12 ?c12 ?k12 ?a13 ?l13 ?c13 ?k13 ?a14 ?l14 ?c14 ?k14 ?a15 ?l15 ?c15 ?k15 ?a16 ?l16 ?c16 ?k16 ?a17 ?l17 ?c17 ?k17 ?a18 ?l18 ?c18 ?k18 ?a19 ?l19 ?c19 ?k19 ?a20 ?l20 ?c20 ?k20 ?a21 ?l21 ?c21 ?k21 ?z_int ?z_len ?z_sum ?z_max ?z_min ?z_range ?z_tuple ?z_list ?z_repr ?z_isinstance ?z_enumerate ?z_reversed ?z_sorted ?z_str ?z_bool ?aM ?lM ?aN
    (case a0 => k_is)
    (case l0 => k_is)
    (case c0 => k_is)
    (case k0 => k_is)
    (case a1 => k_is)
    (case l1 => k_is)
    (case c1 => k_is)
    (case k1 => k_is)
    (case a2 => k_is)
    (case l2 => k_is)
    (case c2 => k_is)
    (case k2 => k_is)
    (case a3 => k_is)
    (case l3 => k_is)
    (case c3 => k_is)
    (case k3 => k_is)
    (case a4 => k_is)
    (case l4 => k_is)
    (case c4 => k_is)
    (case k4 => k_is)
    (case a5 => k_is)
    (case l5 => k_is)
    (case c5 => k_is)
    (case k5 => k_is)
    (case a6 => k_is)
    (case l6 => k_is)
    (case c6 => k_is)
    (case k6 => k_is)
    (case a7 => k_is)
    (case l7 => k_is)
    (case c7 => k_is)
    (case k7 => k_is)
    (case a8 => k_is)
    (case l8 => k_is)
    (case c8 => k_is)
    (case k8 => k_is)
    (case a9 => k_is)
    (case l9 => k_is)
    (case c9 => k_is)
    (case k9 => k_is)
    (case a10 => k_is)
    (case l10 => k_is)
    (case c10 => k_is)
    (case k10 => k_is)
    (case a11 => k_is)
    (case l11 => k_is)
    (case c11 => k_is)
    (case k11 => k_is)
    (case a12 => k_is)
    (case l12 => k_is)
    (case c12 => k_is)
    (case k12 => k_is)
    (case a13 => k_is)
    (case l13 => k_is)
    (case c13 => k_is)
    (case k13 => k_is)
    (case a14 => k_is)
    (case l14 => k_is)
    (case c14 => k_is)
    (case k14 => k_is)
    (case a15 => k_is)
    (case l15 => k_is)
    (case c15 => k_is)
    (case k15 => k_is)
    (case a16 => k_is)
    (case l16 => k_is)
    (case c16 => k_is)
    (case k16 => k_is)
    (case a17 => k_is)
    (case l17 => k_is)
    (case c17 => k_is)
    (case k17 => k_is)
    (case a18 => k_is)
    (case l18 => k_is)
    (case c18 => k_is)
    (case k18 => k_is)
    (case a19 => k_is)
    (case l19 => k_is)
    (case c19 => k_is)
    (case k19 => k_is)
    (case a20 => k_is)
    (case l20 => k_is)
    (case c20 => k_is)
    (case k20 => k_is)
    (case a21 => k_is)
    (case l21 => k_is)
    (case c21 => k_is)
    (case k21 => k_is)
    (case z_int => k_is)
    (case z_len => k_is)
    (case z_sum => k_is)
    (case z_max => k_is)
    (case z_min => k_is)
    (case z_range => k_is)
    (case z_tuple => k_is)
    (case z_list => k_is)
    (case z_repr => k_is)
    (case z_isinstance => k_is)
    (case z_enumerate => k_is)
    (case z_reversed => k_is)
    (case z_sorted => k_is)
    (case z_str => k_is)
    (case z_bool => k_is)
    (case aM => k_is)
    (case lM => k_is)
    (case aN => k_is)
