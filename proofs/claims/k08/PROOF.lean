import PyProof.Rows.All
import Wide.All
import OpenK.AllK
import Wide.FinOn
import HandS.ForMost
import HandS.Walk
import HandS.IsInst
import HandS.Zip
import HandS.Defaults
import HandS.MakeKwOnly
import HandS.Style
import HandS.DeepEq
import KE.GoesMore
import KE.GoesEnum
import KE.GoesZip
import HandS.RaiseMore
import HandS.ExcInit
import HandS.ExcIs
import HandS.FStr
import KE.KExcPX
import HandS.Exc
import HandS.ExcOwn
import HandS.WordsExc
import HandS.CallSlots
import KE.KTryMore
import OpenK.KGet
import HandS.Deep
import HandS.Dict
import PyProof.DictKinds
import HandS.MakeKw
import HandS.TupAny
import HandS.Conv
import PySem.Challenge.RW_slipwire_k08_slips_that_can_not_be
set_option Elab.async false
set_option linter.all false
set_option maxRecDepth 100000
set_option maxHeartbeats 4000000
/-! my own rules over the hand layer: enumerate of a tuple, a call by keywords alone -/
namespace PySem
open Sem (wp)
set_option maxHeartbeats 1000000 in
theorem my_meets_enumT (t : Addr) (items : Array Value) :
    Meets (Builtin.«enumerate.__new__» ⟨[.type "enumerate", .ref t], []⟩) (fun _ R s => s.heap.IsTuple t items ∧
      R (.ok (.ret (.ref (s.heap.push { cls := .type "tuple_iterator", data := .fields #[.ref t, .int 0 0] }).objs.size)))
        { s with heap := (s.heap.push { cls := .type "tuple_iterator", data := .fields #[.ref t, .int 0 0] }).push { cls := .type "enumerate", data := .fields #[.none, .bool false, .ref s.heap.objs.size, rawInt 0, .none, .none] } }) :=
  .of_wp fun prog w A R s h => by
    obtain ⟨hp, g, d, tk, os⟩ := s
    obtain ⟨hl, h⟩ := h
    have hsub := sub_enumerate
    have hL : Heap.IsTuple (Shared.heap ⟨hp, g, d, tk, os⟩) t items := hl
    wp_walk using wpAny_pyIter_tuple hL
    refine wpAny_stack_any fun st => wpAny_pure ?_
    split
    · rename_i c _ _ _ _ _
      cases (c == Value.type "enumerate")
      · wp_walk using wpAny_pyIter_tuple hL
        exact ⟨_, rfl, h⟩
      · wp_walk using wpAny_pyIter_tuple hL
        exact ⟨_, rfl, h⟩
    · wp_walk using wpAny_pyIter_tuple hL
      exact ⟨_, rfl, h⟩
theorem my_call_enumT {prog : Program} {w : World} {A : Around} {E : Value → Shared → Prop} {s : Shared} {t : Addr} {items : Array Value} {Q : Value → Shared → Prop} (hL : s.heap.IsTuple t items)
    (h : ∀ h', IsEnum h' (s.heap.objs.size + 1) s.heap.objs.size 0 .none → h'.IsTupleIter s.heap.objs.size t 0 → h'.objs.size = s.heap.objs.size + 2 →
      (∀ b o, s.heap.get? b = some o → h'.get? b = some o) → Q (.ref (s.heap.objs.size + 1)) { s with heap := h' }) :
    wpAny (model prog w) A (call (.type "enumerate") [.ref t]) Q E s := by
  refine callType_new F.called_enumerate (by decide) (F.typeCall_enumerate_1 _) (F.newCall_enumerate_1 _) (fun obj => F.args_object_init_2 obj _) F.entry_enumerate_new
    (my_meets_enumT t items) ⟨hL, ?_⟩
  have hz : (s.heap.push { cls := .type "tuple_iterator", data := .fields #[.ref t, .int 0 0] }).objs.size = s.heap.objs.size + 1 := Heap.size_push ..
  show _ ∧ _
  rw [hz]
  have he : IsEnum ((s.heap.push { cls := .type "tuple_iterator", data := .fields #[.ref t, .int 0 0] }).push
      { cls := .type "enumerate", data := .fields #[.none, .bool false, .ref s.heap.objs.size, rawInt 0, .none, .none] }) (s.heap.objs.size + 1) s.heap.objs.size 0 .none := by
    have := Heap.get?_push_size (s.heap.push { cls := .type "tuple_iterator", data := .fields #[.ref t, .int 0 0] })
      (o := { cls := .type "enumerate", data := .fields #[.none, .bool false, .ref s.heap.objs.size, rawInt 0, .none, .none] }) rfl
    rw [hz] at this; exact this
  refine ⟨⟨_, he, rfl⟩, h _ he ⟨_, Heap.get?_push_of_some _ (Heap.get?_push_size _ rfl), rfl, rfl⟩ (by rw [Heap.size_push, hz]) fun b o x => Heap.get?_push_of_some _ (Heap.get?_push_of_some _ x)⟩
end PySem
namespace L2
open PySem PySem.Spec PyProof.Rows
/-! ### enumerate(tuple) -/
def IteT (K : PySem.W.Frag) (a : Addr) : It :=
  ⟨fun i H => ∃ (xs : List V) (x : V), SqT K H a xs ∧ xs[i]? = some x, fun i H v H' => ∃ T x, v = .ref T ∧ H T = none ∧ H' = upd H T (.tup [.int (i : Nat), x]) ∧ ∀ xs, SqT K H a xs → xs[i]? = some x, fun i H => ∃ xs : List V, SqT K H a xs ∧ xs.length = i⟩
theorem turn_enumT {P : Program} {w : World} {K : PySem.W.Frag} {elts : List Expr} {kk : Nat} {tpos : Pos} (a e it : Addr) :
    Turn P w K (.Tuple elts kk tpos) (IteT K a) [e, it] e (fun i h => (∃ old, IsEnum h e it ((i : Nat) : Int) old) ∧ h.IsTupleIter it a i ∧ e ≠ it ∧ a ≠ it ∧ a ≠ e) where
  mem := by simp
  obj := fun i h st b hb => by
    obtain ⟨⟨old, he⟩, ⟨o, ho, hc, hd⟩, _⟩ := st
    have e' : b = e ∨ b = it := by simpa using hb
    rcases e' with z | z
    · rw [z]; exact ⟨_, he, fun v q => nomatch q⟩
    · rw [z]; exact ⟨o, ho, fun v q => by rw [hd] at q; cases q⟩
  keep := fun i h h' st k => let ⟨⟨old, he⟩, hi, hne⟩ := st; ⟨⟨old, k e (by simp) _ he⟩, hi.at fun o q => k it (by simp) o q, hne⟩
  item := by
    intro X hP hw hK hc i pins s σ H E I hf st hg
    subst hP hw hK
    obtain ⟨⟨old, he⟩, hit, hne, hai, hae⟩ := st
    obtain ⟨xs, x, hq, hx⟩ := hg
    obtain ⟨its, rv, p, hz⟩ := I.tuple hq
    obtain ⟨u, hu, ru⟩ := rv.get hx
    have hel : e < s.heap.objs.size := Heap.lt_size he
    have hil : it < s.heap.objs.size := by obtain ⟨_, q, _⟩ := hit; exact Heap.lt_size q
    have hlt : i < its.toArray.size := by
      have h1 : i < its.length := (List.getElem?_eq_some_iff.mp hu).1
      rw [List.size_toArray]
      exact h1
    have D : Draws X.prog X.w X.A.in1 it [it, a] its.toArray.size (fun i v => its.toArray[i]? = some v) (fun i h => h.IsTupleIter it a i ∧ h.IsTuple a its.toArray) := Draws.tuple (show X.A.in1.handled = none from I.ok.hd hc) it a hai its.toArray
    refine wpAny_pyNext_enum_itemD D he ⟨hit, p⟩ hlt hne (by simp only [List.mem_cons, List.not_mem_nil, or_false, not_or]; exact ⟨hne, fun z => hae z.symm⟩) fun v h' tk hP ho hs' hT hsz hk => ?_
    obtain rfl : u = v := by
      have z : its.toArray[i]? = some u := by simpa using hu
      rw [z] at hP
      exact Option.some.inj hP
    refine ⟨_, rfl, wpAny_letOwnedTupleGo_enum (s := { s with heap := h', toks := tk + 1 }) ho fun h'' he' sb => ?_⟩
    have hT2 : h''.get? s.heap.objs.size = some { cls := .type "tuple", data := .seq #[.int i tk, u] } := (sb.2 _ (Nat.ne_of_gt hel)).trans hT
    have new : ObjOk X.prog X.w (upd H s.heap.objs.size (.tup [.int (i : Nat), x])) h'' s.heap.objs.size (.tup [.int (i : Nat), x]) :=
      ⟨by show 2 ≤ sizeLine; decide, [.int i tk, u], .cons ⟨_, rfl⟩ (.cons ru .nil), ⟨_, hT2, rfl, _, rfl⟩⟩
    have I1 : Inv X pins σ (upd H s.heap.objs.size (.tup [.int (i : Nat), x])) { s with heap := h'', toks := tk + 1 } :=
      I.turnedNew (ch := [e, it]) (fun b ob hb q => (sb.2 b (fun z => hb (by simp [z]))).trans (hk b ob (fun z => hb (by simp [z])) (fun z => hb (by simp [z])) q)) hf (Nat.le_refl _) new
    refine ⟨.ref s.heap.objs.size, _, I1, rfl, ⟨_, x, rfl, I.hok.fresh (Nat.le_refl _), rfl, fun ys hy => by rw [I.tuple_inj hy hq]; exact hx⟩, ⟨⟨u, ?_⟩, hs'.1.at fun o q => (sb.2 it (Ne.symm hne)).trans q, hne, hai, hae⟩, fun b hb => ?_⟩
    · have e1 : ((i + 1 : Nat) : Int) = (i : Int) + 1 := by omega
      rw [e1]; exact he'
    · have hb' : b < s.heap.objs.size := by
        have e' : b = e ∨ b = it := by simpa using hb
        rcases e' with z | z
        · rw [z]; exact hel
        · rw [z]; exact hil
      rw [upd_ne (Nat.ne_of_lt hb')]
      exact (hf b hb).1
  done := by
    intro X hP hw hK hc i pins s σ H E I hf st hg
    subst hP hw hK
    obtain ⟨⟨old, he⟩, hit, hne, hai, hae⟩ := st
    obtain ⟨xs, hq, hx⟩ := hg
    obtain ⟨its, rv, p, hz⟩ := I.tuple hq
    obtain ⟨f0, f1, f2, f3, f4, f5⟩ := hf it (by simp)
    have hl := rv.length
    have hi : i = its.toArray.size := by rw [List.size_toArray]; omega
    subst hi
    have D : Draws X.prog X.w X.A.in1 it [it, a] its.toArray.size (fun i v => its.toArray[i]? = some v) (fun i h => h.IsTupleIter it a i ∧ h.IsTuple a its.toArray) := Draws.tuple (show X.A.in1.handled = none from I.ok.hd hc) it a hai its.toArray
    exact wpAny_pyNext_enum_endD D he ⟨hit, p⟩ fun h' eb => ⟨rfl, I.turned (t' := s.toks) (fun b o hb q => eb b o hb q) f0 f1 f3 f4 f5⟩
  self := fun A i s Q E st h => let ⟨⟨_, he⟩, _⟩ := st; wpAny_pyIter_enum he h
/-- enumerate of a list or a tuple -/
def iEnumA (K : PySem.W.Frag) (ta : TA) : TI := fun σ H R => ta σ H fun vs H1 => ∃ a xs, vs = [.ref a] ∧ ((SqL K H1 a xs ∧ R (Ite K a) H1) ∨ (SqT K H1 a xs ∧ R (IteT K a) H1))
theorem pi_enumA {X : Cx} {e : Expr} {ta : TA} {p pos tpos : Pos} {elts : List Expr} {kk : Nat} (hg : Gl X "enumerate") (hm : X.mg "enumerate" = none) (ha : PA X [e] ta) (hs : starEach [e] X.env = [(false, eval e X.env)] := by rfl) :
    PI X (.Tuple elts kk tpos) (.Call (.Name "enumerate" p) [e] [] pos) (iEnumA X.K ta) := by
  refine ⟨fun pins s σ H R I h => ?_⟩
  refine Call_ (ld_blt I hg hm boot_enumerate (PyProof.Rows.callWith_type1 (thn (ha.run pos pins s σ H _ I h) fun us s1 ⟨vs, H1, I1, r1, q1⟩ => ?_) hs rfl))
  obtain ⟨a, xs, ex, q1⟩ := q1
  subst ex
  cases r1 with
  | cons r rr =>
    cases rr
    cases r
    have fresh2 : ∀ b, b ∈ [s1.heap.objs.size + 1, s1.heap.objs.size] → FpOk X pins H1 b := fun b hb => by
      have e' : b = s1.heap.objs.size + 1 ∨ b = s1.heap.objs.size := by simpa using hb
      have hle : s1.heap.objs.size ≤ b := by
        rcases e' with z | z
        · rw [z]; exact Nat.le_add_right _ _
        · rw [z]; exact Nat.le_refl _
      exact I1.fpOk hle (I1.hok.fresh hle)
    rcases q1 with ⟨hq, q⟩ | ⟨hq, q⟩
    · obtain ⟨its, rv, p', hz⟩ := I1.list hq
      refine call_enumerate_list p'.isList fun h' he hit hsz hk => wpAny_pyIter_enum he ?_
      have I2 : Inv X pins σ H1 { s1 with heap := h' } := I1.kept (t' := s1.toks) hk
      exact ⟨s1.heap.objs.size + 1, [s1.heap.objs.size + 1, s1.heap.objs.size], _, _, H1, rfl, I2, turn_enum a (s1.heap.objs.size + 1) s1.heap.objs.size, ⟨⟨.none, he⟩, hit, Nat.succ_ne_self _⟩, fresh2, q⟩
    · obtain ⟨its, rv, p', hz⟩ := I1.tuple hq
      obtain ⟨o1, ho1, _⟩ := id p'
      have hlt : a < s1.heap.objs.size := Heap.lt_size ho1
      refine my_call_enumT (show s1.heap.IsTuple a its.toArray from p') fun h' he hit hsz hk => wpAny_pyIter_enum he ?_
      have I2 : Inv X pins σ H1 { s1 with heap := h' } := I1.kept (t' := s1.toks) hk
      exact ⟨s1.heap.objs.size + 1, [s1.heap.objs.size + 1, s1.heap.objs.size], _, _, H1, rfl, I2, turn_enumT a (s1.heap.objs.size + 1) s1.heap.objs.size, ⟨⟨.none, he⟩, hit, Nat.succ_ne_self _, Nat.ne_of_lt hlt, Nat.ne_of_lt (Nat.lt_succ_of_lt hlt)⟩, fresh2, q⟩
theorem walk_enumT {K : PySem.W.Frag} {a : Addr} {xs : List V} : Walk (IteT K a) xs.length (fun H => SqT K H a xs) (YPair (fun i => some (.int (i : Nat))) (fun i => xs[i]?)) := by
  refine ⟨fun i _ hi q => ⟨xs, xs[i], q, by simp [hi]⟩, fun _ q => ⟨xs, q, rfl⟩, fun i H v H' _ q y => ?_⟩
  obtain ⟨T, x, h1, h2, h3, h4⟩ := y
  exact ⟨T, .int (i : Nat), x, h1, h2, h3, rfl, h4 xs q⟩
/-! ### a call by keywords alone -/
section
variable {X : Cx} {CX : CXT} {k n : Nat} {f : Addr} {fd : FuncData} {ps ks : List Str} {sp : Sp} {x : Str} {g : List Value → List Value → List Value} {gV : List V → List V → List V} {E : XK} {tk : TA} {kws : List Keyword} {p pos : Pos}
theorem pe_callN0 (F : FnOk X.prog X.w X.K X.mg X.base CX k f fd ps sp) (hr : Room k X.A) (hg : Gl X x) (hm : X.mg x = some (.ref f)) (hk : PySem.W.keepIn X.K (.ref f) = true) (hb : KBn X.K fd ps 0 ks g gV) (hx : Passes CX X E)
    (hkw : PK X kws tk) (hall : (backToKw pos (keywordEach kws X.env)).all (·.1.isSome) = true := by rfl) (hks : (backToKw pos (keywordEach kws X.env)).filterMap (·.1) = ks := by rfl)
    (hdb : (x == ("__debug__" : Str)) = false := by decide)
    (hpl : ((backTo pos (starEach [] X.env)).any (·.1) || (backToKw pos (keywordEach kws X.env)).any (·.1.isNone)) = false := by rfl) :
    PE X (.Call (.Name x p) [] kws pos) (tCallN 0 ks.length sp gV E tNil tk) := by
  refine ⟨fun pins s σ H Q I h => ?_⟩
  refine wpAny_Call_Name_kw (ld_glob I hg hm ?_ hdb)
  refine PySem.W.callWith_KW0 (h₀ := X.base) I.ok.mod.kin hk hall ?_ hpl
  refine thn (hkw.run pos pins s σ H _ I h) fun ws s2 ⟨zs, H2, I2, rz, l1, l2, q2⟩ => ⟨I2.kIn, ?_⟩
  rw [hks]
  exact run_fnN (us := []) (vs := []) F hr hb hx I2 .nil rz rfl l2 q2
end
end L2

set_option Elab.async false
set_option linter.all false
set_option maxRecDepth 100000
set_option maxHeartbeats 4000000
/-! my own rule: zip of two rows, each a list or a tuple (kind true: a tuple) -/
namespace L2
open PySem PySem.Spec PyProof.Rows
def SqX (K : PySem.W.Frag) (H : Hp) : Bool → Addr → List V → Prop
  | true, a, xs => SqT K H a xs
  | false, a, xs => SqL K H a xs
def ItX (h : Heap) : Bool → Addr → Addr → Nat → Prop
  | true, it, a, i => h.IsTupleIter it a i
  | false, it, a, i => h.IsListIter it a i
def SeX (h : Heap) : Bool → Addr → Array Value → Prop
  | true, a, its => h.IsTuple a its
  | false, a, its => h.IsList a its
theorem drawX {prog : Program} {w : World} {A : Around} (k : Bool) (hh : A.handled = none) (it a : Addr) (hne : a ≠ it) (its : Array Value) :
    Draws prog w A it [it, a] its.size (fun i v => its[i]? = some v) (fun i h => ItX h k it a i ∧ SeX h k a its) := by
  cases k with
  | true => exact Draws.tuple hh it a hne its
  | false => exact Draws.list hh it a hne its
theorem ItX.at {h h' : Heap} {k : Bool} {it a : Addr} {i : Nat} (x : ItX h k it a i) (e : ∀ o, h.get? it = some o → h'.get? it = some o) : ItX h' k it a i := by
  cases k with
  | true => exact Heap.IsTupleIter.at x e
  | false => exact Heap.IsListIter.at x e
theorem ItX.obj {h : Heap} {k : Bool} {it a : Addr} {i : Nat} (x : ItX h k it a i) : ∃ o, h.get? it = some o ∧ ∀ v, o.data ≠ .cell v := by
  cases k with
  | true =>
    obtain ⟨o, e, _, d⟩ := x
    exact ⟨o, e, fun v q => by rw [d] at q; cases q⟩
  | false =>
    obtain ⟨o, e, _, d⟩ := x
    exact ⟨o, e, fun v q => by rw [d] at q; cases q⟩
section
variable {X : Cx} {pins : List (Addr × Obj)} {σ : St} {H : Hp} {s : Shared} {k : Bool} {a : Addr} {xs ys : List V}
theorem sqx_get (I : Inv X pins σ H s) (h : SqX X.K H k a xs) : ∃ its : List Value, Vals xs its ∧ SeX s.heap k a its.toArray ∧ a < s.heap.objs.size := by
  cases k with
  | true =>
    obtain ⟨its, rv, p, _⟩ := I.tuple h
    obtain ⟨o, ho, _⟩ := id p
    exact ⟨its, rv, p, Heap.lt_size ho⟩
  | false =>
    obtain ⟨its, rv, p, _⟩ := I.list h
    exact ⟨its, rv, p.isList, p.lt⟩
theorem sqx_inj (I : Inv X pins σ H s) (h : SqX X.K H k a xs) (g : SqX X.K H k a ys) : xs = ys := by
  cases k with
  | true => exact I.tuple_inj h g
  | false => exact I.list_inj h g
end
theorem beginsX (k : Bool) (a : Addr) (its : Array Value) : ∃ o, Begins (.ref a) o (fun h => SeX h k a its) ∧ ∀ (h : Heap) (it : Addr), h.get? it = some o → ItX h k it a 0 := by
  cases k with
  | true => exact ⟨_, begins_tuple a its, fun h it e => ⟨_, e, rfl, rfl⟩⟩
  | false => exact ⟨_, begins_list a its, fun h it e => ⟨_, e, rfl, rfl⟩⟩
/-- two rows as they stand at each turn, the items in new pairs -/
def ItzG (K : PySem.W.Frag) (k1 k2 : Bool) (a b : Addr) : It :=
  ⟨fun i H => ∃ (xs ys : List V) (x y : V), SqX K H k1 a xs ∧ SqX K H k2 b ys ∧ xs[i]? = some x ∧ ys[i]? = some y,
    fun i H v H' => ∃ T x y, v = .ref T ∧ H T = none ∧ H' = upd H T (.tup [x, y]) ∧ (∀ xs, SqX K H k1 a xs → xs[i]? = some x) ∧ ∀ ys, SqX K H k2 b ys → ys[i]? = some y,
    fun i H => ∃ xs ys : List V, SqX K H k1 a xs ∧ SqX K H k2 b ys ∧ min xs.length ys.length = i⟩
theorem turn_zipG {P : Program} {w : World} {K : PySem.W.Frag} {elts : List Expr} {kk : Nat} {tpos : Pos} {k1 k2 : Bool} {a b z TI TO i1 i2 : Addr} (S : ZipSep2 z TI TO i1 i2 [i1, a] [i2, b]) (hi : i1 ≠ i2) (ha : a ≠ i1) (hb : b ≠ i2) :
    Turn P w K (.Tuple elts kk tpos) (ItzG K k1 k2 a b) [z, TI, TO, i1, i2] z (fun i h => IsZip h z TI TO .none ∧ IsTupOf2 h TI (.ref i1) (.ref i2) ∧ (∃ x y, IsTupOf2 h TO x y) ∧ ItX h k1 i1 a i ∧ ItX h k2 i2 b i) where
  mem := by simp
  obj := fun i h st c hc => by
    obtain ⟨q1, q2, ⟨x, y, q3⟩, q4, q5⟩ := st
    simp only [List.mem_cons, List.not_mem_nil, or_false] at hc
    rcases hc with rfl | rfl | rfl | rfl | rfl
    · exact ⟨_, q1, fun v q => nomatch q⟩
    · exact ⟨_, q2, fun v q => nomatch q⟩
    · exact ⟨_, q3, fun v q => nomatch q⟩
    · exact q4.obj
    · exact q5.obj
  keep := fun i h h' st kp => by
    obtain ⟨q1, q2, ⟨x, y, q3⟩, q4, q5⟩ := st
    exact ⟨kp z (by simp) _ q1, kp TI (by simp) _ q2, ⟨x, y, kp TO (by simp) _ q3⟩, q4.at fun o q => kp i1 (by simp) o q, q5.at fun o q => kp i2 (by simp) o q⟩
  item := by
    intro X hP hw hK hc i pins s σ H E I hf st hg
    subst hP hw hK
    obtain ⟨q1, q2, ⟨x0, y0, q3⟩, q4, q5⟩ := st
    obtain ⟨xs, ys, x, y, hqx, hqy, hx, hy⟩ := hg
    obtain ⟨its, rv, pa, la⟩ := sqx_get I hqx
    obtain ⟨jts, rw', pb, lb⟩ := sqx_get I hqy
    obtain ⟨u, hu, ru⟩ := rv.get hx
    obtain ⟨v, hv, rv'⟩ := rw'.get hy
    have lz : z < s.heap.objs.size := Heap.lt_size q1
    have n1 : i < its.toArray.size := by
      rw [List.size_toArray]
      exact (List.getElem?_eq_some_iff.mp hu).1
    have n2 : i < jts.toArray.size := by
      rw [List.size_toArray]
      exact (List.getElem?_eq_some_iff.mp hv).1
    have hh : X.A.in1.handled = none := I.ok.hd hc
    refine wpAny_pyNext_zipD2_item S (drawX k1 hh i1 a ha its.toArray) (drawX k2 hh i2 b hb jts.toArray) q1 q2 q3 ⟨q4, pa⟩ ⟨q5, pb⟩ n1 n2 fun u' v' h' tk hu' hv' z1 t1 d1 d2 hT hsz hk => ?_
    obtain rfl : u = u' := by
      have e : its.toArray[i]? = some u := by simpa using hu
      exact Option.some.inj (e.symm.trans hu')
    obtain rfl : v = v' := by
      have e : jts.toArray[i]? = some v := by simpa using hv
      exact Option.some.inj (e.symm.trans hv')
    refine ⟨_, rfl, wpAny_letOwnedTupleGo_zip (s := { s with heap := h', toks := tk }) z1 fun h'' z2 sb => ?_⟩
    have up : ∀ c o, c ≠ z → h'.get? c = some o → h''.get? c = some o := fun c o hc' e => (sb.2 c hc').trans e
    have tupN : h''.get? s.heap.objs.size = some { cls := .type "tuple", data := .seq #[u, v] } := up _ _ (Nat.ne_of_gt lz) hT
    have fresh : ObjOk X.prog X.w (upd H s.heap.objs.size (.tup [x, y])) h'' s.heap.objs.size (.tup [x, y]) :=
      ⟨by show 2 ≤ sizeLine; decide, [u, v], .cons ru (.cons rv' .nil), ⟨_, tupN, rfl, _, rfl⟩⟩
    have J : Inv X pins σ (upd H s.heap.objs.size (.tup [x, y])) { s with heap := h'', toks := tk } :=
      I.turnedNew (t' := tk) (ch := [z, TI, TO, i1, i2]) (fun c o hb' e => up c o (fun q => hb' (by simp [q])) (hk c o (fun q => hb' (by simp [q])) (fun q => hb' (by simp [q])) (fun q => hb' (by simp [q])) (fun q => hb' (by simp [q])) e)) hf (Nat.le_refl _) fresh
    refine ⟨.ref s.heap.objs.size, _, J, rfl, ⟨_, x, y, rfl, I.hok.fresh (Nat.le_refl _), rfl, fun l hl => by rw [sqx_inj I hl hqx]; exact hx, fun l hl => by rw [sqx_inj I hl hqy]; exact hy⟩, ⟨z2, ?_, ⟨u, v, ?_⟩, ?_, ?_⟩, fun c hcm => ?_⟩
    · exact up _ _ S.TIz (hk _ _ S.TIz S.TITO S.TIi1 S.TIi2 q2)
    · exact up _ _ S.TOz t1
    · exact d1.1.at fun o e => up _ o (Ne.symm S.zi1) e
    · exact d2.1.at fun o e => up _ o (Ne.symm S.zi2) e
    · have lc : c < s.heap.objs.size := by
        simp only [List.mem_cons, List.not_mem_nil, or_false] at hcm
        rcases hcm with rfl | rfl | rfl | rfl | rfl
        · exact lz
        · exact Heap.lt_size q2
        · exact Heap.lt_size q3
        · obtain ⟨o, e, _⟩ := q4.obj
          exact Heap.lt_size e
        · obtain ⟨o, e, _⟩ := q5.obj
          exact Heap.lt_size e
      rw [upd_ne (Nat.ne_of_lt lc)]
      exact (hf c hcm).1
  done := by
    intro X hP hw hK hc i pins s σ H E I hf st hg
    subst hP hw hK
    obtain ⟨q1, q2, ⟨x0, y0, q3⟩, q4, q5⟩ := st
    obtain ⟨xs, ys, hqx, hqy, hend⟩ := hg
    obtain ⟨its, rv, pa, _⟩ := sqx_get I hqx
    obtain ⟨jts, rw', pb, _⟩ := sqx_get I hqy
    have l1 := rv.length
    have l2 := rw'.length
    have hh : X.A.in1.handled = none := I.ok.hd hc
    exact wpAny_pyNext_zipD2_end (i := i) S (drawX k1 hh i1 a ha its.toArray) (drawX k2 hh i2 b hb jts.toArray) q1 q2 q3 ⟨q4, pa⟩ ⟨q5, pb⟩ (by rw [List.size_toArray]; omega) (by rw [List.size_toArray]; omega) (by rw [List.size_toArray, List.size_toArray]; omega)
      fun h' tk hk => ⟨rfl, I.turnedL (t' := tk) (ch := [z, TI, TO, i1, i2]) (fun c o hb' e => hk c o (fun q => hb' (by simp [q])) (fun q => hb' (by simp [q])) (fun q => hb' (by simp [q])) (fun q => hb' (by simp [q])) e) hf⟩
  self := fun A i s Q E st h => wpAny_pyIter_zip st.1 h
def iZipG (K : PySem.W.Frag) (ta : TA) : TI := fun σ H R => ta σ H fun vs H1 => ∃ (k1 k2 : Bool) (a b : Addr) (xs ys : List V), vs = [.ref a, .ref b] ∧ SqX K H1 k1 a xs ∧ SqX K H1 k2 b ys ∧ R (ItzG K k1 k2 a b) H1
theorem pi_zipG {X : Cx} {e e2 : Expr} {ta : TA} {p pos tpos : Pos} {elts : List Expr} {kk : Nat} (hg : Gl X "zip") (hm : X.mg "zip" = none) (ha : PA X [e, e2] ta)
    (hs : starEach [e, e2] X.env = (false, eval e X.env) :: starEach [e2] X.env := by rfl) (hpl : (backTo pos (starEach [e2] X.env)).any (·.1) = false := by rfl) :
    PI X (.Tuple elts kk tpos) (.Call (.Name "zip" p) [e, e2] [] pos) (iZipG X.K ta) := by
  refine ⟨fun pins s σ H R I h => ?_⟩
  refine Call_ (ld_blt I hg hm PyProof.Rows.boot_zip (PyProof.Rows.callWith_type1 (thn (ha.run pos pins s σ H _ I h) fun us s1 ⟨vs, H1, I1, r1, q1⟩ => ?_) hs hpl))
  obtain ⟨k1, k2, a, b, xs, ys, ex, hqx, hqy, q⟩ := q1
  subst ex
  obtain ⟨u1, u2, rfl, ra, rb⟩ := vals2 r1
  cases (show u1 = Value.ref a from ra)
  cases (show u2 = Value.ref b from rb)
  obtain ⟨its, rv, pa, la⟩ := sqx_get I1 hqx
  obtain ⟨jts, rw', pb, lb⟩ := sqx_get I1 hqy
  obtain ⟨o1, B1, i1⟩ := beginsX k1 a its.toArray
  obtain ⟨o2, B2, i2⟩ := beginsX k2 b jts.toArray
  refine zip_begins2 B1 B2 pa pb fun h' hz hTI hTO h1 h2 hsz hk => wpAny_pyIter_zip hz ?_
  have J : Inv X pins σ H1 { s1 with heap := h' } := I1.kept (t' := s1.toks) hk
  have sep := zip_sep2 (N := s1.heap.objs.size) (fp1 := [a]) (fp2 := [b]) (fun c hc => by rw [List.mem_singleton.mp hc]; exact la) (fun c hc => by rw [List.mem_singleton.mp hc]; exact lb)
  refine ⟨s1.heap.objs.size + 4, [s1.heap.objs.size + 4, s1.heap.objs.size + 2, s1.heap.objs.size + 3, s1.heap.objs.size, s1.heap.objs.size + 1], _, _, H1, rfl, J, turn_zipG sep (Nat.ne_of_lt (Nat.lt_succ_self _)) (Nat.ne_of_lt la) (Nat.ne_of_lt (Nat.lt_succ_of_lt lb)), ⟨hz, hTI, ⟨_, _, hTO⟩, i1 _ _ h1, i2 _ _ h2⟩, fun c hcm => ?_, q⟩
  have hle : s1.heap.objs.size ≤ c := by
    simp only [List.mem_cons, List.not_mem_nil, or_false] at hcm
    rcases hcm with rfl | rfl | rfl | rfl | rfl
    · exact Nat.le_add_right _ _
    · exact Nat.le_add_right _ _
    · exact Nat.le_add_right _ _
    · exact Nat.le_refl _
    · exact Nat.le_add_right _ _
  exact I1.fpOk hle (I1.hok.fresh hle)
theorem walk_zipG {K : PySem.W.Frag} {k1 k2 : Bool} {a b : Addr} {xs ys : List V} {n : Nat} (hn : n = min xs.length ys.length) : Walk (ItzG K k1 k2 a b) n (fun H => SqX K H k1 a xs ∧ SqX K H k2 b ys) (YPair (fun i => xs[i]?) (fun i => ys[i]?)) := by
  subst hn
  refine ⟨fun i _ hi q => ?_, fun _ q => ⟨xs, ys, q.1, q.2, rfl⟩, fun i H v H' _ q y => ?_⟩
  · have h1 : i < xs.length := by omega
    have h2 : i < ys.length := by omega
    exact ⟨xs, ys, xs[i], ys[i], q.1, q.2, by simp [h1], by simp [h2]⟩
  · obtain ⟨T, x, z, h1, h2, h3, h4, h5⟩ := y
    exact ⟨T, x, z, h1, h2, h3, h4 xs q.1, h5 ys q.2⟩
end L2

set_option Elab.async false
set_option linter.all false
set_option maxRecDepth 100000
set_option maxHeartbeats 4000000
/-! my own rules: repr of data, for defs that are called where no repr is under way -/
namespace L2
open PySem PySem.Spec PyProof.Rows
/-- a promise that is kept where no repr is under way -/
structure FnG (P : Program) (w : World) (K : PySem.W.Frag) (mg : Str → Option Value) (base : Heap) (k : Nat) (f : Addr) (fd : FuncData) (ps : List Str) (sp : Sp) : Prop where
  len : ∀ vs H Q E, sp vs H Q E → vs.length = ps.length
  run : ∀ (A : Around) (outer : List Env) (s : Shared) (H : Hp) (args : Args) (us : List Value) (vs : List V) (Q : VK) (E : XK), A.guards = some [] → Room k A → Env0 P w K mg base A outer s H →
    BindsTo s fd args (ps.zip us) → Vals vs us → sp vs H Q E → codeAny (model P w) A (.call (.ref f) args) (CR CX0 outer P w H s Q E) s
theorem FnOk.guarded {P : Program} {w : World} {K : PySem.W.Frag} {mg : Str → Option Value} {base : Heap} {k : Nat} {f : Addr} {fd : FuncData} {ps : List Str} {sp : Sp} (F : FnOk P w K mg base CX0 k f fd ps sp) : FnG P w K mg base k f fd ps sp :=
  ⟨F.len, fun A outer s H args us vs Q E _ hr e0 hb r h => F.run A outer s H args us vs Q E hr e0 hb r h⟩
/-- the rule for such a def -/
theorem Fun.okG {P : Program} {w : World} {K : PySem.W.Frag} {mg : Str → Option Value} {base : Heap} {x qual : Str} {st : Stmt} {f : Addr} {fd : FuncData} {N ps : List Str} {k : Nat} {sp : Sp} (F : Fun K x qual st f fd) (S : FnScope N ps (defScope st))
    (len : ∀ vs H Q E, sp vs H Q E → vs.length = ps.length)
    (hbody : ∀ (cdv : Value) (A : Around) (outer : List Env) (s : Shared) (H : Hp) (vs : List V) (Q : VK) (E : XK), A.guards = some [] → Room k (A.deeper (envOfC qual (defScope st) s.heap.objs.size f cdv)) → sp vs H Q E →
      ∃ t, PSs (cxOf CX0 P w K mg base N qual (defScope st) f cdv A outer s H E).nox (defBody st) t ∧ t { nx := fun _ H' => Q .non H', rt := Q } (start N vs) H) : FnG P w K mg base (k + 1) f fd ps sp := by
  obtain ⟨oc, od, kV, doc, pm, an, cdv, ct, osl, rfl, lk, hcd⟩ := F.ex
  refine ⟨len, fun A outer s H args us vs Q E hgd hr e0 hb r hsp => ?_⟩
  have many := len _ _ _ _ hsp
  have written : K.In s.heap := e0.mod.kin.keeps fun c oo z => (e0.bs c oo z).1
  have noLimit : s.heap.NoLimit := e0.mod.nolimit.keeps fun c oo z => (e0.bs c oo z).1
  have kinds : ∀ y ∈ ps.zip us, (defScope st).names.lookup y.1 = some .local ∨ ((defScope st).names.lookup y.1 = some .cell ∧ ((cellsFrom (s.heap.objs.size + 1) (defScope st).names []).lookup y.1).isSome = true) := fun ⟨n, v⟩ hy => by
    rcases S.par n (List.of_mem_zip hy).1 with z | z
    · exact .inl z
    · exact .inr ⟨z, PySem.W.cellsFrom_some _ _ _ (.inl z)⟩
  refine codeAny_call_function hr.depth (written _ _ lk) rfl S.co S.gen rfl (PySem.W.codeRec_of written hcd) (hb _ _ _ _ ?_)
  refine wpAny_newFunctionEnv_cells S.kind kinds fun env0 he s1 inside => ?_
  subst he
  refine ⟨noLimit.keeps inside.toInCall.keep, codeAny_func ?_⟩
  obtain ⟨t, ht, hq⟩ := hbody cdv A outer s H vs Q E hgd (hr.deeper _) hsp
  have J0 : Inv (cxOf CX0 P w K mg base N qual (defScope st) f cdv A outer s H E) [] (start N vs) H s1 := inv_start S hr.hd e0 many r inside
  refine wpAny_mono (ht.nox.run [] s1 (start N vs) H _ J0 hq) (fun flow s' hs => ?_) fun e s' hs => hs
  have close : ∀ {σ' : St} {H' : Hp} {v : V} {u : Value}, Inv (cxOf CX0 P w K mg base N qual (defScope st) f cdv A outer s H E) [] σ' H' s' → RelV v u → Q v H' → CE outer P w H s Q u s' :=
    fun {σ' H' v u} J rv z => ⟨v, H', J.os, J.bare, J.base, J.hok, rv, z⟩
  cases flow with
  | ret u =>
    obtain ⟨v, σ', H', J, rv, z⟩ := hs
    exact close J rv z
  | next =>
    obtain ⟨σ', H', J, z⟩ := hs
    exact close (v := V.non) (u := Value.none) J rfl z
  | brk =>
    obtain ⟨_, _, _, z⟩ := hs
    exact z.elim
  | cont =>
    obtain ⟨_, _, _, z⟩ := hs
    exact z.elim
/-- the law's own call -/
theorem law_callG {P : Program} {w : World} {K : PySem.W.Frag} {mg mb : Str → Option Value} {k : Nat} {fa a : Addr} {fd : FuncData} {x : Str} {sp : Sp} {s₁ : Shared} {vs : List Value} {ns : List Int}
    (KX : K.In s₁.heap) (hns : s₁.heap.Ns mainGlobals mg) (hb : s₁.heap.Ns builtinsNs mb) (hbb : ∀ x : Str, x ≠ "__name__" → mb x = bootBuiltins x) (hlim : s₁.heap.NoLimit) (hg : s₁.gens = #[])
    (ha : s₁.heap.get? a = some { cls := .type "list", data := .seq vs.toArray }) (hi : IntsAre vs ns) (hl : ns.length ≤ sizeLine) (hr : Room k callerA)
    (F : ∀ base : Heap, K.In base → base.Ns mainGlobals mg → FnG P w K mg base k fa fd [x] sp) (hbind : ∀ (s : Shared) (u : Value), BindsTo s fd ⟨[u], []⟩ [(x, u)])
    (hsp : ∀ H : Hp, Only H → SqL K H a (ns.map V.int) → sp [.ref a] H (fun v _ => v = .bl true) fun _ _ _ => False) :
    codeAny (model P w) callerA (.call (.ref fa) ⟨[.ref a], []⟩) (fun r s' => r = .ok (.ret (.bool true)) ∧ OldK s₁.heap s'.heap ∧ s'.os = s₁.os ∧ AllBare s'.gens) s₁ := by
  have pair := vals_ints hi
  have size := hi.length
  have from_ : ∀ H : Hp, Only H → SqL K H a (ns.map V.int) → HOk P w H s₁.heap → (∀ c, H c ≠ none → c = a) → (H a ≠ none → K.lookup a = none) →
      codeAny (model P w) callerA (.call (.ref fa) ⟨[.ref a], []⟩) (fun r s' => r = .ok (.ret (.bool true)) ∧ OldK s₁.heap s'.heap ∧ s'.os = s₁.os ∧ AllBare s'.gens) s₁ := by
    intro H only row held alone apart
    have below : ∀ {c : Addr} {oo : Obj}, s₁.heap.get? c = some oo → H c = none → (hidT s₁.heap H).get? c = some oo := fun z n => hidT_get z n
    have noDict : ∀ {c : Addr} {oo : Obj} {es : Array DictEntry} {ep : Nat}, s₁.heap.get? c = some oo → oo.data = .dict es ep → H c = none := fun {c oo es ep} z d => by
      cases hc : H c with
      | none => rfl
      | some u =>
        have same : c = a := alone c (by rw [hc]; simp)
        subst same
        rw [ha] at z
        cases z
        cases (show Data.seq vs.toArray _ = Data.dict es ep from d)
    have spaces : ∀ {c : Addr} {m : Str → Option Value}, s₁.heap.Ns c m → (hidT s₁.heap H).Ns c m := fun {c m} ⟨oo, es, ep, z, d, rest⟩ => ⟨oo, es, ep, below z (noDict z d), d, rest⟩
    have hidden : K.In (hidT s₁.heap H) := fun c oo z => below (KX c oo z) (by
      cases hc : H c with
      | none => rfl
      | some u =>
        have same : c = a := alone c (by rw [hc]; simp)
        subst same
        rw [apart (by rw [hc]; simp)] at z
        cases z)
    have module_ : Mod K mg (hidT s₁.heap H) := ⟨hidden, spaces hns, ⟨mb, spaces hb, hbb⟩, let ⟨mc, h1, h2⟩ := hlim; ⟨mc, spaces h1, h2⟩⟩
    have start_ : Env0 P w K mg (hidT s₁.heap H) callerA [] s₁ H := ⟨rfl, module_, fun c oo z => of_hidT z, Nat.le_of_eq (hidT_size _ _), trivial, fun c hc => absurd (show c ∈ ([] : List Addr) from hc) (by simp), held, .of_eq hg⟩
    refine codeAny_mono ((F _ hidden (spaces hns)).run callerA [] s₁ H ⟨[.ref a], []⟩ [.ref a] [.ref a] _ _ rfl hr start_ (hbind s₁ (.ref a)) (.cons rfl .nil) (hsp H only row)) fun r s' after => ?_
    cases r with
    | error e => exact after.elim
    | ok flow =>
      cases flow with
      | next => exact after.elim
      | brk => exact after.elim
      | cont => exact after.elim
      | ret u =>
        obtain ⟨v, H', os, bare, un, held', rel, z⟩ := after
        cases (show v = .bl true from z)
        obtain rfl : u = Value.bool true := rel
        refine ⟨rfl, OldK.of_keep fun c oo e => ?_, os, bare⟩
        cases hc : H c with
        | none => exact un.keep c oo e hc (fun y => absurd (show c ∈ ([] : List Addr) from y) (by simp)) (by simp)
        | some u =>
          rcases only c with y | ⟨ob, xs, y⟩
          · rw [hc] at y
            cases y
          · have y' := un.frzs c ob _ y
            obtain ⟨g1, _⟩ := held c _ y
            obtain ⟨g2, _⟩ := held' c _ y'
            rw [e] at g1
            cases g1
            exact g2
  cases look : K.lookup a with
  | some oo =>
    have e := KX a oo look
    rw [ha] at e
    cases e
    exact from_ (fun _ => none) (fun _ => .inl rfl) (.inr ⟨_, vs.toArray, _, look, rfl, rfl, rfl, by rw [List.size_toArray, size]; exact hl, by simpa using pair⟩) (fun c u z => by cases (show (none : Option HO) = some u from z)) (fun c z => absurd rfl z) fun z => absurd rfl z
  | none =>
    refine from_ (fun c => if c = a then some (.frz { cls := .type "list", data := .seq vs.toArray } (.lst (ns.map V.int))) else none) (fun c => ?_) (.inl (.inr ⟨{ cls := .type "list", data := .seq vs.toArray }, if_pos rfl⟩)) (fun c u z => ?_) (fun c z => ?_) fun _ => look
    · by_cases hc : c = a
      · exact .inr ⟨_, _, if_pos hc⟩
      · exact .inl (if_neg hc)
    · by_cases hc : c = a
      · cases (if_pos hc).symm.trans z
        subst hc
        exact ⟨ha, by rw [List.length_map]; exact hl, vs, _, pair, ha⟩
      · cases (if_neg hc).symm.trans z
    · by_cases hc : c = a
      · exact hc
      · exact absurd (if_neg hc) z
theorem walk_ofG {l : PySem.W.OpenLaw} {n k : Nat} {q : Program} {loose : List Str} {XP : (Str → Option Value) → Heap → Prop} {YP : World → Heap → Prop} {d : DefRec} {K : Params → PySem.W.Frag} {sp : World → Sp} {x : Str}
    (hn : l.most = some n) (hn2 : n ≤ sizeLine) (hdf : d.params.defaults = []) (hr : Room k callerA)
    (hY : ∀ (w : World) (h : Heap), YP w h → (K w.params).In h)
    (F : ∀ (w : World) (mg : Str → Option Value) (fa : Addr) (h : Heap), (K w.params).In h → h.Ns mainGlobals mg → mg d.name = some (.ref fa) →
      ∃ fd : FuncData, (∀ (s : Shared) (u : Value), BindsTo s fd ⟨[u], []⟩ [(x, u)]) ∧ ∀ base : Heap, (K w.params).In base → base.Ns mainGlobals mg → FnG l.prog w (K w.params) mg base k fa fd [x] (sp w))
    (hsp : ∀ (w : World) (H : Hp) (a : Addr) (ns : List Int), ns.length ≤ n → Only H → SqL (K w.params) H a (ns.map V.int) → sp w [.ref a] H (fun v _ => v = .bl true) fun _ _ _ => False) :
    PySem.W.WalkO q loose XP YP l.row.toRowW d [] (fun f vs => PySem.call f vs) := by
  refine Att.attach_call hn hdf fun w s₀ s₁ mg mb fa o pm cd doc a vs ns G Y ho hd hcd hmg hobj hints hlen hg => ?_
  obtain ⟨fd, hb, hF⟩ := F w mg fa _ (hY w _ Y) G.T.g hmg
  exact law_callG (hY w _ Y) G.T.g G.T.b G.T.builtins G.T.nolimit hg hobj hints (Nat.le_trans hlen hn2) hr hF hb fun H only row => hsp w H a ns hlen only row
/-! ### repr of data -/
mutual
theorem dp_noDict {K : PySem.W.Frag} {H : Hp} : ∀ (d : PyData) {v : V}, Dp K H v d → d.hasDict = false
  | .none, _, _ => rfl
  | .bool _, _, _ => rfl
  | .int _, _, _ => rfl
  | .str _, _, _ => rfl
  | .list ds, _, h => by
    cases h with
    | lst _ a => exact dpAll_noDict ds a
  | .tuple ds, _, h => by
    cases h with
    | tup _ a => exact dpAll_noDict ds a
  | .dict _, _, h => nomatch h
theorem dpAll_noDict {K : PySem.W.Frag} {H : Hp} : ∀ (ds : List PyData) {vs : List V}, DpAll K H vs ds → PyData.hasDictAll ds = false
  | [], _, _ => rfl
  | d :: ds, _, h => by
    cases h with
    | cons a b =>
      show (d.hasDict || PyData.hasDictAll ds) = false
      rw [dp_noDict d a, dpAll_noDict ds b]
      rfl
end
def rReprD (K : PySem.W.Frag) : List V → Hp → VK → Prop := fun xs H Q => ∃ (x : V) (d : PyData), xs = [x] ∧ Dp K H x d ∧ d.showable = true ∧ d.depth ≤ 60 ∧ d.shown.length ≤ sizeLine ∧ Q (.str d.shown) H
theorem call_reprD {X : Cx} (hg : X.A.guards = some []) (hu : X.A.units + 64 < cLine) : CallR X (.builtin "repr") (rReprD X.K) := by
  intro pins s σ H xs us Q I r h
  obtain ⟨x, d, rfl, hd, hs, hdep, hz, q⟩ := h
  obtain ⟨u, rfl, ru⟩ := vals1 r
  obtain ⟨as, rd⟩ := Dp.reads I d x u hd ru
  have nd := dp_noDict d hd
  cases hd with
  | non =>
    cases (show u = Value.none from ru)
    exact PySem.P.repr_of_none ⟨.str _, H, I.tok _, ⟨_, rfl⟩, q⟩
  | bl b =>
    cases (show u = Value.bool b from ru)
    exact PySem.P.repr_of_bool ⟨.str _, H, I.tok _, ⟨_, rfl⟩, q⟩
  | int i =>
    obtain ⟨t, rfl⟩ := ru
    exact PySem.P.repr_of_int (of_decide_eq_true hs) ⟨.str _, H, I.tok _, ⟨_, rfl⟩, q⟩
  | str y =>
    obtain ⟨t, rfl⟩ := ru
    exact PySem.P.repr_of_str ⟨.str _, H, I.tok _, ⟨_, rfl⟩, q⟩ (hsz := hz)
  | lst hq ha =>
    cases ru
    exact repr_of_reads' rd hs (fun z => by rw [nd] at z; cases z) hg (by omega) (fun _ _ e => e) (fun h' u tk hk => ⟨.str _, H, I.kept (t' := tk) hk, ⟨_, rfl⟩, q⟩) (hsz := hz)
  | tup hq ha =>
    cases ru
    exact repr_of_reads' rd hs (fun z => by rw [nd] at z; cases z) hg (by omega) (fun _ _ e => e) (fun h' u tk hk => ⟨.str _, H, I.kept (t' := tk) hk, ⟨_, rfl⟩, q⟩) (hsz := hz)
end L2
namespace L2
open PySem PySem.Spec PyProof.Rows
section
variable {X : Cx} {k : Nat} {f : Addr} {fd : FuncData} {ps : List Str} {sp : Sp} {dvs : List V} {ds : List Value} {x : Str} {p pos : Pos} {e : Expr} {es : List Expr} {t : TA}
/-- f(e, ..), f a def that is called where no repr is under way -/
theorem pe_callG (F : FnG X.prog X.w X.K X.mg X.base k f fd ps sp) (hgd : X.A.guards = some []) (hr : Room k X.A) (hg : Gl X x) (hm : X.mg x = some (.ref f)) (hk : PySem.W.keepIn X.K (.ref f) = true) (hb : Binds X.K fd ps ds) (hd : Vals dvs ds)
    (ha : PA X (e :: es) t) (hdb : (x == ("__debug__" : Str)) = false := by decide) (he : starEach (e :: es) X.env = (false, eval e X.env) :: starEach es X.env := by rfl) (hpl : (backTo pos (starEach es X.env)).any (·.1) = false := by rfl) :
    PE X (.Call (.Name x p) (e :: es) [] pos) (tCall sp dvs E0 t) := by
  refine ⟨fun pins s σ H Q I h => ?_⟩
  refine wpAny_Call_Name_kw (ld_glob I hg hm ?_ hdb)
  refine PySem.W.callWith_K (h₀ := X.base) I.ok.mod.kin hk (thn (ha.run pos pins s σ H _ I h) fun us s1 ⟨vs, H1, I1, r, q⟩ => ⟨I1.kIn, ?_⟩) he hpl
  have r2 : Vals (vs ++ dvs) (us ++ ds) := r.append hd
  have hl : (us ++ ds).length = ps.length := by rw [← r2.length]; exact F.len _ _ _ _ q
  refine wpAny_call (codeAny_mono (F.run X.A X.stack s1 H1 ⟨us, []⟩ (us ++ ds) (vs ++ dvs) Q E0 hgd hr I1.env0 (hb s1 us I1.kIn hl) r2 q) fun r s' hq => ?_)
  cases r with
  | error e => exact False.elim hq
  | ok fl =>
    cases fl with
    | ret u => exact I1.after hq
    | next => exact False.elim hq
    | brk => exact False.elim hq
    | cont => exact False.elim hq
end
end L2

set_option Elab.async false
set_option linter.all false
set_option maxRecDepth 100000
set_option maxHeartbeats 4000000
/-! my own: how long a shown datum is at most; data that stand apart from one place -/
namespace Cm
open PySem PySem.Spec PyProof.Rows L2
mutual
/-- a bound of the shown text's length; ints and texts as far as they can be shown -/
def wt : PyData → Nat
  | .none => 4
  | .bool _ => 5
  | .int _ => 2000
  | .str x => 10 * x.length + 2
  | .list xs => wtAll xs + 4
  | .tuple xs => wtAll xs + 4
  | .dict _ => 0
def wtAll : List PyData → Nat
  | [] => 0
  | x :: xs => wt x + 2 + wtAll xs
end
mutual
def okD : PyData → Bool
  | .none => true
  | .bool _ => true
  | .int i => decide (i.natAbs.log2 < 1920)
  | .str x => x.cps.toList.all fun c => decide (c < 16 ^ 8)
  | .list xs => okAll xs
  | .tuple xs => okAll xs
  | .dict _ => false
def okAll : List PyData → Bool
  | [] => true
  | x :: xs => okD x && okAll xs
end
theorem listText_le (ts : List Str) : (listText ts).length ≤ piled ts + 2 := by
  unfold listText
  rw [Str.length_append]
  cases ts with
  | nil => exact (by decide : (textFrom 0 "[" []).length + ("]" : Str).length ≤ piled [] + 2)
  | cons t r =>
    show (textFrom 1 (("[" : Str) ++ (if 0 > 0 then ", " else "" : String) ++ t) r).length + ("]" : Str).length ≤ _
    rw [textFrom_length_pos r 1 _ (by decide), Str.length_append, Str.length_append]
    have e1 : ("[" : Str).length = 1 := rfl
    have e2 : (((if 0 > 0 then ", " else "" : String)) : Str).length = 0 := rfl
    have e3 : ("]" : Str).length = 1 := rfl
    have e4 : piled (t :: r) = t.length + 2 + piled r := by simp [piled]
    rw [e1, e2, e3, e4]
    omega
theorem tupleText_le (ts : List Str) : (tupleText ts).length ≤ piled ts + 2 := by
  unfold tupleText
  rw [Str.length_append, Str.length_append]
  cases ts with
  | nil => exact (by decide : ("(" : Str).length + (Str.join ", " []).length + (((if ([] : List Str).length == 1 then ",)" else ")" : String)) : Str).length ≤ piled [] + 2)
  | cons t r =>
    have j := join_length_add (t :: r) (by simp)
    have e1 : ("(" : Str).length = 1 := rfl
    have e2 : (((if (t :: r).length == 1 then ",)" else ")" : String)) : Str).length ≤ 2 := by
      split
      · exact (by decide : (((",)" : String)) : Str).length ≤ 2)
      · exact (by decide : (((")" : String)) : Str).length ≤ 2)
    omega
mutual
theorem shown_le : ∀ d : PyData, okD d = true → d.shown.length ≤ wt d
  | .none, _ => by decide
  | .bool b, _ => by cases b <;> decide
  | .int i, h => by
    have := int_text_len_1921 (i := i) (of_decide_eq_true h)
    show (Str.ofString (toString i)).length ≤ 2000
    omega
  | .str x, h => PySem.StrLaws.reprText_len x fun c hc => of_decide_eq_true (List.all_eq_true.mp h c hc)
  | .list xs, h => by
    have := shownAll_le xs h
    have := listText_le (PyData.shownAll xs)
    show (listText (PyData.shownAll xs)).length ≤ wtAll xs + 4
    omega
  | .tuple xs, h => by
    have := shownAll_le xs h
    have := tupleText_le (PyData.shownAll xs)
    show (tupleText (PyData.shownAll xs)).length ≤ wtAll xs + 4
    omega
  | .dict _, h => nomatch h
theorem shownAll_le : ∀ ds : List PyData, okAll ds = true → piled (PyData.shownAll ds) ≤ wtAll ds
  | [], _ => by decide
  | d :: ds, h => by
    have h' := Bool.and_eq_true_iff.mp h
    have a := shown_le d h'.1
    have b := shownAll_le ds h'.2
    have e : piled (PyData.shownAll (d :: ds)) = d.shown.length + 2 + piled (PyData.shownAll ds) := by simp [piled, PyData.shownAll]
    rw [e]
    show _ ≤ wt d + 2 + wtAll ds
    omega
end
mutual
theorem ok_showable : ∀ d : PyData, okD d = true → d.showable = true
  | .none, _ => rfl
  | .bool _, _ => rfl
  | .int _, h => h
  | .str _, _ => rfl
  | .list xs, h => okAll_showable xs h
  | .tuple xs, h => okAll_showable xs h
  | .dict _, h => nomatch h
theorem okAll_showable : ∀ ds : List PyData, okAll ds = true → PyData.showableAll ds = true
  | [], _ => rfl
  | d :: ds, h => by
    have h' := Bool.and_eq_true_iff.mp h
    show (d.showable && PyData.showableAll ds) = true
    rw [ok_showable d h'.1, okAll_showable ds h'.2]
    rfl
end
/-! ### data apart from some places -/
mutual
inductive Da (S : Addr → Prop) (H : Hp) : V → PyData → Prop
  | non : Da S H .non .none
  | bl (b : Bool) : Da S H (.bl b) (.bool b)
  | int (i : Int) : Da S H (.int i) (.int i)
  | str (x : Str) : Da S H (.str x) (.str x)
  | lst {a : Addr} {xs : List V} {ds : List PyData} : ¬ S a → H a = some (.lst xs) → DaAll S H xs ds → Da S H (.ref a) (.list ds)
  | tup {a : Addr} {xs : List V} {ds : List PyData} : ¬ S a → H a = some (.tup xs) → DaAll S H xs ds → Da S H (.ref a) (.tuple ds)
inductive DaAll (S : Addr → Prop) (H : Hp) : List V → List PyData → Prop
  | nil : DaAll S H [] []
  | cons {v : V} {vs : List V} {d : PyData} {ds : List PyData} : Da S H v d → DaAll S H vs ds → DaAll S H (v :: vs) (d :: ds)
end
mutual
theorem Da.dp {S : Addr → Prop} {H : Hp} {K : PySem.W.Frag} : ∀ (d : PyData) {v : V}, Da S H v d → Dp K H v d
  | .none, _, h => by cases h; exact .non
  | .bool b, _, h => by cases h; exact .bl b
  | .int i, _, h => by cases h; exact .int i
  | .str x, _, h => by cases h; exact .str x
  | .list ds, _, h => by
    cases h with
    | lst _ e a => exact .lst (.inl (.inl e)) (Da.dpAll ds a)
  | .tuple ds, _, h => by
    cases h with
    | tup _ e a => exact .tup (.inl (.inl e)) (Da.dpAll ds a)
  | .dict _, _, h => nomatch h
theorem Da.dpAll {S : Addr → Prop} {H : Hp} {K : PySem.W.Frag} : ∀ (ds : List PyData) {vs : List V}, DaAll S H vs ds → DpAll K H vs ds
  | [], _, h => by cases h; exact .nil
  | d :: ds, _, h => by
    cases h with
    | cons a b => exact .cons (Da.dp d a) (Da.dpAll ds b)
end
mutual
theorem Da.keep {S : Addr → Prop} {H H' : Hp} (k : ∀ b o, ¬ S b → H b = some o → H' b = some o) : ∀ (d : PyData) {v : V}, Da S H v d → Da S H' v d
  | .none, _, h => by cases h; exact .non
  | .bool b, _, h => by cases h; exact .bl b
  | .int i, _, h => by cases h; exact .int i
  | .str x, _, h => by cases h; exact .str x
  | .list ds, _, h => by
    cases h with
    | lst n e a => exact .lst n (k _ _ n e) (Da.keepAll k ds a)
  | .tuple ds, _, h => by
    cases h with
    | tup n e a => exact .tup n (k _ _ n e) (Da.keepAll k ds a)
  | .dict _, _, h => nomatch h
theorem Da.keepAll {S : Addr → Prop} {H H' : Hp} (k : ∀ b o, ¬ S b → H b = some o → H' b = some o) : ∀ (ds : List PyData) {vs : List V}, DaAll S H vs ds → DaAll S H' vs ds
  | [], _, h => by cases h; exact .nil
  | d :: ds, _, h => by
    cases h with
    | cons a b => exact .cons (Da.keep k d a) (Da.keepAll k ds b)
end
theorem DaAll.length {S : Addr → Prop} {H : Hp} : ∀ {vs : List V} {ds : List PyData}, DaAll S H vs ds → vs.length = ds.length
  | _, _, .nil => rfl
  | _, _, .cons _ t => congrArg Nat.succ (DaAll.length t)
theorem DaAll.get {S : Addr → Prop} {H : Hp} : ∀ {vs : List V} {ds : List PyData} {i : Nat} {v : V}, DaAll S H vs ds → vs[i]? = some v → ∃ d, ds[i]? = some d ∧ Da S H v d
  | _, _, _, _, .nil, e => by simp at e
  | _, _, 0, _, .cons a _, e => by simp at e; subst e; exact ⟨_, rfl, a⟩
  | _, _, i + 1, _, .cons _ t, e => by
    obtain ⟨d, h1, h2⟩ := DaAll.get (i := i) t (by simpa using e)
    exact ⟨d, by simpa using h1, h2⟩
theorem DaAll.append {S : Addr → Prop} {H : Hp} : ∀ {vs us : List V} {ds es : List PyData}, DaAll S H vs ds → DaAll S H us es → DaAll S H (vs ++ us) (ds ++ es)
  | _, _, _, _, .nil, s => s
  | _, _, _, _, .cons a t, s => .cons a (DaAll.append t s)
theorem DaAll.ints {S : Addr → Prop} {H : Hp} : ∀ ns : List Int, DaAll S H (ns.map V.int) (ns.map PyData.int)
  | [] => .nil
  | n :: ns => .cons (.int n) (DaAll.ints ns)
/-- the kinds of a datum -/
theorem Da.kit {S : Addr → Prop} {H : Hp} {K : PySem.W.Frag} {v : V} {d : PyData} (h : Da S H v d) : ∃ (n : String) (bi bb bt : Bool), TyX K H v (.type n) ∧ PySem.W.kitOne K (.type n) (.type "int") = some bi ∧ PySem.W.kitOne K (.type n) (.type "bool") = some bb ∧
    PySem.W.kitOne K (.type n) (.type "tuple") = some bt ∧ (bi && !bb) = (match d with | .int _ => true | _ => false) ∧ bt = (match d with | .tuple _ => true | _ => false) := by
  cases h with
  | non => exact ⟨"NoneType", false, false, false, .base .non, kit_ty (by decide +kernel), kit_ty (by decide +kernel), kit_ty (by decide +kernel), rfl, rfl⟩
  | bl y => exact ⟨"bool", true, true, false, .base (.bl y), kit_ty (by decide +kernel), kit_ty (by decide +kernel), kit_ty (by decide +kernel), rfl, rfl⟩
  | int y => exact ⟨"int", true, false, false, .base (.int y), kit_ty (by decide +kernel), kit_ty (by decide +kernel), kit_ty (by decide +kernel), rfl, rfl⟩
  | str y => exact ⟨"str", false, false, false, .base (.str y), kit_ty (by decide +kernel), kit_ty (by decide +kernel), kit_ty (by decide +kernel), rfl, rfl⟩
  | lst _ e _ => exact ⟨"list", false, false, false, .base (.lst e), kit_ty (by decide +kernel), kit_ty (by decide +kernel), kit_ty (by decide +kernel), rfl, rfl⟩
  | tup _ e _ => exact ⟨"tuple", false, false, true, .base (.tup e), kit_ty (by decide +kernel), kit_ty (by decide +kernel), kit_ty (by decide +kernel), rfl, rfl⟩
end Cm

set_option Elab.async false
set_option linter.all false
set_option maxRecDepth 100000
set_option maxHeartbeats 4000000
/-! my own rules: exceptions of own classes over any built-in class, made and kept as values: by place, by keywords; their fields; isinstance of them -/
namespace PySem
namespace MyX
open PySem.W PySem.Calls PyProof.Rows PySem.HandSPX Builtin Builtin.ObjectAttr
theorem pass_Index (self : Value) : refuseLoop self "__setattr__" [.type "IndexError", .type "LookupError", .type "Exception", .type "BaseException", .type "object"] = pure () := by kernel_rfl
theorem pass_Lookup (self : Value) : refuseLoop self "__setattr__" [.type "LookupError", .type "Exception", .type "BaseException", .type "object"] = pure () := by kernel_rfl
theorem pass_Runtime (self : Value) : refuseLoop self "__setattr__" [.type "RuntimeError", .type "Exception", .type "BaseException", .type "object"] = pure () := by kernel_rfl
theorem pass_Value (self : Value) : refuseLoop self "__setattr__" [.type "ValueError", .type "Exception", .type "BaseException", .type "object"] = pure () := F.store_ValueError.passes self
section
variable {M : Model} {A : Around} {E : Value → Shared → Prop} {h : Heap} {g : Array GenState} {d : Drawn} {t : Nat} {os : OsState}
variable {nm q : Str} {C N : Addr} {bs bm : List Value} {hdct : Bool} {sn : List Str} {sub : List Value} {ab : Bool} {col : Option Bool} {dd : Option Addr} {k0 k1 k2 k3 k5 : Option Value} {B newId initId : String}
/-- C.__new__(..) with keywords is let through -/
theorem check_newK (F : ExcBaseFacts B newId initId bm) {rest : List Value} {kw : List (Str × Value)} {Q : Unit → Shared → Prop}
    (hC : h.get? C = some (excClassObj nm q C N bs bm hdct sn sub ab col dd k0 k1 k2 k3 k5 newId)) (hq : Q () ⟨h, g, d, t, os⟩) : wpAny M A (checkBuiltinCall newId ⟨.ref C :: rest, kw⟩) Q E ⟨h, g, d, t, os⟩ := by
  have under : (Value.ref C :: bm).contains (.type B) = true := by rw [List.contains_cons, F.hasB, Bool.or_true]
  have star := F.noStar
  simp only [checkBuiltinCall, F.newKind, F.newSplit, F.newRow]
  repeat (first | refine wpAny_loadPart_at hC ?_ | (refine wpAny_isSubtype_exc hC ?_; rw [under]) | refine wpAny_staticBase_exc hC ?_ | refine wpAny_madeBy_exc hC ?_ | simp only [bne_self_eq_false, Bool.false_eq_true, if_false] | wp_step)
  exact hq
end
section
variable {prog : Program} {w : World} {A : Around} {E : Value → Shared → Prop} {R : Result → Shared → Prop} {h : Heap} {g : Array GenState} {d : Drawn} {t : Nat} {os : OsState}
variable {nm q : Str} {C N : Addr} {bs bm : List Value} {hdct : Bool} {sn : List Str} {sub : List Value} {ab : Bool} {col : Option Bool} {dd : Option Addr} {k0 k1 k2 k3 k5 : Option Value} {B newId initId : String}
theorem newK (F : ExcBaseFacts B newId initId bm) {rest : List Value} {kw : List (Str × Value)}
    (hC : h.get? C = some (excClassObj nm q C N bs bm hdct sn sub ab col dd k0 k1 k2 k3 k5 newId))
    (hq : R (.ok (.ret (.ref (h.objs.size + 1)))) ⟨(h.push { cls := .type "tuple", data := .seq rest.toArray }).push
      { cls := .ref C, data := .fields #[.ref h.objs.size, .none, .none, .none, .bool false, .none] }, g, d, t, os⟩) (hrest : rest.length ≤ sizeLine) :
    codeAny (model prog w) A (.builtin newId ⟨.ref C :: rest, kw⟩) R ⟨h, g, d, t, os⟩ := by
  have ends := F.ends
  have inB : (Value.ref C :: bm).contains (.type B) = true := by rw [List.contains_cons, F.hasB, Bool.or_true]
  have inA : (Value.ref C :: bm).contains (.type "AttributeError") = false := by rw [List.contains_cons, F.noAttr]; rfl
  have inN : (Value.ref C :: bm).contains (.type "NameError") = false := by rw [List.contains_cons, F.noName]; rfl
  refine codeAny_builtinAt F.entry ?_
  unfold Builtin.«BaseException.__new__»
  refine wpAt_bind ?_
  show wpAt _ _ _ (stack >>= _) _ _ _
  refine wpAt_bind (wpAt_stack fun p below => wpAt_of_wpAny ?_)
  wp_walk
  refine wpAt_of_wpAny ?_
  rw [F.owner]
  repeat (first | with_reducible refine wpAny_madeHere_exc F.canon hC ?_ | with_reducible refine wpAny_loadPart_at hC ?_ | (with_reducible refine wpAny_isSubtype_exc hC ?_; first | rw [inB] | rw [inA] | rw [inN]) | wp_step)
  show R _ _
  rw [Heap.size_push]
  exact hq
theorem type_callK (F : ExcBaseFacts B newId initId bm) {rest : List Value} {kw : List (Str × Value)} {fI : Addr} {Q : Fin → Shared → Prop}
    (hC : h.get? C = some (excClassObj nm q C N bs bm hdct sn sub ab col dd k0 k1 k2 k3 k5 newId))
    (hi : W.Looks (model prog w) h (typeLookup (.ref C) "__init__") (some (.ref fI))) (hb : ∀ self, W.Looks (model prog w) h (bindSpecial (.ref fI) self) (.ref fI, [self])) (hrest : rest.length ≤ sizeLine)
    (hq : codeAny (model prog w) A (.call (.ref fI) ⟨.ref (h.objs.size + 1) :: rest, kw⟩)
      (fun r s' => match r with | .ok (.ret v) => v = .none ∧ Q (.done (.ret (.ref (h.objs.size + 1)))) s' | .ok _ => False | .error e => E e s')
      ⟨(h.push (W.kdv_tup rest)).push (excO C h.objs.size), g, d, t, os⟩) :
    wpAny (model prog w) A (Builtin.«type.__call__» ⟨.ref C :: rest, kw⟩) Q E ⟨h, g, d, t, os⟩ := by
  repeat (first | with_reducible refine wpAny_loadPart_at hC ?_ | with_reducible refine wpAny_madeBy_exc hC ?_ | wp_step)
  refine codeAny_call_builtin_code (Code.quiet_builtin _ F.quiet) (check_newK F hC ?_)
  refine newK F hC ?_ hrest
  show wpAny _ _ _ _ _ _
  have kept : ∀ b o, h.get? b = some o → ((h.push (W.kdv_tup rest)).push (excO C h.objs.size)).get? b = some o := fun b o e => Heap.get?_push_of_some _ (Heap.get?_push_of_some _ e)
  have hC₁ := kept _ _ hC
  have made : ((h.push (W.kdv_tup rest)).push (excO C h.objs.size)).get? (h.objs.size + 1) = some (excO C h.objs.size) := by heap_get
  have self_ : (Value.ref C :: bm).contains (.ref C) = true := by simp
  have i1 := hi.keeps kept
  have b1 := (hb (.ref (h.objs.size + 1))).keeps kept
  unfold isInstance
  repeat (first | with_reducible refine wpAny_loadPart_at made ?_ | (with_reducible refine wpAny_isSubtype_exc hC₁ ?_; rw [self_]) | wp_step)
  show wpAny _ _ (typeLookup (.ref C) _) _ _ _
  refine i1.at ?_
  refine wpAny_holding (wpAny_bind (b1.at ?_))
  refine wpAny_bind (wpAny_call (codeAny_mono hq fun r s' z => ?_))
  rcases r with e | (v | _ | _ | _) <;> first | exact z | exact z.elim | skip
  obtain ⟨rfl, z⟩ := z
  first
    | exact wpAny_pure (wpAny_pure z)
    | (wp_walk; exact z)
/-- C(.., k = v, ..) -/
theorem callK (F : ExcBaseFacts B newId initId bm) {rest : List Value} {kw : List (Str × Value)} {fI : Addr}
    (hC : h.get? C = some (excClassObj nm q C N bs bm hdct sn sub ab col dd k0 k1 k2 k3 k5 newId))
    (hi : W.Looks (model prog w) h (typeLookup (.ref C) "__init__") (some (.ref fI))) (hb : ∀ self, W.Looks (model prog w) h (bindSpecial (.ref fI) self) (.ref fI, [self])) (hrest : rest.length ≤ sizeLine)
    (hq : codeAny (model prog w) (A.under (.builtin "type.__call__" ⟨.ref C :: rest, kw⟩)) (.call (.ref fI) ⟨.ref (h.objs.size + 1) :: rest, kw⟩) (W.InitBack (h.objs.size + 1) R)
      ⟨(h.push (W.kdv_tup rest)).push (excO C h.objs.size), g, d, t, os⟩) :
    codeAny (model prog w) A (.call (.ref C) ⟨rest, kw⟩) R ⟨h, g, d, t, os⟩ := by
  have f1 := tc_lookup
  have f2 := tc_bind (.ref C)
  have isType : (⟨h, g, d, t, os⟩ : Shared).TypeIs (.ref C) "type" := ⟨_, hC, rfl⟩
  refine codeAny_of_tree ?_
  show wpAny _ _ (callAny (.ref C) _) _ _ _
  repeat (any_goals (first | assumption | with_reducible refine wpAny_loadPart_at hC ?_ | wp_step))
  refine ⟨rfl, ?_⟩
  refine codeAny_call_builtin_at (Code.quiet_builtin _ (by decide +kernel)) entry_typeCall (wpAny_check_type_call_sub hC (type_callK F hC hi hb hrest ?_))
  refine codeAny_mono hq fun r s' z => ?_
  rcases r with e | (v | _ | _ | _) <;> exact z
end
/-! ### self.f = v -/
section
variable {prog : Program} {w : World} {A : Around} {E : Value → Shared → Prop} {R : Result → Shared → Prop} {hp : Heap} {g : Array GenState} {d : Drawn} {t : Nat} {os : OsState}
theorem put_new {K : W.Frag} {name : Str} {tk : Tok} {v : Value} {x C : Addr} {fv : Array Value} {cd : ClassData}
    (X : K.In hp) (hx : hp.get? x = some { cls := .ref C, data := .fields fv }) (hcd : W.clsIn K C = some cd) (ne : cd.mro.isEmpty = false) (hob : cd.mro.contains (.type "object") = true) (hps : ∀ self, refuseLoop self "__setattr__" cd.mro = pure ())
    (hh : cd.hasDict = true) (ha : W.findIn K (.ref C) name = some none)
    (hq : ∀ h' tk' dx, (∀ b o, b ≠ x → hp.get? b = some o → h'.get? b = some o) → hp.objs.size ≤ dx → dx ≠ x → h'.get? x = some { cls := .ref C, dict := some dx, data := .fields fv } →
      h'.Ns1 dx (fun y => if y = name then some v else none) → R (.ok (.ret .none)) ⟨h', g, d, tk', os⟩) :
    codeAny (model prog w) A (.call (.builtin "object.__setattr__") ⟨[.ref x, .str name tk, v], []⟩) R ⟨hp, g, d, t, os⟩ := by
  have inst : W.InstAt hp x { cls := .ref C, data := .fields fv } C none := ⟨hx, rfl, rfl, trivial⟩
  have SF := F.store_object
  have apart : x ≠ hp.objs.size := Nat.ne_of_lt (Heap.lt_size hx)
  have under : W.Looks (model prog w) hp (isInstance (.ref x) (.type "object")) true := inst.type.andThen (W.looks_mroIn X (by unfold W.mroIn; rw [hcd, Option.bind_some, if_neg (by rw [ne]; decide), hob]))
  refine codeAny_call_builtin SF.slot.plain SF.entry (@W.check_slot (model prog w) _ _ ⟨hp, g, d, t, os⟩ "object.__setattr__" "object" "__setattr__" (.ref x) [.str name tk, v] [] _ SF.kind SF.split under (SF.args (.ref x) (.str name tk) v) ?_)
  have mros : W.Looks (model prog w) hp (mroOf (.ref C)) cd.mro := (W.looks_clsIn X hcd).andThen .now
  have takes : W.Looks (model prog w) hp (storeTaker? none) none := .now
  have datas : W.Looks (model prog w) hp (classData C) cd := W.looks_clsIn X hcd
  rw [W.osa_eq, refuse_eq]
  refine wpAny_bind (wpAny_bind (inst.type.at (wpAny_bind (mros.at ?_))))
  rw [hps]
  refine wpAny_pure (wpAny_bind (inst.type.at (wpAny_bind ((W.looks_findIn X ha).at (wpAny_bind (takes.at ?_))))))
  show wpAny _ _ (storeInOwnDict (.ref x) (.ref C) (.str name tk) name v false) _ _ _
  obtain ⟨nm, bs, mro, ns, qn, hd, sn, sb, ab, col, del⟩ := cd
  dsimp only at hh
  subst hh
  unfold storeInOwnDict ownDictForStores
  repeat (first | with_reducible refine store_in_new ?_ ?_ | with_reducible refine wpAny_loadPart_at hx ?_ | with_reducible refine datas.at ?_ | wp_step)
  · exact ⟨_, #[], _, (Heap.get?_update_ne _ _ _ _ apart.symm).trans (Heap.get?_push_at rfl rfl), rfl, fun e he => absurd he (by simp), fun _ => rfl⟩
  · intro h' tk' hn' hs
    have hx₁ : (hp.push { cls := .type "dict", data := .dict #[] }).get? x = some { cls := .ref C, data := .fields fv } := Heap.get?_push_of_some _ hx
    refine hq h' tk' hp.objs.size (fun b o hb ho => ?_) (Nat.le_refl _) apart.symm ?_ hn'
    · exact (hs.2 b (Nat.ne_of_lt (Heap.lt_size ho))).trans ((Heap.get?_update_ne _ _ _ _ hb).trans (Heap.get?_push_of_some _ ho))
    · exact (hs.2 x apart).trans (Heap.get?_update_self _ hx₁ rfl)
theorem put_old {K : W.Frag} {name : Str} {tk : Tok} {v : Value} {x C dx : Addr} {fv : Array Value} {cd : ClassData} {m0 : Str → Option Value} {nl : List Str}
    (X : K.In hp) (hx : hp.get? x = some { cls := .ref C, dict := some dx, data := .fields fv }) (hns : hp.Ns1 dx m0) (hw : Within m0 nl) (hz : nl.length ≤ 1000) (hcd : W.clsIn K C = some cd)
    (ne : cd.mro.isEmpty = false) (hob : cd.mro.contains (.type "object") = true) (hps : ∀ self, refuseLoop self "__setattr__" cd.mro = pure ()) (hh : cd.hasDict = true) (ha : W.findIn K (.ref C) name = some none)
    (hq : ∀ h' tk', (∀ b o, b ≠ dx → hp.get? b = some o → h'.get? b = some o) → h'.Ns1 dx (fun y => if y = name then some v else m0 y) → R (.ok (.ret .none)) ⟨h', g, d, tk', os⟩) :
    codeAny (model prog w) A (.call (.builtin "object.__setattr__") ⟨[.ref x, .str name tk, v], []⟩) R ⟨hp, g, d, t, os⟩ := by
  obtain ⟨oD, esD, epD, hoD, hdD, _⟩ := hns.count hw
  have inst : W.InstAt hp x { cls := .ref C, dict := some dx, data := .fields fv } C (some oD) := ⟨hx, rfl, rfl, hoD⟩
  have SF := F.store_object
  have under : W.Looks (model prog w) hp (isInstance (.ref x) (.type "object")) true := inst.type.andThen (W.looks_mroIn X (by unfold W.mroIn; rw [hcd, Option.bind_some, if_neg (by rw [ne]; decide), hob]))
  refine codeAny_call_builtin SF.slot.plain SF.entry (@W.check_slot (model prog w) _ _ ⟨hp, g, d, t, os⟩ "object.__setattr__" "object" "__setattr__" (.ref x) [.str name tk, v] [] _ SF.kind SF.split under (SF.args (.ref x) (.str name tk) v) ?_)
  have mros : W.Looks (model prog w) hp (mroOf (.ref C)) cd.mro := (W.looks_clsIn X hcd).andThen .now
  have takes : W.Looks (model prog w) hp (storeTaker? none) none := .now
  have datas : W.Looks (model prog w) hp (classData C) cd := W.looks_clsIn X hcd
  rw [W.osa_eq, refuse_eq]
  refine wpAny_bind (wpAny_bind (inst.type.at (wpAny_bind (mros.at ?_))))
  rw [hps]
  refine wpAny_pure (wpAny_bind (inst.type.at (wpAny_bind ((W.looks_findIn X ha).at (wpAny_bind (takes.at ?_))))))
  show wpAny _ _ (storeInOwnDict (.ref x) (.ref C) (.str name tk) name v false) _ _ _
  obtain ⟨nm, bs, mro, ns, qn, hd, sn, sb, ab, col, del⟩ := cd
  dsimp only at hh
  subst hh
  unfold storeInOwnDict ownDictForStores
  repeat (first | with_reducible refine OEX.store_in_old hns hw hz ?_ | with_reducible refine wpAny_loadPart_at hx ?_ | with_reducible refine datas.at ?_ | wp_step)
  intro h' tk' hn' hs
  exact hq h' tk' (fun b o hb ho => (hs.2 b hb).trans ho) hn'
end
end MyX
end PySem

set_option Elab.async false
set_option linter.all false
set_option maxRecDepth 100000
set_option maxHeartbeats 4000000
namespace PySem.W
open PySem PySem.Spec PySem.Calls PyProof.Rows
section
variable {prog : Program} {w : World} {A : Around} {E : Value → Shared → Prop} {s : Shared} {K : Frag} {x D : Addr} {ox : Obj} {od : Option Obj}
theorem my_findData {C : Addr} {name : Str} {a g : Value} (hc : (clsIn K C).isSome = true) (ha : findIn K (.ref C) name = some (some a)) (hg : specialIn K a "__get__" = some (some g)) (ht : takesIn K a = some true) : findObj K C od name = some (.bind g a) := by
  obtain ⟨cd, hc⟩ := Option.isSome_iff_exists.mp hc
  unfold findObj
  rw [hc, Option.bind_some, ha, Option.bind_some]
  simp [hg, ht]
/-- x.__class__ of an exception, with fields of its own or without -/
theorem my_class {Q : Option Value → Shared → Prop} (C : L2.ExcC K D) (X : K.In s.heap) (I : InstAt s.heap x ox D od) (h : Q (some (.ref D)) { s with toks := s.toks + 1 }) : wpAny (model prog w) A (getAttr? (.ref x) "__class__") Q E s := by
  have found : findObj K D od "__class__" = some (.bind (.builtin "getset_descriptor.__get__") (.builtin "object.__class__")) := my_findData (by obtain ⟨cd, hc, _⟩ := any_some C.hd; rw [hc]; rfl) C.ha C.hn C.ht
  obtain ⟨hp, g, d, t, os⟩ := s
  have l0 := I.type (M := model prog w)
  have l1 := looks_findIn (M := model prog w) X C.hg
  have l2 := looks_findIn (M := model prog w) X C.hk
  have l3 := looks_find (M := model prog w) X I found
  have under : Looks (model prog w) hp (isInstance (.ref x) (.type "BaseException")) true := l0.andThen (looks_subIn X C.hs)
  have z0 : (false && onTheHeap (Value.builtin "BaseException.__getattribute__")) = false := rfl
  have z2 : (Value.builtin "BaseException.__getattribute__" == Value.builtin "object.__getattribute__") = false := by decide +kernel
  have z1 : (onTheHeap (Value.ref D) && Value.builtin "BaseException.__getattribute__" == Value.builtin "object.__getattribute__") = false := by rw [z2]; rfl
  unfold getAttr? getAttrBy? getAttrBy
  refine wpAny_bind (wpAny_mkText (wpAny_bind (wpAny_attempt (wpAny_holding (wpAny_bind (l0.at (wpAny_bind (l1.at ?_))))))))
  show wpAny _ _ (if (onTheHeap (Value.ref D) && Value.builtin "BaseException.__getattribute__" == Value.builtin "object.__getattribute__") = true then _ else _) _ _ _
  rw [z1, if_neg Bool.false_ne_true]
  unfold getAttrByItsOwn hookBefore
  refine wpAny_bind ?_
  rw [if_pos (show onTheHeap (Value.ref D) = true from rfl)]
  refine l2.at ?_
  refine wpAny_bind (wpAny_attempt (wpAny_holding ?_))
  unfold callGetattribute
  rw [z0, if_neg Bool.false_ne_true]
  unfold boundAndCalled
  rw [PySem.F.excAttr_ValueError.ga.bind (.ref x)]
  refine wpAny_bind (wpAny_pure ?_)
  show wpAny _ _ (call (.builtin "BaseException.__getattribute__") [.ref x, .str "__class__" t]) _ _ _
  refine wpAny_call (codeAny_call_builtin PySem.F.excAttr_ValueError.ga.plain PySem.F.entry_bexc_ga ?_)
  refine @check_slot (model prog w) _ _ ⟨hp, g, d, t + 1, os⟩ "BaseException.__getattribute__" "BaseException" "__getattribute__" (.ref x) [.str "__class__" t] [] _ (by decide +kernel) (by decide +kernel) under (PySem.F.args_bexc_ga (.ref x) (.str "__class__" t)) ?_
  unfold Builtin.«object.__getattribute__»
  refine wpAny_bind (wpAny_of_eq (a := ((Value.ref x : Value), [Value.str "__class__" t])) (by first | rfl | (simp only [slotArgs]; rfl)) ?_)
  refine wpAny_bind (wpAny_pure (wpAny_bind (l0.at (wpAny_bind (l3.at ?_)))))
  show wpAny _ _ (holding [Value.builtin "object.__class__"] (call (.builtin "getset_descriptor.__get__") [.builtin "object.__class__", .ref x, .ref D]) >>= ret) _ _ _
  refine wpAny_bind (wpAny_holding (wpAny_call (class_get (s := ⟨hp, g, d, t + 1, os⟩) (ox := ox) (od := od) X I C.hm ?_)))
  refine wpAny_pure ?_
  show wpAny _ _ (handedOut (.ref D)) _ _ _
  rw [handedOut_of (v := .ref D) rfl]
  first
    | exact wpAny_pure (wpAny_pure h)
    | exact wpAny_pure h
    | exact wpAny_pure (wpAny_bind (wpAny_pure (wpAny_pure h)))
theorem my_kitx (C : L2.ExcC K D) : KitX K (.ref x) (.ref D) (fun h => InstAt h x ox D od) where
  ty := fun _ _ _ I => I.type
  it := fun _ _ X _ => by
    obtain ⟨cdD, hcD, _⟩ := any_some C.hd
    unfold clsIn at hcD
    split at hcD
    · rename_i c' d' cd' sl' ho
      intro A' Q' E' s' k q
      unfold isType loadHead
      exact wpAny_bind (wpAny_loadPart (k _ _ (X _ _ ho)) (wpAny_pure q))
    · cases hcD
  ne := fun h tp dd its n sl X htp => by
    obtain ⟨cdD, hcD, _⟩ := any_some C.hd
    refine Bool.eq_false_iff.mpr fun q => ?_
    have e : D = tp := Value.ref.inj (beq_iff_eq.mp q)
    subst e
    unfold clsIn at hcD
    split at hcD
    · rename_i c' d' cd' sl' ho
      cases (X _ _ ho).symm.trans htp
    · cases hcD
  ca := fun X I k => my_class C X I k
end
end PySem.W
namespace L2
open PySem PySem.Spec PyProof.Rows Builtin Builtin.ObjectAttr
/-- what the written part says of an own class over the built-in class B -/
structure OeC (K : PySem.W.Frag) (C : Addr) (B newId initId : String) (bm : List Value) : Prop where
  base : ExcBaseFacts B newId initId bm
  pass : ∀ self, refuseLoop self "__setattr__" bm = pure ()
  ob : bm.contains (.type "object") = true
  cls : ∃ nm q N bs sn sub ab col dd k0 k1 k2 k3 k5, K.lookup C = some (excClassObj nm q C N bs bm true sn sub ab col dd k0 k1 k2 k3 k5 newId)
  sa : PySem.W.findIn K (.ref C) "__setattr__" = some (some (.builtin "object.__setattr__"))
  is_ : ExcC K C
  ty : PySem.W.typeIn K (.ref C) = some (.type "type")
  kC : PySem.W.keepIn K (.ref C) = true
section
variable {X : Cx} {pins : List (Addr × Obj)} {σ : St} {H : Hp} {s : Shared} {a C dx : Addr} {f : Str} {y : V} {u : Value} {fs : List (Str × V)} {Q : Unit → Shared → Prop} {E : Value → Shared → Prop} {A : Around} {B newId initId : String} {bm : List Value}
theorem oe_new (T : OeC X.K C B newId initId bm) (I : Inv X pins σ H s) (e : H a = some (exo a C none)) (hno : PySem.W.findIn X.K (.ref C) f = some none) (ry : RelV y u)
    (h : ∀ dx s', H dx = none → dx ≠ a → Inv X pins σ (upd (upd H dx (exd dx [(f, y)])) a (exo a C (some dx))) s' → Q () s') : wpAny (model X.prog X.w) A (setAttr (.ref a) f u) Q E s := by
  obtain ⟨nm, q, N, bs, sn, sub, ab, col, dd, k0, k1, k2, k3, k5, hC⟩ := T.cls
  have data : PySem.W.clsIn X.K C = some { name := nm, bases := bs, mro := .ref C :: bm, ns := N, qualname := q, hasDict := true, slotNames := sn, subclasses := sub, abstract := ab, collection := col, hasDel := false } := by unfold PySem.W.clsIn; rw [hC] <;> rfl
  obtain ⟨t1, ho⟩ := exo_at I.hok e
  obtain ⟨hp, g, d, t, os⟩ := s
  refine PySem.W.set_plain I.kIn (ox := { cls := .ref C, dict := none, data := .fields #[.ref t1, .none, .none, .none, .bool false, .none] }) (od := none) ⟨ho, rfl, rfl, trivial⟩ T.sa ?_
  refine PySem.MyX.put_new I.kIn ho data rfl (by rw [List.contains_cons, T.ob, Bool.or_true]) (fun self => by rw [refuseLoop_ref]; exact T.pass self) rfl hno (fun h' tk' dx k dn dne hx hn => ?_)
  have free : H dx = none := I.hok.fresh dn
  have away : ∀ {b : Addr} {o : Obj}, hp.get? b = some o → b ≠ dx := fun {b o} z => Nat.ne_of_lt (Nat.lt_of_lt_of_le (Heap.lt_size z) dn)
  have other : ∀ {b : Addr}, H b = none → b ≠ a := fun {b} n z => by
    rw [z, e] at n
    cases n
  have un : Un X.fs [] H (upd (upd H dx (exd dx [(f, y)])) a (exo a C (some dx))) hp h' := {
    keep := fun b o z n _ _ => k b o (other n) z
    slot := fun b o z n _ _ => ⟨o.slots, k b o (other n) z⟩
    free := fun b o z n _ => by rw [upd_ne (other n), upd_ne (away z)]; exact n
    there := fun b o z _ => by
      by_cases hb : b = a
      · exact ⟨_, by rw [hb]; exact hx⟩
      · exact ⟨o, k b o hb z⟩
    tups := fun b xs z => by rw [upd_ne (at_ne e z exo_tup), upd_ne (ne_of_none z free)]; exact z
    frzs := fun b o v z => by rw [upd_ne (at_ne e z exo_frz), upd_ne (ne_of_none z free)]; exact z
    tbls := fun b ps z => ⟨#[], by rw [upd_ne (at_ne e z exo_tbl), upd_ne (ne_of_none z free), z]; simp⟩ }
  refine h dx _ free dne (I.un (t' := tk') un fun b o z => ?_)
  by_cases hb : b = a
  · subst hb
    rw [upd_same] at z
    cases z
    exact exo_ok hx
  · rw [upd_ne hb] at z
    by_cases hd : b = dx
    · subst hd
      rw [upd_same] at z
      cases z
      exact exd_ok hn (relO_put (fs := []) ry fun g => True.intro)
    · rw [upd_ne hd] at z
      exact (I.hok b o z).stay (fun c v hc r => k c v (by
          rcases hc with hc | hc
          · rw [hc]
            exact hb
          · exact at_ne e hc exo_own) r)
        (fun c hc => by rw [upd_ne (at_ne e hc exo_own), upd_ne (ne_of_none hc free)]; exact hc) (fun c xs hc => by rw [upd_ne (at_ne e hc exo_tup), upd_ne (ne_of_none hc free)]; exact hc)
theorem oe_old (T : OeC X.K C B newId initId bm) (I : Inv X pins σ H s) (e : H a = some (exo a C (some dx))) (ed : H dx = some (exd dx fs)) (hl : fs.length ≤ 900) (hno : PySem.W.findIn X.K (.ref C) f = some none) (ry : RelV y u)
    (h : ∀ s', Inv X pins σ (upd H dx (exd dx ((f, y) :: fs))) s' → Q () s') : wpAny (model X.prog X.w) A (setAttr (.ref a) f u) Q E s := by
  obtain ⟨nm, q, N, bs, sn, sub, ab, col, dd, k0, k1, k2, k3, k5, hC⟩ := T.cls
  have data : PySem.W.clsIn X.K C = some { name := nm, bases := bs, mro := .ref C :: bm, ns := N, qualname := q, hasDict := true, slotNames := sn, subclasses := sub, abstract := ab, collection := col, hasDel := false } := by unfold PySem.W.clsIn; rw [hC] <;> rfl
  obtain ⟨t1, ho⟩ := exo_at I.hok e
  obtain ⟨mA, hns, rel⟩ := exd_at I.hok ed
  have wi := within_of rel
  obtain ⟨hp, g, d, t, os⟩ := s
  obtain ⟨oD, _, _, hoD, _, _⟩ := hns.count wi
  refine PySem.W.set_plain I.kIn (ox := { cls := .ref C, dict := some dx, data := .fields #[.ref t1, .none, .none, .none, .bool false, .none] }) (od := some oD) ⟨ho, rfl, rfl, hoD⟩ T.sa ?_
  refine PySem.MyX.put_old I.kIn ho hns wi (by rw [List.length_map]; omega) data rfl (by rw [List.contains_cons, T.ob, Bool.or_true]) (fun self => by rw [refuseLoop_ref]; exact T.pass self) rfl hno (fun h' tk' k hn => ?_)
  have there : ∃ o, h'.get? dx = some o := by
    obtain ⟨o, _, _, z, _⟩ := hn
    exact ⟨o, z⟩
  exact h _ (I.write (t' := tk') (x := dx) (e := dx) (o := exd dx ((f, y) :: fs)) (by rw [ed]; exact True.intro) (.inl rfl) k there (exd_ok hn (relO_put ry rel)))
theorem oe_init {us : List Value} {Q : Value → Shared → Prop} (T : OeC X.K C B newId initId bm) (I : Inv X pins σ H s) (e : H a = some (exo a C none)) (hl : us.length ≤ sizeLine) (h : ∀ s', Inv X pins σ H s' → Q .none s') :
    wpAny (model X.prog X.w) A (call (.builtin initId) (.ref a :: us)) Q E s := by
  obtain ⟨nm, q, N, bs, sn, sub, ab, col, dd, k0, k1, k2, k3, k5, hC⟩ := T.cls
  obtain ⟨t1, ho⟩ := exo_at I.hok e
  obtain ⟨hp, g, d, t, os⟩ := s
  refine wpAny_call (PySem.HandSPX.init_base T.base (fun _ => rfl) (I.kIn _ _ hC) ho hl fun h' t2 k hx => ?_)
  have J := I.write (t' := t) (x := a) (e := a) (o := exo a C none) (by rw [e]; exact True.intro) (.inl rfl) k ⟨_, hx⟩ (exo_ok hx)
  have same : upd H a (exo a C none) = H := by
    funext b
    by_cases hb : b = a
    · rw [hb, upd_same, e]
    · rw [upd_ne hb]
  rw [same] at J
  exact h _ J
end
/-! ### readings and rules -/
/-- B.__init__(self, ..), B the built-in class above -/
def tEi (K : PySem.W.Frag) (B newId initId : String) (bm : List Value) (ta : TA) : TE := fun σ H Q => ta σ H fun vs H1 => ∃ (a C : Addr) (ws : List V), vs = .ref a :: ws ∧ ws.length ≤ 1000 ∧ OeC K C B newId initId bm ∧ H1 a = some (exo a C none) ∧ Q .non H1
/-- self.f = e -/
def tOe (K : PySem.W.Frag) (B newId initId : String) (bm : List Value) (f : Str) (to te : TE) : TS := fun D σ H => te σ H fun y H1 => to σ H1 fun x H2 => ∃ a C : Addr, x = .ref a ∧ OeC K C B newId initId bm ∧ PySem.W.findIn K (.ref C) f = some none ∧
  ((H2 a = some (exo a C none) ∧ ∀ dx, H2 dx = none → dx ≠ a → D.nx σ (upd (upd H2 dx (exd dx [(f, y)])) a (exo a C (some dx)))) ∨
    ∃ (dx : Addr) (fs : List (Str × V)), H2 a = some (exo a C (some dx)) ∧ H2 dx = some (exd dx fs) ∧ fs.length ≤ 900 ∧ D.nx σ (upd H2 dx (exd dx ((f, y) :: fs))))
/-- C(..), kept as a value -/
def tMkV (C : Addr) (sp : Sp) (ta : TA) : TE := fun σ H Q => ta σ H fun vs H1 => vs.length ≤ 1000 ∧ ∀ a, H1 a = none → sp (.ref a :: vs) (upd H1 a (exo a C none)) (fun v H2 => v = .non ∧ Q (.ref a) H2) E0
def tMkVK (C : Addr) (m : Nat) (sp : Sp) (gV : List V → List V → List V) (tk : TA) : TE := fun σ H Q => tk σ H fun zs H1 => zs.length = m ∧ ∀ a, H1 a = none → sp (gV [.ref a] zs) (upd H1 a (exo a C none)) (fun v H2 => v = .non ∧ Q (.ref a) H2) E0
/-- e.f of a made exception -/
def tEf (K : PySem.W.Frag) (f : Str) (te : TE) : TE := fun σ H Q => te σ H fun x H1 => ∃ (a C d : Addr) (fs : List (Str × V)) (v : V), x = .ref a ∧ H1 a = some (exo a C (some d)) ∧ H1 d = some (exd d fs) ∧ ExcC K C ∧ PySem.W.findIn K (.ref C) f = some none ∧ fs.lookup f = some v ∧ Q v H1
/-- isinstance(e, c) of a made exception -/
def rIsX (K : PySem.W.Frag) : List V → Hp → VK → Prop := fun xs H Q => ∃ (a C d : Addr) (fs : List (Str × V)) (c : V) (u : Value) (b : Bool), xs = [.ref a, c] ∧ H a = some (exo a C (some d)) ∧ H d = some (exd d fs) ∧ ExcC K C ∧ ClsV c u ∧ PySem.W.kitOne K (.ref C) u = some b ∧ Q (.bl b) H
section
variable {X : Cx} {o e : Expr} {es : List Expr} {to te : TE} {ta tk : TA} {f x : Str} {p p' p1 p2 pos : Pos} {B newId initId : String} {bm : List Value} {kws : List Keyword}
theorem pe_einit {pl : Sem Bool} (hg : Gl X x) (hm : X.mg x = none) (hv : bootBuiltins x = some (.type B)) (typ : typeOf (.type B) = pure (.type "type")) (stub : Manifest.isStub B = false)
    (vV : PySem.W.findCls X.K (.type B) (.type "type") "__init__" = some (.val (.builtin initId))) (hnd : PySem.W.handedIn (.builtin initId) = true) (ha : PA X (e :: es) ta) (hn : x ≠ "__name__" := by decide) (hdb : (x == ("__debug__" : Str)) = false := by decide)
    (hc : eval (.Call (.Attribute (.Name x p1) "__init__" p2) (e :: es) [] pos) X.env = (do
      let ov ← eval (.Name x p1) X.env
      standAt p2.atName
      let (f, first) ← holding [ov] (getMethod ov "__init__" pl)
      callWith pos f first (backTo pos (starEach (e :: es) X.env)) (backToKw pos (keywordEach [] X.env))) := by rfl)
    (he : starEach (e :: es) X.env = (false, eval e X.env) :: starEach es X.env := by rfl) (hpl : (backTo pos (starEach es X.env)).any (·.1) = false := by rfl) :
    PE X (.Call (.Attribute (.Name x p1) "__init__" p2) (e :: es) [] pos) (tEi X.K B newId initId bm ta) := by
  refine ⟨fun pins s σ H Q I h => ?_⟩
  refine PySem.W.methodCall_KW (ld_blt I hg hm hv ?_ hn hdb) hc
  obtain ⟨m, fr⟩ := I.fr
  refine PySem.W.method_type fr I.ok.mod.kin typ stub vV hnd ?_
  show wpAny _ _ (callWith pos (Value.builtin initId) [] (backTo pos (starEach (e :: es) X.env)) []) _ _ _
  refine PyProof.Rows.callWith_method1 (thn (ha.run pos pins _ σ H _ (I.tok _) h) fun us s1 ⟨vs, H1, I1, r1, a, C, ws, ev, hl, T, ea, q⟩ => ?_) he hpl
  subst ev
  cases r1 with
  | @cons _ u0 _ ur ra rw' =>
    obtain rfl : u0 = Value.ref a := ra
    have size : ur.length ≤ sizeLine := by
      rw [← Paired.length rw', sizeLine_eq]
      omega
    exact oe_init T I1 ea size fun s' J => ⟨.non, H1, J, rfl, q⟩
theorem ps_oe (ho : PE X o to) (he : PE X e te) (hs : swapsWith e (some (.Attribute o f p')) pos.line X.env = pure false := by rfl) : PS X (.Assign [.Attribute o f p'] e pos) (tOe X.K B newId initId bm f to te) := by
  refine ⟨fun pins s σ H D I h => ?_⟩
  refine plainObj_wpAny_Assign_Attribute (thn (he.run pins s σ H _ I h) fun v s1 ⟨y, H1, I1, r1, q1⟩ => thn (ho.run pins s1 σ H1 _ I1 q1) fun u s2 ⟨x, H2, I2, r2, a, C, ex, T, hno, q⟩ => ?_) hs
  subst ex
  obtain rfl : u = Value.ref a := r2
  rcases q with ⟨ea, q⟩ | ⟨dx, fs, ea, ed, hl, q⟩
  · exact oe_new T I2 ea hno r1 fun dx s' n ne J => ⟨σ, _, J, q dx n ne⟩
  · exact oe_old T I2 ea ed hl hno r1 fun s' J => ⟨σ, _, J, q⟩
theorem pe_mkV {C fI : Addr} {k : Nat} {fd : FuncData} {ps : List Str} {sp : Sp} (T : OeC X.K C B newId initId bm) (iC : PySem.W.findIn X.K (.ref C) "__init__" = some (some (.ref fI))) (tI : PySem.W.typeIn X.K (.ref fI) = some (.type "function"))
    (F1 : FnOk X.prog X.w X.K X.mg X.base CX0 k fI fd ps sp) (hr : Room (k + 1) X.A) (hb : Binds X.K fd ps []) (hg : Gl X x) (hm : X.mg x = some (.ref C)) (ha : PA X (e :: es) ta)
    (hdb : (x == ("__debug__" : Str)) = false := by decide) (he : starEach (e :: es) X.env = (false, eval e X.env) :: starEach es X.env := by rfl) (hpl : (backTo pos (starEach es X.env)).any (·.1) = false := by rfl) :
    PE X (.Call (.Name x p) (e :: es) [] pos) (tMkV C sp ta) := by
  refine ⟨fun pins s σ H Q I h => ?_⟩
  obtain ⟨nm, q, N, bs, sn, sub, ab, col, dd, k0, k1, k2, k3, k5, hC⟩ := T.cls
  refine wpAny_Call_Name_kw (ld_glob I hg hm ?_ hdb)
  refine PySem.W.callWith_K (h₀ := X.base) I.ok.mod.kin T.kC (thn (ha.run pos pins s σ H _ I h) fun us s1 ⟨vs, H1, I1, r1, hz, q1⟩ => ⟨I1.kIn, ?_⟩) he hpl
  show wpAny _ _ (call (.ref C) us) _ _ _
  obtain ⟨hp, g, dr, tk, os⟩ := s1
  have up : hp.objs.size ≤ hp.objs.size + 1 := Nat.le_succ _
  have hq := q1 (hp.objs.size + 1) (I1.hok.fresh up)
  have kept : ∀ b o, hp.get? b = some o → ((hp.push (PySem.W.kdv_tup us)).push (PySem.HandSPX.excO C hp.objs.size)).get? b = some o := fun b o z => Heap.get?_push_of_some _ (Heap.get?_push_of_some _ z)
  have made : ((hp.push (PySem.W.kdv_tup us)).push (PySem.HandSPX.excO C hp.objs.size)).get? (hp.objs.size + 1) = some (PySem.HandSPX.excO C hp.objs.size) := by heap_get
  have I2 : Inv X pins σ (upd H1 (hp.objs.size + 1) (exo (hp.objs.size + 1) C none)) ⟨(hp.push (PySem.W.kdv_tup us)).push (PySem.HandSPX.excO C hp.objs.size), g, dr, tk, os⟩ :=
    I1.laid (t' := tk) (a := hp.objs.size + 1) (o := exo (hp.objs.size + 1) C none) (h' := (hp.push (PySem.W.kdv_tup us)).push (PySem.HandSPX.excO C hp.objs.size)) kept up (exo_ok made)
  have r2 : Vals (V.ref (hp.objs.size + 1) :: vs) (Value.ref (hp.objs.size + 1) :: us) := .cons rfl r1
  have many : (Value.ref (hp.objs.size + 1) :: us ++ []).length = ps.length := by
    have z := r2.length
    rw [F1.len _ _ _ _ hq] at z
    rw [List.append_nil]
    exact z.symm
  have size : us.length ≤ sizeLine := by
    rw [← Paired.length r1, sizeLine_eq]
    omega
  have bnd := hb _ (Value.ref (hp.objs.size + 1) :: us) I2.kIn many
  rw [List.append_nil] at bnd
  refine wpAny_call (PySem.MyX.callK T.base (I1.kIn _ _ hC) (PySem.W.looks_findIn I1.kIn iC) (fun self => PySem.W.bind_fn I1.kIn self tI) size
    (codeAny_mono (F1.run _ X.stack _ _ ⟨Value.ref (hp.objs.size + 1) :: us, []⟩ (Value.ref (hp.objs.size + 1) :: us) _ _ E0 (hr.make C us []) (I2.env0.make C us []) bnd r2 hq) fun r s' after => ?_))
  cases r with
  | error er => exact after.elim
  | ok fl =>
    cases fl with
    | ret u =>
      obtain ⟨v, H', J, rv, ev, z⟩ := I2.after after
      subst ev
      exact ⟨rv, ⟨.ref (hp.objs.size + 1), H', J, rfl, z⟩⟩
    | next => exact after.elim
    | brk => exact after.elim
    | cont => exact after.elim
theorem pe_mkVK {C fI : Addr} {k : Nat} {fd : FuncData} {ps ks : List Str} {sp : Sp} {gg : List Value → List Value → List Value} {gV : List V → List V → List V} (T : OeC X.K C B newId initId bm) (iC : PySem.W.findIn X.K (.ref C) "__init__" = some (some (.ref fI))) (tI : PySem.W.typeIn X.K (.ref fI) = some (.type "function"))
    (F1 : FnOk X.prog X.w X.K X.mg X.base CX0 k fI fd ps sp) (hr : Room (k + 1) X.A) (hb : KBn X.K fd ps 1 ks gg gV) (hg : Gl X x) (hm : X.mg x = some (.ref C)) (hkw : PK X kws tk)
    (hall : (backToKw pos (keywordEach kws X.env)).all (·.1.isSome) = true := by rfl) (hks : (backToKw pos (keywordEach kws X.env)).filterMap (·.1) = ks := by rfl) (hdb : (x == ("__debug__" : Str)) = false := by decide)
    (hpl : ((backTo pos (starEach [] X.env)).any (·.1) || (backToKw pos (keywordEach kws X.env)).any (·.1.isNone)) = false := by rfl) :
    PE X (.Call (.Name x p) [] kws pos) (tMkVK C ks.length sp gV tk) := by
  refine ⟨fun pins s σ H Q I h => ?_⟩
  obtain ⟨nm, q, N, bs, sn, sub, ab, col, dd, k0, k1, k2, k3, k5, hC⟩ := T.cls
  refine wpAny_Call_Name_kw (ld_glob I hg hm ?_ hdb)
  refine PySem.W.callWith_KW0 (h₀ := X.base) I.ok.mod.kin T.kC hall ?_ hpl
  refine thn (hkw.run pos pins s σ H _ I h) fun ws s1 ⟨zs, H1, I1, rz, hz, q1⟩ => ⟨I1.kIn, ?_⟩
  rw [hks]
  obtain ⟨hp, g, dr, tk, os⟩ := s1
  have up : hp.objs.size ≤ hp.objs.size + 1 := Nat.le_succ _
  have hq := q1 (hp.objs.size + 1) (I1.hok.fresh up)
  have kept : ∀ b o, hp.get? b = some o → ((hp.push (PySem.W.kdv_tup [])).push (PySem.HandSPX.excO C hp.objs.size)).get? b = some o := fun b o z => Heap.get?_push_of_some _ (Heap.get?_push_of_some _ z)
  have made : ((hp.push (PySem.W.kdv_tup [])).push (PySem.HandSPX.excO C hp.objs.size)).get? (hp.objs.size + 1) = some (PySem.HandSPX.excO C hp.objs.size) := by heap_get
  have I2 : Inv X pins σ (upd H1 (hp.objs.size + 1) (exo (hp.objs.size + 1) C none)) ⟨(hp.push (PySem.W.kdv_tup [])).push (PySem.HandSPX.excO C hp.objs.size), g, dr, tk, os⟩ :=
    I1.laid (t' := tk) (a := hp.objs.size + 1) (o := exo (hp.objs.size + 1) C none) (h' := (hp.push (PySem.W.kdv_tup [])).push (PySem.HandSPX.excO C hp.objs.size)) kept up (exo_ok made)
  have r2 := hb.rel (vs := [V.ref (hp.objs.size + 1)]) (us := [Value.ref (hp.objs.size + 1)]) (.cons rfl .nil) rz
  have bnd := hb.to ⟨(hp.push (PySem.W.kdv_tup [])).push (PySem.HandSPX.excO C hp.objs.size), g, dr, tk, os⟩ [Value.ref (hp.objs.size + 1)] ws I2.kIn rfl (rz.length.symm.trans hz)
  refine wpAny_call (PySem.MyX.callK (rest := []) (kw := ks.zip ws) T.base (I1.kIn _ _ hC) (PySem.W.looks_findIn I1.kIn iC) (fun self => PySem.W.bind_fn I1.kIn self tI) (Nat.zero_le _)
    (codeAny_mono (F1.run _ X.stack _ _ ⟨[Value.ref (hp.objs.size + 1)], ks.zip ws⟩ (gg [Value.ref (hp.objs.size + 1)] ws) _ _ E0 (hr.make C [] (ks.zip ws)) (I2.env0.make C [] (ks.zip ws)) bnd r2 hq) fun r s' after => ?_))
  cases r with
  | error er => exact after.elim
  | ok fl =>
    cases fl with
    | ret u =>
      obtain ⟨v, H', J, rv, ev, z⟩ := I2.after after
      subst ev
      exact ⟨rv, ⟨.ref (hp.objs.size + 1), H', J, rfl, z⟩⟩
    | next => exact after.elim
    | brk => exact after.elim
    | cont => exact after.elim
theorem exc_inst {pins : List (Addr × Obj)} {σ : St} {H : Hp} {s : Shared} {a C d : Addr} {fs : List (Str × V)} (I : Inv X pins σ H s) (ea : H a = some (exo a C (some d))) (ed : H d = some (exd d fs)) :
    ∃ (ox od : Obj) (mA : Str → Option Value), PySem.W.InstAt s.heap a ox C (some od) ∧ (∀ g, RelO (fs.lookup g) (mA g)) ∧ ∀ n, PySem.W.lookIn n od = some (mA n) := by
  obtain ⟨t1, ho⟩ := exo_at I.hok ea
  obtain ⟨mA, hns, rel⟩ := exd_at I.hok ed
  obtain ⟨od, hod, hl⟩ := lookIn_ns hns
  exact ⟨_, od, mA, ⟨ho, rfl, rfl, hod⟩, rel, fun n => hl n⟩
theorem pe_ef (he : PE X e te) (hb : attributeBase e f X.env (eval e X.env) = eval e X.env := by rfl) : PE X (.Attribute e f pos) (tEf X.K f te) := by
  refine ⟨fun pins s σ H Q I h => ?_⟩
  refine attr_of hb (thn (he.run pins s σ H _ I h) fun u s1 hh => ?_)
  obtain ⟨x, H1, I1, rx, a, C, d, fs, v, ex, ea, ed, T, hno, l, q⟩ := hh
  subst ex
  obtain rfl : u = Value.ref a := rx
  obtain ⟨ox, od, mA, J, rel, hl⟩ := exc_inst I1 ea ed
  obtain ⟨u, hu, ru⟩ := RelO.some_of (v := v) (o := mA f) (by rw [← l]; exact rel f)
  exact HandSPX.exc_get I1.kIn J T.hg T.hk T.hs (PySem.W.findObj_own T.hd hno rfl (by rw [hl, hu])) (handed_of ru) ⟨v, H1, I1.tok _, ru, q⟩
theorem call_isX : CallR X (.builtin "isinstance") (rIsX X.K) := by
  intro pins s σ H xs us Q I r h
  obtain ⟨a, C, d, fs, c, u, b, rfl, ea, ed, T, k, e, q⟩ := h
  obtain ⟨u1, u2, rfl, r1, r2⟩ := vals2 r
  cases (show u1 = Value.ref a from r1)
  have e2 := k.eq r2
  subst e2
  obtain ⟨ox, od, mA, J, rel, hl⟩ := exc_inst I ea ed
  exact PySem.W.kia_one (PySem.W.my_kitx T) I.kIn J e (fun z => nomatch z) fun tk => ⟨.bl b, H, I.tok tk, rfl, q⟩
end
/-- which class an own exception's class stands under -/
theorem oe_mro {K : PySem.W.Frag} {C : Addr} {B newId initId : String} {bm : List Value} (T : OeC K C B newId initId bm) (u : Value) : PySem.W.subIn K (.ref C) u = some ((Value.ref C :: bm).contains u) := by
  obtain ⟨nm, q, N, bs, sn, sub, ab, col, dd, k0, k1, k2, k3, k5, hC⟩ := T.cls
  show PySem.W.mroIn K C u = _
  unfold PySem.W.mroIn PySem.W.clsIn
  rw [hC]
  rfl
theorem oe_cls {K : PySem.W.Frag} {C : Addr} {B newId initId : String} {bm : List Value} (T : OeC K C B newId initId bm) : (PySem.W.clsIn K C).isSome = true := by
  obtain ⟨nm, q, N, bs, sn, sub, ab, col, dd, k0, k1, k2, k3, k5, hC⟩ := T.cls
  unfold PySem.W.clsIn
  rw [hC]
  rfl
theorem oe_own {K : PySem.W.Frag} {C D : Addr} {B newId initId B' newId' initId' : String} {bm bm' : List Value} (T : OeC K C B newId initId bm) (S : OeC K D B' newId' initId' bm') (nr : bm.contains (.ref D) = false) :
    PySem.W.kitOne K (.ref C) (.ref D) = some (decide (C = D)) := by
  unfold PySem.W.kitOne
  by_cases e : C = D
  · subst e
    simp
  · have e1 : (Value.ref C == Value.ref D) = false := beq_eq_false_iff_ne.mpr fun z => e (Value.ref.inj z)
    rw [e1, if_neg Bool.false_ne_true]
    show (if ((PySem.W.clsIn K D).isSome && PySem.W.typeIn K (.ref D) == some (.type "type")) = true then PySem.W.subIn K (.ref C) (.ref D) else none) = _
    rw [oe_cls S, S.ty, if_pos (by simp), oe_mro T, decide_eq_false e, List.contains_cons, nr]
    have e2 : (Value.ref D == Value.ref C) = false := beq_eq_false_iff_ne.mpr fun z => e (Value.ref.inj z).symm
    rw [e2]
    rfl
theorem oe_blt {K : PySem.W.Frag} {C : Addr} {B newId initId t : String} {bm : List Value} (T : OeC K C B newId initId bm) (m : PySem.W.kitMeta t = true) : PySem.W.kitOne K (.ref C) (.type t) = some (bm.contains (.type t)) := by
  unfold PySem.W.kitOne
  have e1 : (Value.ref C == Value.type t) = false := beq_eq_false_iff_ne.mpr fun z => nomatch z
  rw [e1, if_neg Bool.false_ne_true]
  show (if PySem.W.kitMeta t = true then PySem.W.subIn K (.ref C) (.type t) else none) = _
  rw [if_pos m, oe_mro T, List.contains_cons]
  have e2 : (Value.type t == Value.ref C) = false := beq_eq_false_iff_ne.mpr fun z => nomatch z
  rw [e2, Bool.false_or]
end L2

set_option Elab.async false
set_option linter.all false
set_option maxRecDepth 100000
set_option maxHeartbeats 4000000
/-! my own rules: an exception that is caught and kept behind the suite; calls by keywords within a try -/
namespace L2
open PySem PySem.Spec PyProof.Rows
/-- a caught exception's object -/
def exl (a : Addr) (cls : Value) (d : Option Addr) : HO := .ext fun h => ∃ (o : Obj) (vs : Array Value), h.get? a = some o ∧ o.cls = cls ∧ o.dict = d ∧ o.data = .fields vs
theorem exl_ok {P : Program} {w : World} {H : Hp} {h : Heap} {a : Addr} {cls : Value} {d : Option Addr} {o : Obj} {vs : Array Value} (he : h.get? a = some o) (hz : Zc cls d o) (hd : o.data = .fields vs) : ObjOk P w H h a (exl a cls d) :=
  ⟨⟨o, vs, he, hz.1, hz.2, hd⟩, ⟨o, he⟩, fun h1 h2 z k => by
    obtain ⟨o, vs, q, r⟩ := z
    exact ⟨o, vs, k _ q, r⟩⟩
theorem exl_at {P : Program} {w : World} {H : Hp} {h : Heap} {a : Addr} {cls : Value} {d : Option Addr} (hok : HOk P w H h) (he : H a = some (exl a cls d)) : ∃ (o : Obj) (vs : Array Value), h.get? a = some o ∧ o.cls = cls ∧ o.dict = d ∧ o.data = .fields vs := by
  have x : ObjOk P w H h a (.ext fun h => ∃ (o : Obj) (vs : Array Value), h.get? a = some o ∧ o.cls = cls ∧ o.dict = d ∧ o.data = .fields vs) := hok a _ he
  exact x.1
section
variable {X : Cx} {pins : List (Addr × Obj)} {σ : List (Option V)} {H : Hp} {s : Shared}
theorem Inv.adopt (I : Inv X pins σ H s) {a : Addr} {o : HO} (h0 : X.s_0.heap.get? a = none) (na : H a = none) (nL : a ≠ X.env.locals) (nC : ∀ x c, X.env.cells.lookup x = some c → c ≠ a) (nP : ∀ p ∈ X.pn ++ pins, p.1 ≠ a)
    (new : ObjOk X.prog X.w (upd H a o) s.heap a o) : Inv X pins σ (upd H a o) s :=
  ⟨I.ok, I.os, I.bare,
    ⟨I.base.keep, I.base.slot, fun b ob e n hx => by
      rw [upd_ne (fun z => by rw [z, h0] at e; cases e)]
      exact I.base.free b ob e n hx, I.base.there, fun b xs q => by
      have := I.base.tups b xs q
      rw [upd_ne (ne_of_none this na)]
      exact this, fun b ob u q => by
      have := I.base.frzs b ob u q
      rw [upd_ne (ne_of_none this na)]
      exact this, fun b ps q => by
      obtain ⟨more, this⟩ := I.base.tbls b ps q
      exact ⟨more, by rw [upd_ne (ne_of_none this na)]; exact this⟩⟩,
    I.loc, I.cell, by rw [upd_ne (Ne.symm nL)]; exact I.free, fun x c e => by rw [upd_ne (nC x c e)]; exact I.freeC x c e,
    fun p hp => by
      obtain ⟨e, n, r⟩ := I.pin p hp
      exact ⟨e, by rw [upd_ne (nP p hp)]; exact n, r⟩,
    fun b u e => by
      by_cases hb : b = a
      · subst hb; rw [upd_same] at e; cases e; exact new
      · rw [upd_ne hb] at e
        exact (I.hok b u e).stay (fun c v _ q => q) (fun c q => by rw [upd_ne (ne_of_none q na)]; exact q) fun c xs q => by rw [upd_ne (ne_of_none q na)]; exact q,
    I.len⟩
end
/-- what the clause 'except x as n' wishes of an exception of the body, its object being kept -/
def wKp (K : PySem.W.Frag) (c : Value) (i : Nat) (ts : Addr → Value → Option Addr → TS) (Wout : WX) (D : Ends) : WX := fun cls d σ H =>
  ∃ b, PySem.W.exmOne K cls c = some b ∧ (b = true → ∀ a, H a = none → ts a cls d { nx := fun σ' H' => D.nx (σ'.set i none) (upd H' a (exl a cls d)), rt := D.rt, bk := fun σ' H' => D.bk (σ'.set i none) H', ct := fun σ' H' => D.ct (σ'.set i none) H' } (σ.set i (some (.ref a))) H) ∧
    (b = false → Wout cls d σ H)
section
variable {X : Cx} {x n : Str} {c : Value} {i : Nat} {body suite : List Stmt} {b₀ : Stmt} {np pos pos' : Pos} {tb : WX → TS} {ts : Addr → Value → Option Addr → TS} {Wout : WX}
theorem ps_try_kp (hs : X.stack = X.env :: X.outer) (hf : X.env.frame = some X.env.locals) (hex : X.ex = []) (hN : X.N.Nodup) (hi : X.N[i]? = some n) (hln : X.env.kindOf n = some .local) (hc : Names X x c) (tk : Takes X Wout)
    (hb : ∀ (W : WX) (pn : List (Addr × Obj)) (xe : Value → Shared → Prop), Takes (X.tr pn xe) W → PassesOwn (model X.prog X.w) X.A X.env xe → PSs (X.tr pn xe) body (tb W))
    (hsu : ∀ (a : Addr) (oe : Obj) (cls : Value) (d : Option Addr) (pn : List (Addr × Obj)), Zc cls d oe → (∃ vs, oe.data = .fields vs) → PSs (X.suite a ((a, oe) :: pn)) (b₀ :: suite) (ts a cls d)) :
    PS X (.Try body [.ExceptHandler (some (.Name x np)) (some n) (b₀ :: suite) pos'] [] [] pos) (fun D σ H => tb (wKp X.K c i ts Wout D) D σ H) := by
  refine ⟨fun pins s σ H D I h => ?_⟩
  have ok := I.ok
  have hfr : X.A.frames = some (X.env :: X.outer) := by rw [ok.frames, hs]
  have hloc : Loc X.env.scope n := .inl hln
  refine wpAny_Try_except ?_
  refine wpAny_mono ((hb (wKp X.K c i ts Wout D) (X.pn ++ pins) (fun e s₁ => wpAny (model X.prog X.w) X.A (noteFrame e X.env) (fun _ s₂ => wpAny (model X.prog X.w) X.A (setFlight e none) (fun _ s₃ =>
    wpAny (model X.prog X.w) X.A (handleBy e X.env [.ExceptHandler (some (.Name x np)) (some n) (b₀ :: suite) pos']) (SP X pins D) X.xe s₃) X.xe s₂) X.xe s₁) (fun u s' xx => ?_) PassesOwn.looking).run [] s σ H D (I.toTry _) h) (fun f s1 hsp => ?_) (fun e s1 he => he)
  · -- the catch
    obtain ⟨a, B, sI, pins', σ', H', cls, d, rfl, J', nb, up, sky, na, os, ag, b, hb1, hyes, hno⟩ := xx
    have J : Inv X pins σ' H' sI := J'.ofTry ok
    have sky' : Sky B (X.env :: X.outer) a (Zc cls d) X.env.locals s'.heap := by rw [← hs]; exact sky
    show wpAny (model X.prog X.w) X.A (noteFrame (.ref a) X.env) _ _ _
    refine Sky.land Zc.steady hfr hf sky' fun h3 fl3 up3 => ?_
    have J3 : Inv X pins σ' H' { s' with heap := h3 } := J.landed nb fl3.1 (up.trans up3) os ag
    obtain ⟨oe3, vs3, he3, hz3, hd3⟩ := fl3.there
    have notFr : ∀ {h : Heap} {o : Obj} {vs : Array Value}, h.FunFrames B (X.env :: X.outer) → h.get? a = some o → o.data = .fields vs → a ∉ frs (X.env :: X.outer) := fun {h o vs} ff e dd hm => by
      obtain ⟨_, o', e', hnf⟩ := ff.mem hm
      rw [e] at e'; cases e'
      exact hnf _ dd
    have nfr := notFr fl3.2.2.1 he3 hd3
    have nL : a ≠ X.env.locals := fun z => nfr (List.mem_filterMap.mpr ⟨X.env, List.mem_cons_self, by rw [hf, z]⟩)
    have nF : a ∉ X.fs := fun hm => by
      obtain ⟨e, he, q⟩ := List.mem_filterMap.mp hm
      exact nfr (List.mem_filterMap.mpr ⟨e, List.mem_cons_of_mem _ he, q⟩)
    have aI : sI.heap.get? a = none := by
      cases e : sI.heap.get? a with
      | none => rfl
      | some o =>
        have z := nb a o e (by rw [hs]; exact nfr)
        rw [fl3.2.1] at z
        cases z
    have a0 : X.s_0.heap.get? a = none := by
      cases e : X.s_0.heap.get? a with
      | none => rfl
      | some o =>
        obtain ⟨o', z⟩ := J.base.there a o e (by rw [hex]; simp)
        rw [aI] at z
        cases z
    have nP : ∀ p ∈ X.pn ++ pins, p.1 ≠ a := fun p hp z => by
      obtain ⟨e, _⟩ := J.pin p hp
      rw [z, aI] at e
      cases e
    have S3 := J3.suite he3 hd3 na nL nF
    refine wpAny_handleBy_cons (codeAny_handlers_test ?_) (by intro q; cases q)
    have LT : PySem.W.Looks (model X.prog X.w) h3 (typeOf (.ref a)) cls := fun A Q E s k q => wpAny_typeOf_ref (k _ _ he3) (by rw [hz3.1]; exact q)
    have LM := PySem.W.exm_one (M := model X.prog X.w) (J3.kIn) LT hb1
    have test : ∀ {Q : Value → Shared → Prop} {E : Value → Shared → Prop}, Q c { s' with heap := h3 } → wpAny (model X.prog X.w) (X.A.mark (some (.ref a))) (eval (.Name x np) X.env) Q E { s' with heap := h3 } := fun {Q E} q => by
      obtain ⟨hg, hdbg, hm | ⟨hm, hv, hnn⟩⟩ := hc
      · exact ld_glob (X := X.suite a ((a, oe3) :: (X.pn ++ pins))) S3 hg hm q hdbg
      · exact ld_blt (X := X.suite a ((a, oe3) :: (X.pn ++ pins))) S3 hg hm hv q hnn hdbg
    refine test (LM.here ?_)
    cases b with
    | true =>
      refine codeAny_handlers_suite_as ?_
      refine HandSPX.lands_againZ fl3 fun h4 fl4 up4 => ?_
      have J4 : Inv X pins σ' H' { s' with heap := h4 } := J.landed nb fl4.1 ((up.trans up3).trans up4) os ag
      obtain ⟨oe4, vs4, he4, hz4, hd4⟩ := fl4.there
      have S4 := J4.suite he4 hd4 na nL nF
      refine store_ok (X := X.suite a ((a, oe4) :: (X.pn ++ pins))) (v := .ref a) S4 hN hi hloc rfl (fun s5 S5 => ?_) (.inr hln)
      refine wpAny_mono ((hsu a oe4 cls d (X.pn ++ pins) hz4 ⟨_, hd4⟩).run [] s5 _ H' _ S5 (hyes rfl a na)) (fun f s6 hsp => ?_) (fun _ _ z => False.elim z)
      have end_ : ∀ {σ6 : St} {H6 : Hp} {Q : Shared → Prop}, Inv (X.suite a ((a, oe4) :: (X.pn ++ pins))) [] σ6 H6 s6 → (∀ s7, Inv X pins (σ6.set i none) H6 s7 → Q s7) →
          wpAny (model X.prog X.w) X.A (do bindName X.env n .none; unbindBehindTheSuite X.env n pos') (fun _ s7 => Q s7) X.xe s6 := fun {σ6 H6 Q} S6 hq => gone_ok (S6.unsuite ok) hN hi hln hq
      cases f with
      | next =>
        obtain ⟨σ6, H6, S6, q6⟩ := hsp
        obtain ⟨ea6, na6, _, _, nc6⟩ := S6.pin (a, oe4) (List.mem_append_left _ List.mem_cons_self)
        have J6 : Inv X pins σ6 H6 s6 := S6.unsuite ok
        have J6' : Inv X pins σ6 (upd H6 a (exl a cls d)) s6 := J6.adopt a0 na6 nL (fun y c' e z => by
          obtain ⟨v, o, ho, hcd⟩ := J6.cell y c' e
          rw [z] at ho
          have e2 : some o = some oe4 := ho.symm.trans ea6
          cases e2
          exact nc6 v hcd) nP (exl_ok ea6 hz4 hd4)
        exact gone_ok J6' hN hi hln fun s7 J7 => ⟨_, _, J7, q6⟩
      | brk =>
        obtain ⟨σ6, H6, S6, q6⟩ := hsp
        exact end_ S6 fun s7 J7 => ⟨_, _, J7, q6⟩
      | cont =>
        obtain ⟨σ6, H6, S6, q6⟩ := hsp
        exact end_ S6 fun s7 J7 => ⟨_, _, J7, q6⟩
      | ret u =>
        obtain ⟨v6, σ6, H6, S6, r6, q6⟩ := hsp
        exact end_ S6 fun s7 J7 => ⟨_, _, _, J7, r6, q6⟩
    | false =>
      show wpAny _ X.A (handleBy (.ref a) X.env []) _ _ _
      refine wpAny_handleBy_nil ?_
      obtain ⟨k1, k2, k3, oe, vs, T, oT, ts', he, hz, hd, h1, hr⟩ := id fl3
      unfold PySem.passOn
      refine wpAny_bind (wpAny_field he hd h1 ?_)
      rw [if_neg (show ¬ ((Value.ref T == Value.none) = true) from by simp)]
      have fin : wpAny (model X.prog X.w) X.A (setFlight (.ref a) X.env.frame) (fun _ s4 => wpAny (model X.prog X.w) X.A (throw (.ref a) : Sem Flow) (SP X pins D) X.xe s4) X.xe { s' with heap := h3 } := by
        rw [hf]
        refine HandSPX.setFlight_upZ fl3 fun h4 hh4 up4 => wpAny_throw (tk _ _ ?_)
        exact ⟨a, B, sI, pins, σ', H', cls, d, rfl, J, nb, (up.trans up3).trans up4, .inr (.inr (by rw [hs]; exact hh4)), na, os, ag, hno rfl⟩
      first
        | exact wpAny_bind (wpAny_pure (wpAny_bind fin))
        | exact wpAny_bind fin
  · cases f with
    | next =>
      obtain ⟨σ', H', J', q⟩ := hsp
      exact wpAny_execs_nil ⟨σ', H', J'.ofTry ok, q⟩
    | brk =>
      obtain ⟨σ', H', J', q⟩ := hsp
      exact ⟨σ', H', J'.ofTry ok, q⟩
    | cont =>
      obtain ⟨σ', H', J', q⟩ := hsp
      exact ⟨σ', H', J'.ofTry ok, q⟩
    | ret u =>
      obtain ⟨v, σ', H', J', r, q⟩ := hsp
      exact ⟨v, σ', H', J'.ofTry ok, r, q⟩
end
/-! ### calls by keywords within a try -/
def tCallNS (n m : Nat) (sp : Sp) (gV : List V → List V → List V) (E : St → XK) (t tk : TA) : TE := fun σ H Q => t σ H fun vs H1 => tk σ H1 fun zs H2 => vs.length = n ∧ zs.length = m ∧ sp (gV vs zs) H2 Q (E σ)
section
variable {X : Cx} {CX : CXT} {k n : Nat} {f : Addr} {fd : FuncData} {ps ks : List Str} {sp : Sp} {E : St → XK} {x : Str} {p pos : Pos} {e : Expr} {es : List Expr} {kws : List Keyword} {t tk : TA} {g : List Value → List Value → List Value} {gV : List V → List V → List V}
theorem run_fnNS {pins : List (Addr × Obj)} {σ : St} {H : Hp} {s : Shared} {Q : VK} {us ws : List Value} {vs zs : List V} (F : FnOk X.prog X.w X.K X.mg X.base CX k f fd ps sp) (hr : Room k X.A) (hb : KBn X.K fd ps n ks g gV) (hx : PassesAt CX X σ (E σ))
    (I : Inv X pins σ H s) (r : Vals vs us) (rz : Vals zs ws) (l1 : vs.length = n) (l2 : zs.length = ks.length) (h : sp (gV vs zs) H Q (E σ)) : wpAny (model X.prog X.w) X.A (call (.ref f) us (ks.zip ws)) (EP X pins σ Q) X.xe s := by
  have r2 := hb.rel r rz
  refine wpAny_call (codeAny_mono (F.run X.A X.stack s H ⟨us, ks.zip ws⟩ (g us ws) (gV vs zs) Q (E σ) hr I.env0 (hb.to s us ws I.kIn (r.length.symm.trans l1) (rz.length.symm.trans l2)) r2 h) fun r s' hq => ?_)
  cases r with
  | error e => exact hx pins H s e s' I hq
  | ok fl =>
    cases fl with
    | ret u => exact I.after hq
    | next => exact False.elim hq
    | brk => exact False.elim hq
    | cont => exact False.elim hq
theorem pe_callNS (F : FnOk X.prog X.w X.K X.mg X.base CX k f fd ps sp) (hr : Room k X.A) (hg : Gl X x) (hm : X.mg x = some (.ref f)) (hk : PySem.W.keepIn X.K (.ref f) = true) (hb : KBn X.K fd ps n ks g gV) (hx : ∀ σ, PassesAt CX X σ (E σ))
    (ha : PA X (e :: es) t) (hkw : PK X kws tk) (hall : (backToKw pos (keywordEach kws X.env)).all (·.1.isSome) = true := by rfl) (hks : (backToKw pos (keywordEach kws X.env)).filterMap (·.1) = ks := by rfl)
    (hdb : (x == ("__debug__" : Str)) = false := by decide) (he : starEach (e :: es) X.env = (false, eval e X.env) :: starEach es X.env := by rfl)
    (hpl : ((backTo pos (starEach (e :: es) X.env)).any (·.1) || (backToKw pos (keywordEach kws X.env)).any (·.1.isNone)) = false := by rfl) :
    PE X (.Call (.Name x p) (e :: es) kws pos) (tCallNS n ks.length sp gV E t tk) := by
  refine ⟨fun pins s σ H Q I h => ?_⟩
  refine wpAny_Call_Name_kw (ld_glob I hg hm ?_ hdb)
  refine PySem.W.callWith_KW (h₀ := X.base) I.ok.mod.kin hk hall (thn (ha.run pos pins s σ H _ I h) fun us s1 ⟨vs, H1, I1, r, q⟩ => ?_) hpl he
  refine thn (hkw.run pos pins s1 σ H1 _ I1 q) fun ws s2 ⟨zs, H2, I2, rz, l1, l2, q2⟩ => ⟨I2.kIn, ?_⟩
  rw [hks]
  exact run_fnNS F hr hb (hx σ) I2 r rz l1 l2 q2
theorem pe_callN0S (F : FnOk X.prog X.w X.K X.mg X.base CX k f fd ps sp) (hr : Room k X.A) (hg : Gl X x) (hm : X.mg x = some (.ref f)) (hk : PySem.W.keepIn X.K (.ref f) = true) (hb : KBn X.K fd ps 0 ks g gV) (hx : ∀ σ, PassesAt CX X σ (E σ))
    (hkw : PK X kws tk) (hall : (backToKw pos (keywordEach kws X.env)).all (·.1.isSome) = true := by rfl) (hks : (backToKw pos (keywordEach kws X.env)).filterMap (·.1) = ks := by rfl)
    (hdb : (x == ("__debug__" : Str)) = false := by decide)
    (hpl : ((backTo pos (starEach [] X.env)).any (·.1) || (backToKw pos (keywordEach kws X.env)).any (·.1.isNone)) = false := by rfl) :
    PE X (.Call (.Name x p) [] kws pos) (tCallNS 0 ks.length sp gV E tNil tk) := by
  refine ⟨fun pins s σ H Q I h => ?_⟩
  refine wpAny_Call_Name_kw (ld_glob I hg hm ?_ hdb)
  refine PySem.W.callWith_KW0 (h₀ := X.base) I.ok.mod.kin hk hall ?_ hpl
  refine thn (hkw.run pos pins s σ H _ I h) fun ws s2 ⟨zs, H2, I2, rz, l1, l2, q2⟩ => ⟨I2.kIn, ?_⟩
  rw [hks]
  exact run_fnNS (us := []) (vs := []) F hr hb (hx σ) I2 .nil rz rfl l2 q2
end
/-! ### what is asked of a kept exception -/
/-- e.f -/
def tXl (K : PySem.W.Frag) (f : Str) (te : TE) : TE := fun σ H Q => te σ H fun x H1 => ∃ (a C d : Addr) (fs : List (Str × V)) (v : V), x = .ref a ∧ H1 a = some (exl a (.ref C) (some d)) ∧ H1 d = some (.xd fs) ∧ ExcC K C ∧ PySem.W.findIn K (.ref C) f = some none ∧ fs.lookup f = some v ∧ Q v H1
def rIsl (K : PySem.W.Frag) : List V → Hp → VK → Prop := fun xs H Q => ∃ (a C d : Addr) (fs : List (Str × V)) (c : V) (u : Value) (b : Bool), xs = [.ref a, c] ∧ H a = some (exl a (.ref C) (some d)) ∧ H d = some (.xd fs) ∧ ExcC K C ∧ ClsV c u ∧ PySem.W.kitOne K (.ref C) u = some b ∧ Q (.bl b) H
def rIslT (K : PySem.W.Frag) : List V → Hp → VK → Prop := fun xs H Q => ∃ (a C d : Addr) (fs : List (Str × V)) (tp : Addr) (cs : List V) (ws : List Value) (b : Bool), xs = [.ref a, .ref tp] ∧ H a = some (exl a (.ref C) (some d)) ∧ H d = some (.xd fs) ∧ ExcC K C ∧
  H tp = some (.tup cs) ∧ Paired ClsV cs ws ∧ PySem.W.kitAny K (.ref C) ws = some b ∧ Q (.bl b) H
section
variable {X : Cx} {e : Expr} {te : TE} {f : Str} {pos : Pos}
theorem exl_inst {pins : List (Addr × Obj)} {σ : St} {H : Hp} {s : Shared} {a C d : Addr} {fs : List (Str × V)} (I : Inv X pins σ H s) (ea : H a = some (exl a (.ref C) (some d))) (ed : H d = some (.xd fs)) :
    ∃ (ox od : Obj) (mA : Str → Option Value), PySem.W.InstAt s.heap a ox C (some od) ∧ (∀ g, RelO (fs.lookup g) (mA g)) ∧ ∀ n, PySem.W.lookIn n od = some (mA n) := by
  obtain ⟨o, vs, ho, hc, hd, hf⟩ := exl_at I.hok ea
  obtain ⟨mA, hns, rel⟩ := (show ObjOk X.prog X.w H s.heap d (.xd fs) from I.hok d _ ed)
  obtain ⟨od, hod, hl⟩ := lookIn_ns hns
  exact ⟨o, od, mA, ⟨ho, hc, by unfold PySem.W.notCls; rw [hf] <;> rfl, by rw [hd]; exact hod⟩, rel, fun n => hl n⟩
theorem pe_xl (he : PE X e te) (hb : attributeBase e f X.env (eval e X.env) = eval e X.env := by rfl) : PE X (.Attribute e f pos) (tXl X.K f te) := by
  refine ⟨fun pins s σ H Q I h => ?_⟩
  refine attr_of hb (thn (he.run pins s σ H _ I h) fun u s1 hh => ?_)
  obtain ⟨x, H1, I1, rx, a, C, d, fs, v, ex, ea, ed, T, hno, l, q⟩ := hh
  subst ex
  obtain rfl : u = Value.ref a := rx
  obtain ⟨ox, od, mA, J, rel, hl⟩ := exl_inst I1 ea ed
  obtain ⟨u, hu, ru⟩ := RelO.some_of (v := v) (o := mA f) (by rw [← l]; exact rel f)
  exact HandSPX.exc_get I1.kIn J T.hg T.hk T.hs (PySem.W.findObj_own T.hd hno rfl (by rw [hl, hu])) (handed_of ru) ⟨v, H1, I1.tok _, ru, q⟩
theorem call_isl : CallR X (.builtin "isinstance") (rIsl X.K) := by
  intro pins s σ H xs us Q I r h
  obtain ⟨a, C, d, fs, c, u, b, rfl, ea, ed, T, k, e, q⟩ := h
  obtain ⟨u1, u2, rfl, r1, r2⟩ := vals2 r
  cases (show u1 = Value.ref a from r1)
  have e2 := k.eq r2
  subst e2
  obtain ⟨ox, od, mA, J, rel, hl⟩ := exl_inst I ea ed
  exact PySem.W.kia_one (PySem.W.my_kitx T) I.kIn J e (fun z => nomatch z) fun tk => ⟨.bl b, H, I.tok tk, rfl, q⟩
theorem call_islT : CallR X (.builtin "isinstance") (rIslT X.K) := by
  intro pins s σ H xs us Q I r h
  obtain ⟨a, C, d, fs, tp, cs, ws, b, rfl, ea, ed, T, hT, k, e, q⟩ := h
  obtain ⟨u1, u2, rfl, r1, r2⟩ := vals2 r
  cases (show u1 = Value.ref a from r1)
  cases (show u2 = Value.ref tp from r2)
  obtain ⟨ox, od, mA, J, rel, hl⟩ := exl_inst I ea ed
  obtain ⟨_, its, rv, o, h1, h2, n, h3⟩ := (show ObjOk X.prog X.w H s.heap tp (.tup cs) from I.hok tp _ hT)
  have e3 := ClsV.all k rv
  subst e3
  obtain ⟨oc, od', dt, sl⟩ := o
  simp only at h2 h3
  subst h2 h3
  exact PySem.W.kia_tup (PySem.W.my_kitx T) I.kIn J h1 e (fun z => nomatch z) fun tk => ⟨.bl b, H, I.tok tk, rfl, q⟩
end
end L2

set_option Elab.async false
set_option linter.all false
set_option maxRecDepth 100000
set_option maxHeartbeats 4000000
/-! my own rules: an except clause of several classes, its exception kept -/
namespace PySem.W
open PySem PySem.Spec PySem.Calls PyProof.Rows
section
variable {M : Model} {K : Frag} {A : Around} {E : Value → Shared → Prop}
theorem forIn_pass {β : Type} {f : Value → β → Sem (ForInStep β)} {r0 : β} {s : Shared} : ∀ {cs : List Value} {Q : β → Shared → Prop}, (∀ c ∈ cs, ∀ Q : ForInStep β → Shared → Prop, Q (.yield r0) s → wpAny M A (f c r0) Q E s) → Q r0 s → wpAny M A (forIn cs r0 f) Q E s
  | [], Q, _, q => by
    rw [List.forIn_nil]
    exact wpAny_pure q
  | c :: cs, Q, h, q => by
    rw [List.forIn_cons]
    refine wpAny_bind (h c List.mem_cons_self _ ?_)
    exact forIn_pass (fun c hc => h c (List.mem_cons_of_mem _ hc)) q
theorem forIn_first {β : Type} {f : Value → β → Sem (ForInStep β)} {r0 : β} {s : Shared} {Q : β → Shared → Prop} : ∀ {cs : List Value} {bs : List Bool}, bs.length = cs.length →
    (∀ (i : Nat) c, cs[i]? = some c → bs[i]? = some false → ∀ Q : ForInStep β → Shared → Prop, Q (.yield r0) s → wpAny M A (f c r0) Q E s) →
    (∀ (i : Nat) c, cs[i]? = some c → bs[i]? = some true → wpAny M A (f c r0) (fun st s => ∃ r, st = .done r ∧ Q r s) E s) → (bs.any id = false → Q r0 s) → wpAny M A (forIn cs r0 f) Q E s
  | [], [], _, _, _, q => by
    rw [List.forIn_nil]
    exact wpAny_pure (q rfl)
  | c :: cs, false :: bs, hl, hn, hy, q => by
    rw [List.forIn_cons]
    refine wpAny_bind (hn 0 c rfl rfl _ ?_)
    exact forIn_first (Nat.succ.inj hl) (fun i c h1 h2 => hn (i + 1) c h1 h2) (fun i c h1 h2 => hy (i + 1) c h1 h2) (fun e => q e)
  | c :: cs, true :: bs, hl, hn, hy, q => by
    rw [List.forIn_cons]
    refine wpAny_bind (wpAny_mono (hy 0 c rfl rfl) (fun st s h => ?_) (fun _ _ x => x))
    obtain ⟨r, rfl, h⟩ := h
    exact wpAny_pure h
theorem exmAny_get {K : Frag} {cls : Value} : ∀ {cs : List Value} {b : Bool}, exmAny K cls cs = some b → ∃ bs : List Bool, bs.length = cs.length ∧ bs.any id = b ∧ ∀ (i : Nat) c v, cs[i]? = some c → bs[i]? = some v → exmOne K cls c = some v
  | [], b, h => ⟨[], rfl, by cases h; rfl, fun i c v h => by cases h⟩
  | c :: cs, b, h => by
    obtain ⟨b1, d1, x1, y1, rfl⟩ := exmAny_cons h
    obtain ⟨bs, l, a, g⟩ := exmAny_get y1
    refine ⟨b1 :: bs, by simp [l], by rw [List.any_cons, a]; rfl, fun i c' v h1 h2 => ?_⟩
    cases i with
    | zero =>
      cases h1
      cases h2
      exact x1
    | succ i => exact g i c' v h1 h2
theorem exm_tupN {cs : List Value} {cls : Value} {tp e : Addr} {b : Bool} {h : Heap} (X : K.In h) (LT : Looks M h (typeOf (.ref e)) cls) (hp : h.get? tp = some { cls := .type "tuple", data := .seq cs.toArray }) (hx : exmAny K cls cs = some b) :
    Looks M h (excMatches (.ref e) (.ref tp)) b := by
  intro A Q E s k₀ q
  obtain ⟨hh, g, d, tk, os⟩ := s
  have k : ∀ b o, h.get? b = some o → hh.get? b = some o := k₀
  have LT0 : Looks M h (isInstance (.ref tp) (.type "tuple")) true := ((Looks.ld hp).andThen .now).andThen (Looks.of_pure isSubtype_tuple_tuple)
  obtain ⟨bs, hl, ha, hg⟩ := exmAny_get hx
  have LT := LT.keeps k
  have LT0 := LT0.keeps k
  have hp' := k _ _ hp
  have hs : ∀ c ∈ cs, Looks M hh (isExcClass c) true := fun c hc => by
    obtain ⟨i, hi⟩ := List.mem_iff_getElem?.mp hc
    have hi2 : i < bs.length := by
      rw [hl]
      exact (List.getElem?_eq_some_iff.mp hi).1
    exact (exm_cls (M := M) X (hg i c bs[i] hi (List.getElem?_eq_getElem hi2))).1.keeps k
  unfold excMatches
  refine wpAny_bind (LT0.at ?_)
  dsimp only
  rw [if_pos rfl]
  first
    | refine wpAny_bind (wpAny_seqItems hp' rfl ?_)
    | refine wpAny_bind (wpAny_bind (wpAny_seqItems hp' rfl (wpAny_pure ?_)))
  dsimp only [Option.getD_some, Option.getD]
  refine wpAny_bind (wpAny_pure ?_)
  refine wpAny_bind (forIn_pass (fun c hc Q' q' => ?_) ?_)
  · have e1 := hs c hc
    (repeat (first | simp only [Bool.not_true, Bool.false_eq_true, if_false, if_true] | lk))
    exact q'
  · refine wpAny_bind (LT.at ?_)
    refine wpAny_bind (forIn_first (bs := bs) hl (fun i c h1 h2 Q' q' => ?_) (fun i c h1 h2 => ?_) (fun e => ?_))
    · have S1 := (exm_cls (M := M) X (hg i c _ h1 h2)).2.keeps k
      (repeat (first | simp only [Bool.not_true, Bool.false_eq_true, if_false, if_true] | lk))
      exact q'
    · have S1 := (exm_cls (M := M) X (hg i c _ h1 h2)).2.keeps k
      (repeat (first | simp only [Bool.not_true, Bool.false_eq_true, if_false, if_true] | lk))
      refine ⟨_, rfl, ?_⟩
      have eb : b = true := by
        rw [← ha, List.any_eq_true]
        exact ⟨true, List.mem_of_getElem? h2, rfl⟩
      subst eb
      exact wpAny_pure q
    · have eb : b = false := ha.symm.trans e
      subst eb
      exact wpAny_pure q
end
end PySem.W
namespace L2
open PySem PySem.Spec PyProof.Rows
theorem flyZ_keeps {B h h' : Heap} {l : List Env} {e : Addr} {Z : Obj → Prop} (R : HandSPX.FlyingZ B l e Z h) (k : ∀ b o, h.get? b = some o → h'.get? b = some o) : HandSPX.FlyingZ B l e Z h' := by
  obtain ⟨f1, f2, f3, oe, vs, T, oT, ts, he, hz, hd, h1, hnT, hTe, hT, hdT, h3⟩ := R
  exact ⟨fun b o q => k b o (f1 b o q), f2, f3.of_keeps fun b o q _ => ⟨o, k b o q, rfl⟩, oe, vs, T, oT, ts, k _ _ he, hz, hd, h1, hnT, hTe, k _ _ hT, hdT, h3⟩
inductive NmsOk (X : Cx) : List Expr → List Value → Prop
  | nil : NmsOk X [] []
  | cons {x : Str} {c : Value} {p : Pos} {es : List Expr} {cs : List Value} (h : Names X x c) (r : NmsOk X es cs) : NmsOk X (.Name x p :: es) (c :: cs)
/-- what the clause 'except (..) as n' wishes of an exception of the body, its object being kept -/
def wKpT (K : PySem.W.Frag) (cs : List Value) (i : Nat) (ts : Addr → Value → Option Addr → TS) (Wout : WX) (D : Ends) : WX := fun cls d σ H =>
  ∃ b, PySem.W.exmAny K cls cs = some b ∧ (b = true → ∀ a, H a = none → ts a cls d { nx := fun σ' H' => D.nx (σ'.set i none) (upd H' a (exl a cls d)), rt := D.rt, bk := fun σ' H' => D.bk (σ'.set i none) H', ct := fun σ' H' => D.ct (σ'.set i none) H' } (σ.set i (some (.ref a))) H) ∧
    (b = false → Wout cls d σ H)
section
variable {X : Cx} {n : Str} {es : List Expr} {cs : List Value} {i kk : Nat} {body suite : List Stmt} {b₀ : Stmt} {np pos pos' : Pos} {tb : WX → TS} {ts : Addr → Value → Option Addr → TS} {Wout : WX}
theorem ps_try_kpT (hs : X.stack = X.env :: X.outer) (hf : X.env.frame = some X.env.locals) (hex : X.ex = []) (hN : X.N.Nodup) (hi : X.N[i]? = some n) (hln : X.env.kindOf n = some .local) (hc : NmsOk X es cs) (hcl : cs.length ≤ sizeLine) (tk : Takes X Wout)
    (hb : ∀ (W : WX) (pn : List (Addr × Obj)) (xe : Value → Shared → Prop), Takes (X.tr pn xe) W → PassesOwn (model X.prog X.w) X.A X.env xe → PSs (X.tr pn xe) body (tb W))
    (hsu : ∀ (a : Addr) (oe : Obj) (cls : Value) (d : Option Addr) (pn : List (Addr × Obj)), Zc cls d oe → (∃ vs, oe.data = .fields vs) → PSs (X.suite a ((a, oe) :: pn)) (b₀ :: suite) (ts a cls d)) :
    PS X (.Try body [.ExceptHandler (some (.Tuple es kk np)) (some n) (b₀ :: suite) pos'] [] [] pos) (fun D σ H => tb (wKpT X.K cs i ts Wout D) D σ H) := by
  refine ⟨fun pins s σ H D I h => ?_⟩
  have ok := I.ok
  have hfr : X.A.frames = some (X.env :: X.outer) := by rw [ok.frames, hs]
  have hloc : Loc X.env.scope n := .inl hln
  refine wpAny_Try_except ?_
  refine wpAny_mono ((hb (wKpT X.K cs i ts Wout D) (X.pn ++ pins) (fun e s₁ => wpAny (model X.prog X.w) X.A (noteFrame e X.env) (fun _ s₂ => wpAny (model X.prog X.w) X.A (setFlight e none) (fun _ s₃ =>
    wpAny (model X.prog X.w) X.A (handleBy e X.env [.ExceptHandler (some (.Tuple es kk np)) (some n) (b₀ :: suite) pos']) (SP X pins D) X.xe s₃) X.xe s₂) X.xe s₁) (fun u s' xx => ?_) PassesOwn.looking).run [] s σ H D (I.toTry _) h) (fun f s1 hsp => ?_) (fun e s1 he => he)
  · -- the catch
    obtain ⟨a, B, sI, pins', σ', H', cls, d, rfl, J', nb, up, sky, na, os, ag, b, hb1, hyes, hno⟩ := xx
    have J : Inv X pins σ' H' sI := J'.ofTry ok
    have sky' : Sky B (X.env :: X.outer) a (Zc cls d) X.env.locals s'.heap := by rw [← hs]; exact sky
    show wpAny (model X.prog X.w) X.A (noteFrame (.ref a) X.env) _ _ _
    refine Sky.land Zc.steady hfr hf sky' fun h3 fl3 up3 => ?_
    have J3 : Inv X pins σ' H' { s' with heap := h3 } := J.landed nb fl3.1 (up.trans up3) os ag
    obtain ⟨oe3, vs3, he3, hz3, hd3⟩ := fl3.there
    have notFr : ∀ {h : Heap} {o : Obj} {vs : Array Value}, h.FunFrames B (X.env :: X.outer) → h.get? a = some o → o.data = .fields vs → a ∉ frs (X.env :: X.outer) := fun {h o vs} ff e dd hm => by
      obtain ⟨_, o', e', hnf⟩ := ff.mem hm
      rw [e] at e'; cases e'
      exact hnf _ dd
    have nfr := notFr fl3.2.2.1 he3 hd3
    have nL : a ≠ X.env.locals := fun z => nfr (List.mem_filterMap.mpr ⟨X.env, List.mem_cons_self, by rw [hf, z]⟩)
    have nF : a ∉ X.fs := fun hm => by
      obtain ⟨e, he, q⟩ := List.mem_filterMap.mp hm
      exact nfr (List.mem_filterMap.mpr ⟨e, List.mem_cons_of_mem _ he, q⟩)
    have aI : sI.heap.get? a = none := by
      cases e : sI.heap.get? a with
      | none => rfl
      | some o =>
        have z := nb a o e (by rw [hs]; exact nfr)
        rw [fl3.2.1] at z
        cases z
    have a0 : X.s_0.heap.get? a = none := by
      cases e : X.s_0.heap.get? a with
      | none => rfl
      | some o =>
        obtain ⟨o', z⟩ := J.base.there a o e (by rw [hex]; simp)
        rw [aI] at z
        cases z
    have nP : ∀ p ∈ X.pn ++ pins, p.1 ≠ a := fun p hp z => by
      obtain ⟨e, _⟩ := J.pin p hp
      rw [z, aI] at e
      cases e
    have S3 := J3.suite he3 hd3 na nL nF
    refine wpAny_handleBy_cons (codeAny_handlers_test ?_) (by intro q; cases q)
    have LT : PySem.W.Looks (model X.prog X.w) h3 (typeOf (.ref a)) cls := fun A Q E s k q => wpAny_typeOf_ref (k _ _ he3) (by rw [hz3.1]; exact q)
    have nms : ∀ {es' : List Expr} {cs' : List Value}, NmsOk X es' cs' → ∀ {Q : List Value → Shared → Prop} {E : Value → Shared → Prop}, Q cs' { s' with heap := h3 } → wpAny (model X.prog X.w) (X.A.mark (some (.ref a))) (spliced (backTo np (starEach es' X.env))) Q E { s' with heap := h3 } := by
      intro es' cs' hc'
      induction hc' with
      | nil => exact fun q => wpAny_items_nil q
      | cons hn _ ih =>
        intro Q E q
        refine wpAny_items_cons ?_
        obtain ⟨hg, hdbg, hm | ⟨hm, hv, hnn⟩⟩ := hn
        · exact ld_glob (X := X.suite a ((a, oe3) :: (X.pn ++ pins))) S3 hg hm (ih q) hdbg
        · exact ld_blt (X := X.suite a ((a, oe3) :: (X.pn ++ pins))) S3 hg hm hv (ih q) hnn hdbg
    refine wpAny_Tuple (nms hc ⟨hcl, ?_⟩)
    have kp : ∀ q o, h3.get? q = some o → (h3.push { cls := .type "tuple", data := .seq cs.toArray }).get? q = some o := fun _ _ z => Heap.get?_push_of_some _ z
    have LM := PySem.W.exm_tupN (M := model X.prog X.w) ((J3.kIn).keeps kp) (LT.keeps kp) (Heap.get?_push_size h3 rfl) hb1
    have fl3' := flyZ_keeps fl3 kp
    have up3' := up3.trans (Heap.UpToSlots.of_keeps kp)
    refine LM.here ?_
    clear S3 LT
    generalize h3.push { cls := .type "tuple", data := .seq cs.toArray } = h3n at kp fl3' up3' LM ⊢
    cases b with
    | true =>
      refine codeAny_handlers_suite_as ?_
      refine HandSPX.lands_againZ fl3' fun h4 fl4 up4 => ?_
      have J4 : Inv X pins σ' H' { s' with heap := h4 } := J.landed nb fl4.1 ((up.trans up3').trans up4) os ag
      obtain ⟨oe4, vs4, he4, hz4, hd4⟩ := fl4.there
      have S4 := J4.suite he4 hd4 na nL nF
      refine store_ok (X := X.suite a ((a, oe4) :: (X.pn ++ pins))) (v := .ref a) S4 hN hi hloc rfl (fun s5 S5 => ?_) (.inr hln)
      refine wpAny_mono ((hsu a oe4 cls d (X.pn ++ pins) hz4 ⟨_, hd4⟩).run [] s5 _ H' _ S5 (hyes rfl a na)) (fun f s6 hsp => ?_) (fun _ _ z => False.elim z)
      have end_ : ∀ {σ6 : St} {H6 : Hp} {Q : Shared → Prop}, Inv (X.suite a ((a, oe4) :: (X.pn ++ pins))) [] σ6 H6 s6 → (∀ s7, Inv X pins (σ6.set i none) H6 s7 → Q s7) →
          wpAny (model X.prog X.w) X.A (do bindName X.env n .none; unbindBehindTheSuite X.env n pos') (fun _ s7 => Q s7) X.xe s6 := fun {σ6 H6 Q} S6 hq => gone_ok (S6.unsuite ok) hN hi hln hq
      cases f with
      | next =>
        obtain ⟨σ6, H6, S6, q6⟩ := hsp
        obtain ⟨ea6, na6, _, _, nc6⟩ := S6.pin (a, oe4) (List.mem_append_left _ List.mem_cons_self)
        have J6 : Inv X pins σ6 H6 s6 := S6.unsuite ok
        have J6' : Inv X pins σ6 (upd H6 a (exl a cls d)) s6 := J6.adopt a0 na6 nL (fun y c' e z => by
          obtain ⟨v, o, ho, hcd⟩ := J6.cell y c' e
          rw [z] at ho
          have e2 : some o = some oe4 := ho.symm.trans ea6
          cases e2
          exact nc6 v hcd) nP (exl_ok ea6 hz4 hd4)
        exact gone_ok J6' hN hi hln fun s7 J7 => ⟨_, _, J7, q6⟩
      | brk =>
        obtain ⟨σ6, H6, S6, q6⟩ := hsp
        exact end_ S6 fun s7 J7 => ⟨_, _, J7, q6⟩
      | cont =>
        obtain ⟨σ6, H6, S6, q6⟩ := hsp
        exact end_ S6 fun s7 J7 => ⟨_, _, J7, q6⟩
      | ret u =>
        obtain ⟨v6, σ6, H6, S6, r6, q6⟩ := hsp
        exact end_ S6 fun s7 J7 => ⟨_, _, _, J7, r6, q6⟩
    | false =>
      show wpAny _ X.A (handleBy (.ref a) X.env []) _ _ _
      refine wpAny_handleBy_nil ?_
      obtain ⟨k1, k2, k3, oe, vs, T, oT, ts', he, hz, hd, h1, hr⟩ := id fl3'
      unfold PySem.passOn
      refine wpAny_bind (wpAny_field he hd h1 ?_)
      rw [if_neg (show ¬ ((Value.ref T == Value.none) = true) from by simp)]
      have fin : wpAny (model X.prog X.w) X.A (setFlight (.ref a) X.env.frame) (fun _ s4 => wpAny (model X.prog X.w) X.A (throw (.ref a) : Sem Flow) (SP X pins D) X.xe s4) X.xe { s' with heap := h3n } := by
        rw [hf]
        refine HandSPX.setFlight_upZ fl3' fun h4 hh4 up4 => wpAny_throw (tk _ _ ?_)
        exact ⟨a, B, sI, pins, σ', H', cls, d, rfl, J, nb, (up.trans up3').trans up4, .inr (.inr (by rw [hs]; exact hh4)), na, os, ag, hno rfl⟩
      first
        | exact wpAny_bind (wpAny_pure (wpAny_bind fin))
        | exact wpAny_bind fin
  · cases f with
    | next =>
      obtain ⟨σ', H', J', q⟩ := hsp
      exact wpAny_execs_nil ⟨σ', H', J'.ofTry ok, q⟩
    | brk =>
      obtain ⟨σ', H', J', q⟩ := hsp
      exact ⟨σ', H', J'.ofTry ok, q⟩
    | cont =>
      obtain ⟨σ', H', J', q⟩ := hsp
      exact ⟨σ', H', J'.ofTry ok, q⟩
    | ret u =>
      obtain ⟨v, σ', H', J', r, q⟩ := hsp
      exact ⟨v, σ', H', J'.ofTry ok, r, q⟩
end
end L2
namespace L2
open PySem PySem.Spec PyProof.Rows
section
variable {X : Cx}
/-- x not in a tuple of data -/
def rNotInDT (K : PySem.W.Frag) : R2 := fun x y H Q => ∃ d ds, Dp K H x d ∧ Dp K H y (.tuple ds) ∧ SeqAt.shaped d = true ∧ SeqAt.shaped (.tuple ds) = true ∧ Q (.bl (!ds.any fun z => PyData.eqv z d)) H
theorem op_notInDT (hu : X.A.units + 65 < cLine) : OpR X (compareOp .NotIn) (rNotInDT X.K) := by
  intro pins s σ H x y v u Q I rx ry h
  obtain ⟨d, ds, hd, he, sd, se, q⟩ := h
  obtain ⟨as, r1⟩ := Dp.reads I d x v hd rx
  obtain ⟨bs, r2⟩ := Dp.reads I (.tuple ds) y u he ry
  exact SeqAt.notIn_tuple_reads r2 r1 (SeqAt.canLay_of_shaped se) (SeqAt.canLay_of_shaped sd) (room_in_shaped sd hu) ⟨.bl _, H, I, rfl, q⟩
end
end L2

set_option Elab.async false
set_option linter.all false
set_option maxRecDepth 100000
set_option maxHeartbeats 4000000
/-! my own rules: a walk over a list or a tuple; methods in a try, by keywords -/
namespace L2
open PySem PySem.Spec PyProof.Rows
section
variable {X : Cx} {tg : Expr}
def iSeqA (K : PySem.W.Frag) (tl : TE) : TI := fun σ H R => tl σ H fun x H1 => ∃ (a : Addr) (xs : List V), x = .ref a ∧ ((SqL K H1 a xs ∧ R (Itl K a) H1) ∨ (SqT K H1 a xs ∧ R (Itt K a) H1))
theorem pi_seqA {l : Expr} {tl : TE} (hl : PE X l tl) : PI X tg l (iSeqA X.K tl) := by
  refine ⟨fun pins s σ H R I h => ?_⟩
  refine thn (hl.run pins s σ H _ I h) fun v s1 ⟨x, H1, I1, r1, q1⟩ => ?_
  obtain ⟨a, xs, e, q1⟩ := q1
  subst e
  cases r1
  rcases q1 with ⟨hq, q⟩ | ⟨hq, q⟩
  · obtain ⟨its, rv, p, hz⟩ := I1.list hq
    refine wpAny_pyIter_list p.isList ?_
    refine ⟨s1.heap.objs.size, [s1.heap.objs.size], _, _, H1, rfl, I1.kept (t' := s1.toks) fun b o e => Heap.get?_push_of_some _ e, turn_list a _, ⟨_, Heap.get?_push_size _ rfl, rfl, rfl⟩, fun b hb => ?_, q⟩
    have e : b = s1.heap.objs.size := by simpa using hb
    subst e
    exact I1.fpOk (Nat.le_refl _) (I1.hok.fresh (Nat.le_refl _))
  · obtain ⟨its, rv, p, hz⟩ := I1.tuple hq
    refine wpAny_pyIter_tuple (show s1.heap.IsTuple a its.toArray from p) ?_
    refine ⟨s1.heap.objs.size, [s1.heap.objs.size], _, _, H1, rfl, I1.kept (t' := s1.toks) fun b o e => Heap.get?_push_of_some _ e, turn_tuple a _, ⟨_, Heap.get?_push_size _ rfl, rfl, rfl⟩, fun b hb => ?_, q⟩
    have e : b = s1.heap.objs.size := by simpa using hb
    subst e
    exact I1.fpOk (Nat.le_refl _) (I1.hok.fresh (Nat.le_refl _))
end
/-! ### o.m(e, ..) in a try -/
section
variable {X : Cx} {CX : CXT} {k : Nat} {f C : Addr} {fd : FuncData} {ps : List Str} {sp : Sp} {E : St → XK} {m : Str} {pos apos : Pos} {e o : Expr} {es : List Expr} {ta : TE} {t : TA} {ds : List Value} {dvs : List V}
def tMethT (C : Addr) (m : Str) (sp : Sp) (dvs : List V) (E : St → XK) (ta : TE) (t : TA) : TE := fun σ H Q => ta σ H fun x H1 => ∃ a dx fs, x = .ref a ∧ H1 a = some (.ins C dx fs) ∧ fs.lookup m = none ∧
  t σ H1 fun vs H2 => sp (x :: (vs ++ dvs)) H2 Q (E σ)
theorem pe_methT {pl : Sem Bool} (he : PE X o ta) (c : Cls X.K C) (hm : Meth X.K C m f) (F : FnOk X.prog X.w X.K X.mg X.base CX k f fd ps sp) (hr : Room k X.A) (hb : Binds X.K fd ps ds) (hd : Vals dvs ds) (hx : ∀ σ, PassesAt CX X σ (E σ)) (ha : PA X (e :: es) t)
    (hst : starEach (e :: es) X.env = (false, eval e X.env) :: starEach es X.env := by rfl) (hpl : (backTo pos (starEach es X.env)).any (·.1) = false := by rfl)
    (ht : eval (.Call (.Attribute o m apos) (e :: es) [] pos) X.env = (do
      let ov ← eval o X.env
      standAt apos.atName
      let (f, first) ← holding [ov] (getMethod ov m pl)
      callWith pos f first (backTo pos (starEach (e :: es) X.env)) (backToKw pos (keywordEach [] X.env))) := by rfl) :
    PE X (.Call (.Attribute o m apos) (e :: es) [] pos) (tMethT C m sp dvs E ta t) := by
  refine ⟨fun pins s σ H Q I h => ?_⟩
  refine PySem.W.methodCall_KW (pl := pl) (thn (he.run pins s σ H _ I h) fun u s1 ⟨x, H1, I1, rx, a, dx, fs, ex, ea, l, q⟩ => ?_) ht
  subst ex
  obtain rfl : u = Value.ref a := rx
  refine getmeth_ok I1 ea c hm l ?_
  refine PySem.W.callWith_K (first := [.ref a]) (h₀ := X.base) I.ok.mod.kin hm.kp (thn (ha.run pos pins s1 σ H1 _ I1 q) fun us s2 ⟨vs, H2, I2, r, q2⟩ => ⟨I2.kIn, ?_⟩) hst hpl
  exact run_fnSD (us := .ref a :: us) (vs := .ref a :: vs) F hr hb hd (hx σ) I2 (.cons rfl r) q2
end
/-! ### a call, in a try, of a local name that holds a def -/
section
variable {X : Cx} {CX : CXT} {k i : Nat} {f : Addr} {fd : FuncData} {ps : List Str} {sp : Sp} {dvs : List V} {ds : List Value} {E : St → XK} {x : Str} {p pos : Pos} {e : Expr} {es : List Expr} {t : TA}
def tCallLS (i : Nat) (f : Addr) (sp : Sp) (dvs : List V) (E : St → XK) (t : TA) : TE := fun σ H Q => σ[i]? = some (some (.ref f)) ∧ t σ H fun vs H1 => sp (vs ++ dvs) H1 Q (E σ)
theorem pe_callLS (F : FnOk X.prog X.w X.K X.mg X.base CX k f fd ps sp) (hr : Room k X.A) (hN : X.N[i]? = some x) (hv : Vis X.env.scope x) (hk : PySem.W.keepIn X.K (.ref f) = true) (hb : Binds X.K fd ps ds) (hd : Vals dvs ds) (hx : ∀ σ, PassesAt CX X σ (E σ)) (ha : PA X (e :: es) t)
    (hdb : (x == ("__debug__" : Str)) = false := by decide) (hcd : (x == ("__classdict__" : Str)) = false := by decide)
    (he : starEach (e :: es) X.env = (false, eval e X.env) :: starEach es X.env := by rfl) (hpl : (backTo pos (starEach es X.env)).any (·.1) = false := by rfl) : PE X (.Call (.Name x p) (e :: es) [] pos) (tCallLS i f sp dvs E t) := by
  refine ⟨fun pins s σ H Q I h => ?_⟩
  obtain ⟨hs, ht⟩ := h
  refine wpAny_Call_Name_kw (thn ((pe_var (pos := p) hN hv hdb hcd).run pins s σ H (fun v H1 => v = .ref f ∧ H1 = H) I ⟨.ref f, hs, rfl, rfl⟩) fun u s1 ⟨v, H1, I1, r1, q1⟩ => ?_)
  obtain ⟨rfl, rfl⟩ := q1
  cases r1
  refine PySem.W.callWith_K (h₀ := X.base) I.ok.mod.kin hk (thn (ha.run pos pins s1 σ _ _ I1 ht) fun us s2 ⟨vs, H2, I2, r, q⟩ => ⟨I2.kIn, ?_⟩) he hpl
  exact run_fnSD F hr hb hd (hx σ) I2 r q
end
end L2

set_option Elab.async false
set_option linter.all false
set_option maxRecDepth 100000
set_option maxHeartbeats 4000000
/-! my own rules: a dict written in the module whose keys are whole numbers -/
namespace L2
open PySem PySem.Spec PyProof.Rows
inductive NKeys : List DictEntry → List (Int × V) → List (Int × Value) → Prop
  | nil : NKeys [] [] []
  | cons {k : Int} {t : Tok} {v : V} {u : Value} {es : List DictEntry} {kvs : List (Int × V)} {vs : List (Int × Value)} : RelV v u → NKeys es kvs vs →
      NKeys (⟨hashInt k, .int k t, u⟩ :: es) ((k, v) :: kvs) ((k, u) :: vs)
theorem NKeys.kv {es : List DictEntry} {kvs : List (Int × V)} {vs : List (Int × Value)} (h : NKeys es kvs vs) : KV kvs vs := by
  induction h with
  | nil => exact .nil
  | cons r _ ih => exact .cons ⟨rfl, r⟩ ih
theorem NKeys.pairs {P : Program} {w : World} {es : List DictEntry} {kvs : List (Int × V)} {vs : List (Int × Value)} (h : NKeys es kvs vs) : Pairs (intKind P w) es vs := by
  induction h with
  | nil => exact .nil
  | cons r _ ih => exact .cons (by simp [intKind, Value.isInt]) rfl ih
theorem NKeys.keys {P : Program} {w : World} {es : List DictEntry} {kvs : List (Int × V)} {vs : List (Int × Value)} (h : NKeys es kvs vs) : ∀ e ∈ es, ∃ k, (intKind P w).is k e.key = true ∧ e.hash = (intKind P w).hash k := by
  induction h with
  | nil => intro e he; exact absurd he (by simp)
  | cons r _ ih =>
    intro e he
    rcases List.mem_cons.mp he with rfl | he
    · exact ⟨_, by simp [intKind, Value.isInt], rfl⟩
    · exact ih e he
/-- at d: a written dict of whole numbers -/
structure NDict (K : PySem.W.Frag) (d : Addr) (kvs : List (Int × V)) : Prop where
  ex : ∃ es n vs, K.lookup d = some ⟨.type "dict", none, .dict es n, #[]⟩ ∧ NKeys es.toList kvs vs
  nd : (kvs.map (·.1)).Nodup
  low : (d == sysModules) = false
section
variable {X : Cx} {d : Addr} {kvs : List (Int × V)} {pins : List (Addr × Obj)} {σ : St} {H : Hp} {s : Shared}
theorem NDict.of (D : NDict X.K d kvs) (I : Inv X pins σ H s) : ∃ vs, KV kvs vs ∧ s.heap.DictOf (intKind X.prog X.w) d vs := by
  obtain ⟨es, n, vs, l, k⟩ := D.ex
  refine ⟨vs, k.kv, _, es, n, I.kIn d _ l, ⟨rfl, rfl, rfl⟩, rfl, fun e he => k.keys e (by simpa using he), k.pairs, ?_⟩
  have := D.nd
  rw [k.kv.keys] at this
  exact this
theorem intKind_is (k : Int) {u : Value} {P : Program} {w : World} (r : RelV (.int k) u) : (intKind P w).is k u = true := by
  obtain ⟨t, rfl⟩ := r
  simp [intKind, Value.isInt]
def rInN (d : Addr) (kvs : List (Int × V)) : R2 := fun x y H Q => ∃ k, x = .int k ∧ y = .ref d ∧ Q (.bl (valV kvs k).isSome) H
def rNotInN (d : Addr) (kvs : List (Int × V)) : R2 := fun x y H Q => ∃ k, x = .int k ∧ y = .ref d ∧ Q (.bl (!(valV kvs k).isSome)) H
theorem op_in_nd (D : NDict X.K d kvs) : OpR X (compareOp .In) (rInN d kvs) := by
  intro pins s σ H x y v u Q I rx ry h
  obtain ⟨k, rfl, rfl, q⟩ := h
  cases ry
  obtain ⟨vs, kv, dd⟩ := D.of I
  refine wpAny_in_of (intKind_is k rx) D.low dd.mapOf ?_
  rw [← (kv.val k).isSome_eq]
  exact ⟨.bl (valV kvs k).isSome, H, I.tok _, rfl, q⟩
theorem op_notIn_nd (D : NDict X.K d kvs) : OpR X (compareOp .NotIn) (rNotInN d kvs) := by
  intro pins s σ H x y v u Q I rx ry h
  obtain ⟨k, rfl, rfl, q⟩ := h
  cases ry
  obtain ⟨vs, kv, dd⟩ := D.of I
  refine wpAny_notIn_of (intKind_is k rx) D.low dd.mapOf ?_
  rw [← (kv.val k).isSome_eq]
  exact ⟨.bl (!(valV kvs k).isSome), H, I.tok _, rfl, q⟩
/-- d[k], there -/
def tGetN (d : Addr) (kvs : List (Int × V)) (td ty : TE) : TE := fun σ H Q => td σ H fun x H1 => ty σ H1 fun y H2 => ∃ k v, x = .ref d ∧ y = .int k ∧ valV kvs k = some v ∧ Q v H2
theorem pe_getN {o i : Expr} {pos : Pos} {td ty : TE} (D : NDict X.K d kvs) (ho : PE X o td) (hi : PE X i ty) (hs : NoSl i) : PE X (.Subscript o i pos) (tGetN d kvs td ty) := by
  refine ⟨fun pins s σ H Q I h => ?_⟩
  refine subD_of PySem.F.slot_dict_getitem.lookup hs (thn (ho.run pins s σ H _ I h) fun u s1 ⟨x, H1, I1, rx, q1⟩ => thn (hi.run pins s1 σ H1 _ I1 q1) fun iv s2 ⟨y, H2, I2, ry, k, v, ex, ey, l, q2⟩ => ?_)
  subst ex
  subst ey
  obtain rfl : u = Value.ref d := rx
  obtain ⟨vs, kv, dd⟩ := D.of I2
  obtain ⟨w', hw, rw'⟩ := RelO.some_of (v := v) (o := valueAt vs k) (by rw [← l]; exact kv.val k)
  exact ⟨dd.typeIs, wpAny_getItem_of (intKind_is k ry) dd.mapOf hw ⟨v, H2, I2.tok _, rw', q2⟩⟩
end
end L2

set_option Elab.async false
set_option linter.all false
set_option maxRecDepth 100000
set_option maxHeartbeats 4000000
/-! my own rules: an own class made with keywords within a try -/
namespace L2
open PySem PySem.Spec PyProof.Rows
def perm5 {α : Type} : List α → List α
  | [l, d, m, k, t] => [k, t, d, l, m]
  | xs => xs
theorem vals_perm5 : ∀ {zs : List V} {ws : List Value}, Vals zs ws → Vals (perm5 zs) (perm5 ws)
  | [], [], .nil => .nil
  | [_], [_], .cons a .nil => .cons a .nil
  | [_, _], [_, _], .cons a (.cons b .nil) => .cons a (.cons b .nil)
  | [_, _, _], [_, _, _], .cons a (.cons b (.cons c .nil)) => .cons a (.cons b (.cons c .nil))
  | [_, _, _, _], [_, _, _, _], .cons a (.cons b (.cons c (.cons d .nil))) => .cons a (.cons b (.cons c (.cons d .nil)))
  | [_, _, _, _, _], [_, _, _, _, _], .cons a (.cons b (.cons c (.cons d (.cons e .nil)))) => .cons d (.cons e (.cons b (.cons a (.cons c .nil))))
  | _ :: _ :: _ :: _ :: _ :: _ :: _, _ :: _ :: _ :: _ :: _ :: _ :: _, h => h
def tMakeNS (C : Addr) (n m : Nat) (sp : Sp) (gV : List V → List V → List V) (E : St → XK) (t tk : TA) : TE := fun σ H Q => t σ H fun vs H1 => tk σ H1 fun zs H2 => vs.length = n ∧ zs.length = m ∧
  ∀ x dx, H2 x = none → H2 dx = none → dx ≠ x → sp (gV (.ref x :: vs) zs) (upd (upd H2 dx (.own x)) x (.ins C dx [])) (fun v H3 => v = .non ∧ Q (.ref x) H3) (E σ)
section
variable {X : Cx} {CX : CXT} {k n : Nat} {f C : Addr} {fd : FuncData} {ps ks : List Str} {sp : Sp} {E : St → XK} {x : Str} {p pos : Pos} {e : Expr} {es : List Expr} {kws : List Keyword} {t tk : TA} {g : List Value → List Value → List Value} {gV : List V → List V → List V}
theorem run_makeNS {pins : List (Addr × Obj)} {σ : St} {H : Hp} {s : Shared} {Q : VK} {us ws : List Value} {vs zs : List V} (M : Mk X.K C f) (F : FnOk X.prog X.w X.K X.mg X.base CX k f fd ps sp) (hr : Room (k + 1) X.A) (hb : KBn X.K fd ps (n + 1) ks g gV)
    (hx : PassesAt CX X σ (E σ)) (I : Inv X pins σ H s) (r : Vals vs us) (rz : Vals zs ws) (l1 : vs.length = n) (l2 : zs.length = ks.length)
    (h : ∀ x dx, H x = none → H dx = none → dx ≠ x → sp (gV (.ref x :: vs) zs) (upd (upd H dx (.own x)) x (.ins C dx [])) (fun v H2 => v = .non ∧ Q (.ref x) H2) (E σ)) :
    wpAny (model X.prog X.w) X.A (call (.ref C) us (ks.zip ws)) (EP X pins σ Q) X.xe s := by
  have hq := h (s.heap.objs.size + 1) s.heap.objs.size (I.hok.fresh (Nat.le_succ _)) (I.hok.fresh (Nat.le_refl _)) (Nat.ne_of_lt (Nat.lt_succ_self _))
  have I2 := Inv.made (C := C) I
  have r1 : Vals (V.ref (s.heap.objs.size + 1) :: vs) (Value.ref (s.heap.objs.size + 1) :: us) := .cons rfl r
  have r2 := hb.rel r1 rz
  have e1 : (Value.ref (s.heap.objs.size + 1) :: us).length = n + 1 := r1.length.symm.trans (congrArg Nat.succ l1)
  have e2 : ws.length = ks.length := rz.length.symm.trans l2
  refine wpAny_call (make_map (f := f) I.kIn M.makes M.init (beq_iff_eq.mp M.fn) (codeAny_mono (F.run _ X.stack _ _ ⟨Value.ref (s.heap.objs.size + 1) :: us, ks.zip ws⟩ (g (Value.ref (s.heap.objs.size + 1) :: us) ws) _ _ (E σ) (hr.make C us (ks.zip ws))
    (I2.env0.make C us (ks.zip ws)) (hb.to _ (Value.ref (s.heap.objs.size + 1) :: us) ws I2.kIn e1 e2) r2 hq) fun r s' hq' => ?_))
  cases r with
  | error e => exact hx pins _ _ e s' I2 hq'
  | ok fl =>
    cases fl with
    | ret u =>
      obtain ⟨v, H', I3, rv, ev, q3⟩ := I2.after hq'
      subst ev
      exact ⟨rv, ⟨V.ref (s.heap.objs.size + 1), H', I3, rfl, q3⟩⟩
    | next => exact False.elim hq'
    | brk => exact False.elim hq'
    | cont => exact False.elim hq'
theorem pe_makeNS (M : Mk X.K C f) (F : FnOk X.prog X.w X.K X.mg X.base CX k f fd ps sp) (hr : Room (k + 1) X.A) (hg : Gl X x) (hm : X.mg x = some (.ref C)) (hb : KBn X.K fd ps (n + 1) ks g gV) (hx : ∀ σ, PassesAt CX X σ (E σ))
    (ha : PA X (e :: es) t) (hkw : PK X kws tk) (hall : (backToKw pos (keywordEach kws X.env)).all (·.1.isSome) = true := by rfl) (hks : (backToKw pos (keywordEach kws X.env)).filterMap (·.1) = ks := by rfl)
    (hdb : (x == ("__debug__" : Str)) = false := by decide) (he : starEach (e :: es) X.env = (false, eval e X.env) :: starEach es X.env := by rfl)
    (hpl : ((backTo pos (starEach (e :: es) X.env)).any (·.1) || (backToKw pos (keywordEach kws X.env)).any (·.1.isNone)) = false := by rfl) :
    PE X (.Call (.Name x p) (e :: es) kws pos) (tMakeNS C n ks.length sp gV E t tk) := by
  refine ⟨fun pins s σ H Q I h => ?_⟩
  refine wpAny_Call_Name_kw (ld_glob I hg hm ?_ hdb)
  refine PySem.W.callWith_KW (h₀ := X.base) I.ok.mod.kin M.kp hall (thn (ha.run pos pins s σ H _ I h) fun us s1 ⟨vs, H1, I1, r, q⟩ => ?_) hpl he
  refine thn (hkw.run pos pins s1 σ H1 _ I1 q) fun ws s2 ⟨zs, H2, I2, rz, l1, l2, q2⟩ => ⟨I2.kIn, ?_⟩
  rw [hks]
  exact run_makeNS M F hr hb (hx σ) I2 r rz l1 l2 q2
theorem pe_makeN0S (M : Mk X.K C f) (F : FnOk X.prog X.w X.K X.mg X.base CX k f fd ps sp) (hr : Room (k + 1) X.A) (hg : Gl X x) (hm : X.mg x = some (.ref C)) (hb : KBn X.K fd ps (0 + 1) ks g gV) (hx : ∀ σ, PassesAt CX X σ (E σ))
    (hkw : PK X kws tk) (hall : (backToKw pos (keywordEach kws X.env)).all (·.1.isSome) = true := by rfl) (hks : (backToKw pos (keywordEach kws X.env)).filterMap (·.1) = ks := by rfl)
    (hdb : (x == ("__debug__" : Str)) = false := by decide)
    (hpl : ((backTo pos (starEach [] X.env)).any (·.1) || (backToKw pos (keywordEach kws X.env)).any (·.1.isNone)) = false := by rfl) :
    PE X (.Call (.Name x p) [] kws pos) (tMakeNS C 0 ks.length sp gV E tNil tk) := by
  refine ⟨fun pins s σ H Q I h => ?_⟩
  refine wpAny_Call_Name_kw (ld_glob I hg hm ?_ hdb)
  refine PySem.W.callWith_KW0 (h₀ := X.base) I.ok.mod.kin M.kp hall ?_ hpl
  refine thn (hkw.run pos pins s σ H _ I h) fun ws s2 ⟨zs, H2, I2, rz, l1, l2, q2⟩ => ⟨I2.kIn, ?_⟩
  rw [hks]
  exact run_makeNS M F hr hb (hx σ) I2 .nil rz l1 l2 q2
end
end L2

set_option Elab.async false
set_option linter.all false
set_option maxRecDepth 100000
set_option maxHeartbeats 4000000
namespace K8
open PySem PySem.Spec PyProof.Rows L2
/-! ### the text -/
def topS (i : Nat) : Stmt := PySem.Challenge.pw_slipwire_k08_slips_that_can_not_be.main.body.getD i (.Pass ⟨0, 0, 0, 0⟩)
abbrev s_is_number : Stmt := topS 12
abbrev s_is_byte : Stmt := topS 13
abbrev s_are_codes : Stmt := topS 14
abbrev s_is_control : Stmt := topS 29
abbrev s_is_mask : Stmt := topS 16
abbrev s_wrong_part : Stmt := topS 33
abbrev s_can_be_mask : Stmt := topS 34
abbrev s_cell_at : Stmt := topS 36
abbrev s_box : Stmt := topS 37
abbrev s_take : Stmt := topS 38
abbrev s_of : Stmt := topS 40
abbrev s_bytes : Stmt := topS 41
abbrev s_drawn : Stmt := topS 42
abbrev s_l_is_number : Stmt := topS 43
abbrev s_are_bytes : Stmt := topS 44
abbrev s_wrong : Stmt := topS 45
abbrev s_odd : Stmt := topS 46
abbrev s_bent_row : Stmt := topS 47
abbrev s_refused : Stmt := topS 48
abbrev s_right : Stmt := topS 49
abbrev s_law : Stmt := topS 50
theorem sc_is_number : FnScope ["thing"] ["thing"] (defScope s_is_number) := ⟨rfl, rfl, rfl, by decide +kernel, rfl, by decide +kernel, by decide +kernel⟩
theorem sc_is_byte : FnScope ["thing"] ["thing"] (defScope s_is_byte) := ⟨rfl, rfl, rfl, by decide +kernel, rfl, by decide +kernel, by decide +kernel⟩
theorem sc_are_codes : FnScope ["thing", "part"] ["thing"] (defScope s_are_codes) := ⟨rfl, rfl, rfl, by decide +kernel, rfl, by decide +kernel, by decide +kernel⟩
theorem sc_is_control : FnScope ["sort"] ["sort"] (defScope s_is_control) := ⟨rfl, rfl, rfl, by decide +kernel, rfl, by decide +kernel, by decide +kernel⟩
theorem sc_is_mask : FnScope ["thing", "part"] ["thing"] (defScope s_is_mask) := ⟨rfl, rfl, rfl, by decide +kernel, rfl, by decide +kernel, by decide +kernel⟩
theorem sc_wrong_part : FnScope ["kind", "talk", "data", "last", "mask"] ["kind", "talk", "data", "last", "mask"] (defScope s_wrong_part) := ⟨rfl, rfl, rfl, by decide +kernel, rfl, by decide +kernel, by decide +kernel⟩
theorem sc_can_be_mask : FnScope ["thing"] ["thing"] (defScope s_can_be_mask) := ⟨rfl, rfl, rfl, by decide +kernel, rfl, by decide +kernel, by decide +kernel⟩
theorem sc_cell_at : FnScope ["_law_script", "_law_k"] ["_law_script", "_law_k"] (defScope s_cell_at) := ⟨rfl, rfl, rfl, by decide +kernel, rfl, by decide +kernel, by decide +kernel⟩
theorem sc_box : FnScope ["_law_script", "_law_k", "_law_cell"] ["_law_script", "_law_k"] (defScope s_box) := ⟨rfl, rfl, rfl, by decide +kernel, rfl, by decide +kernel, by decide +kernel⟩
theorem sc_take : FnScope ["_law_box_here", "_law_count", "_law_found", "_law_once", "_law_twice"] ["_law_box_here", "_law_count"] (defScope s_take) := ⟨rfl, rfl, rfl, by decide +kernel, rfl, by decide +kernel, by decide +kernel⟩
theorem sc_of : FnScope ["_law_box_here", "_law_some"] ["_law_box_here", "_law_some"] (defScope s_of) := ⟨rfl, rfl, rfl, by decide +kernel, rfl, by decide +kernel, by decide +kernel⟩
theorem sc_bytes : FnScope ["_law_box_here", "_law_count", "_law_make", "_law_found", "_law_turn"] ["_law_box_here", "_law_count"] (defScope s_bytes) := ⟨rfl, rfl, rfl, by decide +kernel, rfl, by decide +kernel, by decide +kernel⟩
theorem sc_drawn : FnScope ["_law_box_here", "_law_most", "_law_style", "_law_lane", "_law_size", "_law_veil"] ["_law_box_here", "_law_most"] (defScope s_drawn) := ⟨rfl, rfl, rfl, by decide +kernel, rfl, by decide +kernel, by decide +kernel⟩
theorem sc_l_is_number : FnScope ["_law_thing", "_law_least", "_law_most"] ["_law_thing", "_law_least", "_law_most"] (defScope s_l_is_number) := ⟨rfl, rfl, rfl, by decide +kernel, rfl, by decide +kernel, by decide +kernel⟩
theorem sc_are_bytes : FnScope ["_law_thing", "_law_one"] ["_law_thing"] (defScope s_are_bytes) := ⟨rfl, rfl, rfl, by decide +kernel, rfl, by decide +kernel, by decide +kernel⟩
theorem sc_wrong : FnScope ["_law_parts", "_law_style", "_law_lane", "_law_row", "_law_final", "_law_veil"] ["_law_parts"] (defScope s_wrong) := ⟨rfl, rfl, rfl, by decide +kernel, rfl, by decide +kernel, by decide +kernel⟩
theorem sc_odd : FnScope ["_law_box_here", "_law_some"] ["_law_box_here"] (defScope s_odd) := ⟨rfl, rfl, rfl, by decide +kernel, rfl, by decide +kernel, by decide +kernel⟩
theorem sc_bent_row : FnScope ["_law_box_here", "_law_row", "_law_at", "_law_way", "_law_odd_here"] ["_law_box_here", "_law_row"] (defScope s_bent_row) := ⟨rfl, rfl, rfl, by decide +kernel, rfl, by decide +kernel, by decide +kernel⟩
theorem sc_refused : FnScope ["_law_parts", "_law_named", "_law_caught", "error", "_law_others", "_law_fine"] ["_law_parts", "_law_named"] (defScope s_refused) := ⟨rfl, rfl, rfl, by decide +kernel, rfl, by decide +kernel, by decide +kernel⟩
theorem sc_right : FnScope ["_law_box_here", "_law_turn", "_law_some", "_law_step", "_law_at", "_law_kept", "_law_due"] ["_law_box_here"] (defScope s_right) := ⟨rfl, rfl, rfl, by decide +kernel, rfl, by decide +kernel, by decide +kernel⟩
theorem sc_law : FnScope ["_law_script", "_law_k"] ["_law_script"] (defScope s_law) := ⟨rfl, rfl, rfl, by decide +kernel, rfl, by decide +kernel, by decide +kernel⟩
abbrev s_BadSlip : Stmt := inClass (topS 1) 0
theorem sc_BadSlip : FnScope ["self", "part"] ["self", "part"] (defScope s_BadSlip) := ⟨rfl, rfl, rfl, by decide +kernel, rfl, by decide +kernel, by decide +kernel⟩
abbrev s_BadLetter : Stmt := inClass (topS 2) 0
theorem sc_BadLetter : FnScope ["self", "part"] ["self", "part"] (defScope s_BadLetter) := ⟨rfl, rfl, rfl, by decide +kernel, rfl, by decide +kernel, by decide +kernel⟩
abbrev s_BadEnd : Stmt := inClass (topS 3) 0
theorem sc_BadEnd : FnScope ["self", "part"] ["self", "part"] (defScope s_BadEnd) := ⟨rfl, rfl, rfl, by decide +kernel, rfl, by decide +kernel, by decide +kernel⟩
abbrev s_BadText : Stmt := inClass (topS 4) 0
theorem sc_BadText : FnScope ["self", "text"] ["self", "text"] (defScope s_BadText) := ⟨rfl, rfl, rfl, by decide +kernel, rfl, by decide +kernel, by decide +kernel⟩
abbrev s_BadRow : Stmt := inClass (topS 5) 0
theorem sc_BadRow : FnScope ["self", "row"] ["self", "row"] (defScope s_BadRow) := ⟨rfl, rfl, rfl, by decide +kernel, rfl, by decide +kernel, by decide +kernel⟩
abbrev s_Fault : Stmt := inClass (topS 6) 0
theorem sc_Fault : FnScope ["self", "code", "at"] ["self", "code", "at"] (defScope s_Fault) := ⟨rfl, rfl, rfl, by decide +kernel, rfl, by decide +kernel, by decide +kernel⟩
abbrev s_NoSlip : Stmt := inClass (topS 7) 0
theorem sc_NoSlip : FnScope ["self", "number"] ["self", "number"] (defScope s_NoSlip) := ⟨rfl, rfl, rfl, by decide +kernel, rfl, by decide +kernel, by decide +kernel⟩
abbrev s_NoByte : Stmt := inClass (topS 8) 0
theorem sc_NoByte : FnScope ["self", "at"] ["self", "at"] (defScope s_NoByte) := ⟨rfl, rfl, rfl, by decide +kernel, rfl, by decide +kernel, by decide +kernel⟩
abbrev s_NoDeed : Stmt := inClass (topS 9) 0
theorem sc_NoDeed : FnScope ["self", "many"] ["self", "many"] (defScope s_NoDeed) := ⟨rfl, rfl, rfl, by decide +kernel, rfl, by decide +kernel, by decide +kernel⟩
abbrev s_Ended : Stmt := inClass (topS 10) 0
theorem sc_Ended : FnScope ["self", "talk"] ["self", "talk"] (defScope s_Ended) := ⟨rfl, rfl, rfl, by decide +kernel, rfl, by decide +kernel, by decide +kernel⟩
abbrev s_Slip_init : Stmt := inClass (topS 31) 0
theorem sc_Slip_init : FnScope ["self", "kind", "talk", "data", "last", "mask", "wrong"] ["self", "kind", "talk", "data", "last", "mask"] (defScope s_Slip_init) := ⟨rfl, rfl, rfl, by decide +kernel, rfl, by decide +kernel, by decide +kernel⟩
abbrev bm_IndexError : List Value := [.type "IndexError", .type "LookupError", .type "Exception", .type "BaseException", .type "object"]
theorem typ_IndexError : typeOf (.type "IndexError") = pure (.type "type") := by first | rfl | kernel_rfl
abbrev bm_LookupError : List Value := [.type "LookupError", .type "Exception", .type "BaseException", .type "object"]
theorem typ_LookupError : typeOf (.type "LookupError") = pure (.type "type") := by first | rfl | kernel_rfl
abbrev bm_RuntimeError : List Value := [.type "RuntimeError", .type "Exception", .type "BaseException", .type "object"]
theorem typ_RuntimeError : typeOf (.type "RuntimeError") = pure (.type "type") := by first | rfl | kernel_rfl
abbrev bm_ValueError : List Value := [.type "ValueError", .type "Exception", .type "BaseException", .type "object"]
theorem typ_ValueError : typeOf (.type "ValueError") = pure (.type "type") := by first | rfl | kernel_rfl
/-! ### what stands behind the top -/
structure Tx (K : PySem.W.Frag) (mg : Str → Option Value) where
  f_is_number : Addr
  fd_is_number : FuncData
  F_is_number : Fun K "is_number" "is_number" s_is_number f_is_number fd_is_number
  g_is_number : mg "is_number" = some (.ref f_is_number)
  b_is_number : Binds K fd_is_number ["thing"] []
  f_is_byte : Addr
  fd_is_byte : FuncData
  F_is_byte : Fun K "is_byte" "is_byte" s_is_byte f_is_byte fd_is_byte
  g_is_byte : mg "is_byte" = some (.ref f_is_byte)
  b_is_byte : Binds K fd_is_byte ["thing"] []
  f_are_codes : Addr
  fd_are_codes : FuncData
  F_are_codes : Fun K "are_codes" "are_codes" s_are_codes f_are_codes fd_are_codes
  g_are_codes : mg "are_codes" = some (.ref f_are_codes)
  b_are_codes : Binds K fd_are_codes ["thing"] []
  f_is_control : Addr
  fd_is_control : FuncData
  F_is_control : Fun K "is_control" "is_control" s_is_control f_is_control fd_is_control
  g_is_control : mg "is_control" = some (.ref f_is_control)
  b_is_control : Binds K fd_is_control ["sort"] []
  f_is_mask : Addr
  fd_is_mask : FuncData
  F_is_mask : Fun K "is_mask" "is_mask" s_is_mask f_is_mask fd_is_mask
  g_is_mask : mg "is_mask" = some (.ref f_is_mask)
  b_is_mask : Binds K fd_is_mask ["thing"] []
  f_wrong_part : Addr
  fd_wrong_part : FuncData
  F_wrong_part : Fun K "wrong_part" "wrong_part" s_wrong_part f_wrong_part fd_wrong_part
  g_wrong_part : mg "wrong_part" = some (.ref f_wrong_part)
  b_wrong_part : Binds K fd_wrong_part ["kind", "talk", "data", "last", "mask"] []
  f_can_be_mask : Addr
  fd_can_be_mask : FuncData
  F_can_be_mask : Fun K "can_be_mask" "can_be_mask" s_can_be_mask f_can_be_mask fd_can_be_mask
  g_can_be_mask : mg "can_be_mask" = some (.ref f_can_be_mask)
  b_can_be_mask : Binds K fd_can_be_mask ["thing"] []
  f_cell_at : Addr
  fd_cell_at : FuncData
  F_cell_at : Fun K "_law_cell_at" "_law_cell_at" s_cell_at f_cell_at fd_cell_at
  g_cell_at : mg "_law_cell_at" = some (.ref f_cell_at)
  b_cell_at : Binds K fd_cell_at ["_law_script", "_law_k"] []
  f_box : Addr
  fd_box : FuncData
  F_box : Fun K "_law_box" "_law_box" s_box f_box fd_box
  g_box : mg "_law_box" = some (.ref f_box)
  b_box : Binds K fd_box ["_law_script", "_law_k"] []
  f_take : Addr
  fd_take : FuncData
  F_take : Fun K "_law_take" "_law_take" s_take f_take fd_take
  g_take : mg "_law_take" = some (.ref f_take)
  b_take : Binds K fd_take ["_law_box_here", "_law_count"] []
  f_of : Addr
  fd_of : FuncData
  F_of : Fun K "_law_of" "_law_of" s_of f_of fd_of
  g_of : mg "_law_of" = some (.ref f_of)
  b_of : Binds K fd_of ["_law_box_here", "_law_some"] []
  f_bytes : Addr
  fd_bytes : FuncData
  F_bytes : Fun K "_law_bytes" "_law_bytes" s_bytes f_bytes fd_bytes
  g_bytes : mg "_law_bytes" = some (.ref f_bytes)
  b_bytes : Binds K fd_bytes ["_law_box_here", "_law_count"] []
  f_drawn : Addr
  fd_drawn : FuncData
  F_drawn : Fun K "_law_drawn" "_law_drawn" s_drawn f_drawn fd_drawn
  g_drawn : mg "_law_drawn" = some (.ref f_drawn)
  b_drawn : Binds K fd_drawn ["_law_box_here", "_law_most"] []
  f_l_is_number : Addr
  fd_l_is_number : FuncData
  F_l_is_number : Fun K "_law_is_number" "_law_is_number" s_l_is_number f_l_is_number fd_l_is_number
  g_l_is_number : mg "_law_is_number" = some (.ref f_l_is_number)
  b_l_is_number : Binds K fd_l_is_number ["_law_thing", "_law_least", "_law_most"] []
  f_are_bytes : Addr
  fd_are_bytes : FuncData
  F_are_bytes : Fun K "_law_are_bytes" "_law_are_bytes" s_are_bytes f_are_bytes fd_are_bytes
  g_are_bytes : mg "_law_are_bytes" = some (.ref f_are_bytes)
  b_are_bytes : Binds K fd_are_bytes ["_law_thing"] []
  f_wrong : Addr
  fd_wrong : FuncData
  F_wrong : Fun K "_law_wrong" "_law_wrong" s_wrong f_wrong fd_wrong
  g_wrong : mg "_law_wrong" = some (.ref f_wrong)
  b_wrong : Binds K fd_wrong ["_law_parts"] []
  f_odd : Addr
  fd_odd : FuncData
  F_odd : Fun K "_law_odd" "_law_odd" s_odd f_odd fd_odd
  g_odd : mg "_law_odd" = some (.ref f_odd)
  b_odd : Binds K fd_odd ["_law_box_here"] []
  f_bent_row : Addr
  fd_bent_row : FuncData
  F_bent_row : Fun K "_law_bent_row" "_law_bent_row" s_bent_row f_bent_row fd_bent_row
  g_bent_row : mg "_law_bent_row" = some (.ref f_bent_row)
  b_bent_row : Binds K fd_bent_row ["_law_box_here", "_law_row"] []
  f_refused : Addr
  fd_refused : FuncData
  F_refused : Fun K "_law_refused" "_law_refused" s_refused f_refused fd_refused
  g_refused : mg "_law_refused" = some (.ref f_refused)
  b_refused : Binds K fd_refused ["_law_parts", "_law_named"] []
  f_right : Addr
  fd_right : FuncData
  F_right : Fun K "_law_right" "_law_right" s_right f_right fd_right
  g_right : mg "_law_right" = some (.ref f_right)
  b_right : Binds K fd_right ["_law_box_here"] []
  a_SORT_WORDS : Addr
  g_SORT_WORDS : mg "SORT_WORDS" = some (.ref a_SORT_WORDS)
  q_SORT_WORDS : NDict K a_SORT_WORDS [((0 : Int), V.str "more"), ((1 : Int), V.str "words"), ((2 : Int), V.str "bytes"), ((8 : Int), V.str "end"), ((9 : Int), V.str "bell"), ((10 : Int), V.str "echo")]
  tk_ENDING : Tok
  g_ENDING : mg "ENDING" = some (.int 8 tk_ENDING)
  tk_GREATEST_TALK : Tok
  g_GREATEST_TALK : mg "GREATEST_TALK" = some (.int 31 tk_GREATEST_TALK)
  tk_GREATEST_CONTROL : Tok
  g_GREATEST_CONTROL : mg "GREATEST_CONTROL" = some (.int 120 tk_GREATEST_CONTROL)
  C_BadSlip : Addr
  f_BadSlip : Addr
  fd_BadSlip : FuncData
  F_BadSlip : Fun K "__init__" "BadSlip.__init__" s_BadSlip f_BadSlip fd_BadSlip
  g_BadSlip : mg "BadSlip" = some (.ref C_BadSlip)
  oe_BadSlip : OeC K C_BadSlip "ValueError" "ValueError.__new__" "ValueError.__init__" bm_ValueError
  i_BadSlip : PySem.W.findIn K (.ref C_BadSlip) "__init__" = some (some (.ref f_BadSlip))
  t_BadSlip : PySem.W.typeIn K (.ref f_BadSlip) = some (.type "function")
  b_BadSlip : Binds K fd_BadSlip ["self", "part"] []
  n_BadSlip_part : PySem.W.findIn K (.ref C_BadSlip) "part" = some none
  C_BadLetter : Addr
  f_BadLetter : Addr
  fd_BadLetter : FuncData
  F_BadLetter : Fun K "__init__" "BadLetter.__init__" s_BadLetter f_BadLetter fd_BadLetter
  g_BadLetter : mg "BadLetter" = some (.ref C_BadLetter)
  oe_BadLetter : OeC K C_BadLetter "ValueError" "ValueError.__new__" "ValueError.__init__" bm_ValueError
  i_BadLetter : PySem.W.findIn K (.ref C_BadLetter) "__init__" = some (some (.ref f_BadLetter))
  t_BadLetter : PySem.W.typeIn K (.ref f_BadLetter) = some (.type "function")
  b_BadLetter : Binds K fd_BadLetter ["self", "part"] []
  n_BadLetter_part : PySem.W.findIn K (.ref C_BadLetter) "part" = some none
  C_BadEnd : Addr
  f_BadEnd : Addr
  fd_BadEnd : FuncData
  F_BadEnd : Fun K "__init__" "BadEnd.__init__" s_BadEnd f_BadEnd fd_BadEnd
  g_BadEnd : mg "BadEnd" = some (.ref C_BadEnd)
  oe_BadEnd : OeC K C_BadEnd "ValueError" "ValueError.__new__" "ValueError.__init__" bm_ValueError
  i_BadEnd : PySem.W.findIn K (.ref C_BadEnd) "__init__" = some (some (.ref f_BadEnd))
  t_BadEnd : PySem.W.typeIn K (.ref f_BadEnd) = some (.type "function")
  b_BadEnd : Binds K fd_BadEnd ["self", "part"] []
  n_BadEnd_part : PySem.W.findIn K (.ref C_BadEnd) "part" = some none
  C_BadText : Addr
  f_BadText : Addr
  fd_BadText : FuncData
  F_BadText : Fun K "__init__" "BadText.__init__" s_BadText f_BadText fd_BadText
  g_BadText : mg "BadText" = some (.ref C_BadText)
  oe_BadText : OeC K C_BadText "ValueError" "ValueError.__new__" "ValueError.__init__" bm_ValueError
  i_BadText : PySem.W.findIn K (.ref C_BadText) "__init__" = some (some (.ref f_BadText))
  t_BadText : PySem.W.typeIn K (.ref f_BadText) = some (.type "function")
  b_BadText : Binds K fd_BadText ["self", "text"] []
  n_BadText_text : PySem.W.findIn K (.ref C_BadText) "text" = some none
  C_BadRow : Addr
  f_BadRow : Addr
  fd_BadRow : FuncData
  F_BadRow : Fun K "__init__" "BadRow.__init__" s_BadRow f_BadRow fd_BadRow
  g_BadRow : mg "BadRow" = some (.ref C_BadRow)
  oe_BadRow : OeC K C_BadRow "ValueError" "ValueError.__new__" "ValueError.__init__" bm_ValueError
  i_BadRow : PySem.W.findIn K (.ref C_BadRow) "__init__" = some (some (.ref f_BadRow))
  t_BadRow : PySem.W.typeIn K (.ref f_BadRow) = some (.type "function")
  b_BadRow : Binds K fd_BadRow ["self", "row"] []
  n_BadRow_row : PySem.W.findIn K (.ref C_BadRow) "row" = some none
  C_Fault : Addr
  f_Fault : Addr
  fd_Fault : FuncData
  F_Fault : Fun K "__init__" "Fault.__init__" s_Fault f_Fault fd_Fault
  g_Fault : mg "Fault" = some (.ref C_Fault)
  oe_Fault : OeC K C_Fault "ValueError" "ValueError.__new__" "ValueError.__init__" bm_ValueError
  i_Fault : PySem.W.findIn K (.ref C_Fault) "__init__" = some (some (.ref f_Fault))
  t_Fault : PySem.W.typeIn K (.ref f_Fault) = some (.type "function")
  b_Fault : Binds K fd_Fault ["self", "code", "at"] []
  n_Fault_code : PySem.W.findIn K (.ref C_Fault) "code" = some none
  n_Fault_at : PySem.W.findIn K (.ref C_Fault) "at" = some none
  C_NoSlip : Addr
  f_NoSlip : Addr
  fd_NoSlip : FuncData
  F_NoSlip : Fun K "__init__" "NoSlip.__init__" s_NoSlip f_NoSlip fd_NoSlip
  g_NoSlip : mg "NoSlip" = some (.ref C_NoSlip)
  oe_NoSlip : OeC K C_NoSlip "IndexError" "IndexError.__new__" "IndexError.__init__" bm_IndexError
  i_NoSlip : PySem.W.findIn K (.ref C_NoSlip) "__init__" = some (some (.ref f_NoSlip))
  t_NoSlip : PySem.W.typeIn K (.ref f_NoSlip) = some (.type "function")
  b_NoSlip : Binds K fd_NoSlip ["self", "number"] []
  n_NoSlip_number : PySem.W.findIn K (.ref C_NoSlip) "number" = some none
  C_NoByte : Addr
  f_NoByte : Addr
  fd_NoByte : FuncData
  F_NoByte : Fun K "__init__" "NoByte.__init__" s_NoByte f_NoByte fd_NoByte
  g_NoByte : mg "NoByte" = some (.ref C_NoByte)
  oe_NoByte : OeC K C_NoByte "IndexError" "IndexError.__new__" "IndexError.__init__" bm_IndexError
  i_NoByte : PySem.W.findIn K (.ref C_NoByte) "__init__" = some (some (.ref f_NoByte))
  t_NoByte : PySem.W.typeIn K (.ref f_NoByte) = some (.type "function")
  b_NoByte : Binds K fd_NoByte ["self", "at"] []
  n_NoByte_at : PySem.W.findIn K (.ref C_NoByte) "at" = some none
  C_NoDeed : Addr
  f_NoDeed : Addr
  fd_NoDeed : FuncData
  F_NoDeed : Fun K "__init__" "NoDeed.__init__" s_NoDeed f_NoDeed fd_NoDeed
  g_NoDeed : mg "NoDeed" = some (.ref C_NoDeed)
  oe_NoDeed : OeC K C_NoDeed "LookupError" "LookupError.__new__" "LookupError.__init__" bm_LookupError
  i_NoDeed : PySem.W.findIn K (.ref C_NoDeed) "__init__" = some (some (.ref f_NoDeed))
  t_NoDeed : PySem.W.typeIn K (.ref f_NoDeed) = some (.type "function")
  b_NoDeed : Binds K fd_NoDeed ["self", "many"] []
  n_NoDeed_many : PySem.W.findIn K (.ref C_NoDeed) "many" = some none
  C_Ended : Addr
  f_Ended : Addr
  fd_Ended : FuncData
  F_Ended : Fun K "__init__" "Ended.__init__" s_Ended f_Ended fd_Ended
  g_Ended : mg "Ended" = some (.ref C_Ended)
  oe_Ended : OeC K C_Ended "RuntimeError" "RuntimeError.__new__" "RuntimeError.__init__" bm_RuntimeError
  i_Ended : PySem.W.findIn K (.ref C_Ended) "__init__" = some (some (.ref f_Ended))
  t_Ended : PySem.W.typeIn K (.ref f_Ended) = some (.type "function")
  b_Ended : Binds K fd_Ended ["self", "talk"] []
  n_Ended_talk : PySem.W.findIn K (.ref C_Ended) "talk" = some none
  C_Slip : Addr
  g_Slip : mg "Slip" = some (.ref C_Slip)
  cl_Slip : Cls K C_Slip
  E_Slip : Addr
  qE_Slip : ∀ H : Hp, SqT K H E_Slip []
  f_Slip_init : Addr
  fd_Slip_init : FuncData
  F_Slip_init : FunD K "__init__" "Slip.__init__" (defArgs s_Slip_init) (defBody s_Slip_init) (defScope s_Slip_init) [.ref E_Slip] [("last", .bl true), ("mask", .non)] f_Slip_init fd_Slip_init
  kb_Slip_init : KBn K fd_Slip_init ["self", "kind", "talk", "data", "last", "mask"] 4 ["last", "mask"] (fun us ws => us ++ ws) (fun vs zs => vs ++ zs)
  mk_Slip : Mk K C_Slip f_Slip_init
  n_Slip_kind : NoAttr K C_Slip "kind"
  n_Slip_talk : NoAttr K C_Slip "talk"
  n_Slip_data : NoAttr K C_Slip "data"
  n_Slip_last : NoAttr K C_Slip "last"
  n_Slip_mask : NoAttr K C_Slip "mask"
  lt_BadSlip : C_BadSlip < C_BadLetter
  lt_BadLetter : C_BadLetter < C_BadEnd
  lt_BadEnd : C_BadEnd < C_BadText
  lt_BadText : C_BadText < C_BadRow
  lt_BadRow : C_BadRow < C_Fault
  lt_Fault : C_Fault < C_NoSlip
  lt_NoSlip : C_NoSlip < C_NoByte
  lt_NoByte : C_NoByte < C_NoDeed
  lt_NoDeed : C_NoDeed < C_Ended
  v_IndexError : PySem.W.findCls K (.type "IndexError") (.type "type") "__init__" = some (.val (.builtin "IndexError.__init__"))
  v_LookupError : PySem.W.findCls K (.type "LookupError") (.type "type") "__init__" = some (.val (.builtin "LookupError.__init__"))
  v_RuntimeError : PySem.W.findCls K (.type "RuntimeError") (.type "type") "__init__" = some (.val (.builtin "RuntimeError.__init__"))
  v_ValueError : PySem.W.findCls K (.type "ValueError") (.type "type") "__init__" = some (.val (.builtin "ValueError.__init__"))
  m_len : mg "len" = none
  m_abs : mg "abs" = none
  m_int : mg "int" = none
  m_bool : mg "bool" = none
  m_list : mg "list" = none
  m_tuple : mg "tuple" = none
  m_isinstance : mg "isinstance" = none
  m_all : mg "all" = none
  m_min : mg "min" = none
  m_max : mg "max" = none
  m_range : mg "range" = none
  m_repr : mg "repr" = none
  m_ValueError : mg "ValueError" = none
  m_IndexError : mg "IndexError" = none
  m_LookupError : mg "LookupError" = none
  m_RuntimeError : mg "RuntimeError" = none
  kbP : KBn K fd_Slip_init ["self", "kind", "talk", "data", "last", "mask"] 4 ["mask", "last"] (fun us ws => us ++ ws.reverse) (fun vs zs => vs ++ zs.reverse)
  kbN : KBn K fd_Slip_init ["self", "kind", "talk", "data", "last", "mask"] 1 ["last", "data", "mask", "kind", "talk"] (fun us ws => us ++ perm5 ws) (fun vs zs => vs ++ perm5 zs)
end K8

set_option Elab.async false
set_option linter.all false
set_option maxRecDepth 100000
set_option maxHeartbeats 4000000
namespace K8
open PySem PySem.Spec PyProof.Rows L2
/-! ### heaps and bytes -/
def Bts (ns : List Int) : Prop := ∀ x ∈ ns, 0 ≤ x ∧ x < 256
/-- all but p is as it was -/
def Keep (p : Addr) (H H' : Hp) : Prop := ∀ b o, b ≠ p → H b = some o → H' b = some o
theorem same_upd {H : Hp} {p : Addr} {o : HO} (h : H p = none) : Same H (upd H p o) := fun b x e => by
  rw [upd_ne (ne_of_none e h)]
  exact e
theorem sq1 {K : PySem.W.Frag} {H : Hp} {a : Addr} {xs : List V} (h : H a = some (.lst xs)) : SqL K H a xs := .inl (.inl h)
theorem st1 {K : PySem.W.Frag} {H : Hp} {a : Addr} {xs : List V} (h : H a = some (.tup xs)) : SqT K H a xs := .inl (.inl h)
/-- an item of a list of ints -/
theorem atI_ints {xs : List Int} {r : Int} (h0 : 0 ≤ r) (h1 : r < xs.length) : ∃ x, x ∈ xs ∧ atI (xs.map V.int) r = some (.int x) := by
  obtain ⟨j, rfl⟩ := Int.eq_ofNat_of_zero_le h0
  have hj : j < xs.length := by omega
  refine ⟨xs[j], List.getElem_mem hj, atI_nat ?_⟩
  rw [List.getElem?_map, List.getElem?_eq_getElem hj]
  rfl
theorem Keep.upd {p : Addr} {H H' : Hp} {o : HO} (k : Keep p H H') : Keep p H (upd H' p o) := fun b x hb e => by
  rw [upd_ne hb]
  exact k b x hb e
theorem Keep.refl (p : Addr) (H : Hp) : Keep p H H := fun _ _ _ e => e
theorem Keep.trans {p : Addr} {H H1 H2 : Hp} (a : Keep p H H1) (b : Keep p H1 H2) : Keep p H H2 := fun c o hc e => b c o hc (a c o hc e)
theorem Keep.new {p q : Addr} {H H' : Hp} {o : HO} (k : Keep p H H') (hq : H' q = none) : Keep p H (L2.upd H' q o) := fun b x hb e => by
  rw [upd_ne (ne_of_none (k b x hb e) hq)]
  exact k b x hb e
theorem Same.seqT {K : PySem.W.Frag} {H H' : Hp} {a : Addr} {xs : List V} (e : Same H H') (h : SqT K H a xs) : SqT K H' a xs := by
  rcases h with (h | ⟨o, h⟩) | h
  · exact .inl (.inl (e _ _ h))
  · exact .inl (.inr ⟨o, e _ _ h⟩)
  · exact .inr h
theorem Same.new {H H' : Hp} {p : Addr} {o : HO} (s : Same H H') (h : H' p = none) : Same H (L2.upd H' p o) := s.trans (same_upd h)
/-- a change at a place that was free -/
theorem Same.mut {H H' : Hp} {p : Addr} {o : HO} (s : Same H H') (h : H p = none) : Same H (L2.upd H' p o) := fun b x e => by
  rw [upd_ne (ne_of_none e h)]
  exact s b x e
theorem walk_zipT {K : PySem.W.Frag} {a b : Addr} {xs ys : List V} {n : Nat} (hn : n = min xs.length ys.length) : Walk (RZ.ItzT K a b) n (fun H => SqT K H a xs ∧ SqT K H b ys) (YPair (fun i => xs[i]?) (fun i => ys[i]?)) := by
  subst hn
  refine ⟨fun i _ hi q => ?_, fun _ q => ⟨xs, ys, q.1, q.2, by omega⟩, fun i H v H' _ q y => ?_⟩
  · have h1 : i < xs.length := by omega
    have h2 : i < ys.length := by omega
    exact ⟨xs, ys, xs[i], ys[i], q.1, q.2, by simp [h1], by simp [h2]⟩
  · obtain ⟨T, x, z, h1, h2, h3, h4, h5⟩ := y
    exact ⟨T, x, z, h1, h2, h3, h4 xs q.1, h5 ys q.2⟩
theorem Same.keep {p : Addr} {H H1 H2 : Hp} (s : Same H H1) (k : Keep p H1 H2) (h : H p = none) : Same H H2 := fun b o e => k b o (ne_of_none e h) (s b o e)
theorem Same.k {p : Addr} {H H' : Hp} (s : Same H H') : Keep p H H' := fun b o _ e => s b o e
theorem Keep.mut {p t : Addr} {H H1 H2 : Hp} (k : Keep p H H1) (m : Keep t H1 H2) (h : H t = none) : Keep p H H2 := fun b o hb e => m b o (ne_of_none e h) (k b o hb e)
theorem Keep.free {p t : Addr} {H H1 : Hp} (k : Keep p H H1) (h : H1 t = none) (ne : t ≠ p) : H t = none := by
  cases e : H t with
  | none => rfl
  | some o => rw [k t o ne e] at h; cases h

section
variable {P : Program} {w : World} {K : PySem.W.Frag} {mg : Str → Option Value} {base : Heap}
/-! ### the cells and the draws -/
def spCell (K : PySem.W.Frag) : Sp := fun vs H Q _ => ∃ (a : Addr) (ns : List Int) (k : Int), vs = [.ref a, .int k] ∧ SqL K H a (ns.map V.int) ∧ 0 ≤ k ∧ ∀ z : Int, Q (.int z) H
theorem ok_cell_at (T : Tx K mg) : FnOk P w K mg base CX0 1 T.f_cell_at T.fd_cell_at ["_law_script", "_law_k"] (spCell K) := by
  refine T.F_cell_at.ok sc_cell_at (fun vs H Q E h => ?_) (fun cdv A outer s H vs Q E hr h => ?_)
  · obtain ⟨a, ns, k, rfl, _⟩ := h
    rfl
  · obtain ⟨a, ns, k, rfl, hS, h0, q⟩ := h
    refine ⟨_, (pss_cons (ps_if (pt_cmpR op_lt (pv 1) (pe_callB call_len_seq (by rfl) T.m_len (by decide +kernel) (pa_cons (pv 0) pa_nil)) (nomark _)) (pss_one (ps_ret (pe_ix (r := rIxL K) ix_list (pv 0) (pv 1) (fun _ _ => rfl)))) pss_nil)
      (pss_one (ps_ret pe_int))), ?_⟩
    refine ⟨.int k, rfl, .ref a, rfl, a, ns.map V.int, rfl, .inl hS, k, _, rfl, rfl, _, rfl, ite2 (fun e => ?_) (fun e => ?_)⟩
    · have e1 : k < ((ns.map V.int).length : Int) := of_decide_eq_true e
      rw [List.length_map] at e1
      obtain ⟨x, _, hx⟩ := atI_ints h0 e1
      exact ⟨.ref a, rfl, .int k, rfl, a, _, k, .int x, rfl, rfl, hS, hx, q x⟩
    · exact q 0
def spBox (K : PySem.W.Frag) : Sp := fun vs H Q _ => ∃ (a : Addr) (ns : List Int) (k : Int), vs = [.ref a, .int k] ∧ SqL K H a (ns.map V.int) ∧ 0 ≤ k ∧ k ≤ 1000 ∧
  ∀ (p : Addr) (x y : Int), H p = none → 0 ≤ x → 0 ≤ y → y < 2 ^ 62 → Q (.ref p) (upd H p (.lst [.int x, .int y, .int 0]))
theorem ok_box (T : Tx K mg) : FnOk P w K mg base CX0 2 T.f_box T.fd_box ["_law_script", "_law_k"] (spBox K) := by
  refine T.F_box.ok sc_box (fun vs H Q E h => ?_) (fun cdv A outer s H vs Q E hr h => ?_)
  · obtain ⟨a, ns, k, rfl, _⟩ := h
    rfl
  · obtain ⟨a, ns, k, rfl, hS, h0, h1, q⟩ := h
    refine ⟨_, (pss_cons (ps_set (i := 2) sc_box.nd rfl (.inl rfl) (pe_call (ok_cell_at T) (hr.mono (by omega)) (by rfl) T.g_cell_at T.F_cell_at.kp T.b_cell_at .nil pass0 (pa_cons (pv 0) (pa_cons (pv 1) pa_nil))))
      (pss_one (ps_ret (pe_lst (pa_cons (pe_op op_mul (pe_callB call_abs (by rfl) T.m_abs (by decide +kernel) (pa_cons (pv 2) pa_nil)) (pe_callTy call_int1 (by rfl) T.m_int (by decide +kernel) (pa_cons (pe_cmpR op_ge (pe_callB call_abs (by rfl) T.m_abs (by decide +kernel) (pa_cons (pv 2) pa_nil)) (pe_op op_pow pe_int pe_int) (nomark _)) pa_nil))) (pa_cons (pe_op op_add (pe_op op_add (pe_op op_mod (pv 2) pe_int) (pe_op op_mul pe_int (pv 1))) pe_int) (pa_cons pe_int pa_nil))))))), ?_⟩
    refine ⟨.ref a, rfl, .int k, rfl, a, ns, k, rfl, hS, h0, fun z => ?_⟩
    -- abs(cell) * int(abs(cell) >= 10 ** 18)
    refine ⟨.int z, rfl, z, rfl, .int z, rfl, z, rfl, 10, 18, rfl, rfl, ⟨by decide, by decide, by decide⟩, _, _, rfl, rfl, .inr ⟨_, rfl, _, _, rfl, rfl, ?_, ?_⟩⟩
    · refine .inr ?_
      constructor <;> (repeat' split) <;> decide
    · refine ⟨.int z, rfl, z, 2305843009213693951, rfl, rfl, (by show (0 : Int) < _; decide), .int k, rfl, 39373, k, rfl, rfl, .inl ⟨by decide, by decide⟩, _, _, rfl, rfl, _, _, rfl, rfl, by show 3 ≤ sizeLine; decide, fun p hp => ?_⟩
      refine q p _ _ hp ?_ ?_ ?_
      · refine Int.mul_nonneg ?_ ?_
        · split <;> omega
        · split <;> omega
      · have := Int.emod_nonneg z (b := 2305843009213693951) (by decide)
        omega
      · have := Int.emod_lt_of_pos z (b := 2305843009213693951) (by decide)
        omega
/-- a draw: the box at p keeps its form, the answer lies below the count -/
def spTake : Sp := fun vs H Q _ => ∃ (p : Addr) (a b c m : Int), vs = [.ref p, .int m] ∧ H p = some (.lst [.int a, .int b, .int c]) ∧ 0 ≤ a ∧ 0 ≤ b ∧ b < 2 ^ 62 ∧ 0 ≤ c ∧ c < 2 ^ 40 ∧ 0 < m ∧ m < 1073741824 ∧
  ∀ a' c' r : Int, 0 ≤ a' → c ≤ c' → c' ≤ c + 1 → 0 ≤ r → r < m → Q (.int r) (upd H p (.lst [.int a', .int b, .int c']))
theorem ok_take (T : Tx K mg) : FnOk P w K mg base CX0 1 T.f_take T.fd_take ["_law_box_here", "_law_count"] spTake := by
  refine T.F_take.ok sc_take (fun vs H Q E h => ?_) (fun cdv A outer s H vs Q E hr h => ?_)
  · obtain ⟨p, a, b, c, m, rfl, _⟩ := h
    rfl
  · obtain ⟨p, a, b, c, m, rfl, hB, a0, b0, b1, c0, c1, m0, m1, q⟩ := h
    refine ⟨_, (pss_cons (ps_if (pt_cmpR op_gt (pe_ix (r := rIxL K) ix_list (pv 0) pe_int (fun _ _ => rfl)) pe_int (nomark _)) (pss_cons (ps_set (i := 2) sc_take.nd rfl (.inl rfl) (pe_op op_mod (pe_ix (r := rIxL K) ix_list (pv 0) pe_int (fun _ _ => rfl)) (pv 1)))
      (pss_cons (ps_asg (pe_op op_fdiv (pe_ix (r := rIxL K) ix_list (pv 0) pe_int (fun _ _ => rfl)) (pv 1)) (pg_sub (pv 0) pe_int set_list))
      (pss_one (ps_ret (pv 2))))) pss_nil)
      (pss_cons (ps_asg (pe_op op_add (pe_ix (r := rIxL K) ix_list (pv 0) pe_int (fun _ _ => rfl)) pe_int) (pg_sub (pv 0) pe_int set_list))
      (pss_cons (ps_set (i := 3) sc_take.nd rfl (.inl rfl) (pe_op op_mod (pe_op op_mul (pe_op op_add (pe_ix (r := rIxL K) ix_list (pv 0) pe_int (fun _ _ => rfl)) (pe_op op_mul pe_int (pe_ix (r := rIxL K) ix_list (pv 0) pe_int (fun _ _ => rfl)))) (pe_op op_add pe_int (pe_ix (r := rIxL K) ix_list (pv 0) pe_int (fun _ _ => rfl)))) pe_int))
      (pss_cons (ps_set (i := 4) sc_take.nd rfl (.inl rfl) (pe_op op_mod (pe_op op_mul (pe_op op_add (pe_op op_add (pv 3) (pe_ix (r := rIxL K) ix_list (pv 0) pe_int (fun _ _ => rfl))) (pe_op op_fdiv (pe_ix (r := rIxL K) ix_list (pv 0) pe_int (fun _ _ => rfl)) pe_int)) (pe_op op_add (pe_op op_mod (pv 3) pe_int) pe_int)) pe_int))
      (pss_one (ps_ret (pe_op op_mod (pe_op op_fdiv (pe_op op_mod (pe_op op_add (pe_op op_mul (pv 4) pe_int) (pv 3)) pe_int) pe_int) (pv 1)))))))), ?_⟩
    refine ⟨.ref p, rfl, p, _, 0, .int a, rfl, rfl, sq1 hB, rfl, _, _, rfl, rfl, _, rfl, ite2 (fun e => ?_) (fun e => ?_)⟩
    · -- found = box[0] % count; box[0] = box[0] // count
      refine ⟨.ref p, rfl, p, _, 0, .int a, rfl, rfl, sq1 hB, rfl, .int m, rfl, a, m, rfl, rfl, m0, ?_⟩
      refine ⟨.ref p, rfl, p, _, 0, .int a, rfl, rfl, sq1 hB, rfl, .int m, rfl, a, m, rfl, rfl, ⟨m0, m1⟩, ?_⟩
      refine ⟨.ref p, rfl, p, _, 0, 0, rfl, rfl, hB, rfl, ?_⟩
      refine ⟨.int (a % m), rfl, ?_⟩
      exact q _ _ _ (Int.ediv_nonneg a0 (by omega)) (Int.le_refl _) (by omega) (Int.emod_nonneg _ (by omega)) (Int.emod_lt_of_pos _ m0)
    · -- box[2] = box[2] + 1
      refine ⟨.ref p, rfl, p, _, 2, .int c, rfl, rfl, sq1 hB, rfl, c, 1, rfl, rfl, .ref p, rfl, p, _, 2, 2, rfl, rfl, hB, rfl, ?_⟩
      have hB1 : (upd H p (.lst [.int a, .int b, .int (c + 1)])) p = some (.lst [.int a, .int b, .int (c + 1)]) := upd_same
      show (tSeq _ _) _ _ (upd H p (.lst [.int a, .int b, .int (c + 1)]))
      -- once
      refine ⟨.ref p, rfl, p, _, 1, .int b, rfl, rfl, sq1 hB1, rfl, .ref p, rfl, p, _, 2, .int (c + 1), rfl, rfl, sq1 hB1, rfl, 48271, c + 1, rfl, rfl, .inl ⟨by decide, by decide⟩, b, _, rfl, rfl,
        .ref p, rfl, p, _, 2, .int (c + 1), rfl, rfl, sq1 hB1, rfl, 39373, c + 1, rfl, rfl, _, _, rfl, rfl, .inr ⟨by omega, by omega⟩, _, 2147483647, rfl, rfl, (by show (0 : Int) < _; decide), ?_⟩
      -- twice
      have o2 := Int.emod_nonneg ((b + 48271 * (c + 1)) * (39373 + (c + 1)) % 2147483647) (b := 40009) (by decide)
      have o3 := Int.emod_lt_of_pos ((b + 48271 * (c + 1)) * (39373 + (c + 1)) % 2147483647) (b := 40009) (by decide)
      refine ⟨_, rfl, .ref p, rfl, p, _, 2, .int (c + 1), rfl, rfl, sq1 hB1, rfl, _, c + 1, rfl, rfl, .ref p, rfl, p, _, 1, .int b, rfl, rfl, sq1 hB1, rfl, b, 1000003, rfl, rfl, ⟨by decide, by decide⟩, _, _, rfl, rfl,
        _, rfl, _, 40009, rfl, rfl, (by show (0 : Int) < _; decide), _, 7, rfl, rfl, _, _, rfl, rfl, .inr ⟨?_, ?_⟩, _, 2147483629, rfl, rfl, (by show (0 : Int) < _; decide), ?_⟩
      · exact Int.lt_of_lt_of_le (by decide) (Int.add_le_add_right o2 7)
      · exact Int.lt_trans (Int.add_lt_add_right o3 7) (by decide)
      -- the answer
      refine ⟨_, rfl, _, 48271, rfl, rfl, .inr ⟨by decide, by decide⟩, _, rfl, _, _, rfl, rfl, _, 2147483587, rfl, rfl, (by show (0 : Int) < _; decide), _, 64, rfl, rfl, ⟨by decide, by decide⟩, .int m, rfl, _, m, rfl, rfl, m0, ?_⟩
      exact q _ _ _ a0 (by omega) (Int.le_refl _) (Int.emod_nonneg _ (by omega)) (Int.emod_lt_of_pos _ m0)
end

section
variable {P : Program} {w : World} {K : PySem.W.Frag} {mg : Str → Option Value} {base : Heap}
/-! ### rows of bytes -/
def spBytes : Sp := fun vs H Q _ => ∃ (p : Addr) (a b c n : Int), vs = [.ref p, .int n] ∧ H p = some (.lst [.int a, .int b, .int c]) ∧ 0 ≤ a ∧ 0 ≤ b ∧ b < 2 ^ 62 ∧ 0 ≤ c ∧ c < 2 ^ 39 ∧ 0 ≤ n ∧ n ≤ 1000000 ∧
  ∀ (H' : Hp) (q : Addr) (ns : List Int) (a' c' : Int), H q = none → H' q = some (.lst (ns.map V.int)) → H' p = some (.lst [.int a', .int b, .int c']) → 0 ≤ a' → c ≤ c' → c' ≤ c + 1 + 2 * n → Keep p H H' → (ns.length : Int) = n → Bts ns → Q (.ref q) H'
theorem ok_bytes (T : Tx K mg) : FnOk P w K mg base CX0 2 T.f_bytes T.fd_bytes ["_law_box_here", "_law_count"] spBytes := by
  refine T.F_bytes.ok sc_bytes (fun vs H Q E h => ?_) (fun cdv A outer s H vs Q E hr h => ?_)
  · obtain ⟨p, a, b, c, n, rfl, _⟩ := h
    rfl
  · obtain ⟨p, a, b, c, n, rfl, hB, a0, b0, b1, c0, c1, n0, n1, q⟩ := h
    refine ⟨_, (pss_cons (ps_par (i := 2) (j := 3) rfl sc_bytes.nd rfl rfl (by decide) rfl rfl (pa_cons (pe_call (ok_take T) (hr.mono (by omega)) (by rfl) T.g_take T.F_take.kp T.b_take .nil pass0 (pa_cons (pv 0) (pa_cons pe_int pa_nil))) (pa_cons (pe_lst pa_nil) pa_nil)) rfl)
      (pss_cons (ps_for PassesOwn.never rfl (pi_range1 (by rfl) T.m_range (pa_cons (pv 1) pa_nil)) (pg_name (i := 4) sc_bytes.nd rfl (.inl rfl)) (pss_one (ps_expr (pe_bm PySem.F.plainAttrs_list PySem.F.slot_list_append PySem.F.type_list_append mt_append (pv 3) (pa_cons (pe_ix (r := rIxL K) ix_list (pe_lst (pa_cons (pe_call (ok_take T) (hr.mono (by omega)) (by rfl) T.g_take T.F_take.kp T.b_take .nil pass0 (pa_cons (pv 0) (pa_cons pe_int pa_nil))) (pa_cons pe_int (pa_cons pe_int (pa_cons (pe_ix (r := rIxL K) ix_list (pe_lst (pa_cons pe_int (pa_cons pe_int (pa_cons pe_int (pa_cons pe_int (pa_cons pe_int (pa_cons pe_int (pa_cons pe_int (pa_cons pe_int pa_nil))))))))) (pe_call (ok_take T) (hr.mono (by omega)) (by rfl) T.g_take T.F_take.kp T.b_take .nil pass0 (pa_cons (pv 0) (pa_cons pe_int pa_nil))) (fun _ _ => rfl)) pa_nil))))) (pv 2) (fun _ _ => rfl)) pa_nil)))))
      (pss_one (ps_ret (pv 3))))), ?_⟩
    refine ⟨.ref p, rfl, p, a, b, c, 4, rfl, hB, a0, b0, b1, c0, by omega, by decide, by decide, fun a1 c2 mk a10 cl cu mk0 mk1 => ?_⟩
    refine ⟨Nat.zero_le _, fun l hl => ?_⟩
    refine ⟨_, _, rfl, ?_⟩
    have npl : p ≠ l := fun z => by
      rw [← z, upd_same] at hl
      cases hl
    have hHl : H l = none := by
      rw [upd_ne (Ne.symm npl)] at hl
      exact hl
    refine ⟨.int n, rfl, n, rfl, by omega, by omega, ?_⟩
    refine for_it walk_range (fun i σ Hc => ∃ (y4 : Option V) (ns : List Int) (a' c' : Int), σ = [some (.ref p), some (.int n), some (.int mk), some (.ref l), y4] ∧ Hc l = some (.lst (ns.map V.int)) ∧ Hc p = some (.lst [.int a', .int b, .int c']) ∧ 0 ≤ a' ∧ c ≤ c' ∧ c' ≤ c + 1 + 2 * (i : Int) ∧ Keep p H Hc ∧ ns.length = i ∧ Bts ns) ?_ (fun _ _ _ _ _ => trivial) ?_ ?_
    · refine ⟨none, [], a1, c2, rfl, ?_, ?_, a10, cl, by omega, ?_, rfl, fun x hx => by cases hx⟩
      · rw [upd_same]
        rfl
      · rw [upd_ne npl, upd_same]
      · exact ((Keep.refl p H).upd).new hl
    · rintro i x σ Hc H' hi ⟨y4, ns, a', c', rfl, el, ep, a'0, cl', cu', kp, hlen, hb⟩ ⟨rfl, rfl⟩
      -- found.append([take(box, 256), 0, 255, [..][take(box, 8)]][make])
      refine ⟨.ref l, rfl, .inl ⟨rfl, _, sq1 el⟩, ?_⟩
      refine ⟨.ref p, rfl, p, a', b, c', 256, rfl, ep, a'0, b0, b1, by omega, by omega, by decide, by decide, fun a2 c3 r1 a20 cl2 cu2 r10 r11 => ?_⟩
      refine ⟨by show 8 ≤ sizeLine; decide, fun l2 hl2 => ?_⟩
      have np2 : p ≠ l2 := fun z => by
        rw [← z, upd_same] at hl2
        cases hl2
      refine ⟨.ref p, rfl, p, a2, b, c3, 8, rfl, (by rw [upd_ne np2, upd_same]), a20, b0, b1, by omega, by omega, by decide, by decide, fun a3 c4 r2 a30 cl3 cu3 r20 r21 => ?_⟩
      obtain ⟨x2, hx2, hat2⟩ := atI_ints (xs := [32, 33, 34, 41, 10, 250, 251, 3]) r20 r21
      refine ⟨l2, _, r2, .int x2, rfl, rfl, sq1 (by rw [upd_ne np2.symm, upd_same]; rfl), hat2, ?_⟩
      refine ⟨by show 4 ≤ sizeLine; decide, fun l3 hl3 => ?_⟩
      have hx2b : 0 ≤ x2 ∧ x2 < 256 := by
        simp only [List.mem_cons, List.not_mem_nil, or_false] at hx2
        omega
      obtain ⟨x3, hx3, hat3⟩ := atI_ints (xs := [r1, 0, 255, x2]) mk0 mk1
      have hx3b : 0 ≤ x3 ∧ x3 < 256 := by
        simp only [List.mem_cons, List.not_mem_nil, or_false] at hx3
        omega
      refine ⟨.int mk, rfl, l3, _, mk, .int x3, rfl, rfl, sq1 upd_same, hat3, ?_⟩
      have nlp : l ≠ p := npl.symm
      have nl2 : l ≠ l2 := fun z => by
        rw [← z, upd_ne nlp, el] at hl2
        cases hl2
      have nl3 : l ≠ l3 := fun z => by
        rw [← z, upd_ne nlp, upd_ne nl2, upd_ne nlp, el] at hl3
        cases hl3
      have np3 : p ≠ l3 := fun z => by
        rw [← z, upd_same] at hl3
        cases hl3
      refine ⟨l, _, _, rfl, rfl, (by rw [upd_ne nl3, upd_ne nlp, upd_ne nl2, upd_ne nlp]; exact el), ?_, ?_⟩
      · rw [List.length_map, hlen]
        exact Nat.lt_of_le_of_lt (show i ≤ 1000000 by omega) (by decide)
      · refine ⟨some (.int (0 + (i : Int))), ns ++ [x3], a3, c4, rfl, ?_, ?_, a30, by omega, by omega, ?_, ?_, ?_⟩
        · rw [upd_same, List.map_append]
          rfl
        · rw [upd_ne npl, upd_ne np3, upd_same]
        · refine fun b' o hb' e => ?_
          have k1 := kp.upd (o := .lst [.int a2, .int b, .int c3])
          have k2 := k1.new (q := l2) (o := .lst [.int 32, .int 33, .int 34, .int 41, .int 10, .int 250, .int 251, .int 3]) hl2
          have k3 := k2.upd (o := .lst [.int a3, .int b, .int c4])
          have k4 := k3.new (q := l3) (o := .lst [.int r1, .int 0, .int 255, .int x2]) hl3
          rw [upd_ne (ne_of_none e hHl)]
          exact k4 b' o hb' e
        · rw [List.length_append, hlen]
          rfl
        · intro y hy
          rcases List.mem_append.mp hy with hy | hy
          · exact hb y hy
          · rw [List.mem_singleton.mp hy]
            exact hx3b
    · rintro σ Hc ⟨y4, ns, a', c', rfl, el, ep, a'0, cl', cu', kp, hlen, hb⟩
      exact ⟨.ref l, rfl, q Hc l ns a' c' hHl el ep a'0 cl' (by omega) kp (by omega) hb⟩
end

section
variable {P : Program} {w : World} {K : PySem.W.Frag} {mg : Str → Option Value} {base : Heap}
/-- one of a list, drawn -/
def spOf : Sp := fun vs H Q _ => ∃ (p l : Addr) (a b c : Int) (xs : List V), vs = [.ref p, .ref l] ∧ H p = some (.lst [.int a, .int b, .int c]) ∧ 0 ≤ a ∧ 0 ≤ b ∧ b < 2 ^ 62 ∧ 0 ≤ c ∧ c < 2 ^ 40 ∧ l ≠ p ∧ H l = some (.lst xs) ∧ 0 < xs.length ∧ xs.length < 1000 ∧
  ∀ (a' c' : Int) (x : V), 0 ≤ a' → c ≤ c' → c' ≤ c + 1 → x ∈ xs → Q x (upd H p (.lst [.int a', .int b, .int c']))
theorem ok_of (T : Tx K mg) : FnOk P w K mg base CX0 2 T.f_of T.fd_of ["_law_box_here", "_law_some"] spOf := by
  refine T.F_of.ok sc_of (fun vs H Q E h => ?_) (fun cdv A outer s H vs Q E hr h => ?_)
  · obtain ⟨p, l, a, b, c, xs, rfl, _⟩ := h
    rfl
  · obtain ⟨p, l, a, b, c, xs, rfl, hB, a0, b0, b1, c0, c1, npl, hL, l0, l1, q⟩ := h
    refine ⟨_, (pss_one (ps_ret (pe_ix (r := rIxL K) ix_list (pv 1) (pe_call (ok_take T) (hr.mono (by omega)) (by rfl) T.g_take T.F_take.kp T.b_take .nil pass0 (pa_cons (pv 0) (pa_cons (pe_callB call_len_seq (by rfl) T.m_len (by decide +kernel) (pa_cons (pv 1) pa_nil)) pa_nil))) (fun _ _ => rfl)))), ?_⟩
    refine ⟨.ref l, rfl, .ref p, rfl, .ref l, rfl, l, xs, rfl, .inl (sq1 hL), p, a, b, c, _, rfl, hB, a0, b0, b1, c0, c1, by omega, by omega, fun a' c' r a'0 cl cu r0 r1 => ?_⟩
    obtain ⟨j, rfl⟩ := Int.eq_ofNat_of_zero_le r0
    have hj : j < xs.length := by omega
    exact ⟨l, xs, _, xs[j], rfl, rfl, sq1 (by rw [upd_ne npl]; exact hL), atI_nat (List.getElem?_eq_getElem hj), q a' c' _ a'0 cl cu (List.getElem_mem hj)⟩
end

theorem rep_all (n : Nat) : (List.replicate n true).all id = true := by
  induction n with
  | zero => rfl
  | succ n ih => rw [List.replicate_succ, List.all_cons, ih]; rfl
end K8

set_option Elab.async false
set_option linter.all false
set_option maxRecDepth 100000
set_option maxHeartbeats 4000000
namespace K8
open PySem PySem.Spec PyProof.Rows L2
open Cm (Da DaAll)
/-! ### what is asked of things, by their data -/
def numD : PyData → Bool
  | .int _ => true
  | _ => false
def byteD : PyData → Bool
  | .int i => decide (0 ≤ i) && decide (i ≤ 255)
  | _ => false
def maskD : PyData → Bool
  | .tuple ds => decide (ds.length = 4) && ds.all byteD
  | _ => false
theorem dec_len (n : Nat) : decide (V.int (n : Int) = V.int 4) = decide (n = 4) := by
  by_cases h : n = 4
  · subst h
    rfl
  · rw [decide_eq_false h, decide_eq_false]
    intro z
    exact h (by have := V.int.inj z; omega)
section
variable {P : Program} {w : World} {K : PySem.W.Frag} {mg : Str → Option Value} {base : Heap}
def spNum : Sp := fun vs H Q _ => ∃ (S : Addr → Prop) (x : V) (d : PyData), vs = [x] ∧ Da S H x d ∧ Q (.bl (numD d)) H
theorem ok_is_number (T : Tx K mg) : FnOk P w K mg base CX0 1 T.f_is_number T.fd_is_number ["thing"] spNum := by
  refine T.F_is_number.ok sc_is_number (fun vs H Q E h => ?_) (fun cdv A outer s H vs Q E hr h => ?_)
  · obtain ⟨S, x, d, rfl, _⟩ := h
    rfl
  · obtain ⟨S, x, d, rfl, hd, q⟩ := h
    obtain ⟨n, bi, bb, bt, ty, k1, k2, k3, e1, e2⟩ := hd.kit (K := K)
    have e1' : (bi && !bb) = numD d := by rw [e1]; cases d <;> rfl
    refine ⟨_, (pss_one (ps_ret (pe_and (pe_callB (r := rIsi K) call_isi (by rfl) T.m_isinstance (by decide +kernel) (pa_cons (pv 0) (pa_cons (pe_bltn (v := .ty "int") (u := .type "int") (by rfl) T.m_int (by decide +kernel) rfl) pa_nil))) (pe_one (pe_not (pe_callB (r := rIsi K) call_isi (by rfl) T.m_isinstance (by decide +kernel) (pa_cons (pv 0) (pa_cons (pe_bltn (v := .ty "bool") (u := .type "bool") (by rfl) T.m_bool (by decide +kernel) rfl) pa_nil)))))))), ?_⟩
    refine ⟨x, rfl, x, _, _, _, bi, rfl, .ty _, ty, k1, bi, rfl, ?_⟩
    cases bi with
    | true =>
      refine ⟨x, rfl, x, _, _, _, bb, rfl, .ty _, ty, k2, bb, rfl, ?_⟩
      rw [← e1'] at q
      exact q
    | false =>
      rw [← e1'] at q
      exact q
def spByte : Sp := fun vs H Q _ => ∃ (S : Addr → Prop) (x : V) (d : PyData), vs = [x] ∧ Da S H x d ∧ Q (.bl (byteD d)) H
theorem ok_is_byte (T : Tx K mg) : FnOk P w K mg base CX0 2 T.f_is_byte T.fd_is_byte ["thing"] spByte := by
  refine T.F_is_byte.ok sc_is_byte (fun vs H Q E h => ?_) (fun cdv A outer s H vs Q E hr h => ?_)
  · obtain ⟨S, x, d, rfl, _⟩ := h
    rfl
  · obtain ⟨S, x, d, rfl, hd, q⟩ := h
    refine ⟨_, (pss_one (ps_ret (pe_and (pe_call (ok_is_number T) (hr.mono (by omega)) (by rfl) T.g_is_number T.F_is_number.kp T.b_is_number .nil pass0 (pa_cons (pv 0) pa_nil)) (pe_one (pe_chain op_le op_le pe_int (pv 0) pe_int))))), ?_⟩
    refine ⟨x, rfl, S, x, d, rfl, hd, numD d, rfl, ?_⟩
    cases hd with
    | int i =>
      refine ⟨.int i, rfl, 0, i, rfl, rfl, _, rfl, ite2 (fun e => ?_) (fun e => ?_)⟩
      · refine ⟨i, 255, rfl, rfl, ?_⟩
        have e' : byteD (.int i) = decide (i ≤ 255) := by
          show (decide (0 ≤ i) && decide (i ≤ 255)) = _
          rw [e]
          rfl
        rw [e'] at q
        exact q
      · have e' : byteD (.int i) = false := by
          show (decide (0 ≤ i) && decide (i ≤ 255)) = _
          rw [Bool.eq_false_iff.mpr e]
          rfl
        rw [e'] at q
        exact q
    | non => exact q
    | bl _ => exact q
    | str _ => exact q
    | lst _ _ _ => exact q
    | tup _ _ _ => exact q
def spMask : Sp := fun vs H Q _ => ∃ (S : Addr → Prop) (x : V) (d : PyData), vs = [x] ∧ Da S H x d ∧ ∀ H', Same H H' → Q (.bl (maskD d)) H'
theorem ok_is_mask (T : Tx K mg) : FnOk P w K mg base CX0 3 T.f_is_mask T.fd_is_mask ["thing"] spMask := by
  refine T.F_is_mask.ok sc_is_mask (fun vs H Q E h => ?_) (fun cdv A outer s H vs Q E hr h => ?_)
  · obtain ⟨S, x, d, rfl, _⟩ := h
    rfl
  · obtain ⟨S, x, d, rfl, hd, q⟩ := h
    obtain ⟨n, bi, bb, bt, ty, k1, k2, k3, e1, e2⟩ := hd.kit (K := K)
    refine ⟨_, (pss_one (ps_ret (pe_and (pe_callB (r := rIsi K) call_isi (by rfl) T.m_isinstance (by decide +kernel) (pa_cons (pv 0) (pa_cons (pe_bltn (v := .ty "tuple") (u := .type "tuple") (by rfl) T.m_tuple (by decide +kernel) rfl) pa_nil))) (pe_and (pe_cmpR op_eq (pe_callB call_len_seq (by rfl) T.m_len (by decide +kernel) (pa_cons (pv 0) pa_nil)) pe_int (nomark _)) (pe_one (pe_callB (cr_all rfl) (by rfl) T.m_all (by decide +kernel) (pa_cons (pe_lc (own := [("part", 1)]) (g := gName 1) (tt := tYes) rfl sc_is_mask.nd (pi_tup (pv 0)) (blkOk_by (N := ["thing", "part"]) (sc := defScope s_is_mask) (by decide +kernel)) (fun _ _ _ _ _ => (pg_name (i := 1) sc_is_mask.nd rfl (.inl rfl))) (fun _ _ _ _ _ => pts_nil) (fun _ _ _ _ _ => (pe_call (ok_is_byte T) (hr.mono (by omega)) (by rfl) T.g_is_byte T.F_is_byte.kp T.b_is_byte .nil pass0 (pa_cons (pv 1) pa_nil)))) pa_nil))))))), ?_⟩
    refine ⟨x, rfl, x, _, _, _, bt, rfl, .ty _, ty, k3, bt, rfl, ?_⟩
    subst e2
    cases hd with
    | non => exact q _ (Same.refl H)
    | bl _ => exact q _ (Same.refl H)
    | int _ => exact q _ (Same.refl H)
    | str _ => exact q _ (Same.refl H)
    | lst _ _ _ => exact q _ (Same.refl H)
    | @tup a xs ds na ea all =>
      have hl := all.length
      refine ⟨.ref a, rfl, a, xs, rfl, .inr (st1 ea), rfl, _, rfl, ?_⟩
      rw [dec_len, hl]
      by_cases h4 : ds.length = 4
      · rw [decide_eq_true h4]
        refine ⟨.ref a, rfl, a, rfl, ⟨_, st1 ea⟩, fun D hD => lc_it (walk_tup (xs := xs)) (fun i Hc => Same H Hc ∧ Hc D = some (.lst (((ds.take i).map byteD).map V.bl))) ?_ ?_ ?_ ?_⟩
        · refine ⟨same_upd hD, ?_⟩
          rw [upd_same]
          rfl
        · rintro i Hc hi ⟨sm, _⟩
          exact st1 (sm _ _ ea)
        · rintro i y Hc H' hi ⟨sm, eD⟩ ⟨rfl, hy⟩
          obtain ⟨d', hd', da'⟩ := all.get hy
          refine ⟨rfl, ?_⟩
          refine ⟨y, rfl, S, y, d', rfl, Da.keep (fun b o _ e => sm b o e) _ da', ?_⟩
          refine ⟨_, eD, ?_, ?_, ?_⟩
          · rw [List.length_map, List.length_map, List.length_take]
            exact Nat.lt_of_le_of_lt (show min i ds.length ≤ 4 by omega) (by decide)
          · exact Same.mut sm hD
          · rw [upd_same, List.take_add_one, hd', List.map_append, List.map_append]
            rfl
        · rintro Hc ⟨sm, eD⟩
          rw [hl, List.take_of_length_le (Nat.le_refl _)] at eD
          refine ⟨D, ds.map byteD, rfl, sq1 eD, ?_⟩
          have e' : maskD (.tuple ds) = (ds.map byteD).all id := by
            show (decide (ds.length = 4) && ds.all byteD) = _
            rw [decide_eq_true h4, List.all_map]
            rfl
          rw [← e']
          exact q Hc sm
      · rw [decide_eq_false h4]
        have e' : maskD (.tuple ds) = false := by
          show (decide (ds.length = 4) && ds.all byteD) = _
          rw [decide_eq_false h4]
          rfl
        rw [e'] at q
        exact q _ (Same.refl H)
end

/-! ### rows of any data -/
def lenD : PyData → Nat
  | .list ds => ds.length
  | .tuple ds => ds.length
  | _ => 0
def seqD : PyData → Bool
  | .list _ => true
  | .tuple _ => true
  | _ => false
theorem Da.kitS {S : Addr → Prop} {H : Hp} {K : PySem.W.Frag} {v : V} {d : PyData} (h : Da S H v d) : ∃ (n : String) (b : Bool), (∀ H', Same H H' → TyX K H' v (.type n)) ∧ PySem.W.kitAny K (.type n) [.type "list", .type "tuple"] = some b ∧ b = seqD d := by
  cases h with
  | non => exact ⟨"NoneType", false, fun _ _ => .base .non, kitAny_cons (b := false) (kit_ty (by decide +kernel)) (fun _ => kitAny_cons (b := false) (kit_ty (by decide +kernel)) (fun _ => rfl) (fun z => nomatch z)) (fun z => nomatch z), rfl⟩
  | bl y => exact ⟨"bool", false, fun _ _ => .base (.bl y), kitAny_cons (b := false) (kit_ty (by decide +kernel)) (fun _ => kitAny_cons (b := false) (kit_ty (by decide +kernel)) (fun _ => rfl) (fun z => nomatch z)) (fun z => nomatch z), rfl⟩
  | int y => exact ⟨"int", false, fun _ _ => .base (.int y), kitAny_cons (b := false) (kit_ty (by decide +kernel)) (fun _ => kitAny_cons (b := false) (kit_ty (by decide +kernel)) (fun _ => rfl) (fun z => nomatch z)) (fun z => nomatch z), rfl⟩
  | str y => exact ⟨"str", false, fun _ _ => .base (.str y), kitAny_cons (b := false) (kit_ty (by decide +kernel)) (fun _ => kitAny_cons (b := false) (kit_ty (by decide +kernel)) (fun _ => rfl) (fun z => nomatch z)) (fun z => nomatch z), rfl⟩
  | lst _ e _ => exact ⟨"list", true, fun H' s => .base (.lst (s _ _ e)), kitAny_cons (b := true) (kit_ty (by decide +kernel)) (fun z => nomatch z) (fun _ => rfl), rfl⟩
  | tup _ e _ => exact ⟨"tuple", true, fun H' s => .base (.tup (s _ _ e)), kitAny_cons (b := false) (kit_ty (by decide +kernel)) (fun _ => kitAny_cons (b := true) (kit_ty (by decide +kernel)) (fun z => nomatch z) (fun _ => rfl)) (fun z => nomatch z), rfl⟩

open Cm (Da DaAll)
theorem Da.kitL {S : Addr → Prop} {H : Hp} {K : PySem.W.Frag} {v : V} {d : PyData} (h : Da S H v d) : ∃ (n : String) (bl : Bool), TyX K H v (.type n) ∧ PySem.W.kitOne K (.type n) (.type "list") = some bl ∧ bl = (match d with | .list _ => true | _ => false) := by
  cases h with
  | non => exact ⟨"NoneType", false, .base .non, kit_ty (by decide +kernel), rfl⟩
  | bl y => exact ⟨"bool", false, .base (.bl y), kit_ty (by decide +kernel), rfl⟩
  | int y => exact ⟨"int", false, .base (.int y), kit_ty (by decide +kernel), rfl⟩
  | str y => exact ⟨"str", false, .base (.str y), kit_ty (by decide +kernel), rfl⟩
  | lst _ e _ => exact ⟨"list", true, .base (.lst e), kit_ty (by decide +kernel), rfl⟩
  | tup _ e _ => exact ⟨"tuple", false, .base (.tup e), kit_ty (by decide +kernel), rfl⟩


def codesD : PyData → Bool
  | .list ds => ds.all byteD
  | .tuple ds => ds.all byteD
  | _ => false
section
variable {P : Program} {w : World} {K : PySem.W.Frag} {mg : Str → Option Value} {base : Heap}
def spAre_codes : Sp := fun vs H Q _ => ∃ (S : Addr → Prop) (x : V) (d : PyData), vs = [x] ∧ Da S H x d ∧ lenD d ≤ 1000000 ∧ ∀ H', Same H H' → Q (.bl (codesD d)) H'
theorem ok_are_codesD (T : Tx K mg) : FnOk P w K mg base CX0 3 T.f_are_codes T.fd_are_codes ["thing"] spAre_codes := by
  refine T.F_are_codes.ok sc_are_codes (fun vs H Q E h => ?_) (fun cdv A outer s H vs Q E hr h => ?_)
  · obtain ⟨S, x, d, rfl, _⟩ := h
    rfl
  · obtain ⟨S, x, d, rfl, hd, hlen, q⟩ := h
    obtain ⟨n, b, ty, k, eb⟩ := Da.kitS (K := K) hd
    refine ⟨_, (pss_one (ps_ret (pe_and (pe_callB (r := rIsiT K) call_isiT (by rfl) T.m_isinstance (by decide +kernel) (pa_cons (pv 0) (pa_cons (pe_tup (pa_cons (pe_bltn (v := .ty "list") (u := .type "list") (by rfl) T.m_list (by decide +kernel) rfl) (pa_cons (pe_bltn (v := .ty "tuple") (u := .type "tuple") (by rfl) T.m_tuple (by decide +kernel) rfl) pa_nil))) pa_nil))) (pe_one (pe_callB (cr_all rfl) (by rfl) T.m_all (by decide +kernel) (pa_cons (pe_lc (own := [("part", 1)]) (g := gName 1) (tt := tYes) rfl sc_are_codes.nd (pi_seqA (pv 0)) (blkOk_by (N := ["thing", "part"]) (sc := defScope s_are_codes) (by decide +kernel)) (fun _ _ _ _ _ => (pg_name (i := 1) sc_are_codes.nd rfl (.inl rfl))) (fun _ _ _ _ _ => pts_nil) (fun _ _ _ _ _ => (pe_call (ok_is_byte T) (hr.mono (by omega)) (by rfl) T.g_is_byte T.F_is_byte.kp T.b_is_byte .nil pass0 (pa_cons (pv 1) pa_nil)))) pa_nil)))))), ?_⟩
    refine ⟨x, rfl, by show 2 ≤ sizeLine; decide, fun p hp => ?_⟩
    have sH1 : Same H (upd H p (.tup [.ty "list", .ty "tuple"])) := same_upd hp
    have eH1 : (upd H p (.tup [.ty "list", .ty "tuple"])) p = some (.tup [.ty "list", .ty "tuple"]) := upd_same
    generalize upd H p (.tup [.ty "list", .ty "tuple"]) = H1 at sH1 eH1 ⊢
    refine ⟨x, p, _, _, _, b, rfl, eH1, .cons (.ty _) (.cons (.ty _) .nil), ty _ sH1, k, _, rfl, ?_⟩
    replace hd := Da.keep (fun b o _ e => sH1 b o e) _ hd
    subst eb
    cases hd with
    | non => exact q _ sH1
    | bl _ => exact q _ sH1
    | int _ => exact q _ sH1
    | str _ => exact q _ sH1
    | @lst a xs ds na ea all =>
      have hl := all.length
      refine ⟨.ref a, rfl, a, xs, rfl, .inl ⟨sq1 ea, fun D hD => lc_it (walk_list (xs := xs)) (fun i Hc => Same H1 Hc ∧ Hc D = some (.lst (((ds.take i).map byteD).map V.bl))) ?_ ?_ ?_ ?_⟩⟩
      · refine ⟨same_upd hD, ?_⟩
        rw [upd_same]
        rfl
      · rintro i Hc hi ⟨sm, _⟩
        exact sq1 (sm _ _ ea)
      · rintro i y Hc H' hi ⟨sm, eD⟩ ⟨rfl, hy⟩
        obtain ⟨d', hd', da'⟩ := all.get hy
        refine ⟨rfl, ?_⟩
        refine ⟨y, rfl, S, y, d', rfl, Da.keep (fun b o _ e => sm b o e) _ da', ?_⟩
        refine ⟨_, eD, ?_, ?_, ?_⟩
        · rw [List.length_map, List.length_map, List.length_take, sizeLine_eq]
          have hm : ds.length ≤ 1000000 := hlen
          omega
        · exact Same.mut sm hD
        · rw [upd_same, List.take_add_one, hd', List.map_append, List.map_append]
          rfl
      · rintro Hc ⟨sm, eD⟩
        rw [hl, List.take_of_length_le (Nat.le_refl _)] at eD
        refine ⟨D, ds.map byteD, rfl, sq1 eD, ?_⟩
        have e' : codesD (.list ds) = (ds.map byteD).all id := by
          show ds.all byteD = _
          rw [List.all_map]
          rfl
        rw [← e']
        exact q Hc (sH1.trans sm)
    | @tup a xs ds na ea all =>
      have hl := all.length
      refine ⟨.ref a, rfl, a, xs, rfl, .inr ⟨st1 ea, fun D hD => lc_it (walk_tup (xs := xs)) (fun i Hc => Same H1 Hc ∧ Hc D = some (.lst (((ds.take i).map byteD).map V.bl))) ?_ ?_ ?_ ?_⟩⟩
      · refine ⟨same_upd hD, ?_⟩
        rw [upd_same]
        rfl
      · rintro i Hc hi ⟨sm, _⟩
        exact st1 (sm _ _ ea)
      · rintro i y Hc H' hi ⟨sm, eD⟩ ⟨rfl, hy⟩
        obtain ⟨d', hd', da'⟩ := all.get hy
        refine ⟨rfl, ?_⟩
        refine ⟨y, rfl, S, y, d', rfl, Da.keep (fun b o _ e => sm b o e) _ da', ?_⟩
        refine ⟨_, eD, ?_, ?_, ?_⟩
        · rw [List.length_map, List.length_map, List.length_take, sizeLine_eq]
          have hm : ds.length ≤ 1000000 := hlen
          omega
        · exact Same.mut sm hD
        · rw [upd_same, List.take_add_one, hd', List.map_append, List.map_append]
          rfl
      · rintro Hc ⟨sm, eD⟩
        rw [hl, List.take_of_length_le (Nat.le_refl _)] at eD
        refine ⟨D, ds.map byteD, rfl, sq1 eD, ?_⟩
        have e' : codesD (.tuple ds) = (ds.map byteD).all id := by
          show ds.all byteD = _
          rw [List.all_map]
          rfl
        rw [← e']
        exact q Hc (sH1.trans sm)
end
end K8

set_option Elab.async false
set_option linter.all false
set_option maxRecDepth 100000
set_option maxHeartbeats 4000000
namespace K8
open PySem PySem.Spec PyProof.Rows L2
/-! ### texts of refusals -/
/-- a text or a number that can be written -/
def Fm (x : V) : Prop := (∃ y : Str, x = .str y ∧ y.length ≤ 1000) ∨ ∃ i : Int, x = .int i ∧ 0 ≤ i ∧ i < 10 ^ 10
def Pc (t : TE) (σ : L2.St) (H : Hp) : Prop := ∃ y : Str, y.length ≤ 1000 ∧ ∀ Q : VK, Q (.str y) H → t σ H Q
def PcAll : List TE → L2.St → Hp → Prop
  | [], _, _ => True
  | t :: ts, σ, H => Pc t σ H ∧ PcAll ts σ H
theorem js_fit {σ : L2.St} {H : Hp} {Q : Str → Hp → Prop} : ∀ {ts : List TE} {acc : Str} {n : Nat}, PcAll ts σ H → acc.length ≤ n → n + 1000 * ts.length ≤ 16777216 → (∀ out, Q out H) → tJs ts acc σ H Q
  | [], acc, n, _, _, _, q => q acc
  | t :: ts, acc, n, ⟨⟨y, hy, k⟩, r⟩, hn, hl, q => by
    refine k _ ⟨y, rfl, ?_, js_fit (n := n + 1000) r ?_ ?_ q⟩
    · rw [PySem.Str.length_append, sizeLine_eq]
      rw [List.length_cons] at hl
      omega
    · rw [PySem.Str.length_append]
      omega
    · rw [List.length_cons] at hl
      omega
theorem pc_lit {σ : L2.St} {H : Hp} {y : Str} (h : y.length ≤ 1000) : Pc (tC (.str y)) σ H := ⟨y, h, fun _ q => q⟩
theorem pc_fmt {σ : L2.St} {H : Hp} {i : Nat} {x : V} (fx : Fm x) (e : σ[i]? = some (some x)) : Pc (tFmt (tVar i)) σ H := by
  rcases fx with ⟨y, rfl, hy⟩ | ⟨n, rfl, h0, h1⟩
  · exact ⟨y, hy, fun Q q => ⟨_, e, .inl ⟨y, rfl, by rw [sizeLine_eq]; omega, q⟩⟩⟩
  · have l : (Str.ofString (toString n)).length ≤ 10 := toString_length_le h0 (by decide) h1
    have lg : n.natAbs.log2 < 1920 := by
      by_cases z : n.natAbs = 0
      · rw [z]
        decide
      · refine (Nat.log2_lt z).mpr (Nat.lt_of_lt_of_le (show n.natAbs < 2 ^ 40 by omega) (Nat.pow_le_pow_right (by decide) (by decide)))
    exact ⟨Str.ofString (toString n), by omega, fun Q q => ⟨_, e, .inr ⟨n, rfl, lg, q⟩⟩⟩
theorem oex_of {K : PySem.W.Frag} {C : Addr} {initId : String} {bm : List Value} (T : OeC K C "ValueError" "ValueError.__new__" initId bm) (h : PySem.HandSPX.refsVE bm = true) : OexC K C := by
  obtain ⟨nm, q, N, bs, sn, sub, ab, col, dd, k0, k1, k2, k3, k5, hC⟩ := T.cls
  exact ⟨⟨nm, q, N, bs, bm, sn, sub, ab, col, dd, k0, k1, k2, k3, k5, hC, h⟩, T.sa, T.is_.3, T.ty, T.kC⟩
/-- a refusal's fields put -/
def spFI (C : Addr) (f g : Str) : Sp := fun vs H Q _ => ∃ (a : Addr) (x y : V), vs = [.ref a, x, y] ∧ H a = some (exo a C none) ∧ Fm x ∧ Fm y ∧ ∀ (H' : Hp) (d : Addr), Keep a H H' → H d = none → H' a = some (exo a C (some d)) → H' d = some (exd d [(g, y), (f, x)]) → Q .non H'
section
variable {P : Program} {w : World} {K : PySem.W.Frag} {mg : Str → Option Value} {base : Heap}
theorem ok_Fault (T : Tx K mg) : FnOk P w K mg base CX0 1 T.f_Fault T.fd_Fault ["self", "code", "at"] (spFI T.C_Fault "code" "at") := by
  refine T.F_Fault.ok sc_Fault (fun vs H Q E h => ?_) (fun cdv A outer s H vs Q E hr h => ?_)
  · obtain ⟨a, x, y, rfl, _⟩ := h
    rfl
  · obtain ⟨a, x, y, rfl, ea, fx, fy, q⟩ := h
    refine ⟨_, (pss_cons (ps_expr (pe_einit (B := "ValueError") (newId := "ValueError.__new__") (initId := "ValueError.__init__") (bm := bm_ValueError) (by rfl) T.m_ValueError (by decide +kernel) typ_ValueError (by decide +kernel) T.v_ValueError (by decide +kernel) (pa_cons (pv 0) (pa_cons (pe_joined (.cons pe_str (.cons (pe_fmt (pv 1)) (.cons pe_str (.cons (pe_fmt (pv 2)) .nil))))) pa_nil))))
      (pss_cons (ps_oe (B := "ValueError") (newId := "ValueError.__new__") (initId := "ValueError.__init__") (bm := bm_ValueError) (pv 0) (pv 1))
      (pss_one (ps_oe (B := "ValueError") (newId := "ValueError.__new__") (initId := "ValueError.__init__") (bm := bm_ValueError) (pv 0) (pv 2))))), ?_⟩
    refine ⟨.ref a, rfl, ?_⟩
    show tJs _ _ _ _ _
    refine js_fit (n := 0) (show PcAll _ _ _ from ⟨pc_lit (by decide +kernel), pc_fmt fx rfl, pc_lit (by decide +kernel), pc_fmt fy rfl, trivial⟩) (by decide) (by decide) fun out => ⟨a, T.C_Fault, [.str out], rfl, (by decide : 1 ≤ 1000), T.oe_Fault, ea, ?_⟩
    refine ⟨x, rfl, .ref a, rfl, a, T.C_Fault, rfl, T.oe_Fault, T.n_Fault_code, .inl ⟨ea, fun dx hdx ne => ?_⟩⟩
    have e1 : (upd (upd H dx (exd dx [("code", x)])) a (exo a T.C_Fault (some dx))) a = some (exo a T.C_Fault (some dx)) := upd_same
    have e2 : (upd (upd H dx (exd dx [("code", x)])) a (exo a T.C_Fault (some dx))) dx = some (exd dx [("code", x)]) := by rw [upd_ne ne]; exact upd_same
    have k : Keep a H (upd (upd H dx (exd dx [("code", x)])) a (exo a T.C_Fault (some dx))) := ((Keep.refl a H).new hdx).upd
    refine ⟨y, rfl, .ref a, rfl, a, T.C_Fault, rfl, T.oe_Fault, T.n_Fault_at, .inr ⟨dx, _, e1, e2, (show 1 ≤ 900 by decide), ?_⟩⟩
    refine q _ dx (fun b o hb e => ?_) hdx (by rw [upd_ne (Ne.symm ne)]; exact e1) upd_same
    rw [upd_ne (fun z => by rw [z, hdx] at e; cases e)]
    exact k b o hb e
end
/-- what is known where a Fault leaves: its class, its code and place -/
def Flt (C : Addr) (code at_ : Int) (H : Hp) (E : XK) : Prop := ∀ (H' : Hp) (d : Addr), Same H H' → H d = none → H' d = some (.xd [("at", .int at_), ("code", .int code)]) → E (.ref C) (some d) H'
theorem raiseF {C : Addr} {x y : Int} {H : Hp} {E : XK} (fx : Fm (.int x)) (fy : Fm (.int y)) (q : Flt C x y H E) : ∀ a, H a = none → spFI C "code" "at" (.ref a :: ([.int x, .int y] ++ [])) (upd H a (exo a C none))
    (fun v H2 => v = .non ∧ ∃ (d : Addr) (fs : List (Str × V)), H2 a = some (exo a C (some d)) ∧ H2 d = some (exd d fs) ∧ H d = none ∧ E (.ref C) (some d) (upd (del H2 a) d (.xd fs))) (fun _ _ _ => False) := fun a ha => by
  refine ⟨a, .int x, .int y, rfl, upd_same, fx, fy, fun H' d k hd e1 e2 => ⟨rfl, d, _, e1, e2, ?_, ?_⟩⟩
  · by_cases z : d = a
    · rw [z]; exact ha
    · rw [upd_ne z] at hd; exact hd
  · have nda : d ≠ a := fun z => by rw [z, upd_same] at hd; cases hd
    have hd' : H d = none := by rw [upd_ne nda] at hd; exact hd
    refine q _ d (fun b o e => ?_) hd' upd_same
    have nba : b ≠ a := fun z => by rw [z, ha] at e; cases e
    have nbd : b ≠ d := fun z => by rw [z, hd'] at e; cases e
    rw [upd_ne nbd, del_ne nba]
    exact k b o nba (by rw [upd_ne nba]; exact e)

/-- a list or a tuple -/
def Sq2 (K : PySem.W.Frag) (H : Hp) (a : Addr) (xs : List V) : Prop := SqL K H a xs ∨ SqT K H a xs
theorem Sq2.same {K : PySem.W.Frag} {H H' : Hp} {a : Addr} {xs : List V} (h : Sq2 K H a xs) (s : Same H H') : Sq2 K H' a xs := by
  rcases h with h | h
  · exact .inl (s.seq h)
  · exact .inr (Same.seqT s h)
theorem ix2 {K : PySem.W.Frag} {H : Hp} {a : Addr} {xs : List V} {i : Int} {v : V} {Q : VK} (h : Sq2 K H a xs) (e : atI xs i = some v) (q : Q v H) : rIx K (.ref a) (.int i) H Q := by
  rcases h with h | h
  · exact .inl ⟨a, xs, i, v, rfl, rfl, h, e, q⟩
  · exact .inr (.inl ⟨a, xs, i, v, rfl, rfl, h, e, q⟩)
theorem at_ints {ns : List Int} {i : Nat} {x : Int} (h : ns[i]? = some x) : atI (ns.map V.int) (i : Int) = some (.int x) := atI_nat (by rw [List.getElem?_map, h]; rfl)
theorem get_of_lt {ns : List Int} {i : Nat} (h : i < ns.length) : ∃ x, ns[i]? = some x ∧ x ∈ ns := ⟨ns[i], List.getElem?_eq_getElem h, List.getElem_mem h⟩
theorem get_none {ns : List Int} {i : Nat} (h : ns.length ≤ i) : ns[i]? = none := List.getElem?_eq_none h
theorem fm_int {z : Int} (h0 : 0 ≤ z) (h1 : z < 10 ^ 10) : Fm (.int z) := .inr ⟨z, rfl, h0, h1⟩

/-! ### sorts of slips, heads, fronts -/
def sortKV : List (Int × V) := [((0 : Int), V.str "more"), ((1 : Int), V.str "words"), ((2 : Int), V.str "bytes"), ((8 : Int), V.str "end"), ((9 : Int), V.str "bell"), ((10 : Int), V.str "echo")]
def isSort (n : Int) : Bool := decide (n = 0) || decide (n = 1) || decide (n = 2) || decide (n = 8) || decide (n = 9) || decide (n = 10)
theorem sort_in_kv (n : Int) : (valV sortKV n).isSome = isSort n := by
  rw [← valV_any]
  simp only [sortKV, isSort, List.any_cons, List.any_nil, Bool.or_false, Bool.or_assoc, eq_comm]
section
variable {P : Program} {w : World} {K : PySem.W.Frag} {mg : Str → Option Value} {base : Heap}
def spIC : Sp := fun vs H Q _ => ∃ n : Int, vs = [.int n] ∧ Q (.bl (decide (8 ≤ n))) H
theorem ok_is_control (T : Tx K mg) : FnOk P w K mg base CX0 1 T.f_is_control T.fd_is_control ["sort"] spIC := by
  refine T.F_is_control.ok sc_is_control (fun vs H Q E h => ?_) (fun cdv A outer s H vs Q E hr h => ?_)
  · obtain ⟨n, rfl, _⟩ := h
    rfl
  · obtain ⟨n, rfl, q⟩ := h
    refine ⟨_, (pss_one (ps_ret (pe_cmpR op_ge (pv 0) (pe_glob (v := .int 8) (by rfl) T.g_ENDING ⟨_, rfl⟩) (nomark _)))), ?_⟩
    exact ⟨.int n, rfl, n, 8, rfl, rfl, q⟩
end

theorem nr_ValueError : ∀ D : Addr, (bm_ValueError).contains (.ref D) = false := fun D => by simp
theorem oe_no {K : PySem.W.Frag} {C D : Addr} {B newId initId : String} {bm : List Value} (T : OeC K C B newId initId bm) (nr : bm.contains (.ref D) = false) (ne : C ≠ D) : PySem.W.subIn K (.ref C) (.ref D) = some false := by
  have e2 : (Value.ref D == Value.ref C) = false := beq_eq_false_iff_ne.mpr fun z => ne (Value.ref.inj z).symm
  rw [oe_mro T, List.contains_cons, nr, e2]
  rfl
theorem exmAny_on {K : PySem.W.Frag} {cls c : Value} {r : List Value} {b d : Bool} (h1 : PySem.W.exmOne K cls c = some b) (h2 : PySem.W.exmAny K cls r = some d) : PySem.W.exmAny K cls (c :: r) = some (b || d) := by
  unfold PySem.W.exmAny
  rw [h1, h2]
section
variable {K : PySem.W.Frag} {mg : Str → Option Value}
theorem other_BadSlip_BadLetter (T : Tx K mg) : PySem.W.kitOne K (.ref T.C_BadSlip) (.ref T.C_BadLetter) = some false := by
  rw [oe_own T.oe_BadSlip T.oe_BadLetter (nr_ValueError _), decide_eq_false (Nat.ne_of_lt T.lt_BadSlip)]
theorem other_BadSlip_BadEnd (T : Tx K mg) : PySem.W.kitOne K (.ref T.C_BadSlip) (.ref T.C_BadEnd) = some false := by
  rw [oe_own T.oe_BadSlip T.oe_BadEnd (nr_ValueError _), decide_eq_false (Nat.ne_of_lt (Nat.lt_trans T.lt_BadSlip T.lt_BadLetter))]
theorem other_BadSlip_BadText (T : Tx K mg) : PySem.W.kitOne K (.ref T.C_BadSlip) (.ref T.C_BadText) = some false := by
  rw [oe_own T.oe_BadSlip T.oe_BadText (nr_ValueError _), decide_eq_false (Nat.ne_of_lt (Nat.lt_trans (Nat.lt_trans T.lt_BadSlip T.lt_BadLetter) T.lt_BadEnd))]
theorem other_BadSlip_BadRow (T : Tx K mg) : PySem.W.kitOne K (.ref T.C_BadSlip) (.ref T.C_BadRow) = some false := by
  rw [oe_own T.oe_BadSlip T.oe_BadRow (nr_ValueError _), decide_eq_false (Nat.ne_of_lt (Nat.lt_trans (Nat.lt_trans (Nat.lt_trans T.lt_BadSlip T.lt_BadLetter) T.lt_BadEnd) T.lt_BadText))]
theorem other_BadSlip_Fault (T : Tx K mg) : PySem.W.kitOne K (.ref T.C_BadSlip) (.ref T.C_Fault) = some false := by
  rw [oe_own T.oe_BadSlip T.oe_Fault (nr_ValueError _), decide_eq_false (Nat.ne_of_lt (Nat.lt_trans (Nat.lt_trans (Nat.lt_trans (Nat.lt_trans T.lt_BadSlip T.lt_BadLetter) T.lt_BadEnd) T.lt_BadText) T.lt_BadRow))]
theorem other_BadSlip_NoSlip (T : Tx K mg) : PySem.W.kitOne K (.ref T.C_BadSlip) (.ref T.C_NoSlip) = some false := by
  rw [oe_own T.oe_BadSlip T.oe_NoSlip (nr_ValueError _), decide_eq_false (Nat.ne_of_lt (Nat.lt_trans (Nat.lt_trans (Nat.lt_trans (Nat.lt_trans (Nat.lt_trans T.lt_BadSlip T.lt_BadLetter) T.lt_BadEnd) T.lt_BadText) T.lt_BadRow) T.lt_Fault))]
theorem other_BadSlip_NoByte (T : Tx K mg) : PySem.W.kitOne K (.ref T.C_BadSlip) (.ref T.C_NoByte) = some false := by
  rw [oe_own T.oe_BadSlip T.oe_NoByte (nr_ValueError _), decide_eq_false (Nat.ne_of_lt (Nat.lt_trans (Nat.lt_trans (Nat.lt_trans (Nat.lt_trans (Nat.lt_trans (Nat.lt_trans T.lt_BadSlip T.lt_BadLetter) T.lt_BadEnd) T.lt_BadText) T.lt_BadRow) T.lt_Fault) T.lt_NoSlip))]
theorem other_BadSlip_NoDeed (T : Tx K mg) : PySem.W.kitOne K (.ref T.C_BadSlip) (.ref T.C_NoDeed) = some false := by
  rw [oe_own T.oe_BadSlip T.oe_NoDeed (nr_ValueError _), decide_eq_false (Nat.ne_of_lt (Nat.lt_trans (Nat.lt_trans (Nat.lt_trans (Nat.lt_trans (Nat.lt_trans (Nat.lt_trans (Nat.lt_trans T.lt_BadSlip T.lt_BadLetter) T.lt_BadEnd) T.lt_BadText) T.lt_BadRow) T.lt_Fault) T.lt_NoSlip) T.lt_NoByte))]
theorem other_BadSlip_Ended (T : Tx K mg) : PySem.W.kitOne K (.ref T.C_BadSlip) (.ref T.C_Ended) = some false := by
  rw [oe_own T.oe_BadSlip T.oe_Ended (nr_ValueError _), decide_eq_false (Nat.ne_of_lt (Nat.lt_trans (Nat.lt_trans (Nat.lt_trans (Nat.lt_trans (Nat.lt_trans (Nat.lt_trans (Nat.lt_trans (Nat.lt_trans T.lt_BadSlip T.lt_BadLetter) T.lt_BadEnd) T.lt_BadText) T.lt_BadRow) T.lt_Fault) T.lt_NoSlip) T.lt_NoByte) T.lt_NoDeed))]
theorem xno_BadSlip_BadLetter (T : Tx K mg) : PySem.W.exmOne K (.ref T.C_BadSlip) (.ref T.C_BadLetter) = some false := PySem.W.exm_ref T.oe_BadLetter.is_.hs T.oe_BadLetter.is_.hd T.oe_BadLetter.ty (oe_no T.oe_BadSlip (nr_ValueError _) (Nat.ne_of_lt T.lt_BadSlip))
theorem xno_BadSlip_BadEnd (T : Tx K mg) : PySem.W.exmOne K (.ref T.C_BadSlip) (.ref T.C_BadEnd) = some false := PySem.W.exm_ref T.oe_BadEnd.is_.hs T.oe_BadEnd.is_.hd T.oe_BadEnd.ty (oe_no T.oe_BadSlip (nr_ValueError _) (Nat.ne_of_lt (Nat.lt_trans T.lt_BadSlip T.lt_BadLetter)))
theorem xno_BadSlip_BadText (T : Tx K mg) : PySem.W.exmOne K (.ref T.C_BadSlip) (.ref T.C_BadText) = some false := PySem.W.exm_ref T.oe_BadText.is_.hs T.oe_BadText.is_.hd T.oe_BadText.ty (oe_no T.oe_BadSlip (nr_ValueError _) (Nat.ne_of_lt (Nat.lt_trans (Nat.lt_trans T.lt_BadSlip T.lt_BadLetter) T.lt_BadEnd)))
theorem xno_BadSlip_BadRow (T : Tx K mg) : PySem.W.exmOne K (.ref T.C_BadSlip) (.ref T.C_BadRow) = some false := PySem.W.exm_ref T.oe_BadRow.is_.hs T.oe_BadRow.is_.hd T.oe_BadRow.ty (oe_no T.oe_BadSlip (nr_ValueError _) (Nat.ne_of_lt (Nat.lt_trans (Nat.lt_trans (Nat.lt_trans T.lt_BadSlip T.lt_BadLetter) T.lt_BadEnd) T.lt_BadText)))
theorem xno_BadSlip_Fault (T : Tx K mg) : PySem.W.exmOne K (.ref T.C_BadSlip) (.ref T.C_Fault) = some false := PySem.W.exm_ref T.oe_Fault.is_.hs T.oe_Fault.is_.hd T.oe_Fault.ty (oe_no T.oe_BadSlip (nr_ValueError _) (Nat.ne_of_lt (Nat.lt_trans (Nat.lt_trans (Nat.lt_trans (Nat.lt_trans T.lt_BadSlip T.lt_BadLetter) T.lt_BadEnd) T.lt_BadText) T.lt_BadRow)))
theorem xno_BadSlip_NoSlip (T : Tx K mg) : PySem.W.exmOne K (.ref T.C_BadSlip) (.ref T.C_NoSlip) = some false := PySem.W.exm_ref T.oe_NoSlip.is_.hs T.oe_NoSlip.is_.hd T.oe_NoSlip.ty (oe_no T.oe_BadSlip (nr_ValueError _) (Nat.ne_of_lt (Nat.lt_trans (Nat.lt_trans (Nat.lt_trans (Nat.lt_trans (Nat.lt_trans T.lt_BadSlip T.lt_BadLetter) T.lt_BadEnd) T.lt_BadText) T.lt_BadRow) T.lt_Fault)))
theorem xno_BadSlip_NoByte (T : Tx K mg) : PySem.W.exmOne K (.ref T.C_BadSlip) (.ref T.C_NoByte) = some false := PySem.W.exm_ref T.oe_NoByte.is_.hs T.oe_NoByte.is_.hd T.oe_NoByte.ty (oe_no T.oe_BadSlip (nr_ValueError _) (Nat.ne_of_lt (Nat.lt_trans (Nat.lt_trans (Nat.lt_trans (Nat.lt_trans (Nat.lt_trans (Nat.lt_trans T.lt_BadSlip T.lt_BadLetter) T.lt_BadEnd) T.lt_BadText) T.lt_BadRow) T.lt_Fault) T.lt_NoSlip)))
theorem xno_BadSlip_NoDeed (T : Tx K mg) : PySem.W.exmOne K (.ref T.C_BadSlip) (.ref T.C_NoDeed) = some false := PySem.W.exm_ref T.oe_NoDeed.is_.hs T.oe_NoDeed.is_.hd T.oe_NoDeed.ty (oe_no T.oe_BadSlip (nr_ValueError _) (Nat.ne_of_lt (Nat.lt_trans (Nat.lt_trans (Nat.lt_trans (Nat.lt_trans (Nat.lt_trans (Nat.lt_trans (Nat.lt_trans T.lt_BadSlip T.lt_BadLetter) T.lt_BadEnd) T.lt_BadText) T.lt_BadRow) T.lt_Fault) T.lt_NoSlip) T.lt_NoByte)))
theorem xno_BadSlip_Ended (T : Tx K mg) : PySem.W.exmOne K (.ref T.C_BadSlip) (.ref T.C_Ended) = some false := PySem.W.exm_ref T.oe_Ended.is_.hs T.oe_Ended.is_.hd T.oe_Ended.ty (oe_no T.oe_BadSlip (nr_ValueError _) (Nat.ne_of_lt (Nat.lt_trans (Nat.lt_trans (Nat.lt_trans (Nat.lt_trans (Nat.lt_trans (Nat.lt_trans (Nat.lt_trans (Nat.lt_trans T.lt_BadSlip T.lt_BadLetter) T.lt_BadEnd) T.lt_BadText) T.lt_BadRow) T.lt_Fault) T.lt_NoSlip) T.lt_NoByte) T.lt_NoDeed)))
theorem under_BadSlip (T : Tx K mg) : PySem.W.kitOne K (.ref T.C_BadSlip) (.type "ValueError") = some true := by
  rw [oe_blt T.oe_BadSlip (by decide +kernel)]
  rfl
theorem exm_BadSlip (T : Tx K mg) : PySem.W.exmOne K (.ref T.C_BadSlip) (.ref T.C_BadSlip) = some true := PySem.W.exm_ref T.oe_BadSlip.is_.hs T.oe_BadSlip.is_.hd T.oe_BadSlip.ty (by rw [oe_mro T.oe_BadSlip, List.contains_cons]; simp)
end

open Cm (Da DaAll)
theorem u65 {k : Nat} {A : Around} (r : Room k A) : A.units + 65 < cLine := by have := r.un; omega
def spF1 (C : Addr) (f : Str) : Sp := fun vs H Q _ => ∃ (a : Addr) (x : V), vs = [.ref a, x] ∧ H a = some (exo a C none) ∧ Fm x ∧ ∀ (H' : Hp) (d : Addr), Keep a H H' → H d = none → H' a = some (exo a C (some d)) → H' d = some (exd d [(f, x)]) → Q .non H'
def Blt (C : Addr) (f : Str) (x : V) (H : Hp) (E : XK) : Prop := ∀ (H' : Hp) (d : Addr), Same H H' → H d = none → H' d = some (.xd [(f, x)]) → E (.ref C) (some d) H'
theorem raise1 {C : Addr} {f : Str} {x : V} {H : Hp} {E : XK} (fx : Fm x) (q : Blt C f x H E) : ∀ a, H a = none → spF1 C f (.ref a :: ([x] ++ [])) (upd H a (exo a C none))
    (fun v H2 => v = .non ∧ ∃ (d : Addr) (fs : List (Str × V)), H2 a = some (exo a C (some d)) ∧ H2 d = some (exd d fs) ∧ H d = none ∧ E (.ref C) (some d) (upd (del H2 a) d (.xd fs))) (fun _ _ _ => False) := fun a ha => by
  refine ⟨a, x, rfl, upd_same, fx, fun H' d k hd e1 e2 => ⟨rfl, d, _, e1, e2, ?_, ?_⟩⟩
  · by_cases z : d = a
    · rw [z]; exact ha
    · rw [upd_ne z] at hd; exact hd
  · have nda : d ≠ a := fun z => by rw [z, upd_same] at hd; cases hd
    have hd' : H d = none := by rw [upd_ne nda] at hd; exact hd
    refine q _ d (fun b o e => ?_) hd' upd_same
    have nba : b ≠ a := fun z => by rw [z, ha] at e; cases e
    have nbd : b ≠ d := fun z => by rw [z, hd'] at e; cases e
    rw [upd_ne nbd, del_ne nba]
    exact k b o nba (by rw [upd_ne nba]; exact e)

open Cm (Da DaAll)
mutual
theorem Da.weak1 {S S' : Addr → Prop} {H : Hp} (k : ∀ a, S a → S' a) : ∀ (d : PyData) {v : V}, Da S' H v d → Da S H v d
  | .none, _, h => by cases h; exact .non
  | .bool b, _, h => by cases h; exact .bl b
  | .int i, _, h => by cases h; exact .int i
  | .str x, _, h => by cases h; exact .str x
  | .list ds, _, h => by
    cases h with
    | lst n e a => exact .lst (fun z => n (k _ z)) e (Da.weak1All k ds a)
  | .tuple ds, _, h => by
    cases h with
    | tup n e a => exact .tup (fun z => n (k _ z)) e (Da.weak1All k ds a)
  | .dict _, _, h => nomatch h
theorem Da.weak1All {S S' : Addr → Prop} {H : Hp} (k : ∀ a, S a → S' a) : ∀ (ds : List PyData) {vs : List V}, DaAll S' H vs ds → DaAll S H vs ds
  | [], _, h => by cases h; exact .nil
  | d :: ds, _, h => by
    cases h with
    | cons a b => exact .cons (Da.weak1 k d a) (Da.weak1All k ds b)
end
theorem weak0 {S : Addr → Prop} {H : Hp} (ds : List PyData) {vs : List V} (h : DaAll S H vs ds) : DaAll (fun _ => False) H vs ds := Da.weak1All (fun _ z => z.elim) ds h
/-- a list or a tuple of the program's own -/
def Bq (H : Hp) (a : Addr) (ns : List Int) : Prop := H a = some (.lst (ns.map V.int)) ∨ H a = some (.tup (ns.map V.int))
theorem Bq.same {H H' : Hp} {a : Addr} {ns : List Int} (h : Bq H a ns) (s : Same H H') : Bq H' a ns := by
  rcases h with h | h
  · exact .inl (s _ _ h)
  · exact .inr (s _ _ h)
theorem Bq.sq {K : PySem.W.Frag} {H : Hp} {a : Addr} {ns : List Int} (h : Bq H a ns) : Sq2 K H a (ns.map V.int) := by
  rcases h with h | h
  · exact .inl (sq1 h)
  · exact .inr (st1 h)
theorem ints_of {S : Addr → Prop} {H : Hp} {p : PyData → Bool} {q : Int → Prop} (hp : ∀ d, p d = true → ∃ n, d = .int n ∧ q n) : ∀ {xs : List V} {ds : List PyData}, DaAll S H xs ds → ds.all p = true → ∃ ns : List Int, xs = ns.map V.int ∧ ns.length = ds.length ∧ ∀ n ∈ ns, q n
  | _, _, .nil, _ => ⟨[], rfl, rfl, fun n hn => by cases hn⟩
  | _, _, .cons a r, h => by
    rw [List.all_cons, Bool.and_eq_true] at h
    obtain ⟨ns, e, l, k⟩ := ints_of hp r h.2
    obtain ⟨n, rfl, hn⟩ := hp _ h.1
    cases a
    refine ⟨n :: ns, by rw [e]; rfl, by simp [l], fun m hm => ?_⟩
    rcases List.mem_cons.mp hm with rfl | hm
    · exact hn
    · exact k m hm
theorem byte_int (d : PyData) (h : byteD d = true) : ∃ n, d = .int n ∧ (0 ≤ n ∧ n < 256) := by
  cases d with
  | int i =>
    have h' : (decide (0 ≤ i) && decide (i ≤ 255)) = true := h
    rw [Bool.and_eq_true, decide_eq_true_iff, decide_eq_true_iff] at h'
    exact ⟨i, rfl, h'.1, by omega⟩
  | _ => cases h
theorem codesOf {S : Addr → Prop} {H : Hp} {y : V} {d : PyData} (h : Da S H y d) (hc : codesD d = true) : ∃ (a : Addr) (ns : List Int), y = .ref a ∧ Bq H a ns ∧ Bts ns ∧ ns.length ≤ lenD d := by
  cases h with
  | @lst a xs ds na e al =>
    obtain ⟨ns, rfl, l, k⟩ := ints_of byte_int al hc
    exact ⟨a, ns, rfl, .inl e, k, Nat.le_of_eq l⟩
  | @tup a xs ds na e al =>
    obtain ⟨ns, rfl, l, k⟩ := ints_of byte_int al hc
    exact ⟨a, ns, rfl, .inr e, k, Nat.le_of_eq l⟩
  | _ => cases hc
theorem codesOf2 {S : Addr → Prop} {H : Hp} {y : V} {d : PyData} (h : Da S H y d) (hc : codesD d = true) : ∃ (a : Addr) (ns : List Int), y = .ref a ∧ Bq H a ns ∧ Bts ns ∧ ns.length = lenD d := by
  cases h with
  | @lst a xs ds na e al =>
    obtain ⟨ns, rfl, l, k⟩ := ints_of byte_int al hc
    exact ⟨a, ns, rfl, .inl e, k, l⟩
  | @tup a xs ds na e al =>
    obtain ⟨ns, rfl, l, k⟩ := ints_of byte_int al hc
    exact ⟨a, ns, rfl, .inr e, k, l⟩
  | _ => cases hc

/-! ### slips of any parts -/
open Cm (Da DaAll)
theorem vals_revP : ∀ {xs : List V} {us : List Value}, Vals xs us → Vals xs.reverse us.reverse
  | _, _, .nil => .nil
  | _, _, .cons r t => by
    rw [List.reverse_cons, List.reverse_cons]
    exact (vals_revP t).append (.cons r .nil)
theorem mk_kbP {K : PySem.W.Frag} {E f : Addr} {fd : FuncData} (F : FunD K "__init__" "Slip.__init__" (defArgs s_Slip_init) (defBody s_Slip_init) (defScope s_Slip_init) [.ref E] [("last", .bl true), ("mask", .non)] f fd) : KBn K fd ["self", "kind", "talk", "data", "last", "mask"] 4 ["mask", "last"] (fun us ws => us ++ ws.reverse) (fun vs zs => vs ++ zs.reverse) := by
  obtain ⟨_, h⟩ := F.kbindsD (ps := ["self", "kind", "talk", "data", "last", "mask"]) 4 ["mask", "last"] (fun us _ ws => us ++ ws.reverse) (by simp) (fun r1 _ r3 => r1.append (vals_revP r3)) (fun T kV doc pm an cdv ct us its ws h1 h2 h3 => match us, its, ws, h1, h2, h3 with | [_, _, _, _], [_], [_, _], _, _, _ => ⟨_, rfl, rfl⟩)
  exact h
theorem mk_kbN {K : PySem.W.Frag} {E f : Addr} {fd : FuncData} (F : FunD K "__init__" "Slip.__init__" (defArgs s_Slip_init) (defBody s_Slip_init) (defScope s_Slip_init) [.ref E] [("last", .bl true), ("mask", .non)] f fd) : KBn K fd ["self", "kind", "talk", "data", "last", "mask"] 1 ["last", "data", "mask", "kind", "talk"] (fun us ws => us ++ perm5 ws) (fun vs zs => vs ++ perm5 zs) := by
  obtain ⟨_, h⟩ := F.kbindsD (ps := ["self", "kind", "talk", "data", "last", "mask"]) 1 ["last", "data", "mask", "kind", "talk"] (fun us _ ws => us ++ perm5 ws) (by simp) (fun r1 _ r3 => r1.append (vals_perm5 r3)) (fun T kV doc pm an cdv ct us its ws h1 h2 h3 => match us, its, ws, h1, h2, h3 with | [_], [_], [_, _, _, _, _], _, _, _ => ⟨_, rfl, rfl⟩)
  exact h
def boolD : PyData → Bool
  | .bool _ => true
  | _ => false
def trueD : PyData → Bool
  | .bool b => b
  | _ => false
def ctlD : PyData → Bool
  | .int i => decide (8 ≤ i)
  | _ => false
def kindD : PyData → Bool
  | .int i => isSort i
  | _ => false
def talkD : PyData → Bool
  | .int i => decide (0 ≤ i) && decide (i ≤ 31)
  | _ => false
def maskQ : PyData → Bool
  | .none => true
  | .list ds => decide (ds.length = 4) && ds.all byteD
  | .tuple ds => decide (ds.length = 4) && ds.all byteD
  | _ => false
def dataQ (k d : PyData) : Bool := codesD d && !(ctlD k && decide (120 < lenD d))
def lastQ (k l : PyData) : Bool := boolD l && !(ctlD k && !trueD l)
/-- the first part that can't be -/
def wrongP (k t d l m : PyData) : Option Str := if kindD k = true then if talkD t = true then if dataQ k d = true then if lastQ k l = true then if maskQ m = true then none else some (Str.ofString "mask") else some (Str.ofString "last") else some (Str.ofString "data") else some (Str.ofString "talk") else some (Str.ofString "kind")
def optS : Option Str → V
  | none => .non
  | some p => .str p
theorem wp1 {k t d l m : PyData} (h : ¬ kindD k = true) : wrongP k t d l m = some (Str.ofString "kind") := if_neg h
theorem wp2 {k t d l m : PyData} (h1 : kindD k = true) (h : ¬ talkD t = true) : wrongP k t d l m = some (Str.ofString "talk") := by
  unfold wrongP
  rw [if_pos h1, if_neg h]
theorem wp3 {k t d l m : PyData} (h1 : kindD k = true) (h2 : talkD t = true) (h : ¬ dataQ k d = true) : wrongP k t d l m = some (Str.ofString "data") := by
  unfold wrongP
  rw [if_pos h1, if_pos h2, if_neg h]
theorem wp4 {k t d l m : PyData} (h1 : kindD k = true) (h2 : talkD t = true) (h3 : dataQ k d = true) (h : ¬ lastQ k l = true) : wrongP k t d l m = some (Str.ofString "last") := by
  unfold wrongP
  rw [if_pos h1, if_pos h2, if_pos h3, if_neg h]
theorem wp5 {k t d l m : PyData} (h1 : kindD k = true) (h2 : talkD t = true) (h3 : dataQ k d = true) (h4 : lastQ k l = true) (h : ¬ maskQ m = true) : wrongP k t d l m = some (Str.ofString "mask") := by
  unfold wrongP
  rw [if_pos h1, if_pos h2, if_pos h3, if_pos h4, if_neg h]
theorem wp0 {k t d l m : PyData} (h1 : kindD k = true) (h2 : talkD t = true) (h3 : dataQ k d = true) (h4 : lastQ k l = true) (h : maskQ m = true) : wrongP k t d l m = none := by
  unfold wrongP
  rw [if_pos h1, if_pos h2, if_pos h3, if_pos h4, if_pos h]
theorem wp_all {k t d l m : PyData} (h : wrongP k t d l m = none) : kindD k = true ∧ talkD t = true ∧ dataQ k d = true ∧ lastQ k l = true ∧ maskQ m = true := by
  by_cases h1 : kindD k = true
  · by_cases h2 : talkD t = true
    · by_cases h3 : dataQ k d = true
      · by_cases h4 : lastQ k l = true
        · by_cases h5 : maskQ m = true
          · exact ⟨h1, h2, h3, h4, h5⟩
          · rw [wp5 h1 h2 h3 h4 h5] at h; cases h
        · rw [wp4 h1 h2 h3 h4] at h; cases h
      · rw [wp3 h1 h2 h3] at h; cases h
    · rw [wp2 h1 h2] at h; cases h
  · rw [wp1 h1] at h; cases h
theorem wp_len {k t d l m : PyData} {p : Str} (h : wrongP k t d l m = some p) : p.length ≤ 1000 := by
  by_cases h1 : kindD k = true
  · by_cases h2 : talkD t = true
    · by_cases h3 : dataQ k d = true
      · by_cases h4 : lastQ k l = true
        · by_cases h5 : maskQ m = true
          · rw [wp0 h1 h2 h3 h4 h5] at h; cases h
          · rw [wp5 h1 h2 h3 h4 h5] at h; cases h; decide +kernel
        · rw [wp4 h1 h2 h3 h4] at h; cases h; decide +kernel
      · rw [wp3 h1 h2 h3] at h; cases h; decide +kernel
    · rw [wp2 h1 h2] at h; cases h; decide +kernel
  · rw [wp1 h1] at h; cases h; decide +kernel
section
variable {P : Program} {w : World} {K : PySem.W.Frag} {mg : Str → Option Value} {base : Heap}
theorem ok_BadSlip (T : Tx K mg) : FnOk P w K mg base CX0 1 T.f_BadSlip T.fd_BadSlip ["self", "part"] (spF1 T.C_BadSlip "part") := by
  refine T.F_BadSlip.ok sc_BadSlip (fun vs H Q E h => ?_) (fun cdv A outer s H vs Q E hr h => ?_)
  · obtain ⟨a, x, rfl, _⟩ := h
    rfl
  · obtain ⟨a, x, rfl, ea, fx, q⟩ := h
    refine ⟨_, (pss_cons (ps_expr (pe_einit (B := "ValueError") (newId := "ValueError.__new__") (initId := "ValueError.__init__") (bm := bm_ValueError) (by rfl) T.m_ValueError (by decide +kernel) typ_ValueError (by decide +kernel) T.v_ValueError (by decide +kernel) (pa_cons (pv 0) (pa_cons (pe_joined (.cons pe_str (.cons (pe_fmt (pv 1)) .nil))) pa_nil))))
      (pss_one (ps_oe (B := "ValueError") (newId := "ValueError.__new__") (initId := "ValueError.__init__") (bm := bm_ValueError) (pv 0) (pv 1)))), ?_⟩
    refine ⟨.ref a, rfl, ?_⟩
    show tJs _ _ _ _ _
    refine js_fit (n := 0) (show PcAll _ _ _ from ⟨pc_lit (by decide +kernel), pc_fmt fx rfl, trivial⟩) (by decide) (by decide) fun out => ⟨a, T.C_BadSlip, [.str out], rfl, (by decide : 1 ≤ 1000), T.oe_BadSlip, ea, ?_⟩
    refine ⟨x, rfl, .ref a, rfl, a, T.C_BadSlip, rfl, T.oe_BadSlip, T.n_BadSlip_part, .inl ⟨ea, fun dx hdx ne => ?_⟩⟩
    exact q _ dx ((Keep.refl a H).new hdx).upd hdx upd_same (by rw [upd_ne ne]; exact upd_same)
def spCBG : Sp := fun vs H Q _ => ∃ (S : Addr → Prop) (x : V) (d : PyData), vs = [x] ∧ Da S H x d ∧ ∀ H', Same H H' → Q (.bl (maskQ d)) H'
theorem ok_can_be_mask (T : Tx K mg) : FnOk P w K mg base CX0 4 T.f_can_be_mask T.fd_can_be_mask ["thing"] spCBG := by
  refine T.F_can_be_mask.ok sc_can_be_mask (fun vs H Q E h => ?_) (fun cdv A outer s H vs Q E hr h => ?_)
  · obtain ⟨S, x, d, rfl, _⟩ := h
    rfl
  · obtain ⟨S, x, d, rfl, hd, q⟩ := h
    obtain ⟨n, bl, ty, k3, e2⟩ := Da.kitL (K := K) hd
    refine ⟨_, (pss_cons (ps_if (pt_val (pe_callB (r := rIsi K) call_isi (by rfl) T.m_isinstance (by decide +kernel) (pa_cons (pv 0) (pa_cons (pe_bltn (v := .ty "list") (u := .type "list") (by rfl) T.m_list (by decide +kernel) rfl) pa_nil)))) (pss_one (ps_ret (pe_call (ok_is_mask T) (hr.mono (by omega)) (by rfl) T.g_is_mask T.F_is_mask.kp T.b_is_mask .nil pass0 (pa_cons (pe_callTy call_tuple_of (by rfl) T.m_tuple (by decide +kernel) (pa_cons (pv 0) pa_nil)) pa_nil)))) pss_nil)
      (pss_one (ps_ret (pe_or (pe_cmpR op_isN (pv 0) pe_non (nomark _)) (pe_one (pe_call (ok_is_mask T) (hr.mono (by omega)) (by rfl) T.g_is_mask T.F_is_mask.kp T.b_is_mask .nil pass0 (pa_cons (pv 0) pa_nil))))))), ?_⟩
    refine ⟨x, rfl, x, _, _, _, bl, rfl, .ty _, ty, k3, _, rfl, ?_⟩
    subst e2
    cases hd with
    | non => exact ⟨.non, rfl, rfl, _, rfl, q _ (Same.refl H)⟩
    | bl b => exact ⟨.bl b, rfl, rfl, _, rfl, .bl b, rfl, S, .bl b, .bool b, rfl, .bl b, fun H' s => q H' s⟩
    | int b => exact ⟨.int b, rfl, rfl, _, rfl, .int b, rfl, S, .int b, .int b, rfl, .int b, fun H' s => q H' s⟩
    | str b => exact ⟨.str b, rfl, rfl, _, rfl, .str b, rfl, S, .str b, .str b, rfl, .str b, fun H' s => q H' s⟩
    | @lst a xs ds na ea al =>
      refine ⟨.ref a, rfl, a, _, rfl, .inl ⟨sq1 ea, fun l hl => ⟨fun _ => False, .ref l, .tuple ds, rfl, .tup (fun z => z) upd_same (Da.keepAll (S := fun _ => False) (fun b o _ e => same_upd hl b o e) ds (weak0 ds al)), fun H' s => q H' ((same_upd hl).trans s)⟩⟩⟩
    | @tup a xs ds na ea al => exact ⟨.ref a, rfl, rfl, _, rfl, .ref a, rfl, S, .ref a, .tuple ds, rfl, .tup na ea al, fun H' s => q H' s⟩
end
end K8

set_option Elab.async false
set_option linter.all false
set_option maxRecDepth 100000
set_option maxHeartbeats 4000000
namespace K8
open PySem PySem.Spec PyProof.Rows L2
/-! ### slips of any parts, made or refused -/
open Cm (Da DaAll)
/-- a mask, or none -/
def Mq (H : Hp) (v : V) (mk : Option (List Int)) : Prop := match mk with
  | none => v = .non
  | some ms => ∃ b : Addr, v = .ref b ∧ Bq H b ms ∧ Bts ms ∧ ms.length = 4
theorem Mq.same {H H' : Hp} {v : V} {mk : Option (List Int)} (h : Mq H v mk) (s : Same H H') : Mq H' v mk := by
  cases mk with
  | none => exact h
  | some ms =>
    obtain ⟨b, e, hb, r⟩ := h
    exact ⟨b, e, hb.same s, r⟩
/-- what a slip is made of -/
structure SlD where
  k : Int
  t : Int
  ns : List Int
  l : Bool
  m : Option (List Int)
structure SlOk (d : SlD) : Prop where
  k : isSort d.k = true
  t0 : 0 ≤ d.t
  t1 : d.t ≤ 31
  b : Bts d.ns
  n : d.ns.length ≤ 1000000
  c : 8 ≤ d.k → d.ns.length ≤ 120 ∧ d.l = true
  m : ∀ ms, d.m = some ms → Bts ms ∧ ms.length = 4
theorem Da.kitB {S : Addr → Prop} {H : Hp} {K : PySem.W.Frag} {v : V} {d : PyData} (h : Da S H v d) : ∃ (n : String) (b : Bool), TyX K H v (.type n) ∧ PySem.W.kitOne K (.type n) (.type "bool") = some b ∧ b = boolD d := by
  cases h with
  | non => exact ⟨"NoneType", false, .base .non, kit_ty (by decide +kernel), rfl⟩
  | bl y => exact ⟨"bool", true, .base (.bl y), kit_ty (by decide +kernel), rfl⟩
  | int y => exact ⟨"int", false, .base (.int y), kit_ty (by decide +kernel), rfl⟩
  | str y => exact ⟨"str", false, .base (.str y), kit_ty (by decide +kernel), rfl⟩
  | lst _ e _ => exact ⟨"list", false, .base (.lst e), kit_ty (by decide +kernel), rfl⟩
  | tup _ e _ => exact ⟨"tuple", false, .base (.tup e), kit_ty (by decide +kernel), rfl⟩
theorem good {S : Addr → Prop} {H : Hp} {k t d l m : V} {dk dt dd dl dm : PyData} (hk : Da S H k dk) (ht : Da S H t dt) (hd : Da S H d dd) (hl : Da S H l dl) (hm : Da S H m dm) (nd : lenD dd ≤ 1000000) (h : wrongP dk dt dd dl dm = none) :
    ∃ (s : SlD) (a : Addr), k = .int s.k ∧ t = .int s.t ∧ d = .ref a ∧ l = .bl s.l ∧ SlOk s ∧ Bq H a s.ns ∧ Mq H m s.m := by
  obtain ⟨h1, h2, h3, h4, h5⟩ := wp_all h
  cases hk with
  | int i =>
    cases ht with
    | int j =>
      have h2' : (decide (0 ≤ j) && decide (j ≤ 31)) = true := h2
      rw [Bool.and_eq_true, decide_eq_true_iff, decide_eq_true_iff] at h2'
      have h3' : (codesD dd && !(ctlD (.int i) && decide (120 < lenD dd))) = true := h3
      rw [Bool.and_eq_true] at h3'
      have hlen0 := codesOf2 hd h3'.1
      obtain ⟨a, ns, rfl, ha, hb, hln⟩ := hlen0
      cases hl with
      | bl b =>
        have h4' : (true && !(decide (8 ≤ i) && !b)) = true := h4
        have c8 : 8 ≤ i → ns.length ≤ 120 ∧ b = true := fun z => by
          have e8 : decide (8 ≤ i) = true := decide_eq_true z
          constructor
          · have z3 : (!(decide (8 ≤ i) && decide (120 < lenD dd))) = true := h3'.2
            rw [e8, Bool.true_and, Bool.not_eq_true', decide_eq_false_iff_not] at z3
            omega
          · rw [e8] at h4'
            cases b with
            | true => rfl
            | false => cases h4'
        have mm : ∃ mk : Option (List Int), Mq H m mk ∧ ∀ ms, mk = some ms → Bts ms ∧ ms.length = 4 := by
          cases hm with
          | non => exact ⟨none, rfl, fun ms e => nomatch e⟩
          | @lst b xs ds nb e al =>
            have h5' : (decide (ds.length = 4) && ds.all byteD) = true := h5
            rw [Bool.and_eq_true, decide_eq_true_iff] at h5'
            obtain ⟨ms, rfl, l4, bm⟩ := ints_of byte_int al h5'.2
            exact ⟨some ms, ⟨b, rfl, .inl e, bm, l4.trans h5'.1⟩, fun ms' e => by cases e; exact ⟨bm, l4.trans h5'.1⟩⟩
          | @tup b xs ds nb e al =>
            have h5' : (decide (ds.length = 4) && ds.all byteD) = true := h5
            rw [Bool.and_eq_true, decide_eq_true_iff] at h5'
            obtain ⟨ms, rfl, l4, bm⟩ := ints_of byte_int al h5'.2
            exact ⟨some ms, ⟨b, rfl, .inr e, bm, l4.trans h5'.1⟩, fun ms' e => by cases e; exact ⟨bm, l4.trans h5'.1⟩⟩
          | _ => cases h5
        obtain ⟨mk, hmk, hms⟩ := mm
        exact ⟨⟨i, j, ns, b, mk⟩, a, rfl, rfl, rfl, rfl, ⟨h1, h2'.1, h2'.2, hb, by show ns.length ≤ _; omega, c8, hms⟩, ha, hmk⟩
      | _ => cases h4
    | _ => cases h2
  | _ => cases h1
section
variable {P : Program} {w : World} {K : PySem.W.Frag} {mg : Str → Option Value} {base : Heap}
def spWPG : Sp := fun vs H Q _ => ∃ (S : Addr → Prop) (k t d l m : V) (dk dt dd dl dm : PyData), vs = [k, t, d, l, m] ∧ Da S H k dk ∧ Da S H t dt ∧ Da S H d dd ∧ Da S H l dl ∧ Da S H m dm ∧ lenD dd ≤ 1000000 ∧ ∀ H', Same H H' → Q (optS (wrongP dk dt dd dl dm)) H'
theorem ok_wrong_part (T : Tx K mg) : FnOk P w K mg base CX0 5 T.f_wrong_part T.fd_wrong_part ["kind", "talk", "data", "last", "mask"] spWPG := by
  refine T.F_wrong_part.ok sc_wrong_part (fun vs H Q E h => ?_) (fun cdv A outer s H vs Q E hr h => ?_)
  · obtain ⟨S, k, t, d, l, m, dk, dt, dd, dl, dm, rfl, _⟩ := h
    rfl
  · obtain ⟨S, k, t, d, l, m, dk, dt, dd, dl, dm, rfl, hk, ht, hd, hl, hm, nd, q⟩ := h
    refine ⟨_, (pss_cons (ps_if (pw_or (pt_not (pt_val (pe_call (ok_is_number T) (hr.mono (by omega)) (by rfl) T.g_is_number T.F_is_number.kp T.b_is_number .nil pass0 (pa_cons (pv 0) pa_nil)))) (pw_or1 (pt_cmpR (op_notIn_nd T.q_SORT_WORDS) (pv 0) (pe_glob (v := .ref T.a_SORT_WORDS) (by rfl) T.g_SORT_WORDS rfl) rfl))).pt (pss_one (ps_ret pe_str)) pss_nil)
      (pss_cons (ps_if (pw_or (pt_not (pt_val (pe_call (ok_is_number T) (hr.mono (by omega)) (by rfl) T.g_is_number T.F_is_number.kp T.b_is_number .nil pass0 (pa_cons (pv 1) pa_nil)))) (pw_or1 (pt_not (pt_chain op_le op_le pe_int (pv 1) (pe_glob (v := .int 31) (by rfl) T.g_GREATEST_TALK ⟨_, rfl⟩))))).pt (pss_one (ps_ret pe_str)) pss_nil)
      (pss_cons (ps_if (pw_or (pt_not (pt_val (pe_call (ok_are_codesD T) (hr.mono (by omega)) (by rfl) T.g_are_codes T.F_are_codes.kp T.b_are_codes .nil pass0 (pa_cons (pv 2) pa_nil)))) (pw_or1 (pw_and (pt_val (pe_call (ok_is_control T) (hr.mono (by omega)) (by rfl) T.g_is_control T.F_is_control.kp T.b_is_control .nil pass0 (pa_cons (pv 0) pa_nil))) (pw_and1 (pt_cmpR op_gt (pe_callB call_len_seq (by rfl) T.m_len (by decide +kernel) (pa_cons (pv 2) pa_nil)) (pe_glob (v := .int 120) (by rfl) T.g_GREATEST_CONTROL ⟨_, rfl⟩) (nomark _)))).pt)).pt (pss_one (ps_ret pe_str)) pss_nil)
      (pss_cons (ps_if (pw_or (pt_not (pt_val (pe_callB (r := rIsi K) call_isi (by rfl) T.m_isinstance (by decide +kernel) (pa_cons (pv 3) (pa_cons (pe_bltn (v := .ty "bool") (u := .type "bool") (by rfl) T.m_bool (by decide +kernel) rfl) pa_nil))))) (pw_or1 (pw_and (pt_val (pe_call (ok_is_control T) (hr.mono (by omega)) (by rfl) T.g_is_control T.F_is_control.kp T.b_is_control .nil pass0 (pa_cons (pv 0) pa_nil))) (pw_and1 (pt_not (pt_val (pv 3))))).pt)).pt (pss_one (ps_ret pe_str)) pss_nil)
      (pss_cons (ps_if (pt_not (pt_val (pe_call (ok_can_be_mask T) (hr.mono (by omega)) (by rfl) T.g_can_be_mask T.F_can_be_mask.kp T.b_can_be_mask .nil pass0 (pa_cons (pv 4) pa_nil)))) (pss_one (ps_ret pe_str)) pss_nil)
      (pss_one (ps_ret pe_non))))))), ?_⟩
    refine ⟨k, rfl, S, k, dk, rfl, hk, _, rfl, ?_⟩
    by_cases h1 : kindD dk = true
    · cases hk with
      | int i =>
        have eS : (!(valV sortKV i).isSome) = false := by
          rw [sort_in_kv, show isSort i = true from h1]
          rfl
        refine ⟨.int i, rfl, i, rfl, rfl, _, rfl, ite2 (fun e => nomatch (e.symm.trans eS)) (fun _ => ?_)⟩
        refine ⟨t, rfl, S, t, dt, rfl, ht, _, rfl, ?_⟩
        by_cases h2 : talkD dt = true
        · cases ht with
          | int j =>
            have h2' : (decide (0 ≤ j) && decide (j ≤ 31)) = true := h2
            rw [Bool.and_eq_true] at h2'
            refine ⟨.int j, rfl, 0, j, rfl, rfl, _, rfl, ?_⟩
            rw [h2'.1]
            refine ⟨j, 31, rfl, rfl, _, rfl, ?_⟩
            rw [h2'.2]
            refine ⟨d, rfl, S, d, dd, rfl, hd, nd, fun H1 s1 => ?_⟩
            cases hC : decide (8 ≤ i) with
            | false =>
              replace hl := Da.keep (fun b o _ e => s1 b o e) _ hl
              replace hm := Da.keep (fun b o _ e => s1 b o e) _ hm
              obtain ⟨n, b, ty, kb, eb⟩ := Da.kitB (K := K) hl
              have zz : ∀ (Hz : Hp) (p : Option Str), Same H1 Hz → wrongP (.int i) (.int j) dd dl dm = p → Q (optS p) Hz := fun Hz p s e => by
                have := q Hz (s1.trans s)
                rw [e] at this
                exact this
              refine ⟨_, rfl, ?_⟩
              cases hc : codesD dd with
              | false => exact zz _ _ (Same.refl H1) (wp3 h1 h2 (by show ¬ (codesD dd && _) = true; rw [hc]; simp))
              | true =>
                refine ⟨.int i, rfl, i, rfl, _, rfl, ?_⟩
                rw [hC]
                have h3 : dataQ (.int i) dd = true := by
                  show (codesD dd && !(decide (8 ≤ i) && decide (120 < lenD dd))) = true
                  rw [hc, hC]
                  rfl
                refine ⟨l, rfl, l, _, _, _, b, rfl, .ty _, ty, kb, _, rfl, ?_⟩
                subst eb
                cases hb : boolD dl with
                | false => exact zz _ _ (Same.refl H1) (wp4 h1 h2 h3 (by show ¬ (boolD dl && _) = true; rw [hb]; simp))
                | true =>
                  refine ⟨.int i, rfl, i, rfl, _, rfl, ?_⟩
                  rw [hC]
                  have h4 : lastQ (.int i) dl = true := by
                    show (boolD dl && !(decide (8 ≤ i) && !trueD dl)) = true
                    rw [hb, hC]
                    rfl
                  exact ⟨m, rfl, S, m, dm, rfl, hm, fun H2 s2 => ⟨_, rfl, ite2 (fun e => zz H2 _ s2 (wp5 h1 h2 h3 h4 (fun z => by rw [z] at e; cases e))) (fun e => zz H2 _ s2 (wp0 h1 h2 h3 h4 (by cases z : maskQ dm with | true => rfl | false => exact absurd (show (!maskQ dm) = true by rw [z]; rfl) e)))⟩⟩
            | true =>
              replace hl := Da.keep (fun b o _ e => s1 b o e) _ hl
              replace hm := Da.keep (fun b o _ e => s1 b o e) _ hm
              obtain ⟨n, b, ty, kb, eb⟩ := Da.kitB (K := K) hl
              have zz : ∀ (Hz : Hp) (p : Option Str), Same H1 Hz → wrongP (.int i) (.int j) dd dl dm = p → Q (optS p) Hz := fun Hz p s e => by
                have := q Hz (s1.trans s)
                rw [e] at this
                exact this
              refine ⟨_, rfl, ?_⟩
              cases hc : codesD dd with
              | false => exact zz _ _ (Same.refl H1) (wp3 h1 h2 (by show ¬ (codesD dd && _) = true; rw [hc]; simp))
              | true =>
                refine ⟨.int i, rfl, i, rfl, _, rfl, ?_⟩
                rw [hC]
                obtain ⟨a, ns, rfl, ha, hbt, hln⟩ := codesOf2 (Da.keep (fun b o _ e => s1 b o e) _ hd) hc
                refine ⟨.ref a, rfl, a, _, rfl, ha.sq, _, 120, rfl, rfl, _, rfl, ite2 (fun e => ?_) (fun e => ?_)⟩
                · have e' : (120 : Int) < ((ns.map V.int).length : Int) := of_decide_eq_true e
                  rw [List.length_map] at e'
                  exact zz _ _ (Same.refl H1) (wp3 h1 h2 (by
                    show ¬ (codesD dd && !(decide (8 ≤ i) && decide (120 < lenD dd))) = true
                    rw [hc, hC, decide_eq_true (show 120 < lenD dd by omega)]
                    simp))
                · have e' : ¬ (120 : Int) < ((ns.map V.int).length : Int) := fun z => e (decide_eq_true z)
                  rw [List.length_map] at e'
                  have h3 : dataQ (.int i) dd = true := by
                    show (codesD dd && !(decide (8 ≤ i) && decide (120 < lenD dd))) = true
                    rw [hc, hC, decide_eq_false (show ¬ 120 < lenD dd by omega)]
                    rfl
                  refine ⟨l, rfl, l, _, _, _, b, rfl, .ty _, ty, kb, _, rfl, ?_⟩
                  subst eb
                  cases hb : boolD dl with
                  | false => exact zz _ _ (Same.refl H1) (wp4 h1 h2 h3 (by show ¬ (boolD dl && _) = true; rw [hb]; simp))
                  | true =>
                    cases hl with
                    | bl b =>
                      refine ⟨.int i, rfl, i, rfl, _, rfl, ?_⟩
                      rw [hC]
                      refine ⟨.bl b, rfl, b, rfl, ?_⟩
                      cases b with
                      | false => exact zz _ _ (Same.refl H1) (wp4 h1 h2 h3 (by show ¬ (true && !(decide (8 ≤ i) && !false)) = true; rw [hC]; simp))
                      | true =>
                        have h4 : lastQ (.int i) (.bool true) = true := by
                          show (true && !(decide (8 ≤ i) && !true)) = true
                          rw [hC]
                          rfl
                        exact ⟨m, rfl, S, m, dm, rfl, hm, fun H2 s2 => ⟨_, rfl, ite2 (fun e => zz H2 _ s2 (wp5 h1 h2 h3 h4 (fun z => by rw [z] at e; cases e))) (fun e => zz H2 _ s2 (wp0 h1 h2 h3 h4 (by cases z : maskQ dm with | true => rfl | false => exact absurd (show (!maskQ dm) = true by rw [z]; rfl) e)))⟩⟩
                    | _ => cases hb
          | _ => cases h2
        · rw [wp2 h1 h2] at q
          cases ht with
          | int j =>
            refine ⟨.int j, rfl, 0, j, rfl, rfl, _, rfl, ?_⟩
            have h2' : ¬ (decide (0 ≤ j) && decide (j ≤ 31)) = true := h2
            cases h0 : decide (0 ≤ j) with
            | false => exact ⟨false, rfl, q _ (Same.refl H)⟩
            | true =>
              rw [h0, Bool.true_and] at h2'
              refine ⟨j, 31, rfl, rfl, _, rfl, ?_⟩
              rw [Bool.eq_false_iff.mpr h2']
              exact q _ (Same.refl H)
          | _ => exact q _ (Same.refl H)
      | _ => cases h1
    · rw [wp1 h1] at q
      cases hk with
      | int i =>
        have eS : (!(valV sortKV i).isSome) = true := by
          rw [sort_in_kv, show isSort i = false from Bool.eq_false_iff.mpr h1]
          rfl
        exact ⟨.int i, rfl, i, rfl, rfl, _, rfl, ite2 (fun e => q _ (Same.refl H)) (fun e => absurd eS e)⟩
      | _ => exact q _ (Same.refl H)
theorem Bq.keepI {H H' : Hp} {a x C dx : Addr} {fs : List (Str × V)} {ns : List Int} (h : Bq H a ns) (k : Keep x H H') (ex : H x = some (.ins C dx fs)) : Bq H' a ns := by
  rcases h with h | h
  · exact .inl (k _ _ (fun z => by rw [z, ex] at h; cases h) h)
  · exact .inr (k _ _ (fun z => by rw [z, ex] at h; cases h) h)
theorem Mq.keepI {H H' : Hp} {x C dx : Addr} {fs : List (Str × V)} {v : V} {mk : Option (List Int)} (h : Mq H v mk) (k : Keep x H H') (ex : H x = some (.ins C dx fs)) : Mq H' v mk := by
  cases mk with
  | none => exact h
  | some ms =>
    obtain ⟨b, e, hb, r⟩ := h
    exact ⟨b, e, hb.keepI k ex, r⟩
theorem tup_keepI {H H' : Hp} {a x C dx : Addr} {fs : List (Str × V)} {xs : List V} (h : H a = some (.tup xs)) (k : Keep x H H') (ex : H x = some (.ins C dx fs)) : H' a = some (.tup xs) := k _ _ (fun z => by rw [z, ex] at h; cases h) h
def SlFs (q : Addr) (d : SlD) (mv : V) : List (Str × V) := [("kind", .int d.k), ("talk", .int d.t), ("data", .ref q), ("last", .bl d.l), ("mask", mv)]
def Mt (H : Hp) (v : V) (mk : Option (List Int)) : Prop := match mk with
  | none => v = .non
  | some ms => ∃ b : Addr, v = .ref b ∧ H b = some (.tup (ms.map V.int))
theorem Mt.same {H H' : Hp} {v : V} {mk : Option (List Int)} (h : Mt H v mk) (s : Same H H') : Mt H' v mk := by
  cases mk with
  | none => exact h
  | some ms =>
    obtain ⟨b, e, hb⟩ := h
    exact ⟨b, e, s _ _ hb⟩
structure SlAt (C : Addr) (H : Hp) (x dx q : Addr) (mv : V) (d : SlD) : Prop where
  obj : H x = some (.ins C dx (SlFs q d mv))
  dat : H q = some (.tup (d.ns.map V.int))
  msk : Mt H mv d.m
def spSlG (C Cb : Addr) : Sp := fun vs H Q E => ∃ (S : Addr → Prop) (x dx : Addr) (k t d l m : V) (dk dt dd dl dm : PyData), vs = [.ref x, k, t, d, l, m] ∧ H x = some (.ins C dx []) ∧ Da S H k dk ∧ Da S H t dt ∧ Da S H d dd ∧ Da S H l dl ∧ Da S H m dm ∧ lenD dd ≤ 1000000 ∧
  (wrongP dk dt dd dl dm = none → ∀ H', Keep x H H' → Q .non H') ∧ (∀ p, wrongP dk dt dd dl dm = some p → Blt Cb "part" (.str p) H E)
theorem ok_Slip_init (T : Tx K mg) : FnOk P w K mg base (L2.CX P w) 6 T.f_Slip_init T.fd_Slip_init ["self", "kind", "talk", "data", "last", "mask"] (spSlG T.C_Slip T.C_BadSlip) := by
  refine T.F_Slip_init.ok sc_Slip_init (fun vs H Q E h => ?_) (fun cdv A outer s H vs Q E hr h => ?_)
  · obtain ⟨S, x, dx, k, t, d, l, m, dk, dt, dd, dl, dm, rfl, _⟩ := h
    rfl
  · obtain ⟨S, x, dx, k, t, d, l, m, dk, dt, dd, dl, dm, rfl, ex, hk, ht, hd, hl, hm, nd, q1, q2⟩ := h
    refine ⟨_, (pss_cons (ps_set (i := 6) sc_Slip_init.nd rfl (.inl rfl) (pe_call (ok_wrong_part T) (hr.mono (by omega)) (by rfl) T.g_wrong_part T.F_wrong_part.kp T.b_wrong_part .nil pass0 (pa_cons (pv 1) (pa_cons (pv 2) (pa_cons (pv 3) (pa_cons (pv 4) (pa_cons (pv 5) pa_nil)))))))
      (pss_cons (ps_if (pt_cmpR op_notN (pv 6) pe_non (nomark _)) (pss_one (ps_raise rfl (takes_of rfl rfl rfl rfl) (pmk_oex (oex_of T.oe_BadSlip rfl) T.i_BadSlip T.t_BadSlip (ok_BadSlip T) (hr.mono (by omega)) T.b_BadSlip .nil pass0 (by rfl) T.g_BadSlip (pa_cons (pv 6) pa_nil)))) pss_nil)
      (pss_cons (ps_fld (pv 0) (pv 1) rfl)
      (pss_cons (ps_fld (pv 0) (pv 2) rfl)
      (pss_cons (ps_fld (pv 0) (pe_callTy call_tuple_of (by rfl) T.m_tuple (by decide +kernel) (pa_cons (pv 3) pa_nil)) rfl)
      (pss_cons (ps_fld (pv 0) (pv 4) rfl)
      (pss_one (ps_fld (pv 0) (pe_ifExp (pt_cmpR op_isN (pv 5) pe_non (nomark _)) pe_non (pe_callTy call_tuple_of (by rfl) T.m_tuple (by decide +kernel) (pa_cons (pv 5) pa_nil))) rfl)))))))), ?_⟩
    refine ⟨k, rfl, t, rfl, d, rfl, l, rfl, m, rfl, S, k, t, d, l, m, dk, dt, dd, dl, dm, rfl, hk, ht, hd, hl, hm, nd, fun H1 s1 => ?_⟩
    cases hw : wrongP dk dt dd dl dm with
    | some p =>
      refine ⟨.str p, rfl, rfl, _, rfl, ?_⟩
      exact ⟨.str p, rfl, (by decide : 1 ≤ 1000), raise1 (.inl ⟨p, rfl, wp_len hw⟩) (fun H' d s hd e => q2 p hw H' d (s1.trans s) (Same.free s1 hd) e)⟩
    | none =>
      obtain ⟨sd, a, rfl, rfl, rfl, rfl, ok, ha, hm⟩ := good hk ht hd hl hm nd hw
      clear hk ht hd hl
      obtain ⟨v, rfl⟩ : ∃ v, v = m := ⟨m, rfl⟩
      obtain ⟨d, rfl⟩ : ∃ d, d = sd := ⟨sd, rfl⟩
      refine ⟨.non, rfl, rfl, _, rfl, ?_⟩
      replace ha := ha
      have ex1 := s1 _ _ ex
      have kp : Keep x H H1 := Same.k s1
      replace ha := ha.same s1
      replace hm := hm.same s1
      refine ⟨.int d.k, rfl, .ref x, rfl, x, T.C_Slip, dx, _, rfl, ex1, T.cl_Slip, T.n_Slip_kind, (by decide), ?_⟩
      have kH2 : Keep x H1 (upd H1 x (.ins T.C_Slip dx (putF "kind" (.int d.k) []))) := (Keep.refl x H1).upd
      have eH2 : (upd H1 x (.ins T.C_Slip dx (putF "kind" (.int d.k) []))) x = some (.ins T.C_Slip dx (putF "kind" (.int d.k) [])) := upd_same
      generalize upd H1 x (.ins T.C_Slip dx (putF "kind" (.int d.k) [])) = H2 at kH2 eH2 ⊢
      replace kp := kp.trans kH2
      replace ha := ha.keepI kH2 ex1
      replace hm := hm.keepI kH2 ex1
      refine ⟨.int d.t, rfl, .ref x, rfl, x, T.C_Slip, dx, _, rfl, eH2, T.cl_Slip, T.n_Slip_talk, (by show 1 < 1000; decide), ?_⟩
      have kH3 : Keep x H2 (upd H2 x (.ins T.C_Slip dx (putF "talk" (.int d.t) (putF "kind" (.int d.k) [])))) := (Keep.refl x H2).upd
      have eH3 : (upd H2 x (.ins T.C_Slip dx (putF "talk" (.int d.t) (putF "kind" (.int d.k) [])))) x = some (.ins T.C_Slip dx (putF "talk" (.int d.t) (putF "kind" (.int d.k) []))) := upd_same
      generalize upd H2 x (.ins T.C_Slip dx (putF "talk" (.int d.t) (putF "kind" (.int d.k) []))) = H3 at kH3 eH3 ⊢
      replace kp := kp.trans kH3
      replace ha := ha.keepI kH3 eH2
      replace hm := hm.keepI kH3 eH2
      rcases ha with ha | ha
      · refine ⟨.ref a, rfl, a, _, rfl, .inl ⟨sq1 ha, fun p hp => ?_⟩⟩
        have sH4 : Same H3 (upd H3 p (.tup (d.ns.map V.int))) := same_upd hp
        have eH4 : (upd H3 p (.tup (d.ns.map V.int))) p = some (.tup (d.ns.map V.int)) := upd_same
        generalize upd H3 p (.tup (d.ns.map V.int)) = H4 at sH4 eH4 ⊢
        have s4 : Same H3 H4 := sH4
        have ep := eH4
        have ex4 := s4 _ _ eH3
        replace kp := kp.trans (Same.k s4)
        replace hm := hm.same s4
        refine ⟨.ref x, rfl, x, T.C_Slip, dx, _, rfl, ex4, T.cl_Slip, T.n_Slip_data, (by show 2 < 1000; decide), ?_⟩
        have kH5 : Keep x H4 (upd H4 x (.ins T.C_Slip dx (putF "data" (.ref p) (putF "talk" (.int d.t) (putF "kind" (.int d.k) []))))) := (Keep.refl x H4).upd
        have eH5 : (upd H4 x (.ins T.C_Slip dx (putF "data" (.ref p) (putF "talk" (.int d.t) (putF "kind" (.int d.k) []))))) x = some (.ins T.C_Slip dx (putF "data" (.ref p) (putF "talk" (.int d.t) (putF "kind" (.int d.k) [])))) := upd_same
        generalize upd H4 x (.ins T.C_Slip dx (putF "data" (.ref p) (putF "talk" (.int d.t) (putF "kind" (.int d.k) [])))) = H5 at kH5 eH5 ⊢
        replace kp := kp.trans kH5
        replace ep := tup_keepI ep kH5 ex4
        replace hm := hm.keepI kH5 ex4
        refine ⟨.bl d.l, rfl, .ref x, rfl, x, T.C_Slip, dx, _, rfl, eH5, T.cl_Slip, T.n_Slip_last, (by show 3 < 1000; decide), ?_⟩
        have kH6 : Keep x H5 (upd H5 x (.ins T.C_Slip dx (putF "last" (.bl d.l) (putF "data" (.ref p) (putF "talk" (.int d.t) (putF "kind" (.int d.k) [])))))) := (Keep.refl x H5).upd
        have eH6 : (upd H5 x (.ins T.C_Slip dx (putF "last" (.bl d.l) (putF "data" (.ref p) (putF "talk" (.int d.t) (putF "kind" (.int d.k) [])))))) x = some (.ins T.C_Slip dx (putF "last" (.bl d.l) (putF "data" (.ref p) (putF "talk" (.int d.t) (putF "kind" (.int d.k) []))))) := upd_same
        generalize upd H5 x (.ins T.C_Slip dx (putF "last" (.bl d.l) (putF "data" (.ref p) (putF "talk" (.int d.t) (putF "kind" (.int d.k) []))))) = H6 at kH6 eH6 ⊢
        replace kp := kp.trans kH6
        replace ep := tup_keepI ep kH6 eH5
        replace hm := hm.keepI kH6 eH5
        refine ⟨v, rfl, rfl, _, rfl, ?_⟩
        have fin : ∀ (H7 : Hp) (mv : V), H7 x = some (.ins T.C_Slip dx (putF "last" (.bl d.l) (putF "data" (.ref p) (putF "talk" (.int d.t) (putF "kind" (.int d.k) []))))) → Same H6 H7 → Mt H7 mv d.m → Q .non (upd H7 x (.ins T.C_Slip dx (putF "mask" mv (putF "last" (.bl d.l) (putF "data" (.ref p) (putF "talk" (.int d.t) (putF "kind" (.int d.k) []))))))) := fun H7 mv e7 s7 m7 => by
          have k7 : Keep x H7 (upd H7 x (.ins T.C_Slip dx (putF "mask" mv (putF "last" (.bl d.l) (putF "data" (.ref p) (putF "talk" (.int d.t) (putF "kind" (.int d.k) []))))))) := (Keep.refl x H7).upd
          exact q1 hw _ ((kp.trans (Same.k s7)).trans k7)
        cases hm' : d.m with
        | none =>
          rw [hm'] at hm
          obtain rfl : v = .non := hm
          refine ⟨.ref x, rfl, x, T.C_Slip, dx, _, rfl, eH6, T.cl_Slip, T.n_Slip_mask, (by show 4 < 1000; decide), ?_⟩
          exact fin H6 .non eH6 (Same.refl H6) (by rw [hm']; rfl)
        | some ms =>
          rw [hm'] at hm
          obtain ⟨b, rfl, hb, _, _⟩ := hm
          rcases hb with hb | hb
          · refine ⟨.ref b, rfl, b, _, rfl, .inl ⟨sq1 hb, fun p7 hp7 => ?_⟩⟩
            have s7 := same_upd (H := H6) (o := .tup (ms.map V.int)) hp7
            refine ⟨.ref x, rfl, x, T.C_Slip, dx, _, rfl, s7 _ _ eH6, T.cl_Slip, T.n_Slip_mask, (by show 4 < 1000; decide), ?_⟩
            exact fin _ (.ref p7) (s7 _ _ eH6) s7 (by rw [hm']; exact ⟨p7, rfl, upd_same⟩)
          · refine ⟨.ref b, rfl, b, _, rfl, .inr ⟨st1 hb, ?_⟩⟩
            refine ⟨.ref x, rfl, x, T.C_Slip, dx, _, rfl, eH6, T.cl_Slip, T.n_Slip_mask, (by show 4 < 1000; decide), ?_⟩
            exact fin _ (.ref b) eH6 (Same.refl H6) (by rw [hm']; exact ⟨b, rfl, hb⟩)
      · refine ⟨.ref a, rfl, a, _, rfl, .inr ⟨st1 ha, ?_⟩⟩
        obtain ⟨H4, hH4⟩ : ∃ H4, H4 = H3 := ⟨_, rfl⟩
        have s4 : Same H3 H4 := by rw [hH4]; exact Same.refl H3
        obtain ⟨p, rfl⟩ : ∃ p, p = a := ⟨a, rfl⟩
        have ep : H4 p = some (.tup (d.ns.map V.int)) := s4 _ _ ha
        rw [← hH4]
        have ex4 := s4 _ _ eH3
        replace kp := kp.trans (Same.k s4)
        replace hm := hm.same s4
        refine ⟨.ref x, rfl, x, T.C_Slip, dx, _, rfl, ex4, T.cl_Slip, T.n_Slip_data, (by show 2 < 1000; decide), ?_⟩
        have kH5 : Keep x H4 (upd H4 x (.ins T.C_Slip dx (putF "data" (.ref p) (putF "talk" (.int d.t) (putF "kind" (.int d.k) []))))) := (Keep.refl x H4).upd
        have eH5 : (upd H4 x (.ins T.C_Slip dx (putF "data" (.ref p) (putF "talk" (.int d.t) (putF "kind" (.int d.k) []))))) x = some (.ins T.C_Slip dx (putF "data" (.ref p) (putF "talk" (.int d.t) (putF "kind" (.int d.k) [])))) := upd_same
        generalize upd H4 x (.ins T.C_Slip dx (putF "data" (.ref p) (putF "talk" (.int d.t) (putF "kind" (.int d.k) [])))) = H5 at kH5 eH5 ⊢
        replace kp := kp.trans kH5
        replace ep := tup_keepI ep kH5 ex4
        replace hm := hm.keepI kH5 ex4
        refine ⟨.bl d.l, rfl, .ref x, rfl, x, T.C_Slip, dx, _, rfl, eH5, T.cl_Slip, T.n_Slip_last, (by show 3 < 1000; decide), ?_⟩
        have kH6 : Keep x H5 (upd H5 x (.ins T.C_Slip dx (putF "last" (.bl d.l) (putF "data" (.ref p) (putF "talk" (.int d.t) (putF "kind" (.int d.k) [])))))) := (Keep.refl x H5).upd
        have eH6 : (upd H5 x (.ins T.C_Slip dx (putF "last" (.bl d.l) (putF "data" (.ref p) (putF "talk" (.int d.t) (putF "kind" (.int d.k) [])))))) x = some (.ins T.C_Slip dx (putF "last" (.bl d.l) (putF "data" (.ref p) (putF "talk" (.int d.t) (putF "kind" (.int d.k) []))))) := upd_same
        generalize upd H5 x (.ins T.C_Slip dx (putF "last" (.bl d.l) (putF "data" (.ref p) (putF "talk" (.int d.t) (putF "kind" (.int d.k) []))))) = H6 at kH6 eH6 ⊢
        replace kp := kp.trans kH6
        replace ep := tup_keepI ep kH6 eH5
        replace hm := hm.keepI kH6 eH5
        refine ⟨v, rfl, rfl, _, rfl, ?_⟩
        have fin : ∀ (H7 : Hp) (mv : V), H7 x = some (.ins T.C_Slip dx (putF "last" (.bl d.l) (putF "data" (.ref p) (putF "talk" (.int d.t) (putF "kind" (.int d.k) []))))) → Same H6 H7 → Mt H7 mv d.m → Q .non (upd H7 x (.ins T.C_Slip dx (putF "mask" mv (putF "last" (.bl d.l) (putF "data" (.ref p) (putF "talk" (.int d.t) (putF "kind" (.int d.k) []))))))) := fun H7 mv e7 s7 m7 => by
          have k7 : Keep x H7 (upd H7 x (.ins T.C_Slip dx (putF "mask" mv (putF "last" (.bl d.l) (putF "data" (.ref p) (putF "talk" (.int d.t) (putF "kind" (.int d.k) []))))))) := (Keep.refl x H7).upd
          exact q1 hw _ ((kp.trans (Same.k s7)).trans k7)
        cases hm' : d.m with
        | none =>
          rw [hm'] at hm
          obtain rfl : v = .non := hm
          refine ⟨.ref x, rfl, x, T.C_Slip, dx, _, rfl, eH6, T.cl_Slip, T.n_Slip_mask, (by show 4 < 1000; decide), ?_⟩
          exact fin H6 .non eH6 (Same.refl H6) (by rw [hm']; rfl)
        | some ms =>
          rw [hm'] at hm
          obtain ⟨b, rfl, hb, _, _⟩ := hm
          rcases hb with hb | hb
          · refine ⟨.ref b, rfl, b, _, rfl, .inl ⟨sq1 hb, fun p7 hp7 => ?_⟩⟩
            have s7 := same_upd (H := H6) (o := .tup (ms.map V.int)) hp7
            refine ⟨.ref x, rfl, x, T.C_Slip, dx, _, rfl, s7 _ _ eH6, T.cl_Slip, T.n_Slip_mask, (by show 4 < 1000; decide), ?_⟩
            exact fin _ (.ref p7) (s7 _ _ eH6) s7 (by rw [hm']; exact ⟨p7, rfl, upd_same⟩)
          · refine ⟨.ref b, rfl, b, _, rfl, .inr ⟨st1 hb, ?_⟩⟩
            refine ⟨.ref x, rfl, x, T.C_Slip, dx, _, rfl, eH6, T.cl_Slip, T.n_Slip_mask, (by show 4 < 1000; decide), ?_⟩
            exact fin _ (.ref b) eH6 (Same.refl H6) (by rw [hm']; exact ⟨b, rfl, hb⟩)
end
end K8

set_option Elab.async false
set_option linter.all false
set_option maxRecDepth 100000
set_option maxHeartbeats 4000000
namespace K8
open PySem PySem.Spec PyProof.Rows L2
/-! ### the law's own look at parts -/
open Cm (Da DaAll wt wtAll okD okAll)
def rngD (d : PyData) (g h : Int) : Bool := match d with
  | .int i => decide (g ≤ i) && decide (i ≤ h)
  | _ => false
theorem rng_byte (d : PyData) : rngD d 0 255 = byteD d := by cases d <;> rfl
theorem rng_talk (d : PyData) : rngD d 0 31 = talkD d := by cases d <;> rfl
section
variable {P : Program} {w : World} {K : PySem.W.Frag} {mg : Str → Option Value} {base : Heap}
def spLN : Sp := fun vs H Q _ => ∃ (S : Addr → Prop) (x : V) (d : PyData) (g h : Int), vs = [x, .int g, .int h] ∧ Da S H x d ∧ Q (.bl (rngD d g h)) H
theorem ok_l_is_number (T : Tx K mg) : FnOk P w K mg base CX0 1 T.f_l_is_number T.fd_l_is_number ["_law_thing", "_law_least", "_law_most"] spLN := by
  refine T.F_l_is_number.ok sc_l_is_number (fun vs H Q E h => ?_) (fun cdv A outer s H vs Q E hr h => ?_)
  · obtain ⟨S, x, d, g, h', rfl, _⟩ := h
    rfl
  · obtain ⟨S, x, d, g, h', rfl, hd, q⟩ := h
    obtain ⟨n, bi, bb, bt, ty, k1, k2, k3, e1, e2⟩ := hd.kit (K := K)
    refine ⟨_, (pss_one (ps_ret (pe_and (pe_callB (r := rIsi K) call_isi (by rfl) T.m_isinstance (by decide +kernel) (pa_cons (pv 0) (pa_cons (pe_bltn (v := .ty "int") (u := .type "int") (by rfl) T.m_int (by decide +kernel) rfl) pa_nil))) (pe_and (pe_not (pe_callB (r := rIsi K) call_isi (by rfl) T.m_isinstance (by decide +kernel) (pa_cons (pv 0) (pa_cons (pe_bltn (v := .ty "bool") (u := .type "bool") (by rfl) T.m_bool (by decide +kernel) rfl) pa_nil)))) (pe_one (pe_chain op_le op_le (pv 1) (pv 0) (pv 2))))))), ?_⟩
    refine ⟨x, rfl, x, _, _, _, bi, rfl, .ty _, ty, k1, bi, rfl, ?_⟩
    cases bi with
    | false =>
      have e : rngD d g h' = false := by
        cases d with
        | int i => cases e1
        | _ => rfl
      rw [e] at q
      exact q
    | true =>
      refine ⟨x, rfl, x, _, _, _, bb, rfl, .ty _, ty, k2, bb, rfl, ?_⟩
      cases bb with
      | true =>
        have e : rngD d g h' = false := by
          cases d with
          | int i => cases e1
          | _ => rfl
        rw [e] at q
        exact ⟨false, rfl, q⟩
      | false =>
        cases hd with
        | int i =>
          have q' : Q (.bl (decide (g ≤ i) && decide (i ≤ h'))) H := q
          refine ⟨true, rfl, .int g, rfl, .int i, rfl, g, i, rfl, rfl, _, rfl, ?_⟩
          cases h1 : decide (g ≤ i)
          · rw [h1] at q'
            exact q'
          · rw [h1] at q'
            exact ⟨.int h', rfl, i, h', rfl, rfl, q'⟩
        | _ => exact nomatch e1
def spLAB : Sp := fun vs H Q _ => ∃ (S : Addr → Prop) (x : V) (d : PyData), vs = [x] ∧ Da S H x d ∧ lenD d ≤ 1000000 ∧ ∀ H', Same H H' → Q (.bl (codesD d)) H'
theorem ok_are_bytes (T : Tx K mg) : FnOk P w K mg base CX0 2 T.f_are_bytes T.fd_are_bytes ["_law_thing"] spLAB := by
  refine T.F_are_bytes.ok sc_are_bytes (fun vs H Q E h => ?_) (fun cdv A outer s H vs Q E hr h => ?_)
  · obtain ⟨S, x, d, rfl, _⟩ := h
    rfl
  · obtain ⟨S, x, d, rfl, hd, hlen, q⟩ := h
    obtain ⟨n, b, ty, k, eb⟩ := Da.kitS (K := K) hd
    refine ⟨_, (pss_cons (ps_if (pt_not (pt_val (pe_callB (r := rIsiT K) call_isiT (by rfl) T.m_isinstance (by decide +kernel) (pa_cons (pv 0) (pa_cons (pe_tup (pa_cons (pe_bltn (v := .ty "list") (u := .type "list") (by rfl) T.m_list (by decide +kernel) rfl) (pa_cons (pe_bltn (v := .ty "tuple") (u := .type "tuple") (by rfl) T.m_tuple (by decide +kernel) rfl) pa_nil))) pa_nil))))) (pss_one (ps_ret pe_bl)) pss_nil)
      (pss_one (ps_ret (pe_callB (cr_all rfl) (by rfl) T.m_all (by decide +kernel) (pa_cons (pe_lc (own := [("_law_one", 1)]) (g := gName 1) (tt := tYes) rfl sc_are_bytes.nd (pi_seqA (pv 0)) (blkOk_by (N := ["_law_thing", "_law_one"]) (sc := defScope s_are_bytes) (by decide +kernel)) (fun _ _ _ _ _ => (pg_name (i := 1) sc_are_bytes.nd rfl (.inl rfl))) (fun _ _ _ _ _ => pts_nil) (fun _ _ _ _ _ => (pe_call (ok_l_is_number T) (hr.mono (by omega)) (by rfl) T.g_l_is_number T.F_l_is_number.kp T.b_l_is_number .nil pass0 (pa_cons (pv 1) (pa_cons pe_int (pa_cons pe_int pa_nil)))))) pa_nil))))), ?_⟩
    refine ⟨x, rfl, by show 2 ≤ sizeLine; decide, fun p hp => ?_⟩
    have sH1 : Same H (upd H p (.tup [.ty "list", .ty "tuple"])) := same_upd hp
    have eH1 : (upd H p (.tup [.ty "list", .ty "tuple"])) p = some (.tup [.ty "list", .ty "tuple"]) := upd_same
    generalize upd H p (.tup [.ty "list", .ty "tuple"]) = H1 at sH1 eH1 ⊢
    refine ⟨x, p, _, _, _, b, rfl, eH1, .cons (.ty _) (.cons (.ty _) .nil), ty _ sH1, k, _, rfl, ?_⟩
    replace hd := Da.keep (fun b o _ e => sH1 b o e) _ hd
    subst eb
    cases hd with
    | non => exact q _ sH1
    | bl _ => exact q _ sH1
    | int _ => exact q _ sH1
    | str _ => exact q _ sH1
    | @lst a xs ds na ea all =>
      have hl := all.length
      have hm : ds.length ≤ 1000000 := hlen
      refine ⟨.ref a, rfl, a, xs, rfl, .inl ⟨sq1 ea, fun D hD => lc_it (walk_list (xs := xs)) (fun i Hc => Same H1 Hc ∧ Hc D = some (.lst (((ds.take i).map byteD).map V.bl))) ?_ ?_ ?_ ?_⟩⟩
      · refine ⟨same_upd hD, ?_⟩
        rw [upd_same]
        rfl
      · rintro i Hc hi ⟨sm, _⟩
        exact sq1 (sm _ _ ea)
      · rintro i y Hc H' hi ⟨sm, eD⟩ ⟨rfl, hy⟩
        obtain ⟨d', hd', da'⟩ := all.get hy
        replace da' := Da.keep (fun b o _ e => sm b o e) _ da'
        refine ⟨rfl, y, rfl, S, y, d', 0, 255, rfl, da', ?_⟩
        rw [rng_byte]
        refine ⟨_, eD, ?_, ?_, ?_⟩
        · rw [List.length_map, List.length_map, List.length_take, sizeLine_eq]
          omega
        · exact Same.mut sm hD
        · rw [upd_same, List.take_add_one, hd', List.map_append, List.map_append]
          rfl
      · rintro Hc ⟨sm, eD⟩
        rw [hl, List.take_of_length_le (Nat.le_refl _)] at eD
        refine ⟨D, ds.map byteD, rfl, sq1 eD, ?_⟩
        have e' : codesD (.list ds) = (ds.map byteD).all id := by
          show ds.all byteD = _
          rw [List.all_map]
          rfl
        rw [← e']
        exact q Hc (sH1.trans sm)
    | @tup a xs ds na ea all =>
      have hl := all.length
      have hm : ds.length ≤ 1000000 := hlen
      refine ⟨.ref a, rfl, a, xs, rfl, .inr ⟨st1 ea, fun D hD => lc_it (walk_tup (xs := xs)) (fun i Hc => Same H1 Hc ∧ Hc D = some (.lst (((ds.take i).map byteD).map V.bl))) ?_ ?_ ?_ ?_⟩⟩
      · refine ⟨same_upd hD, ?_⟩
        rw [upd_same]
        rfl
      · rintro i Hc hi ⟨sm, _⟩
        exact st1 (sm _ _ ea)
      · rintro i y Hc H' hi ⟨sm, eD⟩ ⟨rfl, hy⟩
        obtain ⟨d', hd', da'⟩ := all.get hy
        replace da' := Da.keep (fun b o _ e => sm b o e) _ da'
        refine ⟨rfl, y, rfl, S, y, d', 0, 255, rfl, da', ?_⟩
        rw [rng_byte]
        refine ⟨_, eD, ?_, ?_, ?_⟩
        · rw [List.length_map, List.length_map, List.length_take, sizeLine_eq]
          omega
        · exact Same.mut sm hD
        · rw [upd_same, List.take_add_one, hd', List.map_append, List.map_append]
          rfl
      · rintro Hc ⟨sm, eD⟩
        rw [hl, List.take_of_length_le (Nat.le_refl _)] at eD
        refine ⟨D, ds.map byteD, rfl, sq1 eD, ?_⟩
        have e' : codesD (.tuple ds) = (ds.map byteD).all id := by
          show ds.all byteD = _
          rw [List.all_map]
          rfl
        rw [← e']
        exact q Hc (sH1.trans sm)
/-- five parts -/
structure Pts (S : Addr → Prop) (H : Hp) (k t d l m : V) (dk dt dd dl dm : PyData) : Prop where
  k : Da S H k dk
  t : Da S H t dt
  d : Da S H d dd
  l : Da S H l dl
  m : Da S H m dm
theorem Pts.same {S : Addr → Prop} {H H' : Hp} {k t d l m : V} {dk dt dd dl dm : PyData} (h : Pts S H k t d l m dk dt dd dl dm) (s : Same H H') : Pts S H' k t d l m dk dt dd dl dm :=
  ⟨Da.keep (fun b o _ e => s b o e) _ h.k, Da.keep (fun b o _ e => s b o e) _ h.t, Da.keep (fun b o _ e => s b o e) _ h.d, Da.keep (fun b o _ e => s b o e) _ h.l, Da.keep (fun b o _ e => s b o e) _ h.m⟩
def spWr : Sp := fun vs H Q _ => ∃ (S : Addr → Prop) (a : Addr) (k t d l m : V) (dk dt dd dl dm : PyData), vs = [.ref a] ∧ H a = some (.tup [k, t, d, l, m]) ∧ Pts S H k t d l m dk dt dd dl dm ∧ lenD dd ≤ 1000000 ∧ lenD dm ≤ 1000000 ∧ ∀ H', Same H H' → Q (optS (wrongP dk dt dd dl dm)) H'
theorem ok_wrong (T : Tx K mg) : FnOk P w K mg base CX0 3 T.f_wrong T.fd_wrong ["_law_parts"] spWr := by
  refine T.F_wrong.ok sc_wrong (fun vs H Q E h => ?_) (fun cdv A outer s H vs Q E hr h => ?_)
  · obtain ⟨S, a, k, t, d, l, m, dk, dt, dd, dl, dm, rfl, _⟩ := h
    rfl
  · obtain ⟨S, a, k, t, d, l, m, dk, dt, dd, dl, dm, rfl, ea, ⟨hk, ht, hd, hl, hm⟩, nd, nm, q⟩ := h
    refine ⟨_, (pss_cons (ps_asg (pv 0) (pg_tup rfl (pgs_cons (pg_name (i := 1) sc_wrong.nd rfl (.inl rfl)) (pgs_cons (pg_name (i := 2) sc_wrong.nd rfl (.inl rfl)) (pgs_cons (pg_name (i := 3) sc_wrong.nd rfl (.inl rfl)) (pgs_cons (pg_name (i := 4) sc_wrong.nd rfl (.inl rfl)) (pgs_cons (pg_name (i := 5) sc_wrong.nd rfl (.inl rfl)) pgs_nil)))))))
      (pss_cons (ps_if (pw_or (pt_not (pt_val (pe_call (ok_l_is_number T) (hr.mono (by omega)) (by rfl) T.g_l_is_number T.F_l_is_number.kp T.b_l_is_number .nil pass0 (pa_cons (pv 1) (pa_cons pe_int (pa_cons pe_int pa_nil)))))) (pw_or1 (pt_chain op_lt op_lt pe_int (pv 1) pe_int))).pt (pss_one (ps_ret pe_str)) pss_nil)
      (pss_cons (ps_if (pt_not (pt_val (pe_call (ok_l_is_number T) (hr.mono (by omega)) (by rfl) T.g_l_is_number T.F_l_is_number.kp T.b_l_is_number .nil pass0 (pa_cons (pv 2) (pa_cons pe_int (pa_cons pe_int pa_nil)))))) (pss_one (ps_ret pe_str)) pss_nil)
      (pss_cons (ps_if (pw_or (pt_not (pt_val (pe_call (ok_are_bytes T) (hr.mono (by omega)) (by rfl) T.g_are_bytes T.F_are_bytes.kp T.b_are_bytes .nil pass0 (pa_cons (pv 3) pa_nil)))) (pw_or1 (pw_and (pt_cmpR op_gt (pv 1) pe_int (nomark _)) (pw_and1 (pt_cmpR op_gt (pe_callB call_len_seq (by rfl) T.m_len (by decide +kernel) (pa_cons (pv 3) pa_nil)) pe_int (nomark _)))).pt)).pt (pss_one (ps_ret pe_str)) pss_nil)
      (pss_cons (ps_if (pw_or (pt_not (pt_val (pe_callB (r := rIsi K) call_isi (by rfl) T.m_isinstance (by decide +kernel) (pa_cons (pv 4) (pa_cons (pe_bltn (v := .ty "bool") (u := .type "bool") (by rfl) T.m_bool (by decide +kernel) rfl) pa_nil))))) (pw_or1 (pw_and (pt_cmpR op_gt (pv 1) pe_int (nomark _)) (pw_and1 (pt_not (pt_val (pv 4))))).pt)).pt (pss_one (ps_ret pe_str)) pss_nil)
      (pss_one (ps_ret (pe_ifExp (pw_or (pt_cmpR op_isN (pv 5) pe_non (nomark _)) (pw_or1 (pw_and (pt_val (pe_call (ok_are_bytes T) (hr.mono (by omega)) (by rfl) T.g_are_bytes T.F_are_bytes.kp T.b_are_bytes .nil pass0 (pa_cons (pv 5) pa_nil))) (pw_and1 (pt_cmpR op_eq (pe_callB call_len_seq (by rfl) T.m_len (by decide +kernel) (pa_cons (pv 5) pa_nil)) pe_int (nomark _)))).pt)).pt pe_non pe_str)))))))), ?_⟩
    refine ⟨.ref a, rfl, a, _, rfl, .inl (.inl ea), rfl, _, _, rfl, _, _, rfl, _, _, rfl, _, _, rfl, _, _, rfl, rfl, ?_⟩
    refine ⟨k, rfl, S, k, dk, 0, 10, rfl, hk, _, rfl, ?_⟩
    by_cases h1 : kindD dk = true
    · cases hk with
      | int i =>
        have h1' : isSort i = true := h1
        simp only [isSort, Bool.or_eq_true, decide_eq_true_iff] at h1'
        have hr0 : rngD (.int i) 0 10 = true := by
          show (decide (0 ≤ i) && decide (i ≤ 10)) = true
          rw [decide_eq_true (show 0 ≤ i by omega), decide_eq_true (show i ≤ 10 by omega)]
          rfl
        rw [hr0]
        refine ⟨.int i, rfl, 2, i, rfl, rfl, _, rfl, ?_⟩
        cases hC : decide (8 ≤ i) with
        | false =>
          have hi : ¬ 8 ≤ i := of_decide_eq_false hC
          rw [decide_eq_false (show ¬ 2 < i by omega)]
          refine ⟨false, rfl, ?_⟩
          refine ⟨t, rfl, S, t, dt, 0, 31, rfl, ht, _, rfl, ?_⟩
          rw [rng_talk]
          cases h2 : talkD dt with
          | false =>
            have z := q H (Same.refl H)
            rw [wp2 h1 (by rw [h2]; decide)] at z
            exact z
          | true =>
            refine ⟨d, rfl, S, d, dd, rfl, hd, nd, fun H1 s1 => ⟨_, rfl, ?_⟩⟩
            replace hd := Da.keep (fun b o _ e => s1 b o e) _ hd
            replace hl := Da.keep (fun b o _ e => s1 b o e) _ hl
            replace hm := Da.keep (fun b o _ e => s1 b o e) _ hm
            obtain ⟨n, b, ty, kb, eb⟩ := Da.kitB (K := K) hl
            have zz : ∀ (Hz : Hp) (p : Option Str), Same H1 Hz → wrongP (.int i) dt dd dl dm = p → Q (optS p) Hz := fun Hz p s e => by
              have := q Hz (s1.trans s)
              rw [e] at this
              exact this
            cases hc : codesD dd with
            | false => exact zz _ _ (Same.refl H1) (wp3 h1 h2 (by show ¬ (codesD dd && _) = true; rw [hc]; simp))
            | true =>
              refine ⟨.int i, rfl, i, 7, rfl, rfl, _, rfl, ?_⟩
              rw [decide_eq_false (show ¬ 7 < i by omega)]
              have h3 : dataQ (.int i) dd = true := by
                show (codesD dd && !(decide (8 ≤ i) && decide (120 < lenD dd))) = true
                rw [hc, hC]
                rfl
              refine ⟨l, rfl, l, _, _, _, b, rfl, .ty _, ty, kb, _, rfl, ?_⟩
              subst eb
              cases hb : boolD dl with
              | false => exact zz _ _ (Same.refl H1) (wp4 h1 h2 h3 (by show ¬ (boolD dl && _) = true; rw [hb]; simp))
              | true =>
                refine ⟨.int i, rfl, i, 7, rfl, rfl, _, rfl, ?_⟩
                rw [decide_eq_false (show ¬ 7 < i by omega)]
                have h4 : lastQ (.int i) dl = true := by
                  show (boolD dl && !(decide (8 ≤ i) && !trueD dl)) = true
                  rw [hb, hC]
                  rfl
                refine ⟨m, rfl, rfl, _, rfl, ?_⟩
                cases hm with
                | non => exact zz H1 _ (Same.refl H1) (wp0 h1 h2 h3 h4 rfl)
                | bl b => exact ⟨.bl b, rfl, S, .bl b, .bool b, rfl, .bl b, nm, fun H2 s2 => ⟨_, rfl, zz H2 _ s2 (wp5 h1 h2 h3 h4 (by show ¬ false = true; decide))⟩⟩
                | int b => exact ⟨.int b, rfl, S, .int b, .int b, rfl, .int b, nm, fun H2 s2 => ⟨_, rfl, zz H2 _ s2 (wp5 h1 h2 h3 h4 (by show ¬ false = true; decide))⟩⟩
                | str b => exact ⟨.str b, rfl, S, .str b, .str b, rfl, .str b, nm, fun H2 s2 => ⟨_, rfl, zz H2 _ s2 (wp5 h1 h2 h3 h4 (by show ¬ false = true; decide))⟩⟩
                | @lst a2 xs ds na ea2 al =>
                  refine ⟨.ref a2, rfl, S, .ref a2, .list ds, rfl, .lst na ea2 al, nm, fun H2 s2 => ⟨_, rfl, ?_⟩⟩
                  cases hc2 : codesD (.list ds) with
                  | false => exact zz H2 _ s2 (wp5 h1 h2 h3 h4 (by show ¬ (decide (ds.length = 4) && codesD (.list ds)) = true; rw [hc2]; simp))
                  | true =>
                    refine ⟨.ref a2, rfl, a2, xs, rfl, .inl (sq1 (s2 _ _ ea2)), rfl, _, rfl, ?_⟩
                    rw [dec_len, al.length]
                    cases h4l : decide (ds.length = 4) with
                    | false => exact zz H2 _ s2 (wp5 h1 h2 h3 h4 (by show ¬ (decide (ds.length = 4) && _) = true; rw [h4l]; simp))
                    | true => exact zz H2 _ s2 (wp0 h1 h2 h3 h4 (by show (decide (ds.length = 4) && codesD (.list ds)) = true; rw [h4l, hc2]; rfl))
                | @tup a2 xs ds na ea2 al =>
                  refine ⟨.ref a2, rfl, S, .ref a2, .tuple ds, rfl, .tup na ea2 al, nm, fun H2 s2 => ⟨_, rfl, ?_⟩⟩
                  cases hc2 : codesD (.tuple ds) with
                  | false => exact zz H2 _ s2 (wp5 h1 h2 h3 h4 (by show ¬ (decide (ds.length = 4) && codesD (.tuple ds)) = true; rw [hc2]; simp))
                  | true =>
                    refine ⟨.ref a2, rfl, a2, xs, rfl, .inr (st1 (s2 _ _ ea2)), rfl, _, rfl, ?_⟩
                    rw [dec_len, al.length]
                    cases h4l : decide (ds.length = 4) with
                    | false => exact zz H2 _ s2 (wp5 h1 h2 h3 h4 (by show ¬ (decide (ds.length = 4) && _) = true; rw [h4l]; simp))
                    | true => exact zz H2 _ s2 (wp0 h1 h2 h3 h4 (by show (decide (ds.length = 4) && codesD (.tuple ds)) = true; rw [h4l, hc2]; rfl))
        | true =>
          have hi : 8 ≤ i := of_decide_eq_true hC
          rw [decide_eq_true (show 2 < i by omega)]
          refine ⟨i, 8, rfl, rfl, _, rfl, ?_⟩
          rw [decide_eq_false (show ¬ i < 8 by omega)]
          refine ⟨t, rfl, S, t, dt, 0, 31, rfl, ht, _, rfl, ?_⟩
          rw [rng_talk]
          cases h2 : talkD dt with
          | false =>
            have z := q H (Same.refl H)
            rw [wp2 h1 (by rw [h2]; decide)] at z
            exact z
          | true =>
            refine ⟨d, rfl, S, d, dd, rfl, hd, nd, fun H1 s1 => ⟨_, rfl, ?_⟩⟩
            replace hd := Da.keep (fun b o _ e => s1 b o e) _ hd
            replace hl := Da.keep (fun b o _ e => s1 b o e) _ hl
            replace hm := Da.keep (fun b o _ e => s1 b o e) _ hm
            obtain ⟨n, b, ty, kb, eb⟩ := Da.kitB (K := K) hl
            have zz : ∀ (Hz : Hp) (p : Option Str), Same H1 Hz → wrongP (.int i) dt dd dl dm = p → Q (optS p) Hz := fun Hz p s e => by
              have := q Hz (s1.trans s)
              rw [e] at this
              exact this
            cases hc : codesD dd with
            | false => exact zz _ _ (Same.refl H1) (wp3 h1 h2 (by show ¬ (codesD dd && _) = true; rw [hc]; simp))
            | true =>
              refine ⟨.int i, rfl, i, 7, rfl, rfl, _, rfl, ?_⟩
              rw [decide_eq_true (show 7 < i by omega)]
              obtain ⟨a3, ns, rfl, ha, hbt, hln⟩ := codesOf2 hd hc
              refine ⟨.ref a3, rfl, a3, _, rfl, ha.sq, _, 120, rfl, rfl, _, rfl, ite2 (fun e => ?_) (fun e => ?_)⟩
              · have e' : (120 : Int) < ((ns.map V.int).length : Int) := of_decide_eq_true e
                rw [List.length_map] at e'
                exact zz _ _ (Same.refl H1) (wp3 h1 h2 (by
                  show ¬ (codesD dd && !(decide (8 ≤ i) && decide (120 < lenD dd))) = true
                  rw [hc, hC, decide_eq_true (show 120 < lenD dd by omega)]
                  simp))
              · have e' : ¬ (120 : Int) < ((ns.map V.int).length : Int) := fun z => e (decide_eq_true z)
                rw [List.length_map] at e'
                have h3 : dataQ (.int i) dd = true := by
                  show (codesD dd && !(decide (8 ≤ i) && decide (120 < lenD dd))) = true
                  rw [hc, hC, decide_eq_false (show ¬ 120 < lenD dd by omega)]
                  rfl
                refine ⟨l, rfl, l, _, _, _, b, rfl, .ty _, ty, kb, _, rfl, ?_⟩
                subst eb
                cases hb : boolD dl with
                | false => exact zz _ _ (Same.refl H1) (wp4 h1 h2 h3 (by show ¬ (boolD dl && _) = true; rw [hb]; simp))
                | true =>
                  cases hl with
                  | bl b =>
                    refine ⟨.int i, rfl, i, 7, rfl, rfl, _, rfl, ?_⟩
                    rw [decide_eq_true (show 7 < i by omega)]
                    refine ⟨.bl b, rfl, b, rfl, ?_⟩
                    cases b with
                    | false => exact zz _ _ (Same.refl H1) (wp4 h1 h2 h3 (by show ¬ (true && !(decide (8 ≤ i) && !false)) = true; rw [hC]; simp))
                    | true =>
                      have h4 : lastQ (.int i) (.bool true) = true := by
                        show (true && !(decide (8 ≤ i) && !true)) = true
                        rw [hC]
                        rfl
                      refine ⟨m, rfl, rfl, _, rfl, ?_⟩
                      cases hm with
                      | non => exact zz H1 _ (Same.refl H1) (wp0 h1 h2 h3 h4 rfl)
                      | bl b => exact ⟨.bl b, rfl, S, .bl b, .bool b, rfl, .bl b, nm, fun H2 s2 => ⟨_, rfl, zz H2 _ s2 (wp5 h1 h2 h3 h4 (by show ¬ false = true; decide))⟩⟩
                      | int b => exact ⟨.int b, rfl, S, .int b, .int b, rfl, .int b, nm, fun H2 s2 => ⟨_, rfl, zz H2 _ s2 (wp5 h1 h2 h3 h4 (by show ¬ false = true; decide))⟩⟩
                      | str b => exact ⟨.str b, rfl, S, .str b, .str b, rfl, .str b, nm, fun H2 s2 => ⟨_, rfl, zz H2 _ s2 (wp5 h1 h2 h3 h4 (by show ¬ false = true; decide))⟩⟩
                      | @lst a2 xs ds na ea2 al =>
                        refine ⟨.ref a2, rfl, S, .ref a2, .list ds, rfl, .lst na ea2 al, nm, fun H2 s2 => ⟨_, rfl, ?_⟩⟩
                        cases hc2 : codesD (.list ds) with
                        | false => exact zz H2 _ s2 (wp5 h1 h2 h3 h4 (by show ¬ (decide (ds.length = 4) && codesD (.list ds)) = true; rw [hc2]; simp))
                        | true =>
                          refine ⟨.ref a2, rfl, a2, xs, rfl, .inl (sq1 (s2 _ _ ea2)), rfl, _, rfl, ?_⟩
                          rw [dec_len, al.length]
                          cases h4l : decide (ds.length = 4) with
                          | false => exact zz H2 _ s2 (wp5 h1 h2 h3 h4 (by show ¬ (decide (ds.length = 4) && _) = true; rw [h4l]; simp))
                          | true => exact zz H2 _ s2 (wp0 h1 h2 h3 h4 (by show (decide (ds.length = 4) && codesD (.list ds)) = true; rw [h4l, hc2]; rfl))
                      | @tup a2 xs ds na ea2 al =>
                        refine ⟨.ref a2, rfl, S, .ref a2, .tuple ds, rfl, .tup na ea2 al, nm, fun H2 s2 => ⟨_, rfl, ?_⟩⟩
                        cases hc2 : codesD (.tuple ds) with
                        | false => exact zz H2 _ s2 (wp5 h1 h2 h3 h4 (by show ¬ (decide (ds.length = 4) && codesD (.tuple ds)) = true; rw [hc2]; simp))
                        | true =>
                          refine ⟨.ref a2, rfl, a2, xs, rfl, .inr (st1 (s2 _ _ ea2)), rfl, _, rfl, ?_⟩
                          rw [dec_len, al.length]
                          cases h4l : decide (ds.length = 4) with
                          | false => exact zz H2 _ s2 (wp5 h1 h2 h3 h4 (by show ¬ (decide (ds.length = 4) && _) = true; rw [h4l]; simp))
                          | true => exact zz H2 _ s2 (wp0 h1 h2 h3 h4 (by show (decide (ds.length = 4) && codesD (.tuple ds)) = true; rw [h4l, hc2]; rfl))
                  | _ => cases hb
      | _ => cases h1
    · rw [wp1 h1] at q
      cases hk with
      | int i =>
        cases hr0 : rngD (.int i) 0 10 with
        | false => exact q _ (Same.refl H)
        | true =>
          have hr1 : (decide (0 ≤ i) && decide (i ≤ 10)) = true := hr0
          rw [Bool.and_eq_true, decide_eq_true_iff, decide_eq_true_iff] at hr1
          have h1' : ¬ isSort i = true := h1
          simp only [isSort, Bool.or_eq_true, decide_eq_true_iff] at h1'
          refine ⟨.int i, rfl, 2, i, rfl, rfl, _, rfl, ?_⟩
          rw [decide_eq_true (show 2 < i by omega)]
          refine ⟨i, 8, rfl, rfl, _, rfl, ?_⟩
          rw [decide_eq_true (show i < 8 by omega)]
          exact q _ (Same.refl H)
      | _ => exact q _ (Same.refl H)
end
end K8

set_option Elab.async false
set_option linter.all false
set_option maxRecDepth 100000
set_option maxHeartbeats 4000000
namespace K8
open PySem PySem.Spec PyProof.Rows L2
open Cm (Da DaAll wt wtAll okD okAll)
/-! ### data that can be shown -/
theorem okAll_app : ∀ (xs ys : List PyData), okAll (xs ++ ys) = (okAll xs && okAll ys)
  | [], ys => by simp [okAll]
  | x :: xs, ys => by
    show (okD x && okAll (xs ++ ys)) = ((okD x && okAll xs) && okAll ys)
    rw [okAll_app xs ys, Bool.and_assoc]
theorem wtAll_app : ∀ (xs ys : List PyData), wtAll (xs ++ ys) = wtAll xs + wtAll ys
  | [], ys => by simp [wtAll]
  | x :: xs, ys => by
    show wt x + 2 + wtAll (xs ++ ys) = (wt x + 2 + wtAll xs) + wtAll ys
    rw [wtAll_app xs ys]
    omega
theorem depthAll_app : ∀ (xs ys : List PyData), PyData.depthAll (xs ++ ys) = max (PyData.depthAll xs) (PyData.depthAll ys)
  | [], ys => by simp [PyData.depthAll]
  | x :: xs, ys => by
    show max x.depth (PyData.depthAll (xs ++ ys)) = max (max x.depth (PyData.depthAll xs)) (PyData.depthAll ys)
    rw [depthAll_app xs ys]
    omega
theorem okI {i : Int} (h : i.natAbs < 2 ^ 64) : okD (.int i) = true := by
  refine decide_eq_true ?_
  by_cases h0 : i.natAbs = 0
  · rw [h0]
    decide
  · exact Nat.lt_trans ((Nat.log2_lt h0).mpr h) (by decide)
theorem wt_ints : ∀ ns : List Int, wtAll (ns.map PyData.int) = 2002 * ns.length
  | [] => rfl
  | n :: ns => by
    show 2000 + 2 + wtAll (ns.map PyData.int) = 2002 * (ns.length + 1)
    rw [wt_ints ns]
    omega
/-- some places, lists all of them -/
def SL (S : Addr → Prop) (H : Hp) : Prop := ∀ a, S a → ∃ xs, H a = some (.lst xs)
theorem SL.tup {S : Addr → Prop} {H : Hp} {a : Addr} {ys : List V} (h : SL S H) (e : H a = some (.tup ys)) : ¬ S a := fun z => by
  obtain ⟨xs, e'⟩ := h a z
  rw [e] at e'
  cases e'
theorem SL.new {S : Addr → Prop} {H : Hp} {a : Addr} (h : SL S H) (e : H a = none) : ¬ S a := fun z => by
  obtain ⟨xs, e'⟩ := h a z
  rw [e] at e'
  cases e'
theorem SL.same {S : Addr → Prop} {H H' : Hp} (h : SL S H) (s : Same H H') : SL S H' := fun a z => by
  obtain ⟨xs, e⟩ := h a z
  exact ⟨xs, s _ _ e⟩
theorem SL.keep {S : Addr → Prop} {p : Addr} {H H' : Hp} {ys : List V} (h : SL S H) (k : Keep p H H') (e : H' p = some (.lst ys)) : SL S H' := fun a z => by
  by_cases ha : a = p
  · subst ha
    exact ⟨ys, e⟩
  · obtain ⟨xs, e'⟩ := h a z
    exact ⟨xs, k _ _ ha e'⟩
theorem codes_ok (s : String) : ((Str.ofString s).cps.toList.all fun c => decide (c < 16 ^ 8)) = true := by
  rw [List.all_eq_true]
  intro c hc
  refine decide_eq_true ?_
  rw [Str.ofString_eq_toList] at hc
  have h : c ∈ s.toList.map Char.toNat := by simpa using hc
  obtain ⟨ch, _, rfl⟩ := List.mem_map.mp h
  exact ch.val.toNat_lt
mutual
theorem Da.weakS {S S' : Addr → Prop} {H : Hp} (k : ∀ a, S a → S' a) : ∀ (d : PyData) {v : V}, Da S' H v d → Da S H v d
  | .none, _, h => by cases h; exact .non
  | .bool b, _, h => by cases h; exact .bl b
  | .int i, _, h => by cases h; exact .int i
  | .str x, _, h => by cases h; exact .str x
  | .list ds, _, h => by
    cases h with
    | lst n e a => exact .lst (fun z => n (k _ z)) e (Da.weakSAll k ds a)
  | .tuple ds, _, h => by
    cases h with
    | tup n e a => exact .tup (fun z => n (k _ z)) e (Da.weakSAll k ds a)
  | .dict _, _, h => nomatch h
theorem Da.weakSAll {S S' : Addr → Prop} {H : Hp} (k : ∀ a, S a → S' a) : ∀ (ds : List PyData) {vs : List V}, DaAll S' H vs ds → DaAll S H vs ds
  | [], _, h => by cases h; exact .nil
  | d :: ds, _, h => by
    cases h with
    | cons a b => exact .cons (Da.weakS k d a) (Da.weakSAll k ds b)
end
def Gx (S : Addr → Prop) (H : Hp) (x : V) (n W : Nat) : Prop := ∃ d, Da S H x d ∧ okD d = true ∧ d.depth ≤ n ∧ wt d ≤ W
def Ls (S : Addr → Prop) (H : Hp) (xs : List V) (n W : Nat) : Prop := ∃ ds, DaAll S H xs ds ∧ okAll ds = true ∧ PyData.depthAll ds ≤ n ∧ wtAll ds ≤ W
theorem Gx.keepS {S : Addr → Prop} {H H' : Hp} {x : V} {n W : Nat} (k : ∀ b o, ¬ S b → H b = some o → H' b = some o) (h : Gx S H x n W) : Gx S H' x n W := by
  obtain ⟨d, h1, h2⟩ := h
  exact ⟨d, Da.keep k d h1, h2⟩
theorem Gx.same {S : Addr → Prop} {H H' : Hp} {x : V} {n W : Nat} (k : Same H H') (h : Gx S H x n W) : Gx S H' x n W := h.keepS fun b o _ e => k b o e
theorem Gx.keep {S : Addr → Prop} {p : Addr} {H H' : Hp} {x : V} {n W : Nat} (hp : S p) (k : Keep p H H') (h : Gx S H x n W) : Gx S H' x n W := h.keepS fun b o nb e => k b o (fun z => nb (z ▸ hp)) e
theorem Gx.mono {S : Addr → Prop} {H : Hp} {x : V} {n m W W' : Nat} (h : Gx S H x n W) (l : n ≤ m) (l2 : W ≤ W') : Gx S H x m W' := by
  obtain ⟨d, h1, h2, h3, h4⟩ := h
  exact ⟨d, h1, h2, Nat.le_trans h3 l, Nat.le_trans h4 l2⟩
theorem Gx.weak {S S' : Addr → Prop} {H : Hp} {x : V} {n W : Nat} (k : ∀ a, S a → S' a) (h : Gx S' H x n W) : Gx S H x n W := by
  obtain ⟨d, h1, h2⟩ := h
  exact ⟨d, Da.weakS k d h1, h2⟩
theorem Ls.keepS {S : Addr → Prop} {H H' : Hp} {xs : List V} {n W : Nat} (k : ∀ b o, ¬ S b → H b = some o → H' b = some o) (h : Ls S H xs n W) : Ls S H' xs n W := by
  obtain ⟨d, h1, h2⟩ := h
  exact ⟨d, Da.keepAll k d h1, h2⟩
theorem Ls.same {S : Addr → Prop} {H H' : Hp} {xs : List V} {n W : Nat} (k : Same H H') (h : Ls S H xs n W) : Ls S H' xs n W := h.keepS fun b o _ e => k b o e
theorem Ls.keep {S : Addr → Prop} {p : Addr} {H H' : Hp} {xs : List V} {n W : Nat} (hp : S p) (k : Keep p H H') (h : Ls S H xs n W) : Ls S H' xs n W := h.keepS fun b o nb e => k b o (fun z => nb (z ▸ hp)) e
theorem Ls.weak {S S' : Addr → Prop} {H : Hp} {xs : List V} {n W : Nat} (k : ∀ a, S a → S' a) (h : Ls S' H xs n W) : Ls S H xs n W := by
  obtain ⟨d, h1, h2⟩ := h
  exact ⟨d, Da.weakSAll k d h1, h2⟩
theorem Ls.mono {S : Addr → Prop} {H : Hp} {xs : List V} {n m W W' : Nat} (h : Ls S H xs n W) (l : n ≤ m) (l2 : W ≤ W') : Ls S H xs m W' := by
  obtain ⟨d, h1, h2, h3, h4⟩ := h
  exact ⟨d, h1, h2, Nat.le_trans h3 l, Nat.le_trans h4 l2⟩
theorem Ls.nil {S : Addr → Prop} {H : Hp} {n W : Nat} : Ls S H [] n W := ⟨[], .nil, rfl, Nat.zero_le _, Nat.zero_le _⟩
theorem Ls.app {S : Addr → Prop} {H : Hp} {xs ys : List V} {n W W' : Nat} (h : Ls S H xs n W) (h' : Ls S H ys n W') : Ls S H (xs ++ ys) n (W + W') := by
  obtain ⟨d, h1, h2, h3, h4⟩ := h
  obtain ⟨e, g1, g2, g3, g4⟩ := h'
  refine ⟨d ++ e, h1.append g1, by rw [okAll_app, h2, g2]; rfl, by rw [depthAll_app]; omega, by rw [wtAll_app]; omega⟩
theorem Ls.one {S : Addr → Prop} {H : Hp} {x : V} {n W : Nat} (h : Gx S H x n W) : Ls S H [x] n (W + 2) := by
  obtain ⟨d, h1, h2, h3, h4⟩ := h
  refine ⟨[d], .cons h1 .nil, ?_, ?_, ?_⟩
  · show (okD d && true) = true
    rw [h2]
    rfl
  · show max d.depth 0 ≤ n
    omega
  · show wt d + 2 + 0 ≤ _
    omega
theorem DaAll.take {S : Addr → Prop} {H : Hp} : ∀ (c : Nat) {xs : List V} {ds : List PyData}, DaAll S H xs ds → DaAll S H (xs.take c) (ds.take c)
  | 0, _, _, _ => by rw [List.take_zero, List.take_zero]; exact .nil
  | _ + 1, _, _, .nil => .nil
  | c + 1, _, _, .cons a b => .cons a (DaAll.take c b)
theorem DaAll.drop {S : Addr → Prop} {H : Hp} : ∀ (c : Nat) {xs : List V} {ds : List PyData}, DaAll S H xs ds → DaAll S H (xs.drop c) (ds.drop c)
  | 0, _, _, h => h
  | _ + 1, _, _, .nil => .nil
  | c + 1, _, _, .cons a b => DaAll.drop c b
theorem DaAll.rev {S : Addr → Prop} {H : Hp} : ∀ {xs : List V} {ds : List PyData}, DaAll S H xs ds → DaAll S H xs.reverse ds.reverse
  | _, _, .nil => .nil
  | _, _, .cons a b => by
    rw [List.reverse_cons, List.reverse_cons]
    exact (DaAll.rev b).append (.cons a .nil)
theorem Ls.take {S : Addr → Prop} {H : Hp} {xs : List V} {n W : Nat} (h : Ls S H xs n W) (c : Nat) : Ls S H (xs.take c) n W := by
  obtain ⟨d, h1, h2, h3, h4⟩ := h
  rw [← List.take_append_drop c d, okAll_app] at h2
  rw [← List.take_append_drop c d, depthAll_app] at h3
  rw [← List.take_append_drop c d, wtAll_app] at h4
  exact ⟨d.take c, DaAll.take c h1, (Bool.and_eq_true_iff.mp h2).1, by omega, by omega⟩
theorem Ls.drop {S : Addr → Prop} {H : Hp} {xs : List V} {n W : Nat} (h : Ls S H xs n W) (c : Nat) : Ls S H (xs.drop c) n W := by
  obtain ⟨d, h1, h2, h3, h4⟩ := h
  rw [← List.take_append_drop c d, okAll_app] at h2
  rw [← List.take_append_drop c d, depthAll_app] at h3
  rw [← List.take_append_drop c d, wtAll_app] at h4
  exact ⟨d.drop c, DaAll.drop c h1, (Bool.and_eq_true_iff.mp h2).2, by omega, by omega⟩
theorem okAll_rev : ∀ ds : List PyData, okAll ds.reverse = okAll ds
  | [] => rfl
  | d :: ds => by
    rw [List.reverse_cons, okAll_app, okAll_rev ds, Bool.and_comm]
    show ((okD d && true) && okAll ds) = (okD d && okAll ds)
    rw [Bool.and_true]
theorem wtAll_rev : ∀ ds : List PyData, wtAll ds.reverse = wtAll ds
  | [] => rfl
  | d :: ds => by
    rw [List.reverse_cons, wtAll_app, wtAll_rev ds]
    show wtAll ds + (wt d + 2 + 0) = wt d + 2 + wtAll ds
    omega
theorem depthAll_rev : ∀ ds : List PyData, PyData.depthAll ds.reverse = PyData.depthAll ds
  | [] => rfl
  | d :: ds => by
    rw [List.reverse_cons, depthAll_app, depthAll_rev ds]
    show max (PyData.depthAll ds) (max d.depth 0) = max d.depth (PyData.depthAll ds)
    omega
theorem Ls.rev {S : Addr → Prop} {H : Hp} {xs : List V} {n W : Nat} (h : Ls S H xs n W) : Ls S H xs.reverse n W := by
  obtain ⟨d, h1, h2, h3, h4⟩ := h
  exact ⟨d.reverse, DaAll.rev h1, by rw [okAll_rev]; exact h2, by rw [depthAll_rev]; exact h3, by rw [wtAll_rev]; exact h4⟩
theorem wtAll_len : ∀ ds : List PyData, ds.length ≤ wtAll ds
  | [] => Nat.le_refl _
  | d :: ds => by
    have := wtAll_len ds
    show ds.length + 1 ≤ wt d + 2 + wtAll ds
    omega
theorem Ls.len {S : Addr → Prop} {H : Hp} {xs : List V} {n W : Nat} (h : Ls S H xs n W) : xs.length ≤ W := by
  obtain ⟨d, h1, h2, h3, h4⟩ := h
  rw [h1.length]
  exact Nat.le_trans (wtAll_len d) h4
theorem Gx.lst {S : Addr → Prop} {H : Hp} {a : Addr} {xs : List V} {n W : Nat} (na : ¬ S a) (e : H a = some (.lst xs)) (h : Ls S H xs n W) : Gx S H (.ref a) (n + 1) (W + 4) := by
  obtain ⟨d, h1, h2, h3, h4⟩ := h
  exact ⟨.list d, .lst na e h1, h2, by show PyData.depthAll d + 1 ≤ n + 1; omega, by show wtAll d + 4 ≤ W + 4; omega⟩
theorem Gx.tup {S : Addr → Prop} {H : Hp} {a : Addr} {xs : List V} {n W : Nat} (na : ¬ S a) (e : H a = some (.tup xs)) (h : Ls S H xs n W) : Gx S H (.ref a) (n + 1) (W + 4) := by
  obtain ⟨d, h1, h2, h3, h4⟩ := h
  exact ⟨.tuple d, .tup na e h1, h2, by show PyData.depthAll d + 1 ≤ n + 1; omega, by show wtAll d + 4 ≤ W + 4; omega⟩
/-- a list, or none -/
theorem Gx.way {S : Addr → Prop} {H : Hp} {K : PySem.W.Frag} {x : V} {n W : Nat} (h : Gx S H x n W) : ∃ (t : String) (bl : Bool), TyX K H x (.type t) ∧ PySem.W.kitOne K (.type t) (.type "list") = some bl ∧
    (bl = true → ∃ a xs, x = .ref a ∧ ¬ S a ∧ H a = some (.lst xs) ∧ Ls S H xs n W) := by
  obtain ⟨d, h1, h2, h3, h4⟩ := h
  cases h1 with
  | non => exact ⟨"NoneType", false, .base .non, kit_ty (by decide +kernel), fun z => nomatch z⟩
  | bl y => exact ⟨"bool", false, .base (.bl y), kit_ty (by decide +kernel), fun z => nomatch z⟩
  | int y => exact ⟨"int", false, .base (.int y), kit_ty (by decide +kernel), fun z => nomatch z⟩
  | str y => exact ⟨"str", false, .base (.str y), kit_ty (by decide +kernel), fun z => nomatch z⟩
  | tup _ e _ => exact ⟨"tuple", false, .base (.tup e), kit_ty (by decide +kernel), fun z => nomatch z⟩
  | @lst a xs ds na e al => exact ⟨"list", true, .base (.lst e), kit_ty (by decide +kernel), fun _ => ⟨a, xs, rfl, na, e, ds, al, h2, by
      have z : PyData.depthAll ds + 1 ≤ n := h3
      omega, by
      have z : wtAll ds + 4 ≤ W := h4
      omega⟩⟩
theorem Gx.int {S : Addr → Prop} {H : Hp} {i : Int} (h : i.natAbs < 2 ^ 64) : Gx S H (.int i) 0 2000 := ⟨_, .int i, okI h, Nat.le_refl _, Nat.le_refl _⟩
theorem Gx.bl {S : Addr → Prop} {H : Hp} {b : Bool} : Gx S H (.bl b) 0 2000 := ⟨_, .bl b, rfl, Nat.le_refl _, by show 5 ≤ 2000; decide⟩
theorem Gx.non {S : Addr → Prop} {H : Hp} : Gx S H .non 0 2000 := ⟨_, .non, rfl, Nat.le_refl _, by show 4 ≤ 2000; decide⟩
theorem Gx.str {S : Addr → Prop} {H : Hp} {s : String} (h : (Str.ofString s).length ≤ 100) : Gx S H (.str (Str.ofString s)) 0 2000 := ⟨_, .str _, codes_ok s, Nat.le_refl _, by show 10 * (Str.ofString s).length + 2 ≤ 2000; omega⟩
/-- a list of ints -/
theorem Ls.ints {S : Addr → Prop} {H : Hp} : ∀ {ns : List Int}, (∀ n ∈ ns, n.natAbs < 2 ^ 64) → Ls S H (ns.map V.int) 0 (2002 * ns.length)
  | [], _ => Ls.nil
  | n :: ns, h => by
    have a := (Ls.one (Gx.int (S := S) (H := H) (h n List.mem_cons_self))).app (Ls.ints fun m hm => h m (List.mem_cons_of_mem _ hm))
    refine a.mono (Nat.le_refl _) ?_
    rw [List.length_cons]
    omega
theorem cutv_lo (xs : List V) (c : Nat) : cutV xs none (some (c : Int)) = xs.take c := by
  unfold cutV
  rw [HT.sIx_none, HT.sIx_nat, List.drop_zero, Nat.sub_zero]
  by_cases h : c ≤ xs.length
  · rw [Nat.min_eq_left h]
  · rw [Nat.min_eq_right (by omega), List.take_of_length_le (Nat.le_refl _), List.take_of_length_le (by omega)]
theorem cutv_hi (xs : List V) (c : Nat) : cutV xs (some (c : Int)) none = xs.drop c := by
  unfold cutV
  rw [HT.sIx_none, HT.sIx_nat]
  by_cases h : c ≤ xs.length
  · rw [Nat.min_eq_left h, List.take_of_length_le (by rw [List.length_drop]; exact Nat.le_refl _)]
  · rw [Nat.min_eq_right (by omega), List.drop_of_length_le (Nat.le_refl _), List.drop_of_length_le (by omega)]
    simp
theorem cutv_ls {S : Addr → Prop} {H : Hp} {xs : List V} {n W : Nat} (h : Ls S H xs n W) (lo hi : Option Int) : Ls S H (cutV xs lo hi) n W := by
  unfold cutV
  exact (h.drop _).take _
theorem wtAll_len2 : ∀ ds : List PyData, 2 * ds.length ≤ wtAll ds
  | [] => Nat.le_refl _
  | d :: ds => by
    have := wtAll_len2 ds
    show 2 * (ds.length + 1) ≤ wt d + 2 + wtAll ds
    omega

/-! ### things of any kind -/
open Cm (Da DaAll wt wtAll okD okAll)
theorem okI2 {i : Int} (h : i.natAbs < 2 ^ 128) : okD (.int i) = true := by
  refine decide_eq_true ?_
  by_cases h0 : i.natAbs = 0
  · rw [h0]
    decide
  · exact Nat.lt_trans ((Nat.log2_lt h0).mpr h) (by decide)
theorem Gx.int2 {S : Addr → Prop} {H : Hp} {i : Int} (h : i.natAbs < 2 ^ 128) : Gx S H (.int i) 0 2000 := ⟨_, .int i, okI2 h, Nat.le_refl _, Nat.le_refl _⟩
theorem Ls.cons2 {S : Addr → Prop} {H : Hp} {x : V} {xs : List V} {n W W' : Nat} (h : Gx S H x n W) (h' : Ls S H xs n W') : Ls S H (x :: xs) n (W + 2 + W') := (Ls.one h).app h'
mutual
theorem Da.add {S : Addr → Prop} {H : Hp} {x : Addr} (hx : H x = none) : ∀ (d : PyData) {v : V}, Da S H v d → Da (fun z => S z ∨ z = x) H v d
  | .none, _, h => by cases h; exact .non
  | .bool b, _, h => by cases h; exact .bl b
  | .int i, _, h => by cases h; exact .int i
  | .str y, _, h => by cases h; exact .str y
  | .list ds, _, h => by
    cases h with
    | lst n e a => exact .lst (fun z => z.elim n (fun z => by rw [z, hx] at e; cases e)) e (Da.addAll hx ds a)
  | .tuple ds, _, h => by
    cases h with
    | tup n e a => exact .tup (fun z => z.elim n (fun z => by rw [z, hx] at e; cases e)) e (Da.addAll hx ds a)
  | .dict _, _, h => nomatch h
theorem Da.addAll {S : Addr → Prop} {H : Hp} {x : Addr} (hx : H x = none) : ∀ (ds : List PyData) {vs : List V}, DaAll S H vs ds → DaAll (fun z => S z ∨ z = x) H vs ds
  | [], _, h => by cases h; exact .nil
  | d :: ds, _, h => by
    cases h with
    | cons a b => exact .cons (Da.add hx d a) (Da.addAll hx ds b)
end
theorem Ls.add {S : Addr → Prop} {H : Hp} {x : Addr} {xs : List V} {n W : Nat} (hx : H x = none) (h : Ls S H xs n W) : Ls (fun z => S z ∨ z = x) H xs n W := by
  obtain ⟨ds, a, r⟩ := h
  exact ⟨ds, Da.addAll hx ds a, r⟩
theorem Gx.add {S : Addr → Prop} {H : Hp} {x : Addr} {v : V} {n W : Nat} (hx : H x = none) (h : Gx S H v n W) : Gx (fun z => S z ∨ z = x) H v n W := by
  obtain ⟨d, a, r⟩ := h
  exact ⟨d, Da.add hx d a, r⟩
theorem Ls.mem {S : Addr → Prop} {H : Hp} {n W : Nat} : ∀ {xs : List V} {x : V}, Ls S H xs n W → x ∈ xs → Gx S H x n W
  | [], _, _, h => by cases h
  | y :: ys, x, ⟨ds, a, o, dp, wl⟩, h => by
    match ds, a with
    | d :: ds', .cons a b =>
      have o' : (okD d && okAll ds') = true := o
      rw [Bool.and_eq_true] at o'
      have dp' : max d.depth (PyData.depthAll ds') ≤ n := dp
      have wl' : wt d + 2 + wtAll ds' ≤ W := wl
      rcases List.mem_cons.mp h with rfl | h
      · exact ⟨d, a, o'.1, by omega, by omega⟩
      · exact Ls.mem ⟨ds', b, o'.2, by omega, by omega⟩ h
section
variable {P : Program} {w : World} {K : PySem.W.Frag} {mg : Str → Option Value} {base : Heap}
def spOdd8 : Sp := fun vs H Q _ => ∃ (S : Addr → Prop) (p : Addr) (a b c : Int), vs = [.ref p] ∧ S p ∧ SL S H ∧ H p = some (.lst [.int a, .int b, .int c]) ∧ 0 ≤ a ∧ 0 ≤ b ∧ b < 2 ^ 62 ∧ 0 ≤ c ∧ c < 2 ^ 38 ∧
  ∀ (H' : Hp) (x : V) (a' c' : Int), Keep p H H' → H' p = some (.lst [.int a', .int b, .int c']) → 0 ≤ a' → c ≤ c' → c' ≤ c + 1 → Gx S H' x 7 200000 → Q x H'
theorem ok_odd (T : Tx K mg) : FnOk P w K mg base CX0 2 T.f_odd T.fd_odd ["_law_box_here"] spOdd8 := by
  refine T.F_odd.ok sc_odd (fun vs H Q E h => ?_) (fun cdv A outer s H vs Q E hr h => ?_)
  · obtain ⟨S, p, a, b, c, rfl, _⟩ := h
    rfl
  · obtain ⟨S, p, a, b, c, rfl, hSp, hSL, hB, a0, b0, b1, c0, c1, q⟩ := h
    refine ⟨_, (pss_cons (ps_set (i := 1) sc_odd.nd rfl (.inl rfl) (pe_lst (pa_cons pe_non (pa_cons pe_bl (pa_cons pe_bl (pa_cons pe_int (pa_cons pe_int (pa_cons pe_int (pa_cons pe_int (pa_cons pe_int (pa_cons pe_int (pa_cons pe_int (pa_cons pe_int (pa_cons pe_int (pa_cons pe_int (pa_cons pe_int (pa_cons pe_int (pa_cons (pe_un un_neg pe_int) (pa_cons pe_int (pa_cons pe_int (pa_cons (pe_op op_pow pe_int pe_int) (pa_cons pe_str (pa_cons pe_str (pa_cons pe_str pa_nil))))))))))))))))))))))))
      (pss_cons (ps_set (i := 1) sc_odd.nd rfl (.inl rfl) (pe_op op_cat (pv 1) (pe_lst (pa_cons pe_str (pa_cons (pe_tup pa_nil) (pa_cons (pe_lst pa_nil) (pa_cons (pe_tup (pa_cons pe_int pa_nil)) (pa_cons (pe_lst (pa_cons pe_int pa_nil)) (pa_cons (pe_lst (pa_cons pe_int (pa_cons pe_int pa_nil))) (pa_cons (pe_lst (pa_cons pe_int (pa_cons pe_int (pa_cons pe_int pa_nil)))) (pa_cons (pe_tup (pa_cons pe_int (pa_cons pe_int (pa_cons pe_int (pa_cons pe_int pa_nil))))) (pa_cons (pe_lst (pa_cons pe_int (pa_cons pe_int (pa_cons pe_int (pa_cons pe_int pa_nil))))) (pa_cons (pe_tup (pa_cons pe_int (pa_cons pe_int (pa_cons pe_int (pa_cons pe_int (pa_cons pe_int pa_nil)))))) pa_nil)))))))))))))
      (pss_cons (ps_expr (pe_bm PySem.F.plainAttrs_list PySem.F.slot_list_append PySem.F.type_list_append mt_append (pv 1) (pa_cons (pe_lst (pa_cons pe_bl (pa_cons pe_int (pa_cons pe_int (pa_cons pe_int pa_nil))))) pa_nil)))
      (pss_cons (ps_set (i := 1) sc_odd.nd rfl (.inl rfl) (pe_op op_cat (pv 1) (pe_lst (pa_cons (pe_tup (pa_cons pe_int (pa_cons pe_int (pa_cons pe_int (pa_cons (pe_un un_neg pe_int) pa_nil))))) (pa_cons (pe_lst (pa_cons (pe_lst (pa_cons (pe_lst (pa_cons (pe_lst (pa_cons (pe_lst (pa_cons (pe_lst pa_nil) pa_nil)) pa_nil)) pa_nil)) pa_nil)) pa_nil)) (pa_cons (pe_tup (pa_cons (pe_tup (pa_cons (pe_tup (pa_cons (pe_tup (pa_cons (pe_tup (pa_cons (pe_tup (pa_cons pe_int pa_nil)) pa_nil)) pa_nil)) pa_nil)) pa_nil)) pa_nil)) (pa_cons (pe_tup (pa_cons pe_non pa_nil)) (pa_cons (pe_lst (pa_cons pe_str pa_nil)) (pa_cons (pe_lst (pa_cons (pe_lst (pa_cons pe_int pa_nil)) (pa_cons pe_int pa_nil))) (pa_cons (pe_tup (pa_cons pe_int (pa_cons pe_int (pa_cons pe_int (pa_cons pe_str pa_nil))))) pa_nil))))))))))
      (pss_one (ps_ret (pe_ix (r := rIxL K) ix_list (pv 1) (pe_call (ok_take T) (hr.mono (by omega)) (by rfl) T.g_take T.F_take.kp T.b_take .nil pass0 (pa_cons (pv 0) (pa_cons (pe_callB call_len_seq (by rfl) T.m_len (by decide +kernel) (pa_cons (pv 1) pa_nil)) pa_nil))) (fun _ _ => rfl)))))))), ?_⟩
    have kp := Keep.refl p H
    have A1 : Ls S H ([] : List V) 7 0 := Ls.nil
    replace A1 := A1.app (Ls.one (Gx.non.mono (by decide : 0 ≤ 7) (Nat.le_refl _)))
    replace A1 := A1.app (Ls.one ((Gx.bl (b := true)).mono (by decide : 0 ≤ 7) (Nat.le_refl _)))
    replace A1 := A1.app (Ls.one ((Gx.bl (b := false)).mono (by decide : 0 ≤ 7) (Nat.le_refl _)))
    replace A1 := A1.app (Ls.one ((Gx.int (i := 0) (by decide)).mono (by decide : 0 ≤ 7) (Nat.le_refl _)))
    replace A1 := A1.app (Ls.one ((Gx.int (i := 1) (by decide)).mono (by decide : 0 ≤ 7) (Nat.le_refl _)))
    replace A1 := A1.app (Ls.one ((Gx.int (i := 2) (by decide)).mono (by decide : 0 ≤ 7) (Nat.le_refl _)))
    replace A1 := A1.app (Ls.one ((Gx.int (i := 3) (by decide)).mono (by decide : 0 ≤ 7) (Nat.le_refl _)))
    replace A1 := A1.app (Ls.one ((Gx.int (i := 7) (by decide)).mono (by decide : 0 ≤ 7) (Nat.le_refl _)))
    replace A1 := A1.app (Ls.one ((Gx.int (i := 8) (by decide)).mono (by decide : 0 ≤ 7) (Nat.le_refl _)))
    replace A1 := A1.app (Ls.one ((Gx.int (i := 9) (by decide)).mono (by decide : 0 ≤ 7) (Nat.le_refl _)))
    replace A1 := A1.app (Ls.one ((Gx.int (i := 10) (by decide)).mono (by decide : 0 ≤ 7) (Nat.le_refl _)))
    replace A1 := A1.app (Ls.one ((Gx.int (i := 11) (by decide)).mono (by decide : 0 ≤ 7) (Nat.le_refl _)))
    replace A1 := A1.app (Ls.one ((Gx.int (i := 16) (by decide)).mono (by decide : 0 ≤ 7) (Nat.le_refl _)))
    replace A1 := A1.app (Ls.one ((Gx.int (i := 31) (by decide)).mono (by decide : 0 ≤ 7) (Nat.le_refl _)))
    replace A1 := A1.app (Ls.one ((Gx.int (i := 32) (by decide)).mono (by decide : 0 ≤ 7) (Nat.le_refl _)))
    replace A1 := A1.app (Ls.one ((Gx.int (i := -1) (by decide)).mono (by decide : 0 ≤ 7) (Nat.le_refl _)))
    replace A1 := A1.app (Ls.one ((Gx.int (i := 255) (by decide)).mono (by decide : 0 ≤ 7) (Nat.le_refl _)))
    replace A1 := A1.app (Ls.one ((Gx.int (i := 256) (by decide)).mono (by decide : 0 ≤ 7) (Nat.le_refl _)))
    replace A1 := A1.app (Ls.one ((Gx.int2 (i := 10 ^ Int.toNat 30) (by decide +kernel)).mono (by decide : 0 ≤ 7) (Nat.le_refl _)))
    replace A1 := A1.app (Ls.one ((Gx.str (s := "") (by decide +kernel)).mono (by decide : 0 ≤ 7) (Nat.le_refl _)))
    replace A1 := A1.app (Ls.one ((Gx.str (s := "words") (by decide +kernel)).mono (by decide : 0 ≤ 7) (Nat.le_refl _)))
    replace A1 := A1.app (Ls.one ((Gx.str (s := "1") (by decide +kernel)).mono (by decide : 0 ≤ 7) (Nat.le_refl _)))
    replace A1 : Ls S H ([.non, .bl true, .bl false, .int 0, .int 1, .int 2, .int 3, .int 7, .int 8, .int 9, .int 10, .int 11, .int 16, .int 31, .int 32, .int (-1), .int 255, .int 256, .int (10 ^ Int.toNat 30), .str (Str.ofString ""), .str (Str.ofString "words"), .str (Str.ofString "1")] : List V) 7 60000 := Ls.mono (show Ls S H ([.non, .bl true, .bl false, .int 0, .int 1, .int 2, .int 3, .int 7, .int 8, .int 9, .int 10, .int 11, .int 16, .int 31, .int 32, .int (-1), .int 255, .int 256, .int (10 ^ Int.toNat 30), .str (Str.ofString ""), .str (Str.ofString "words"), .str (Str.ofString "1")] : List V) 7 _ from A1) (Nat.le_refl _) (by decide)
    refine ⟨1, rfl, 10, 30, rfl, rfl, ⟨by decide, by decide, by decide⟩, by show 22 ≤ sizeLine; decide, fun a1 ha1 => ?_⟩
    have na1 : ¬ S a1 := hSL.new ha1
    have sF1 : Same H (upd H a1 (.lst [.non, .bl true, .bl false, .int 0, .int 1, .int 2, .int 3, .int 7, .int 8, .int 9, .int 10, .int 11, .int 16, .int 31, .int 32, .int (-1), .int 255, .int 256, .int (10 ^ Int.toNat 30), .str (Str.ofString ""), .str (Str.ofString "words"), .str (Str.ofString "1")])) := same_upd ha1
    have eF1 : (upd H a1 (.lst [.non, .bl true, .bl false, .int 0, .int 1, .int 2, .int 3, .int 7, .int 8, .int 9, .int 10, .int 11, .int 16, .int 31, .int 32, .int (-1), .int 255, .int 256, .int (10 ^ Int.toNat 30), .str (Str.ofString ""), .str (Str.ofString "words"), .str (Str.ofString "1")])) a1 = some (.lst [.non, .bl true, .bl false, .int 0, .int 1, .int 2, .int 3, .int 7, .int 8, .int 9, .int 10, .int 11, .int 16, .int 31, .int 32, .int (-1), .int 255, .int 256, .int (10 ^ Int.toNat 30), .str (Str.ofString ""), .str (Str.ofString "words"), .str (Str.ofString "1")]) := upd_same
    generalize upd H a1 (.lst [.non, .bl true, .bl false, .int 0, .int 1, .int 2, .int 3, .int 7, .int 8, .int 9, .int 10, .int 11, .int 16, .int 31, .int 32, .int (-1), .int 255, .int 256, .int (10 ^ Int.toNat 30), .str (Str.ofString ""), .str (Str.ofString "words"), .str (Str.ofString "1")]) = F1 at sF1 eF1 ⊢
    replace hB := sF1 _ _ hB
    replace kp := kp.trans (Same.k sF1)
    replace hSL := hSL.same sF1
    replace A1 := A1.same sF1
    have A2 : Ls S F1 ([] : List V) 7 0 := Ls.nil
    replace A2 := A2.app (Ls.one ((Gx.str (s := "last") (by decide +kernel)).mono (by decide : 0 ≤ 7) (Nat.le_refl _)))
    refine ⟨.ref a1, rfl, Nat.zero_le _, fun a2 ha2 => ?_⟩
    have na2 : ¬ S a2 := hSL.new ha2
    have sF2 : Same F1 (upd F1 a2 (.tup [])) := same_upd ha2
    have eF2 : (upd F1 a2 (.tup [])) a2 = some (.tup []) := upd_same
    generalize upd F1 a2 (.tup []) = F2 at sF2 eF2 ⊢
    replace hB := sF2 _ _ hB
    replace eF1 := sF2 _ _ eF1
    replace kp := kp.trans (Same.k sF2)
    replace hSL := hSL.same sF2
    replace A1 := A1.same sF2
    replace A2 := A2.same sF2
    have ga2 := Gx.tup (S := S) na2 eF2 (Ls.nil (n := 0) (W := 0))
    replace A2 := A2.app (Ls.one (ga2.mono (by decide : 1 ≤ 7) (Nat.le_refl _)))
    refine ⟨Nat.zero_le _, fun a3 ha3 => ?_⟩
    have na3 : ¬ S a3 := hSL.new ha3
    have sF3 : Same F2 (upd F2 a3 (.lst [])) := same_upd ha3
    have eF3 : (upd F2 a3 (.lst [])) a3 = some (.lst []) := upd_same
    generalize upd F2 a3 (.lst []) = F3 at sF3 eF3 ⊢
    replace hB := sF3 _ _ hB
    replace eF1 := sF3 _ _ eF1
    replace kp := kp.trans (Same.k sF3)
    replace hSL := hSL.same sF3
    replace A1 := A1.same sF3
    replace A2 := A2.same sF3
    have ga3 := Gx.lst (S := S) na3 eF3 (Ls.nil (n := 0) (W := 0))
    replace A2 := A2.app (Ls.one (ga3.mono (by decide : 1 ≤ 7) (Nat.le_refl _)))
    refine ⟨by show 1 ≤ sizeLine; decide, fun a4 ha4 => ?_⟩
    have na4 : ¬ S a4 := hSL.new ha4
    have sF4 : Same F3 (upd F3 a4 (.tup [.int 0])) := same_upd ha4
    have eF4 : (upd F3 a4 (.tup [.int 0])) a4 = some (.tup [.int 0]) := upd_same
    generalize upd F3 a4 (.tup [.int 0]) = F4 at sF4 eF4 ⊢
    replace hB := sF4 _ _ hB
    replace eF1 := sF4 _ _ eF1
    replace kp := kp.trans (Same.k sF4)
    replace hSL := hSL.same sF4
    replace A1 := A1.same sF4
    replace A2 := A2.same sF4
    have ga4 := Gx.tup (S := S) na4 eF4 (Ls.cons2 ((Gx.int (i := 0) (by decide)).mono (by decide : 0 ≤ 0) (Nat.le_refl _)) (Ls.nil (n := 0) (W := 0)))
    replace A2 := A2.app (Ls.one (ga4.mono (by decide : 1 ≤ 7) (Nat.le_refl _)))
    refine ⟨by show 1 ≤ sizeLine; decide, fun a5 ha5 => ?_⟩
    have na5 : ¬ S a5 := hSL.new ha5
    have sF5 : Same F4 (upd F4 a5 (.lst [.int 0])) := same_upd ha5
    have eF5 : (upd F4 a5 (.lst [.int 0])) a5 = some (.lst [.int 0]) := upd_same
    generalize upd F4 a5 (.lst [.int 0]) = F5 at sF5 eF5 ⊢
    replace hB := sF5 _ _ hB
    replace eF1 := sF5 _ _ eF1
    replace kp := kp.trans (Same.k sF5)
    replace hSL := hSL.same sF5
    replace A1 := A1.same sF5
    replace A2 := A2.same sF5
    have ga5 := Gx.lst (S := S) na5 eF5 (Ls.cons2 ((Gx.int (i := 0) (by decide)).mono (by decide : 0 ≤ 0) (Nat.le_refl _)) (Ls.nil (n := 0) (W := 0)))
    replace A2 := A2.app (Ls.one (ga5.mono (by decide : 1 ≤ 7) (Nat.le_refl _)))
    refine ⟨by show 2 ≤ sizeLine; decide, fun a6 ha6 => ?_⟩
    have na6 : ¬ S a6 := hSL.new ha6
    have sF6 : Same F5 (upd F5 a6 (.lst [.int 255, .int 256])) := same_upd ha6
    have eF6 : (upd F5 a6 (.lst [.int 255, .int 256])) a6 = some (.lst [.int 255, .int 256]) := upd_same
    generalize upd F5 a6 (.lst [.int 255, .int 256]) = F6 at sF6 eF6 ⊢
    replace hB := sF6 _ _ hB
    replace eF1 := sF6 _ _ eF1
    replace kp := kp.trans (Same.k sF6)
    replace hSL := hSL.same sF6
    replace A1 := A1.same sF6
    replace A2 := A2.same sF6
    have ga6 := Gx.lst (S := S) na6 eF6 (Ls.cons2 ((Gx.int (i := 255) (by decide)).mono (by decide : 0 ≤ 0) (Nat.le_refl _)) (Ls.cons2 ((Gx.int (i := 256) (by decide)).mono (by decide : 0 ≤ 0) (Nat.le_refl _)) (Ls.nil (n := 0) (W := 0))))
    replace A2 := A2.app (Ls.one (ga6.mono (by decide : 1 ≤ 7) (Nat.le_refl _)))
    refine ⟨by show 3 ≤ sizeLine; decide, fun a7 ha7 => ?_⟩
    have na7 : ¬ S a7 := hSL.new ha7
    have sF7 : Same F6 (upd F6 a7 (.lst [.int 1, .int 2, .int 3])) := same_upd ha7
    have eF7 : (upd F6 a7 (.lst [.int 1, .int 2, .int 3])) a7 = some (.lst [.int 1, .int 2, .int 3]) := upd_same
    generalize upd F6 a7 (.lst [.int 1, .int 2, .int 3]) = F7 at sF7 eF7 ⊢
    replace hB := sF7 _ _ hB
    replace eF1 := sF7 _ _ eF1
    replace kp := kp.trans (Same.k sF7)
    replace hSL := hSL.same sF7
    replace A1 := A1.same sF7
    replace A2 := A2.same sF7
    have ga7 := Gx.lst (S := S) na7 eF7 (Ls.cons2 ((Gx.int (i := 1) (by decide)).mono (by decide : 0 ≤ 0) (Nat.le_refl _)) (Ls.cons2 ((Gx.int (i := 2) (by decide)).mono (by decide : 0 ≤ 0) (Nat.le_refl _)) (Ls.cons2 ((Gx.int (i := 3) (by decide)).mono (by decide : 0 ≤ 0) (Nat.le_refl _)) (Ls.nil (n := 0) (W := 0)))))
    replace A2 := A2.app (Ls.one (ga7.mono (by decide : 1 ≤ 7) (Nat.le_refl _)))
    refine ⟨by show 4 ≤ sizeLine; decide, fun a8 ha8 => ?_⟩
    have na8 : ¬ S a8 := hSL.new ha8
    have sF8 : Same F7 (upd F7 a8 (.tup [.int 1, .int 2, .int 3, .int 4])) := same_upd ha8
    have eF8 : (upd F7 a8 (.tup [.int 1, .int 2, .int 3, .int 4])) a8 = some (.tup [.int 1, .int 2, .int 3, .int 4]) := upd_same
    generalize upd F7 a8 (.tup [.int 1, .int 2, .int 3, .int 4]) = F8 at sF8 eF8 ⊢
    replace hB := sF8 _ _ hB
    replace eF1 := sF8 _ _ eF1
    replace kp := kp.trans (Same.k sF8)
    replace hSL := hSL.same sF8
    replace A1 := A1.same sF8
    replace A2 := A2.same sF8
    have ga8 := Gx.tup (S := S) na8 eF8 (Ls.cons2 ((Gx.int (i := 1) (by decide)).mono (by decide : 0 ≤ 0) (Nat.le_refl _)) (Ls.cons2 ((Gx.int (i := 2) (by decide)).mono (by decide : 0 ≤ 0) (Nat.le_refl _)) (Ls.cons2 ((Gx.int (i := 3) (by decide)).mono (by decide : 0 ≤ 0) (Nat.le_refl _)) (Ls.cons2 ((Gx.int (i := 4) (by decide)).mono (by decide : 0 ≤ 0) (Nat.le_refl _)) (Ls.nil (n := 0) (W := 0))))))
    replace A2 := A2.app (Ls.one (ga8.mono (by decide : 1 ≤ 7) (Nat.le_refl _)))
    refine ⟨by show 4 ≤ sizeLine; decide, fun a9 ha9 => ?_⟩
    have na9 : ¬ S a9 := hSL.new ha9
    have sF9 : Same F8 (upd F8 a9 (.lst [.int 1, .int 2, .int 3, .int 4])) := same_upd ha9
    have eF9 : (upd F8 a9 (.lst [.int 1, .int 2, .int 3, .int 4])) a9 = some (.lst [.int 1, .int 2, .int 3, .int 4]) := upd_same
    generalize upd F8 a9 (.lst [.int 1, .int 2, .int 3, .int 4]) = F9 at sF9 eF9 ⊢
    replace hB := sF9 _ _ hB
    replace eF1 := sF9 _ _ eF1
    replace kp := kp.trans (Same.k sF9)
    replace hSL := hSL.same sF9
    replace A1 := A1.same sF9
    replace A2 := A2.same sF9
    have ga9 := Gx.lst (S := S) na9 eF9 (Ls.cons2 ((Gx.int (i := 1) (by decide)).mono (by decide : 0 ≤ 0) (Nat.le_refl _)) (Ls.cons2 ((Gx.int (i := 2) (by decide)).mono (by decide : 0 ≤ 0) (Nat.le_refl _)) (Ls.cons2 ((Gx.int (i := 3) (by decide)).mono (by decide : 0 ≤ 0) (Nat.le_refl _)) (Ls.cons2 ((Gx.int (i := 4) (by decide)).mono (by decide : 0 ≤ 0) (Nat.le_refl _)) (Ls.nil (n := 0) (W := 0))))))
    replace A2 := A2.app (Ls.one (ga9.mono (by decide : 1 ≤ 7) (Nat.le_refl _)))
    refine ⟨by show 5 ≤ sizeLine; decide, fun a10 ha10 => ?_⟩
    have na10 : ¬ S a10 := hSL.new ha10
    have sF10 : Same F9 (upd F9 a10 (.tup [.int 1, .int 2, .int 3, .int 4, .int 5])) := same_upd ha10
    have eF10 : (upd F9 a10 (.tup [.int 1, .int 2, .int 3, .int 4, .int 5])) a10 = some (.tup [.int 1, .int 2, .int 3, .int 4, .int 5]) := upd_same
    generalize upd F9 a10 (.tup [.int 1, .int 2, .int 3, .int 4, .int 5]) = F10 at sF10 eF10 ⊢
    replace hB := sF10 _ _ hB
    replace eF1 := sF10 _ _ eF1
    replace kp := kp.trans (Same.k sF10)
    replace hSL := hSL.same sF10
    replace A1 := A1.same sF10
    replace A2 := A2.same sF10
    have ga10 := Gx.tup (S := S) na10 eF10 (Ls.cons2 ((Gx.int (i := 1) (by decide)).mono (by decide : 0 ≤ 0) (Nat.le_refl _)) (Ls.cons2 ((Gx.int (i := 2) (by decide)).mono (by decide : 0 ≤ 0) (Nat.le_refl _)) (Ls.cons2 ((Gx.int (i := 3) (by decide)).mono (by decide : 0 ≤ 0) (Nat.le_refl _)) (Ls.cons2 ((Gx.int (i := 4) (by decide)).mono (by decide : 0 ≤ 0) (Nat.le_refl _)) (Ls.cons2 ((Gx.int (i := 5) (by decide)).mono (by decide : 0 ≤ 0) (Nat.le_refl _)) (Ls.nil (n := 0) (W := 0)))))))
    replace A2 := A2.app (Ls.one (ga10.mono (by decide : 1 ≤ 7) (Nat.le_refl _)))
    replace A2 : Ls S F10 ([.str (Str.ofString "last"), .ref a2, .ref a3, .ref a4, .ref a5, .ref a6, .ref a7, .ref a8, .ref a9, .ref a10] : List V) 7 60000 := Ls.mono (show Ls S F10 ([.str (Str.ofString "last"), .ref a2, .ref a3, .ref a4, .ref a5, .ref a6, .ref a7, .ref a8, .ref a9, .ref a10] : List V) 7 _ from A2) (Nat.le_refl _) (by decide)
    refine ⟨by show 10 ≤ sizeLine; decide, fun a11 ha11 => ?_⟩
    have na11 : ¬ S a11 := hSL.new ha11
    have sF11 : Same F10 (upd F10 a11 (.lst [.str (Str.ofString "last"), .ref a2, .ref a3, .ref a4, .ref a5, .ref a6, .ref a7, .ref a8, .ref a9, .ref a10])) := same_upd ha11
    have eF11 : (upd F10 a11 (.lst [.str (Str.ofString "last"), .ref a2, .ref a3, .ref a4, .ref a5, .ref a6, .ref a7, .ref a8, .ref a9, .ref a10])) a11 = some (.lst [.str (Str.ofString "last"), .ref a2, .ref a3, .ref a4, .ref a5, .ref a6, .ref a7, .ref a8, .ref a9, .ref a10]) := upd_same
    generalize upd F10 a11 (.lst [.str (Str.ofString "last"), .ref a2, .ref a3, .ref a4, .ref a5, .ref a6, .ref a7, .ref a8, .ref a9, .ref a10]) = F11 at sF11 eF11 ⊢
    replace hB := sF11 _ _ hB
    replace eF1 := sF11 _ _ eF1
    replace kp := kp.trans (Same.k sF11)
    replace hSL := hSL.same sF11
    replace A1 := A1.same sF11
    replace A2 := A2.same sF11
    have A3 := A1.app A2
    generalize hx3 : ([.non, .bl true, .bl false, .int 0, .int 1, .int 2, .int 3, .int 7, .int 8, .int 9, .int 10, .int 11, .int 16, .int 31, .int 32, .int (-1), .int 255, .int 256, .int (10 ^ Int.toNat 30), .str (Str.ofString ""), .str (Str.ofString "words"), .str (Str.ofString "1")] ++ [.str (Str.ofString "last"), .ref a2, .ref a3, .ref a4, .ref a5, .ref a6, .ref a7, .ref a8, .ref a9, .ref a10] : List V) = x3 at A3
    have l3 : x3.length = 32 := by rw [← hx3]; rfl
    refine ⟨a1, a11, _, _, rfl, rfl, eF1, eF11, (by show 22 + 10 ≤ sizeLine; decide), fun a12 ha12 => ?_⟩
    rw [hx3]
    have na12 : a12 ≠ p := (ne_of_none hB ha12).symm
    replace A3 := Ls.add ha12 A3
    have f3 : H a12 = none := kp.free ha12 na12
    have sF12 : Same F11 (upd F11 a12 (.lst x3)) := same_upd ha12
    have eF12 : (upd F11 a12 (.lst x3)) a12 = some (.lst x3) := upd_same
    generalize upd F11 a12 (.lst x3) = F12 at sF12 eF12 ⊢
    replace hB := sF12 _ _ hB
    replace kp := kp.trans (Same.k sF12)
    replace A3 := A3.same sF12
    have hSL2 : SL (fun z => S z ∨ z = a12) F12 := fun y hy => by
      rcases hy with hy | rfl
      · exact hSL.same sF12 y hy
      · exact ⟨_, eF12⟩
    clear hSL
    have hSL := hSL2
    refine ⟨.ref a12, rfl, .inl ⟨rfl, _, sq1 eF12⟩, by show 4 ≤ sizeLine; decide, fun a13 ha13 => ?_⟩
    have na13 : ¬ (fun z => S z ∨ z = a12) a13 := hSL.new ha13
    have sF13 : Same F12 (upd F12 a13 (.lst [.bl true, .int 1, .int 1, .int 1])) := same_upd ha13
    have eF13 : (upd F12 a13 (.lst [.bl true, .int 1, .int 1, .int 1])) a13 = some (.lst [.bl true, .int 1, .int 1, .int 1]) := upd_same
    generalize upd F12 a13 (.lst [.bl true, .int 1, .int 1, .int 1]) = F13 at sF13 eF13 ⊢
    replace hB := sF13 _ _ hB
    replace eF12 := sF13 _ _ eF12
    replace kp := kp.trans (Same.k sF13)
    replace hSL := hSL.same sF13
    replace A3 := A3.same sF13
    have ga13 := Gx.lst (S := (fun z => S z ∨ z = a12)) na13 eF13 (Ls.cons2 ((Gx.bl (b := true)).mono (by decide : 0 ≤ 0) (Nat.le_refl _)) (Ls.cons2 ((Gx.int (i := 1) (by decide)).mono (by decide : 0 ≤ 0) (Nat.le_refl _)) (Ls.cons2 ((Gx.int (i := 1) (by decide)).mono (by decide : 0 ≤ 0) (Nat.le_refl _)) (Ls.cons2 ((Gx.int (i := 1) (by decide)).mono (by decide : 0 ≤ 0) (Nat.le_refl _)) (Ls.nil (n := 0) (W := 0))))))
    refine ⟨a12, _, _, rfl, rfl, eF12, (by rw [l3]; decide), ?_⟩
    have kFM : Keep a12 F13 (upd F13 a12 (.lst (x3 ++ [.ref a13]))) := (Keep.refl a12 F13).upd
    have eFM : (upd F13 a12 (.lst (x3 ++ [.ref a13]))) a12 = some (.lst (x3 ++ [.ref a13])) := upd_same
    generalize upd F13 a12 (.lst (x3 ++ [.ref a13])) = FM at kFM eFM ⊢
    replace hB := kFM _ _ (Ne.symm na12) hB
    replace kp := Keep.mut kp kFM f3
    replace A3 := (A3.app (Ls.one (ga13.mono (by decide : 1 ≤ 7) (Nat.le_refl _)))).keep (.inr rfl) kFM
    replace hSL : SL (fun z => S z ∨ z = a12) FM := hSL.keep kFM eFM
    have l4 : (x3 ++ ([.ref a13] : List V)).length = 33 := by rw [List.length_append, l3]; rfl
    generalize x3 ++ ([.ref a13] : List V) = x4 at eFM A3 l4
    have A5 : Ls (fun z => S z ∨ z = a12) FM ([] : List V) 7 0 := Ls.nil
    refine ⟨.ref a12, rfl, 1, rfl, by show 4 ≤ sizeLine; decide, fun a14 ha14 => ?_⟩
    have na14 : ¬ (fun z => S z ∨ z = a12) a14 := hSL.new ha14
    have sF14 : Same FM (upd FM a14 (.tup [.int 0, .int 0, .int 0, .int (-1)])) := same_upd ha14
    have eF14 : (upd FM a14 (.tup [.int 0, .int 0, .int 0, .int (-1)])) a14 = some (.tup [.int 0, .int 0, .int 0, .int (-1)]) := upd_same
    generalize upd FM a14 (.tup [.int 0, .int 0, .int 0, .int (-1)]) = F14 at sF14 eF14 ⊢
    replace hB := sF14 _ _ hB
    replace eFM := sF14 _ _ eFM
    replace kp := kp.trans (Same.k sF14)
    replace hSL := hSL.same sF14
    replace A3 := A3.same sF14
    replace A5 := A5.same sF14
    have ga14 := Gx.tup (S := (fun z => S z ∨ z = a12)) na14 eF14 (Ls.cons2 ((Gx.int (i := 0) (by decide)).mono (by decide : 0 ≤ 0) (Nat.le_refl _)) (Ls.cons2 ((Gx.int (i := 0) (by decide)).mono (by decide : 0 ≤ 0) (Nat.le_refl _)) (Ls.cons2 ((Gx.int (i := 0) (by decide)).mono (by decide : 0 ≤ 0) (Nat.le_refl _)) (Ls.cons2 ((Gx.int (i := -1) (by decide)).mono (by decide : 0 ≤ 0) (Nat.le_refl _)) (Ls.nil (n := 0) (W := 0))))))
    replace A5 := A5.app (Ls.one (ga14.mono (by decide : 1 ≤ 7) (Nat.le_refl _)))
    refine ⟨Nat.zero_le _, fun a15 ha15 => ?_⟩
    have na15 : ¬ (fun z => S z ∨ z = a12) a15 := hSL.new ha15
    have sF15 : Same F14 (upd F14 a15 (.lst [])) := same_upd ha15
    have eF15 : (upd F14 a15 (.lst [])) a15 = some (.lst []) := upd_same
    generalize upd F14 a15 (.lst []) = F15 at sF15 eF15 ⊢
    replace hB := sF15 _ _ hB
    replace eFM := sF15 _ _ eFM
    replace kp := kp.trans (Same.k sF15)
    replace hSL := hSL.same sF15
    replace A3 := A3.same sF15
    replace A5 := A5.same sF15
    have ga15 := Gx.lst (S := (fun z => S z ∨ z = a12)) na15 eF15 (Ls.nil (n := 0) (W := 0))
    refine ⟨by show 1 ≤ sizeLine; decide, fun a16 ha16 => ?_⟩
    have na16 : ¬ (fun z => S z ∨ z = a12) a16 := hSL.new ha16
    have sF16 : Same F15 (upd F15 a16 (.lst [.ref a15])) := same_upd ha16
    have eF16 : (upd F15 a16 (.lst [.ref a15])) a16 = some (.lst [.ref a15]) := upd_same
    generalize upd F15 a16 (.lst [.ref a15]) = F16 at sF16 eF16 ⊢
    replace hB := sF16 _ _ hB
    replace eFM := sF16 _ _ eFM
    replace kp := kp.trans (Same.k sF16)
    replace hSL := hSL.same sF16
    replace A3 := A3.same sF16
    replace A5 := A5.same sF16
    replace ga15 := ga15.same sF16
    have ga16 := Gx.lst (S := (fun z => S z ∨ z = a12)) na16 eF16 (Ls.cons2 (ga15.mono (by decide : 1 ≤ 1) (Nat.le_refl _)) (Ls.nil (n := 1) (W := 0)))
    refine ⟨by show 1 ≤ sizeLine; decide, fun a17 ha17 => ?_⟩
    have na17 : ¬ (fun z => S z ∨ z = a12) a17 := hSL.new ha17
    have sF17 : Same F16 (upd F16 a17 (.lst [.ref a16])) := same_upd ha17
    have eF17 : (upd F16 a17 (.lst [.ref a16])) a17 = some (.lst [.ref a16]) := upd_same
    generalize upd F16 a17 (.lst [.ref a16]) = F17 at sF17 eF17 ⊢
    replace hB := sF17 _ _ hB
    replace eFM := sF17 _ _ eFM
    replace kp := kp.trans (Same.k sF17)
    replace hSL := hSL.same sF17
    replace A3 := A3.same sF17
    replace A5 := A5.same sF17
    replace ga16 := ga16.same sF17
    have ga17 := Gx.lst (S := (fun z => S z ∨ z = a12)) na17 eF17 (Ls.cons2 (ga16.mono (by decide : 2 ≤ 2) (Nat.le_refl _)) (Ls.nil (n := 2) (W := 0)))
    refine ⟨by show 1 ≤ sizeLine; decide, fun a18 ha18 => ?_⟩
    have na18 : ¬ (fun z => S z ∨ z = a12) a18 := hSL.new ha18
    have sF18 : Same F17 (upd F17 a18 (.lst [.ref a17])) := same_upd ha18
    have eF18 : (upd F17 a18 (.lst [.ref a17])) a18 = some (.lst [.ref a17]) := upd_same
    generalize upd F17 a18 (.lst [.ref a17]) = F18 at sF18 eF18 ⊢
    replace hB := sF18 _ _ hB
    replace eFM := sF18 _ _ eFM
    replace kp := kp.trans (Same.k sF18)
    replace hSL := hSL.same sF18
    replace A3 := A3.same sF18
    replace A5 := A5.same sF18
    replace ga17 := ga17.same sF18
    have ga18 := Gx.lst (S := (fun z => S z ∨ z = a12)) na18 eF18 (Ls.cons2 (ga17.mono (by decide : 3 ≤ 3) (Nat.le_refl _)) (Ls.nil (n := 3) (W := 0)))
    refine ⟨by show 1 ≤ sizeLine; decide, fun a19 ha19 => ?_⟩
    have na19 : ¬ (fun z => S z ∨ z = a12) a19 := hSL.new ha19
    have sF19 : Same F18 (upd F18 a19 (.lst [.ref a18])) := same_upd ha19
    have eF19 : (upd F18 a19 (.lst [.ref a18])) a19 = some (.lst [.ref a18]) := upd_same
    generalize upd F18 a19 (.lst [.ref a18]) = F19 at sF19 eF19 ⊢
    replace hB := sF19 _ _ hB
    replace eFM := sF19 _ _ eFM
    replace kp := kp.trans (Same.k sF19)
    replace hSL := hSL.same sF19
    replace A3 := A3.same sF19
    replace A5 := A5.same sF19
    replace ga18 := ga18.same sF19
    have ga19 := Gx.lst (S := (fun z => S z ∨ z = a12)) na19 eF19 (Ls.cons2 (ga18.mono (by decide : 4 ≤ 4) (Nat.le_refl _)) (Ls.nil (n := 4) (W := 0)))
    refine ⟨by show 1 ≤ sizeLine; decide, fun a20 ha20 => ?_⟩
    have na20 : ¬ (fun z => S z ∨ z = a12) a20 := hSL.new ha20
    have sF20 : Same F19 (upd F19 a20 (.lst [.ref a19])) := same_upd ha20
    have eF20 : (upd F19 a20 (.lst [.ref a19])) a20 = some (.lst [.ref a19]) := upd_same
    generalize upd F19 a20 (.lst [.ref a19]) = F20 at sF20 eF20 ⊢
    replace hB := sF20 _ _ hB
    replace eFM := sF20 _ _ eFM
    replace kp := kp.trans (Same.k sF20)
    replace hSL := hSL.same sF20
    replace A3 := A3.same sF20
    replace A5 := A5.same sF20
    replace ga19 := ga19.same sF20
    have ga20 := Gx.lst (S := (fun z => S z ∨ z = a12)) na20 eF20 (Ls.cons2 (ga19.mono (by decide : 5 ≤ 5) (Nat.le_refl _)) (Ls.nil (n := 5) (W := 0)))
    replace A5 := A5.app (Ls.one (ga20.mono (by decide : 6 ≤ 7) (Nat.le_refl _)))
    refine ⟨by show 1 ≤ sizeLine; decide, fun a21 ha21 => ?_⟩
    have na21 : ¬ (fun z => S z ∨ z = a12) a21 := hSL.new ha21
    have sF21 : Same F20 (upd F20 a21 (.tup [.int 1])) := same_upd ha21
    have eF21 : (upd F20 a21 (.tup [.int 1])) a21 = some (.tup [.int 1]) := upd_same
    generalize upd F20 a21 (.tup [.int 1]) = F21 at sF21 eF21 ⊢
    replace hB := sF21 _ _ hB
    replace eFM := sF21 _ _ eFM
    replace kp := kp.trans (Same.k sF21)
    replace hSL := hSL.same sF21
    replace A3 := A3.same sF21
    replace A5 := A5.same sF21
    have ga21 := Gx.tup (S := (fun z => S z ∨ z = a12)) na21 eF21 (Ls.cons2 ((Gx.int (i := 1) (by decide)).mono (by decide : 0 ≤ 0) (Nat.le_refl _)) (Ls.nil (n := 0) (W := 0)))
    refine ⟨by show 1 ≤ sizeLine; decide, fun a22 ha22 => ?_⟩
    have na22 : ¬ (fun z => S z ∨ z = a12) a22 := hSL.new ha22
    have sF22 : Same F21 (upd F21 a22 (.tup [.ref a21])) := same_upd ha22
    have eF22 : (upd F21 a22 (.tup [.ref a21])) a22 = some (.tup [.ref a21]) := upd_same
    generalize upd F21 a22 (.tup [.ref a21]) = F22 at sF22 eF22 ⊢
    replace hB := sF22 _ _ hB
    replace eFM := sF22 _ _ eFM
    replace kp := kp.trans (Same.k sF22)
    replace hSL := hSL.same sF22
    replace A3 := A3.same sF22
    replace A5 := A5.same sF22
    replace ga21 := ga21.same sF22
    have ga22 := Gx.tup (S := (fun z => S z ∨ z = a12)) na22 eF22 (Ls.cons2 (ga21.mono (by decide : 1 ≤ 1) (Nat.le_refl _)) (Ls.nil (n := 1) (W := 0)))
    refine ⟨by show 1 ≤ sizeLine; decide, fun a23 ha23 => ?_⟩
    have na23 : ¬ (fun z => S z ∨ z = a12) a23 := hSL.new ha23
    have sF23 : Same F22 (upd F22 a23 (.tup [.ref a22])) := same_upd ha23
    have eF23 : (upd F22 a23 (.tup [.ref a22])) a23 = some (.tup [.ref a22]) := upd_same
    generalize upd F22 a23 (.tup [.ref a22]) = F23 at sF23 eF23 ⊢
    replace hB := sF23 _ _ hB
    replace eFM := sF23 _ _ eFM
    replace kp := kp.trans (Same.k sF23)
    replace hSL := hSL.same sF23
    replace A3 := A3.same sF23
    replace A5 := A5.same sF23
    replace ga22 := ga22.same sF23
    have ga23 := Gx.tup (S := (fun z => S z ∨ z = a12)) na23 eF23 (Ls.cons2 (ga22.mono (by decide : 2 ≤ 2) (Nat.le_refl _)) (Ls.nil (n := 2) (W := 0)))
    refine ⟨by show 1 ≤ sizeLine; decide, fun a24 ha24 => ?_⟩
    have na24 : ¬ (fun z => S z ∨ z = a12) a24 := hSL.new ha24
    have sF24 : Same F23 (upd F23 a24 (.tup [.ref a23])) := same_upd ha24
    have eF24 : (upd F23 a24 (.tup [.ref a23])) a24 = some (.tup [.ref a23]) := upd_same
    generalize upd F23 a24 (.tup [.ref a23]) = F24 at sF24 eF24 ⊢
    replace hB := sF24 _ _ hB
    replace eFM := sF24 _ _ eFM
    replace kp := kp.trans (Same.k sF24)
    replace hSL := hSL.same sF24
    replace A3 := A3.same sF24
    replace A5 := A5.same sF24
    replace ga23 := ga23.same sF24
    have ga24 := Gx.tup (S := (fun z => S z ∨ z = a12)) na24 eF24 (Ls.cons2 (ga23.mono (by decide : 3 ≤ 3) (Nat.le_refl _)) (Ls.nil (n := 3) (W := 0)))
    refine ⟨by show 1 ≤ sizeLine; decide, fun a25 ha25 => ?_⟩
    have na25 : ¬ (fun z => S z ∨ z = a12) a25 := hSL.new ha25
    have sF25 : Same F24 (upd F24 a25 (.tup [.ref a24])) := same_upd ha25
    have eF25 : (upd F24 a25 (.tup [.ref a24])) a25 = some (.tup [.ref a24]) := upd_same
    generalize upd F24 a25 (.tup [.ref a24]) = F25 at sF25 eF25 ⊢
    replace hB := sF25 _ _ hB
    replace eFM := sF25 _ _ eFM
    replace kp := kp.trans (Same.k sF25)
    replace hSL := hSL.same sF25
    replace A3 := A3.same sF25
    replace A5 := A5.same sF25
    replace ga24 := ga24.same sF25
    have ga25 := Gx.tup (S := (fun z => S z ∨ z = a12)) na25 eF25 (Ls.cons2 (ga24.mono (by decide : 4 ≤ 4) (Nat.le_refl _)) (Ls.nil (n := 4) (W := 0)))
    refine ⟨by show 1 ≤ sizeLine; decide, fun a26 ha26 => ?_⟩
    have na26 : ¬ (fun z => S z ∨ z = a12) a26 := hSL.new ha26
    have sF26 : Same F25 (upd F25 a26 (.tup [.ref a25])) := same_upd ha26
    have eF26 : (upd F25 a26 (.tup [.ref a25])) a26 = some (.tup [.ref a25]) := upd_same
    generalize upd F25 a26 (.tup [.ref a25]) = F26 at sF26 eF26 ⊢
    replace hB := sF26 _ _ hB
    replace eFM := sF26 _ _ eFM
    replace kp := kp.trans (Same.k sF26)
    replace hSL := hSL.same sF26
    replace A3 := A3.same sF26
    replace A5 := A5.same sF26
    replace ga25 := ga25.same sF26
    have ga26 := Gx.tup (S := (fun z => S z ∨ z = a12)) na26 eF26 (Ls.cons2 (ga25.mono (by decide : 5 ≤ 5) (Nat.le_refl _)) (Ls.nil (n := 5) (W := 0)))
    replace A5 := A5.app (Ls.one (ga26.mono (by decide : 6 ≤ 7) (Nat.le_refl _)))
    refine ⟨by show 1 ≤ sizeLine; decide, fun a27 ha27 => ?_⟩
    have na27 : ¬ (fun z => S z ∨ z = a12) a27 := hSL.new ha27
    have sF27 : Same F26 (upd F26 a27 (.tup [.non])) := same_upd ha27
    have eF27 : (upd F26 a27 (.tup [.non])) a27 = some (.tup [.non]) := upd_same
    generalize upd F26 a27 (.tup [.non]) = F27 at sF27 eF27 ⊢
    replace hB := sF27 _ _ hB
    replace eFM := sF27 _ _ eFM
    replace kp := kp.trans (Same.k sF27)
    replace hSL := hSL.same sF27
    replace A3 := A3.same sF27
    replace A5 := A5.same sF27
    have ga27 := Gx.tup (S := (fun z => S z ∨ z = a12)) na27 eF27 (Ls.cons2 (Gx.non.mono (by decide : 0 ≤ 0) (Nat.le_refl _)) (Ls.nil (n := 0) (W := 0)))
    replace A5 := A5.app (Ls.one (ga27.mono (by decide : 1 ≤ 7) (Nat.le_refl _)))
    refine ⟨by show 1 ≤ sizeLine; decide, fun a28 ha28 => ?_⟩
    have na28 : ¬ (fun z => S z ∨ z = a12) a28 := hSL.new ha28
    have sF28 : Same F27 (upd F27 a28 (.lst [.str (Str.ofString "a")])) := same_upd ha28
    have eF28 : (upd F27 a28 (.lst [.str (Str.ofString "a")])) a28 = some (.lst [.str (Str.ofString "a")]) := upd_same
    generalize upd F27 a28 (.lst [.str (Str.ofString "a")]) = F28 at sF28 eF28 ⊢
    replace hB := sF28 _ _ hB
    replace eFM := sF28 _ _ eFM
    replace kp := kp.trans (Same.k sF28)
    replace hSL := hSL.same sF28
    replace A3 := A3.same sF28
    replace A5 := A5.same sF28
    have ga28 := Gx.lst (S := (fun z => S z ∨ z = a12)) na28 eF28 (Ls.cons2 ((Gx.str (s := "a") (by decide +kernel)).mono (by decide : 0 ≤ 0) (Nat.le_refl _)) (Ls.nil (n := 0) (W := 0)))
    replace A5 := A5.app (Ls.one (ga28.mono (by decide : 1 ≤ 7) (Nat.le_refl _)))
    refine ⟨by show 1 ≤ sizeLine; decide, fun a29 ha29 => ?_⟩
    have na29 : ¬ (fun z => S z ∨ z = a12) a29 := hSL.new ha29
    have sF29 : Same F28 (upd F28 a29 (.lst [.int 1])) := same_upd ha29
    have eF29 : (upd F28 a29 (.lst [.int 1])) a29 = some (.lst [.int 1]) := upd_same
    generalize upd F28 a29 (.lst [.int 1]) = F29 at sF29 eF29 ⊢
    replace hB := sF29 _ _ hB
    replace eFM := sF29 _ _ eFM
    replace kp := kp.trans (Same.k sF29)
    replace hSL := hSL.same sF29
    replace A3 := A3.same sF29
    replace A5 := A5.same sF29
    have ga29 := Gx.lst (S := (fun z => S z ∨ z = a12)) na29 eF29 (Ls.cons2 ((Gx.int (i := 1) (by decide)).mono (by decide : 0 ≤ 0) (Nat.le_refl _)) (Ls.nil (n := 0) (W := 0)))
    refine ⟨by show 2 ≤ sizeLine; decide, fun a30 ha30 => ?_⟩
    have na30 : ¬ (fun z => S z ∨ z = a12) a30 := hSL.new ha30
    have sF30 : Same F29 (upd F29 a30 (.lst [.ref a29, .int 2])) := same_upd ha30
    have eF30 : (upd F29 a30 (.lst [.ref a29, .int 2])) a30 = some (.lst [.ref a29, .int 2]) := upd_same
    generalize upd F29 a30 (.lst [.ref a29, .int 2]) = F30 at sF30 eF30 ⊢
    replace hB := sF30 _ _ hB
    replace eFM := sF30 _ _ eFM
    replace kp := kp.trans (Same.k sF30)
    replace hSL := hSL.same sF30
    replace A3 := A3.same sF30
    replace A5 := A5.same sF30
    replace ga29 := ga29.same sF30
    have ga30 := Gx.lst (S := (fun z => S z ∨ z = a12)) na30 eF30 (Ls.cons2 (ga29.mono (by decide : 1 ≤ 1) (Nat.le_refl _)) (Ls.cons2 ((Gx.int (i := 2) (by decide)).mono (by decide : 0 ≤ 1) (Nat.le_refl _)) (Ls.nil (n := 1) (W := 0))))
    replace A5 := A5.app (Ls.one (ga30.mono (by decide : 2 ≤ 7) (Nat.le_refl _)))
    refine ⟨by show 4 ≤ sizeLine; decide, fun a31 ha31 => ?_⟩
    have na31 : ¬ (fun z => S z ∨ z = a12) a31 := hSL.new ha31
    have sF31 : Same F30 (upd F30 a31 (.tup [.int 0, .int 0, .int 0, .str (Str.ofString "0")])) := same_upd ha31
    have eF31 : (upd F30 a31 (.tup [.int 0, .int 0, .int 0, .str (Str.ofString "0")])) a31 = some (.tup [.int 0, .int 0, .int 0, .str (Str.ofString "0")]) := upd_same
    generalize upd F30 a31 (.tup [.int 0, .int 0, .int 0, .str (Str.ofString "0")]) = F31 at sF31 eF31 ⊢
    replace hB := sF31 _ _ hB
    replace eFM := sF31 _ _ eFM
    replace kp := kp.trans (Same.k sF31)
    replace hSL := hSL.same sF31
    replace A3 := A3.same sF31
    replace A5 := A5.same sF31
    have ga31 := Gx.tup (S := (fun z => S z ∨ z = a12)) na31 eF31 (Ls.cons2 ((Gx.int (i := 0) (by decide)).mono (by decide : 0 ≤ 0) (Nat.le_refl _)) (Ls.cons2 ((Gx.int (i := 0) (by decide)).mono (by decide : 0 ≤ 0) (Nat.le_refl _)) (Ls.cons2 ((Gx.int (i := 0) (by decide)).mono (by decide : 0 ≤ 0) (Nat.le_refl _)) (Ls.cons2 ((Gx.str (s := "0") (by decide +kernel)).mono (by decide : 0 ≤ 0) (Nat.le_refl _)) (Ls.nil (n := 0) (W := 0))))))
    replace A5 := A5.app (Ls.one (ga31.mono (by decide : 1 ≤ 7) (Nat.le_refl _)))
    replace A5 : Ls (fun z => S z ∨ z = a12) F31 ([.ref a14, .ref a20, .ref a26, .ref a27, .ref a28, .ref a30, .ref a31] : List V) 7 60000 := Ls.mono (show Ls (fun z => S z ∨ z = a12) F31 ([.ref a14, .ref a20, .ref a26, .ref a27, .ref a28, .ref a30, .ref a31] : List V) 7 _ from A5) (Nat.le_refl _) (by decide)
    refine ⟨by show 7 ≤ sizeLine; decide, fun a32 ha32 => ?_⟩
    have na32 : ¬ (fun z => S z ∨ z = a12) a32 := hSL.new ha32
    have sF32 : Same F31 (upd F31 a32 (.lst [.ref a14, .ref a20, .ref a26, .ref a27, .ref a28, .ref a30, .ref a31])) := same_upd ha32
    have eF32 : (upd F31 a32 (.lst [.ref a14, .ref a20, .ref a26, .ref a27, .ref a28, .ref a30, .ref a31])) a32 = some (.lst [.ref a14, .ref a20, .ref a26, .ref a27, .ref a28, .ref a30, .ref a31]) := upd_same
    generalize upd F31 a32 (.lst [.ref a14, .ref a20, .ref a26, .ref a27, .ref a28, .ref a30, .ref a31]) = F32 at sF32 eF32 ⊢
    replace hB := sF32 _ _ hB
    replace eFM := sF32 _ _ eFM
    replace kp := kp.trans (Same.k sF32)
    replace hSL := hSL.same sF32
    replace A3 := A3.same sF32
    replace A5 := A5.same sF32
    have A6 := A3.app A5
    have l6 : (x4 ++ ([.ref a14, .ref a20, .ref a26, .ref a27, .ref a28, .ref a30, .ref a31] : List V)).length = 40 := by rw [List.length_append, l4]; rfl
    generalize hx6 : (x4 ++ [.ref a14, .ref a20, .ref a26, .ref a27, .ref a28, .ref a30, .ref a31] : List V) = x6 at A6 l6
    refine ⟨a12, a32, _, _, rfl, rfl, eFM, eF32, (by rw [l4]; show 33 + 7 ≤ sizeLine; decide), fun a33 ha33 => ?_⟩
    rw [hx6]
    have na33 : a33 ≠ p := (ne_of_none hB ha33).symm
    have sF33 : Same F32 (upd F32 a33 (.lst x6)) := same_upd ha33
    have eF33 : (upd F32 a33 (.lst x6)) a33 = some (.lst x6) := upd_same
    generalize upd F32 a33 (.lst x6) = F33 at sF33 eF33 ⊢
    replace hB := sF33 _ _ hB
    replace kp := kp.trans (Same.k sF33)
    replace A6 := A6.same sF33
    refine ⟨.ref a33, rfl, .ref p, rfl, .ref a33, rfl, a33, _, rfl, .inl (sq1 eF33), p, a, b, c, _, rfl, hB, a0, b0, b1, c0, by omega, by rw [l6]; decide, by rw [l6]; decide, fun a' c' r a'0 cl cu r0 r1 => ?_⟩
    have kFZ : Keep p F33 (upd F33 p (.lst [.int a', .int b, .int c'])) := (Keep.refl p F33).upd
    have eFZ : (upd F33 p (.lst [.int a', .int b, .int c'])) p = some (.lst [.int a', .int b, .int c']) := upd_same
    generalize upd F33 p (.lst [.int a', .int b, .int c']) = FZ at kFZ eFZ ⊢
    replace eF33 := kFZ _ _ na33 eF33
    replace kp := kp.trans kFZ
    obtain ⟨j, rfl⟩ := Int.eq_ofNat_of_zero_le r0
    have hj : j < x6.length := by omega
    refine ⟨a33, x6, _, x6[j], rfl, rfl, sq1 eF33, atI_nat (List.getElem?_eq_getElem hj), ?_⟩
    have gx := ((A6.mem (List.getElem_mem hj)).weak (S := S) (fun _ z => .inl z)).keep hSp kFZ
    exact q FZ _ a' c' kp eFZ a'0 cl cu (gx.mono (by decide) (by decide))
end
end K8

set_option Elab.async false
set_option linter.all false
set_option maxRecDepth 100000
set_option maxHeartbeats 4000000
namespace K8
open PySem PySem.Spec PyProof.Rows L2
/-! ### parts drawn, and bent -/
open Cm (Da DaAll wt wtAll okD okAll)
section
variable {P : Program} {w : World} {K : PySem.W.Frag} {mg : Str → Option Value} {base : Heap}
def spDr : Sp := fun vs H Q _ => ∃ (S : Addr → Prop) (p : Addr) (a b c : Int), vs = [.ref p, .int 20] ∧ S p ∧ SL S H ∧ H p = some (.lst [.int a, .int b, .int c]) ∧ 0 ≤ a ∧ 0 ≤ b ∧ b < 2 ^ 62 ∧ 0 ≤ c ∧ c < 2 ^ 37 ∧
  ∀ (H' : Hp) (t : Addr) (xs : List V) (a' c' : Int), Keep p H H' → H' p = some (.lst [.int a', .int b, .int c']) → 0 ≤ a' → c ≤ c' → c' ≤ c + 200 → H t = none → H' t = some (.tup xs) → xs.length = 5 → (∀ x ∈ xs, Gx S H' x 7 300000) → Q (.ref t) H'
theorem ok_drawn (T : Tx K mg) : FnOk P w K mg base CX0 3 T.f_drawn T.fd_drawn ["_law_box_here", "_law_most"] spDr := by
  refine T.F_drawn.ok sc_drawn (fun vs H Q E h => ?_) (fun cdv A outer s H vs Q E hr h => ?_)
  · obtain ⟨S, p, a, b, c, rfl, _⟩ := h
    rfl
  · obtain ⟨S, p, a, b, c, rfl, hSp, hSL, hB, a0, b0, b1, c0, c1, q⟩ := h
    refine ⟨_, (pss_cons (ps_set (i := 2) sc_drawn.nd rfl (.inl rfl) (pe_call (ok_of T) (hr.mono (by omega)) (by rfl) T.g_of T.F_of.kp T.b_of .nil pass0 (pa_cons (pv 0) (pa_cons (pe_lst (pa_cons pe_int (pa_cons pe_int (pa_cons pe_int (pa_cons pe_int (pa_cons pe_int (pa_cons pe_int pa_nil))))))) pa_nil))))
      (pss_cons (ps_set (i := 3) sc_drawn.nd rfl (.inl rfl) (pe_ix (r := rIxL K) ix_list (pe_lst (pa_cons pe_int (pa_cons pe_int (pa_cons (pe_call (ok_take T) (hr.mono (by omega)) (by rfl) T.g_take T.F_take.kp T.b_take .nil pass0 (pa_cons (pv 0) (pa_cons pe_int pa_nil))) pa_nil)))) (pe_call (ok_take T) (hr.mono (by omega)) (by rfl) T.g_take T.F_take.kp T.b_take .nil pass0 (pa_cons (pv 0) (pa_cons pe_int pa_nil))) (fun _ _ => rfl)))
      (pss_cons (ps_set (i := 4) sc_drawn.nd rfl (.inl rfl) (pe_callB (call_min2 rfl) (by rfl) T.m_min (by decide +kernel) (pa_cons (pe_ix (r := rIxL K) ix_list (pe_lst (pa_cons pe_int (pa_cons (pe_call (ok_take T) (hr.mono (by omega)) (by rfl) T.g_take T.F_take.kp T.b_take .nil pass0 (pa_cons (pv 0) (pa_cons (pe_op op_add (pv 1) pe_int) pa_nil))) (pa_cons (pv 1) pa_nil)))) (pe_call (ok_take T) (hr.mono (by omega)) (by rfl) T.g_take T.F_take.kp T.b_take .nil pass0 (pa_cons (pv 0) (pa_cons pe_int pa_nil))) (fun _ _ => rfl)) (pa_cons (pe_ifExp (pt_cmpR op_gt (pv 2) pe_int (nomark _)) pe_int (pv 1)) pa_nil))))
      (pss_cons (ps_set (i := 5) sc_drawn.nd rfl (.inl rfl) (pe_ifExp (pt_cmpR op_eq (pe_call (ok_take T) (hr.mono (by omega)) (by rfl) T.g_take T.F_take.kp T.b_take .nil pass0 (pa_cons (pv 0) (pa_cons pe_int pa_nil))) pe_int (nomark _)) (pe_callTy call_tuple_of (by rfl) T.m_tuple (by decide +kernel) (pa_cons (pe_call (ok_bytes T) (hr.mono (by omega)) (by rfl) T.g_bytes T.F_bytes.kp T.b_bytes .nil pass0 (pa_cons (pv 0) (pa_cons pe_int pa_nil))) pa_nil)) pe_non))
      (pss_one (ps_ret (pe_tup (pa_cons (pv 2) (pa_cons (pv 3) (pa_cons (pe_call (ok_bytes T) (hr.mono (by omega)) (by rfl) T.g_bytes T.F_bytes.kp T.b_bytes .nil pass0 (pa_cons (pv 0) (pa_cons (pv 4) pa_nil))) (pa_cons (pe_or (pe_cmpR op_gt (pv 2) pe_int (nomark _)) (pe_one (pe_cmpR op_eq (pe_call (ok_take T) (hr.mono (by omega)) (by rfl) T.g_take T.F_take.kp T.b_take .nil pass0 (pa_cons (pv 0) (pa_cons pe_int pa_nil))) pe_int (nomark _)))) (pa_cons (pv 5) pa_nil)))))))))))), ?_⟩
    have kp := Keep.refl p H
    refine ⟨.ref p, rfl, by show 6 ≤ sizeLine; decide, fun l1 hl1 => ?_⟩
    have n1 := ne_of_none hB hl1
    have sG1 : Same H (upd H l1 (.lst [.int 0, .int 1, .int 2, .int 8, .int 9, .int 10])) := same_upd hl1
    have eG1 : (upd H l1 (.lst [.int 0, .int 1, .int 2, .int 8, .int 9, .int 10])) l1 = some (.lst [.int 0, .int 1, .int 2, .int 8, .int 9, .int 10]) := upd_same
    generalize upd H l1 (.lst [.int 0, .int 1, .int 2, .int 8, .int 9, .int 10]) = G1 at sG1 eG1 ⊢
    replace hB := sG1 _ _ hB
    replace kp := kp.trans (Same.k sG1)
    replace hSL := hSL.same sG1
    have e1 : G1 l1 = some (.lst (([0, 1, 2, 8, 9, 10] : List Int).map V.int)) := eG1
    refine ⟨p, l1, a, b, c, _, rfl, hB, a0, b0, b1, c0, by omega, Ne.symm n1, e1, (by decide), (by decide), fun a1 c1' x a10 cl1 cu1 hx => ?_⟩
    obtain ⟨k, hk, rfl⟩ := List.mem_map.mp hx
    have hkb : 0 ≤ k ∧ k ≤ 10 := (by decide : ∀ n ∈ ([0, 1, 2, 8, 9, 10] : List Int), 0 ≤ n ∧ n ≤ 10) k hk
    have kG2 : Keep p G1 (upd G1 p (.lst [.int a1, .int b, .int c1'])) := (Keep.refl p G1).upd
    have eG2 : (upd G1 p (.lst [.int a1, .int b, .int c1'])) p = some (.lst [.int a1, .int b, .int c1']) := upd_same
    generalize upd G1 p (.lst [.int a1, .int b, .int c1']) = G2 at kG2 eG2 ⊢
    replace kp := kp.trans kG2
    replace hSL := hSL.keep kG2 eG2
    refine ⟨.ref p, rfl, p, a1, b, c1', 32, rfl, eG2, a10, b0, b1, by omega, by omega, by decide, by decide, fun a2 c2 u a20 cl2 cu2 u0 u1 => ?_⟩
    have kG3 : Keep p G2 (upd G2 p (.lst [.int a2, .int b, .int c2])) := (Keep.refl p G2).upd
    have eG3 : (upd G2 p (.lst [.int a2, .int b, .int c2])) p = some (.lst [.int a2, .int b, .int c2]) := upd_same
    generalize upd G2 p (.lst [.int a2, .int b, .int c2]) = G3 at kG3 eG3 ⊢
    replace kp := kp.trans kG3
    replace hSL := hSL.keep kG3 eG3
    refine ⟨by show 3 ≤ sizeLine; decide, fun l2 hl2 => ?_⟩
    have n2 := ne_of_none eG3 hl2
    have sG4 : Same G3 (upd G3 l2 (.lst [.int 0, .int 31, .int u])) := same_upd hl2
    have eG4 : (upd G3 l2 (.lst [.int 0, .int 31, .int u])) l2 = some (.lst [.int 0, .int 31, .int u]) := upd_same
    generalize upd G3 l2 (.lst [.int 0, .int 31, .int u]) = G4 at sG4 eG4 ⊢
    replace eG3 := sG4 _ _ eG3
    replace kp := kp.trans (Same.k sG4)
    replace hSL := hSL.same sG4
    refine ⟨.ref p, rfl, p, a2, b, c2, 3, rfl, eG3, a20, b0, b1, by omega, by omega, by decide, by decide, fun a3 c3 z a30 cl3 cu3 z0 z1 => ?_⟩
    have kG5 : Keep p G4 (upd G4 p (.lst [.int a3, .int b, .int c3])) := (Keep.refl p G4).upd
    have eG5 : (upd G4 p (.lst [.int a3, .int b, .int c3])) p = some (.lst [.int a3, .int b, .int c3]) := upd_same
    generalize upd G4 p (.lst [.int a3, .int b, .int c3]) = G5 at kG5 eG5 ⊢
    replace eG4 := kG5 _ _ (Ne.symm n2) eG4
    replace kp := kp.trans kG5
    replace hSL := hSL.keep kG5 eG5
    obtain ⟨y, hy, hat⟩ := atI_ints (xs := [0, 31, u]) z0 z1
    have hyb : 0 ≤ y ∧ y < 32 := by
      simp only [List.mem_cons, List.not_mem_nil, or_false] at hy
      omega
    refine ⟨l2, _, z, .int y, rfl, rfl, sq1 eG4, hat, ?_⟩
    refine ⟨.ref p, rfl, .int 20, rfl, 20, 1, rfl, rfl, p, a3, b, c3, _, rfl, eG5, a30, b0, b1, by omega, by omega, by decide, by decide, fun a4 c4 u2 a40 cl4 cu4 u20 u21 => ?_⟩
    have u21' : u2 < 21 := u21
    have kGA : Keep p G5 (upd G5 p (.lst [.int a4, .int b, .int c4])) := (Keep.refl p G5).upd
    have eGA : (upd G5 p (.lst [.int a4, .int b, .int c4])) p = some (.lst [.int a4, .int b, .int c4]) := upd_same
    generalize upd G5 p (.lst [.int a4, .int b, .int c4]) = GA at kGA eGA ⊢
    replace kp := kp.trans kGA
    replace hSL := hSL.keep kGA eGA
    refine ⟨.int 20, rfl, by show 3 ≤ sizeLine; decide, fun l3 hl3 => ?_⟩
    have n3 := ne_of_none eGA hl3
    have sGB : Same GA (upd GA l3 (.lst [.int 0, .int u2, .int 20])) := same_upd hl3
    have eGB : (upd GA l3 (.lst [.int 0, .int u2, .int 20])) l3 = some (.lst [.int 0, .int u2, .int 20]) := upd_same
    generalize upd GA l3 (.lst [.int 0, .int u2, .int 20]) = GB at sGB eGB ⊢
    replace eGA := sGB _ _ eGA
    replace kp := kp.trans (Same.k sGB)
    replace hSL := hSL.same sGB
    refine ⟨.ref p, rfl, p, a4, b, c4, 3, rfl, eGA, a40, b0, b1, by omega, by omega, by decide, by decide, fun a6 c6 z2 a60 cl6 cu6 z20 z21 => ?_⟩
    have kG6 : Keep p GB (upd GB p (.lst [.int a6, .int b, .int c6])) := (Keep.refl p GB).upd
    have eG6 : (upd GB p (.lst [.int a6, .int b, .int c6])) p = some (.lst [.int a6, .int b, .int c6]) := upd_same
    generalize upd GB p (.lst [.int a6, .int b, .int c6]) = G6 at kG6 eG6 ⊢
    replace eGB := kG6 _ _ (Ne.symm n3) eGB
    replace kp := kp.trans kG6
    replace hSL := hSL.keep kG6 eG6
    have ep := eG6
    obtain ⟨y2, hy2, hat2⟩ := atI_ints (xs := [0, u2, 20]) z20 z21
    have hy2b : 0 ≤ y2 ∧ y2 ≤ 20 := by
      simp only [List.mem_cons, List.not_mem_nil, or_false] at hy2
      omega
    refine ⟨l3, _, z2, .int y2, rfl, rfl, sq1 eGB, hat2, ?_⟩
    refine ⟨.int k, rfl, k, 7, rfl, rfl, _, rfl, ?_⟩
    cases h7 : decide (7 < k) with
    | true =>
      refine ⟨y2, 120, rfl, ?_⟩
      have hsz : 0 ≤ (if (120 : Int) < y2 then (120 : Int) else y2) ∧ (if (120 : Int) < y2 then (120 : Int) else y2) ≤ 20 := by split <;> omega
      generalize (if (120 : Int) < y2 then (120 : Int) else y2) = sz at hsz ⊢
      obtain ⟨s0, s1⟩ := hsz
      refine ⟨.ref p, rfl, p, a6, b, c6, 2, rfl, ep, a60, b0, b1, by omega, by omega, by decide, by decide, fun a7 c7 z7 a70 cl7 cu7 z70 z71 => ?_⟩
      have kG7 : Keep p G6 (upd G6 p (.lst [.int a7, .int b, .int c7])) := (Keep.refl p G6).upd
      have eG7 : (upd G6 p (.lst [.int a7, .int b, .int c7])) p = some (.lst [.int a7, .int b, .int c7]) := upd_same
      generalize upd G6 p (.lst [.int a7, .int b, .int c7]) = G7 at kG7 eG7 ⊢
      replace kp := kp.trans kG7
      replace hSL := hSL.keep kG7 eG7
      have ep := eG7
      refine ⟨rfl, _, rfl, ite2 (fun e => ?_) (fun e => ?_)⟩
      · refine ⟨.ref p, rfl, p, a7, b, c7, 4, rfl, ep, a70, b0, b1, by omega, by omega, by decide, by decide, fun G8 rv nv a7 c7 hrv erv ep a70 clv cuv k8 lnv bv => ?_⟩
        replace kp := kp.trans k8
        replace hSL := hSL.keep k8 ep
        refine ⟨rv, _, rfl, .inl ⟨sq1 erv, fun vt hvt => ?_⟩⟩
        have nSv : ¬ S vt := hSL.new hvt
        have nvp : vt ≠ p := fun z => nSv (z ▸ hSp)
        have sGV : Same G8 (upd G8 vt (.tup (nv.map V.int))) := same_upd hvt
        have eGV : (upd G8 vt (.tup (nv.map V.int))) vt = some (.tup (nv.map V.int)) := upd_same
        generalize upd G8 vt (.tup (nv.map V.int)) = GV at sGV eGV ⊢
        replace ep := sGV _ _ ep
        replace kp := kp.trans (Same.k sGV)
        have ev := eGV
        replace hSL := hSL.same sGV
        refine ⟨.int k, rfl, .int y, rfl, .ref p, rfl, .int sz, rfl, p, a7, b, c7, sz, rfl, ep, a70, b0, b1, by omega, by omega, s0, by omega, fun G9 r ns a8 c8 hr er ep a80 cl8 cu8 k9 ln bn => ?_⟩
        have nSr : ¬ S r := hSL.new hr
        replace ev := k9 _ _ nvp ev
        replace kp := kp.trans k9
        replace hSL := hSL.keep k9 ep
        refine ⟨.int k, rfl, k, 7, rfl, rfl, _, rfl, ?_⟩
        rw [h7]
        refine ⟨.ref vt, rfl, by show 5 ≤ sizeLine; decide, fun t ht => ?_⟩
        have ft := kp.free ht (Ne.symm (ne_of_none ep ht))
        have sGZ : Same G9 (upd G9 t (.tup [.int k, .int y, .ref r, .bl true, .ref vt])) := same_upd ht
        have eGZ : (upd G9 t (.tup [.int k, .int y, .ref r, .bl true, .ref vt])) t = some (.tup [.int k, .int y, .ref r, .bl true, .ref vt]) := upd_same
        generalize upd G9 t (.tup [.int k, .int y, .ref r, .bl true, .ref vt]) = GZ at sGZ eGZ ⊢
        replace ep := sGZ _ _ ep
        replace ev := sGZ _ _ ev
        replace er := sGZ _ _ er
        replace kp := kp.trans (Same.k sGZ)
        refine q GZ t _ a8 c8 kp ep a80 (by omega) (by omega) ft eGZ rfl (fun x hx => ?_)
        simp only [List.mem_cons, List.not_mem_nil, or_false] at hx
        rcases hx with rfl | rfl | rfl | rfl | rfl
        · exact (Gx.int (by omega)).mono (by decide) (by decide)
        · exact (Gx.int (by omega)).mono (by decide) (by decide)
        · exact (Gx.lst nSr er (Ls.ints fun n h => by have := bn n h; omega)).mono (by decide) (by omega)
        · exact Gx.bl.mono (by decide) (by decide)
        · exact (Gx.tup nSv ev (Ls.ints fun n h => by have := bv n h; omega)).mono (by decide) (by omega)
      · skip
        refine ⟨.int k, rfl, .int y, rfl, .ref p, rfl, .int sz, rfl, p, a7, b, c7, sz, rfl, ep, a70, b0, b1, by omega, by omega, s0, by omega, fun G9 r ns a8 c8 hr er ep a80 cl8 cu8 k9 ln bn => ?_⟩
        have nSr : ¬ S r := hSL.new hr
        replace kp := kp.trans k9
        replace hSL := hSL.keep k9 ep
        refine ⟨.int k, rfl, k, 7, rfl, rfl, _, rfl, ?_⟩
        rw [h7]
        refine ⟨.non, rfl, by show 5 ≤ sizeLine; decide, fun t ht => ?_⟩
        have ft := kp.free ht (Ne.symm (ne_of_none ep ht))
        have sGZ : Same G9 (upd G9 t (.tup [.int k, .int y, .ref r, .bl true, .non])) := same_upd ht
        have eGZ : (upd G9 t (.tup [.int k, .int y, .ref r, .bl true, .non])) t = some (.tup [.int k, .int y, .ref r, .bl true, .non]) := upd_same
        generalize upd G9 t (.tup [.int k, .int y, .ref r, .bl true, .non]) = GZ at sGZ eGZ ⊢
        replace ep := sGZ _ _ ep
        replace er := sGZ _ _ er
        replace kp := kp.trans (Same.k sGZ)
        refine q GZ t _ a8 c8 kp ep a80 (by omega) (by omega) ft eGZ rfl (fun x hx => ?_)
        simp only [List.mem_cons, List.not_mem_nil, or_false] at hx
        rcases hx with rfl | rfl | rfl | rfl | rfl
        · exact (Gx.int (by omega)).mono (by decide) (by decide)
        · exact (Gx.int (by omega)).mono (by decide) (by decide)
        · exact (Gx.lst nSr er (Ls.ints fun n h => by have := bn n h; omega)).mono (by decide) (by omega)
        · exact Gx.bl.mono (by decide) (by decide)
        · exact Gx.non.mono (by decide) (by decide)
    | false =>
      refine ⟨.int 20, rfl, ?_⟩
      refine ⟨y2, 20, rfl, ?_⟩
      have hsz : 0 ≤ (if (20 : Int) < y2 then (20 : Int) else y2) ∧ (if (20 : Int) < y2 then (20 : Int) else y2) ≤ 20 := by split <;> omega
      generalize (if (20 : Int) < y2 then (20 : Int) else y2) = sz at hsz ⊢
      obtain ⟨s0, s1⟩ := hsz
      refine ⟨.ref p, rfl, p, a6, b, c6, 2, rfl, ep, a60, b0, b1, by omega, by omega, by decide, by decide, fun a7 c7 z7 a70 cl7 cu7 z70 z71 => ?_⟩
      have kG7 : Keep p G6 (upd G6 p (.lst [.int a7, .int b, .int c7])) := (Keep.refl p G6).upd
      have eG7 : (upd G6 p (.lst [.int a7, .int b, .int c7])) p = some (.lst [.int a7, .int b, .int c7]) := upd_same
      generalize upd G6 p (.lst [.int a7, .int b, .int c7]) = G7 at kG7 eG7 ⊢
      replace kp := kp.trans kG7
      replace hSL := hSL.keep kG7 eG7
      have ep := eG7
      refine ⟨rfl, _, rfl, ite2 (fun e => ?_) (fun e => ?_)⟩
      · refine ⟨.ref p, rfl, p, a7, b, c7, 4, rfl, ep, a70, b0, b1, by omega, by omega, by decide, by decide, fun G8 rv nv a7 c7 hrv erv ep a70 clv cuv k8 lnv bv => ?_⟩
        replace kp := kp.trans k8
        replace hSL := hSL.keep k8 ep
        refine ⟨rv, _, rfl, .inl ⟨sq1 erv, fun vt hvt => ?_⟩⟩
        have nSv : ¬ S vt := hSL.new hvt
        have nvp : vt ≠ p := fun z => nSv (z ▸ hSp)
        have sGV : Same G8 (upd G8 vt (.tup (nv.map V.int))) := same_upd hvt
        have eGV : (upd G8 vt (.tup (nv.map V.int))) vt = some (.tup (nv.map V.int)) := upd_same
        generalize upd G8 vt (.tup (nv.map V.int)) = GV at sGV eGV ⊢
        replace ep := sGV _ _ ep
        replace kp := kp.trans (Same.k sGV)
        have ev := eGV
        replace hSL := hSL.same sGV
        refine ⟨.int k, rfl, .int y, rfl, .ref p, rfl, .int sz, rfl, p, a7, b, c7, sz, rfl, ep, a70, b0, b1, by omega, by omega, s0, by omega, fun G9 r ns a8 c8 hr er ep a80 cl8 cu8 k9 ln bn => ?_⟩
        have nSr : ¬ S r := hSL.new hr
        replace ev := k9 _ _ nvp ev
        replace kp := kp.trans k9
        replace hSL := hSL.keep k9 ep
        refine ⟨.int k, rfl, k, 7, rfl, rfl, _, rfl, ?_⟩
        rw [h7]
        refine ⟨.ref p, rfl, p, a8, b, c8, 2, rfl, ep, a80, b0, b1, by omega, by omega, by decide, by decide, fun a9 c9 z9 a90 cl9 cu9 z90 z91 => ?_⟩
        have nrp : r ≠ p := fun z => nSr (z ▸ hSp)
        have kGY : Keep p G9 (upd G9 p (.lst [.int a9, .int b, .int c9])) := (Keep.refl p G9).upd
        have eGY : (upd G9 p (.lst [.int a9, .int b, .int c9])) p = some (.lst [.int a9, .int b, .int c9]) := upd_same
        generalize upd G9 p (.lst [.int a9, .int b, .int c9]) = GY at kGY eGY ⊢
        replace er := kGY _ _ nrp er
        replace ev := kGY _ _ nvp ev
        replace kp := kp.trans kGY
        refine ⟨rfl, ?_⟩
        have ep := eGY
        refine ⟨.ref vt, rfl, by show 5 ≤ sizeLine; decide, fun t ht => ?_⟩
        have ft := kp.free ht (Ne.symm (ne_of_none ep ht))
        have sGZ : Same GY (upd GY t (.tup [.int k, .int y, .ref r, .bl (decide (V.int z9 = V.int 0)), .ref vt])) := same_upd ht
        have eGZ : (upd GY t (.tup [.int k, .int y, .ref r, .bl (decide (V.int z9 = V.int 0)), .ref vt])) t = some (.tup [.int k, .int y, .ref r, .bl (decide (V.int z9 = V.int 0)), .ref vt]) := upd_same
        generalize upd GY t (.tup [.int k, .int y, .ref r, .bl (decide (V.int z9 = V.int 0)), .ref vt]) = GZ at sGZ eGZ ⊢
        replace ep := sGZ _ _ ep
        replace ev := sGZ _ _ ev
        replace er := sGZ _ _ er
        replace kp := kp.trans (Same.k sGZ)
        refine q GZ t _ a9 c9 kp ep a90 (by omega) (by omega) ft eGZ rfl (fun x hx => ?_)
        simp only [List.mem_cons, List.not_mem_nil, or_false] at hx
        rcases hx with rfl | rfl | rfl | rfl | rfl
        · exact (Gx.int (by omega)).mono (by decide) (by decide)
        · exact (Gx.int (by omega)).mono (by decide) (by decide)
        · exact (Gx.lst nSr er (Ls.ints fun n h => by have := bn n h; omega)).mono (by decide) (by omega)
        · exact Gx.bl.mono (by decide) (by decide)
        · exact (Gx.tup nSv ev (Ls.ints fun n h => by have := bv n h; omega)).mono (by decide) (by omega)
      · skip
        refine ⟨.int k, rfl, .int y, rfl, .ref p, rfl, .int sz, rfl, p, a7, b, c7, sz, rfl, ep, a70, b0, b1, by omega, by omega, s0, by omega, fun G9 r ns a8 c8 hr er ep a80 cl8 cu8 k9 ln bn => ?_⟩
        have nSr : ¬ S r := hSL.new hr
        replace kp := kp.trans k9
        replace hSL := hSL.keep k9 ep
        refine ⟨.int k, rfl, k, 7, rfl, rfl, _, rfl, ?_⟩
        rw [h7]
        refine ⟨.ref p, rfl, p, a8, b, c8, 2, rfl, ep, a80, b0, b1, by omega, by omega, by decide, by decide, fun a9 c9 z9 a90 cl9 cu9 z90 z91 => ?_⟩
        have nrp : r ≠ p := fun z => nSr (z ▸ hSp)
        have kGY : Keep p G9 (upd G9 p (.lst [.int a9, .int b, .int c9])) := (Keep.refl p G9).upd
        have eGY : (upd G9 p (.lst [.int a9, .int b, .int c9])) p = some (.lst [.int a9, .int b, .int c9]) := upd_same
        generalize upd G9 p (.lst [.int a9, .int b, .int c9]) = GY at kGY eGY ⊢
        replace er := kGY _ _ nrp er
        replace kp := kp.trans kGY
        refine ⟨rfl, ?_⟩
        have ep := eGY
        refine ⟨.non, rfl, by show 5 ≤ sizeLine; decide, fun t ht => ?_⟩
        have ft := kp.free ht (Ne.symm (ne_of_none ep ht))
        have sGZ : Same GY (upd GY t (.tup [.int k, .int y, .ref r, .bl (decide (V.int z9 = V.int 0)), .non])) := same_upd ht
        have eGZ : (upd GY t (.tup [.int k, .int y, .ref r, .bl (decide (V.int z9 = V.int 0)), .non])) t = some (.tup [.int k, .int y, .ref r, .bl (decide (V.int z9 = V.int 0)), .non]) := upd_same
        generalize upd GY t (.tup [.int k, .int y, .ref r, .bl (decide (V.int z9 = V.int 0)), .non]) = GZ at sGZ eGZ ⊢
        replace ep := sGZ _ _ ep
        replace er := sGZ _ _ er
        replace kp := kp.trans (Same.k sGZ)
        refine q GZ t _ a9 c9 kp ep a90 (by omega) (by omega) ft eGZ rfl (fun x hx => ?_)
        simp only [List.mem_cons, List.not_mem_nil, or_false] at hx
        rcases hx with rfl | rfl | rfl | rfl | rfl
        · exact (Gx.int (by omega)).mono (by decide) (by decide)
        · exact (Gx.int (by omega)).mono (by decide) (by decide)
        · exact (Gx.lst nSr er (Ls.ints fun n h => by have := bn n h; omega)).mono (by decide) (by omega)
        · exact Gx.bl.mono (by decide) (by decide)
        · exact Gx.non.mono (by decide) (by decide)
theorem wtAll_split (ds : List PyData) {j j' : Nat} (h : j ≤ j') : wtAll (ds.take j) + wtAll (ds.drop j') ≤ wtAll ds := by
  have e : ds.drop j' = (ds.drop j).drop (j' - j) := by rw [List.drop_drop]; congr 1; omega
  have e1 : wtAll (ds.take j) + wtAll (ds.drop j) = wtAll ds := by rw [← wtAll_app, List.take_append_drop]
  have e2 : wtAll ((ds.drop j).take (j' - j)) + wtAll ((ds.drop j).drop (j' - j)) = wtAll (ds.drop j) := by rw [← wtAll_app, List.take_append_drop]
  rw [e]
  omega
theorem Ls.bend {S : Addr → Prop} {H : Hp} {xs : List V} {y : V} {n W W' : Nat} (h : Ls S H xs n W) (g : Gx S H y n W') {j j' : Nat} (hj : j ≤ j') : Ls S H (xs.take j ++ [y] ++ xs.drop j') n (W + W' + 2) := by
  obtain ⟨ds, a, o, dp, wl⟩ := h
  obtain ⟨d, da, od, dd, dw⟩ := g
  have sp := wtAll_split ds hj
  have o1 : okAll (ds.take j) = true := by
    rw [← List.take_append_drop j ds, okAll_app, Bool.and_eq_true] at o
    exact o.1
  have o2 : okAll (ds.drop j') = true := by
    rw [← List.take_append_drop j' ds, okAll_app, Bool.and_eq_true] at o
    exact o.2
  have p1 : PyData.depthAll (ds.take j) ≤ n := by
    rw [← List.take_append_drop j ds, depthAll_app] at dp
    omega
  have p2 : PyData.depthAll (ds.drop j') ≤ n := by
    rw [← List.take_append_drop j' ds, depthAll_app] at dp
    omega
  refine ⟨ds.take j ++ [d] ++ ds.drop j', ((DaAll.take j a).append (.cons da .nil)).append (DaAll.drop j' a), ?_, ?_, ?_⟩
  · rw [okAll_app, okAll_app, o1, o2]
    show (true && (okD d && true)) && true = true
    rw [od]
    rfl
  · rw [depthAll_app, depthAll_app]
    show max (max _ (max d.depth 0)) _ ≤ n
    omega
  · rw [wtAll_app, wtAll_app]
    show wtAll _ + (wt d + 2 + 0) + wtAll _ ≤ _
    omega
def spBR : Sp := fun vs H Q _ => ∃ (S : Addr → Prop) (p l : Addr) (a b c : Int) (xs : List V) (W : Nat), vs = [.ref p, .ref l] ∧ S p ∧ ¬ S l ∧ SL S H ∧ H p = some (.lst [.int a, .int b, .int c]) ∧ 0 ≤ a ∧ 0 ≤ b ∧ b < 2 ^ 62 ∧ 0 ≤ c ∧ c < 2 ^ 38 ∧ H l = some (.lst xs) ∧ Ls S H xs 6 W ∧ 300000 ≤ W ∧ W ≤ 900000 ∧
  ∀ (H' : Hp) (x : V) (a' c' : Int), Keep p H H' → H' p = some (.lst [.int a', .int b, .int c']) → 0 ≤ a' → c ≤ c' → c' ≤ c + 4 → Gx S H' x 7 (W + 4000) → Q x H'
theorem ok_bent_row (T : Tx K mg) : FnOk P w K mg base CX0 3 T.f_bent_row T.fd_bent_row ["_law_box_here", "_law_row"] spBR := by
  refine T.F_bent_row.ok sc_bent_row (fun vs H Q E h => ?_) (fun cdv A outer s H vs Q E hr h => ?_)
  · obtain ⟨S, p, l, a, b, c, xs, W, rfl, _⟩ := h
    rfl
  · obtain ⟨S, p, l, a, b, c, xs, W, rfl, hSp, nSl, hSL, hB, a0, b0, b1, c0, c1, el, hL, W0, W1, q⟩ := h
    have nlp : l ≠ p := fun z => nSl (z ▸ hSp)
    have hln := hL.len
    refine ⟨_, (pss_cons (ps_par (i := 2) (j := 3) rfl sc_bent_row.nd rfl rfl (by decide) rfl rfl (pa_cons (pe_call (ok_take T) (hr.mono (by omega)) (by rfl) T.g_take T.F_take.kp T.b_take .nil pass0 (pa_cons (pv 0) (pa_cons (pe_op op_add (pe_callB call_len_seq (by rfl) T.m_len (by decide +kernel) (pa_cons (pv 1) pa_nil)) pe_int) pa_nil))) (pa_cons (pe_call (ok_take T) (hr.mono (by omega)) (by rfl) T.g_take T.F_take.kp T.b_take .nil pass0 (pa_cons (pv 0) (pa_cons pe_int pa_nil))) pa_nil)) rfl)
      (pss_cons (ps_if (pt_cmpR op_eq (pv 3) pe_int (nomark _)) (pss_one (ps_ret (pe_op op_rep (pe_lst (pa_cons pe_int pa_nil)) (pe_op op_add pe_int (pe_call (ok_take T) (hr.mono (by omega)) (by rfl) T.g_take T.F_take.kp T.b_take .nil pass0 (pa_cons (pv 0) (pa_cons pe_int pa_nil))))))) pss_nil)
      (pss_cons (ps_set (i := 4) sc_bent_row.nd rfl (.inl rfl) (pe_call (ok_of T) (hr.mono (by omega)) (by rfl) T.g_of T.F_of.kp T.b_of .nil pass0 (pa_cons (pv 0) (pa_cons (pe_lst (pa_cons (pe_un un_neg pe_int) (pa_cons pe_int (pa_cons pe_bl (pa_cons pe_bl (pa_cons pe_non (pa_cons pe_str (pa_cons (pe_lst (pa_cons pe_int pa_nil)) (pa_cons (pe_tup pa_nil) (pa_cons pe_int (pa_cons pe_int pa_nil))))))))))) pa_nil))))
      (pss_one (ps_ret (pe_op op_cat (pe_op op_cat (pe_slice sl_list (pv 1) po_none (po_some (pv 2))) (pe_lst (pa_cons (pv 4) pa_nil))) (pe_slice sl_list (pv 1) (po_some (pe_op op_add (pv 2) (pe_callTy call_int1 (by rfl) T.m_int (by decide +kernel) (pa_cons (pe_cmpR op_gt (pv 3) pe_int (nomark _)) pa_nil)))) po_none))))))), ?_⟩
    have kp := Keep.refl p H
    refine ⟨.ref p, rfl, .ref l, rfl, l, _, rfl, .inl (sq1 el), _, 1, rfl, rfl, p, a, b, c, _, rfl, hB, a0, b0, b1, c0, by omega, by omega, by omega, fun a1 c1' sp a10 cl1 cu1 sp0 sp1 => ?_⟩
    have kG1 : Keep p H (upd H p (.lst [.int a1, .int b, .int c1'])) := (Keep.refl p H).upd
    have eG1 : (upd H p (.lst [.int a1, .int b, .int c1'])) p = some (.lst [.int a1, .int b, .int c1']) := upd_same
    generalize upd H p (.lst [.int a1, .int b, .int c1']) = G1 at kG1 eG1 ⊢
    replace el := kG1 _ _ nlp el
    replace kp := kp.trans kG1
    replace hL := hL.keep hSp kG1
    replace hSL := hSL.keep kG1 eG1
    obtain ⟨j, rfl⟩ := Int.eq_ofNat_of_zero_le sp0
    refine ⟨.ref p, rfl, p, a1, b, c1', 4, rfl, eG1, a10, b0, b1, by omega, by omega, by decide, by decide, fun a2 c2 w a20 cl2 cu2 w0 w1 => ⟨_, _, rfl, ?_⟩⟩
    have kG2 : Keep p G1 (upd G1 p (.lst [.int a2, .int b, .int c2])) := (Keep.refl p G1).upd
    have eG2 : (upd G1 p (.lst [.int a2, .int b, .int c2])) p = some (.lst [.int a2, .int b, .int c2]) := upd_same
    generalize upd G1 p (.lst [.int a2, .int b, .int c2]) = G2 at kG2 eG2 ⊢
    replace el := kG2 _ _ nlp el
    replace kp := kp.trans kG2
    replace hL := hL.keep hSp kG2
    replace hSL := hSL.keep kG2 eG2
    refine ⟨.int w, rfl, rfl, _, rfl, ite2 (fun e => ?_) (fun e => ?_)⟩
    · refine ⟨by show 1 ≤ sizeLine; decide, fun l1 hl1 => ?_⟩
      have n1 := ne_of_none eG2 hl1
      have sG3 : Same G2 (upd G2 l1 (.lst [.int 7])) := same_upd hl1
      have eG3 : (upd G2 l1 (.lst [.int 7])) l1 = some (.lst [.int 7]) := upd_same
      generalize upd G2 l1 (.lst [.int 7]) = G3 at sG3 eG3 ⊢
      replace eG2 := sG3 _ _ eG2
      replace kp := kp.trans (Same.k sG3)
      replace hSL := hSL.same sG3
      refine ⟨.ref p, rfl, p, a2, b, c2, 4, rfl, eG2, a20, b0, b1, by omega, by omega, by decide, by decide, fun a3 c3 u a30 cl3 cu3 u0 u1 => ?_⟩
      have kG4 : Keep p G3 (upd G3 p (.lst [.int a3, .int b, .int c3])) := (Keep.refl p G3).upd
      have eG4 : (upd G3 p (.lst [.int a3, .int b, .int c3])) p = some (.lst [.int a3, .int b, .int c3]) := upd_same
      generalize upd G3 p (.lst [.int a3, .int b, .int c3]) = G4 at kG4 eG4 ⊢
      replace eG3 := kG4 _ _ (Ne.symm n1) eG3
      replace kp := kp.trans kG4
      replace hSL := hSL.keep kG4 eG4
      refine ⟨119, u, rfl, rfl, l1, _, _, rfl, rfl, eG3, by omega, by omega, (by show 1 * (119 + u).toNat ≤ sizeLine; rw [sizeLine_eq]; omega), fun l2 hl2 => ?_⟩
      have nS2 : ¬ S l2 := hSL.new hl2
      have e7 : ∀ m : Nat, (List.replicate m [V.int 7]).flatten = ((List.replicate m (7 : Int)).map V.int) := fun m => by
        induction m with
        | zero => rfl
        | succ m ih => rw [List.replicate_succ, List.replicate_succ, List.flatten_cons, ih]; rfl
      have sG5 : Same G4 (upd G4 l2 (.lst (List.replicate (119 + u).toNat [V.int 7]).flatten)) := same_upd hl2
      have eG5 : (upd G4 l2 (.lst (List.replicate (119 + u).toNat [V.int 7]).flatten)) l2 = some (.lst (List.replicate (119 + u).toNat [V.int 7]).flatten) := upd_same
      generalize upd G4 l2 (.lst (List.replicate (119 + u).toNat [V.int 7]).flatten) = G5 at sG5 eG5 ⊢
      replace eG4 := sG5 _ _ eG4
      replace kp := kp.trans (Same.k sG5)
      rw [e7] at eG5
      refine q G5 _ a3 c3 kp eG4 a30 (by omega) (by omega) ?_
      refine (Gx.lst nS2 eG5 (Ls.ints fun n h => ?_)).mono (by decide) (by rw [List.length_replicate]; omega)
      rw [(List.mem_replicate.mp h).2]
      decide
    · refine ⟨.ref p, rfl, 1, rfl, by show 1 ≤ sizeLine; decide, fun l1 hl1 => ?_⟩
      have nS1 : ¬ S l1 := hSL.new hl1
      have sG3 : Same G2 (upd G2 l1 (.lst [.int 7])) := same_upd hl1
      have eG3 : (upd G2 l1 (.lst [.int 7])) l1 = some (.lst [.int 7]) := upd_same
      generalize upd G2 l1 (.lst [.int 7]) = G3 at sG3 eG3 ⊢
      replace eG2 := sG3 _ _ eG2
      replace el := sG3 _ _ el
      replace kp := kp.trans (Same.k sG3)
      replace hSL := hSL.same sG3
      replace hL := hL.same sG3
      refine ⟨Nat.zero_le _, fun t1 ht1 => ?_⟩
      have nS2 : ¬ S t1 := hSL.new ht1
      have sG4 : Same G3 (upd G3 t1 (.tup [])) := same_upd ht1
      have eG4 : (upd G3 t1 (.tup [])) t1 = some (.tup []) := upd_same
      generalize upd G3 t1 (.tup []) = G4 at sG4 eG4 ⊢
      replace eG2 := sG4 _ _ eG2
      replace el := sG4 _ _ el
      replace eG3 := sG4 _ _ eG3
      replace kp := kp.trans (Same.k sG4)
      replace hSL := hSL.same sG4
      replace hL := hL.same sG4
      refine ⟨by show 10 ≤ sizeLine; decide, fun l2 hl2 => ?_⟩
      have n2 := ne_of_none eG2 hl2
      have sG5 : Same G4 (upd G4 l2 (.lst [.int (-1), .int 256, .bl true, .bl false, .non, .str (Str.ofString "7"), .ref l1, .ref t1, .int 0, .int 255])) := same_upd hl2
      have eG5 : (upd G4 l2 (.lst [.int (-1), .int 256, .bl true, .bl false, .non, .str (Str.ofString "7"), .ref l1, .ref t1, .int 0, .int 255])) l2 = some (.lst [.int (-1), .int 256, .bl true, .bl false, .non, .str (Str.ofString "7"), .ref l1, .ref t1, .int 0, .int 255]) := upd_same
      generalize upd G4 l2 (.lst [.int (-1), .int 256, .bl true, .bl false, .non, .str (Str.ofString "7"), .ref l1, .ref t1, .int 0, .int 255]) = G5 at sG5 eG5 ⊢
      replace eG2 := sG5 _ _ eG2
      replace el := sG5 _ _ el
      replace eG3 := sG5 _ _ eG3
      replace eG4 := sG5 _ _ eG4
      replace kp := kp.trans (Same.k sG5)
      replace hSL := hSL.same sG5
      replace hL := hL.same sG5
      have gAll : ∀ x ∈ ([.int (-1), .int 256, .bl true, .bl false, .non, .str (Str.ofString "7"), .ref l1, .ref t1, .int 0, .int 255] : List V), Gx S G5 x 6 3000 := by
        intro x hx
        simp only [List.mem_cons, List.not_mem_nil, or_false] at hx
        rcases hx with rfl | rfl | rfl | rfl | rfl | rfl | rfl | rfl | rfl | rfl
        · exact (Gx.int (by decide)).mono (by decide) (by decide)
        · exact (Gx.int (by decide)).mono (by decide) (by decide)
        · exact Gx.bl.mono (by decide) (by decide)
        · exact Gx.bl.mono (by decide) (by decide)
        · exact Gx.non.mono (by decide) (by decide)
        · exact (Gx.str (by decide +kernel)).mono (by decide) (by decide)
        · exact (Gx.lst nS1 eG3 (Ls.one (Gx.int (by decide)))).mono (by decide) (by decide)
        · exact (Gx.tup nS2 eG4 (Ls.nil (n := 0) (W := 0))).mono (by decide) (by decide)
        · exact (Gx.int (by decide)).mono (by decide) (by decide)
        · exact (Gx.int (by decide)).mono (by decide) (by decide)
      refine ⟨p, l2, a2, b, c2, _, rfl, eG2, a20, b0, b1, by omega, by omega, Ne.symm n2, eG5, (by show 0 < 10; decide), (by show 10 < 1000; decide), fun a3 c3 x a30 cl3 cu3 hx => ?_⟩
      have kG6 : Keep p G5 (upd G5 p (.lst [.int a3, .int b, .int c3])) := (Keep.refl p G5).upd
      have eG6 : (upd G5 p (.lst [.int a3, .int b, .int c3])) p = some (.lst [.int a3, .int b, .int c3]) := upd_same
      generalize upd G5 p (.lst [.int a3, .int b, .int c3]) = G6 at kG6 eG6 ⊢
      replace el := kG6 _ _ nlp el
      replace kp := kp.trans kG6
      have gx := (gAll x hx).keep hSp kG6
      replace hL := hL.keep hSp kG6
      replace hSL := hSL.keep kG6 eG6
      refine ⟨.ref l, rfl, .int (j : Int), rfl, _, rfl, l, _, rfl, sq1 el, fun l3 hl3 => ?_⟩
      have sG7 : Same G6 (upd G6 l3 (.lst (cutV xs none (some (j : Int))))) := same_upd hl3
      have eG7 : (upd G6 l3 (.lst (cutV xs none (some (j : Int))))) l3 = some (.lst (cutV xs none (some (j : Int)))) := upd_same
      generalize upd G6 l3 (.lst (cutV xs none (some (j : Int)))) = G7 at sG7 eG7 ⊢
      replace el := sG7 _ _ el
      replace eG6 := sG7 _ _ eG6
      replace kp := kp.trans (Same.k sG7)
      rw [cutv_lo] at eG7
      refine ⟨x, rfl, by show 1 ≤ sizeLine; decide, fun l4 hl4 => ?_⟩
      have sG8 : Same G7 (upd G7 l4 (.lst [x])) := same_upd hl4
      have eG8 : (upd G7 l4 (.lst [x])) l4 = some (.lst [x]) := upd_same
      generalize upd G7 l4 (.lst [x]) = G8 at sG8 eG8 ⊢
      replace eG6 := sG8 _ _ eG6
      replace el := sG8 _ _ el
      replace eG7 := sG8 _ _ eG7
      replace kp := kp.trans (Same.k sG8)
      have lt := List.length_take (i := j) (l := xs)
      refine ⟨l3, l4, _, _, rfl, rfl, eG7, eG8, (by rw [lt, sizeLine_eq]; show _ + 1 ≤ _; omega), fun l5 hl5 => ?_⟩
      have sG9 : Same G8 (upd G8 l5 (.lst (xs.take j ++ [x]))) := same_upd hl5
      have eG9 : (upd G8 l5 (.lst (xs.take j ++ [x]))) l5 = some (.lst (xs.take j ++ [x])) := upd_same
      generalize upd G8 l5 (.lst (xs.take j ++ [x])) = G9 at sG9 eG9 ⊢
      replace eG6 := sG9 _ _ eG6
      replace el := sG9 _ _ el
      replace kp := kp.trans (Same.k sG9)
      refine ⟨.ref l, rfl, .int (j : Int), rfl, .int w, rfl, w, 1, rfl, rfl, .inr ⟨_, rfl, (j : Int), _, rfl, rfl, _, rfl, l, _, rfl, sq1 el, fun l6 hl6 => ?_⟩⟩
      obtain ⟨m, hm⟩ : ∃ m : Nat, (j : Int) + (if decide (1 < w) = true then (1 : Int) else 0) = (m : Int) := by
        split
        · exact ⟨j + 1, by omega⟩
        · exact ⟨j, by omega⟩
      have hmj : j ≤ m := by
        split at hm <;> omega
      have sGA : Same G9 (upd G9 l6 (.lst (cutV xs (some ((j : Int) + (if decide (1 < w) = true then (1 : Int) else 0))) none))) := same_upd hl6
      have eGA : (upd G9 l6 (.lst (cutV xs (some ((j : Int) + (if decide (1 < w) = true then (1 : Int) else 0))) none))) l6 = some (.lst (cutV xs (some ((j : Int) + (if decide (1 < w) = true then (1 : Int) else 0))) none)) := upd_same
      generalize upd G9 l6 (.lst (cutV xs (some ((j : Int) + (if decide (1 < w) = true then (1 : Int) else 0))) none)) = GA at sGA eGA ⊢
      replace eG6 := sGA _ _ eG6
      replace eG9 := sGA _ _ eG9
      replace kp := kp.trans (Same.k sGA)
      rw [hm, cutv_hi] at eGA
      have ld := List.length_drop (i := m) (l := xs)
      refine ⟨l5, l6, _, _, rfl, rfl, eG9, eGA, (by rw [List.length_append, lt, ld, sizeLine_eq]; show _ + 1 + _ ≤ _; omega), fun l7 hl7 => ?_⟩
      have s4 := ((sG7.trans sG8).trans sG9).trans sGA
      have nS7 : ¬ S l7 := (hSL.same s4).new hl7
      have g7 := (hL.bend gx hmj).same s4
      have sGB : Same GA (upd GA l7 (.lst (xs.take j ++ [x] ++ xs.drop m))) := same_upd hl7
      have eGB : (upd GA l7 (.lst (xs.take j ++ [x] ++ xs.drop m))) l7 = some (.lst (xs.take j ++ [x] ++ xs.drop m)) := upd_same
      generalize upd GA l7 (.lst (xs.take j ++ [x] ++ xs.drop m)) = GB at sGB eGB ⊢
      replace eG6 := sGB _ _ eG6
      replace kp := kp.trans (Same.k sGB)
      exact q GB _ a3 c3 kp eG6 a30 (by omega) (by omega) ((Gx.lst nS7 eGB (g7.same sGB)).mono (by decide) (by omega))
end
end K8

set_option Elab.async false
set_option linter.all false
set_option maxRecDepth 100000
set_option maxHeartbeats 4000000
namespace K8
open PySem PySem.Spec PyProof.Rows L2
/-! ### refused or made -/
open Cm (Da DaAll wt wtAll okD okAll)
theorem up (H2 : Hp) (C : Addr) (fs : List (Str × V)) {x dx : Addr} (hx : H2 x = none) (hdx : H2 dx = none) (b : Addr) (o : HO) (e : H2 b = some o) : (upd (upd H2 dx (.own x)) x (.ins C dx fs)) b = some o := by
  rw [upd_ne (ne_of_none e hx), upd_ne (ne_of_none e hdx)]
  exact e
section
variable {P : Program} {w : World} {K : PySem.W.Frag} {mg : Str → Option Value} {base : Heap}
theorem takes_it (T : Tx K mg) : PySem.W.exmAny K (.ref T.C_BadSlip) [.ref T.C_BadEnd, .ref T.C_BadLetter, .ref T.C_BadRow, .ref T.C_BadSlip, .ref T.C_BadText, .ref T.C_Ended, .ref T.C_Fault, .ref T.C_NoByte, .ref T.C_NoDeed, .ref T.C_NoSlip] = some true :=
  exmAny_on (xno_BadSlip_BadEnd T) (exmAny_on (xno_BadSlip_BadLetter T) (exmAny_on (xno_BadSlip_BadRow T) (exmAny_on (exm_BadSlip T) (exmAny_on (xno_BadSlip_BadText T) (exmAny_on (xno_BadSlip_Ended T) (exmAny_on (xno_BadSlip_Fault T) (exmAny_on (xno_BadSlip_NoByte T) (exmAny_on (xno_BadSlip_NoDeed T) (exmAny_on (xno_BadSlip_NoSlip T) (rfl))))))))))
def spRef8 : Sp := fun vs H Q _ => ∃ (S : Addr → Prop) (a : Addr) (nm : Bool) (k t d l m : V) (dk dt dd dl dm : PyData), vs = [.ref a, .bl nm] ∧ H a = some (.lst [k, t, d, l, m]) ∧ Pts S H k t d l m dk dt dd dl dm ∧ lenD dd ≤ 1000000 ∧ ∀ H', Same H H' → Q (optS (wrongP dk dt dd dl dm)) H'
theorem ok_refused (T : Tx K mg) : FnOk P w K mg base CX0 9 T.f_refused T.fd_refused ["_law_parts", "_law_named"] spRef8 := by
  refine T.F_refused.ok sc_refused (fun vs H Q E h => ?_) (fun cdv A outer s H vs Q E hr h => ?_)
  · obtain ⟨S, a, nm, k, t, d, l, m, dk, dt, dd, dl, dm, rfl, _⟩ := h
    rfl
  · obtain ⟨S, a, nm, k, t, d, l, m, dk, dt, dd, dl, dm, rfl, ea, hp, nd, q⟩ := h
    refine ⟨_, (pss_cons (ps_set (i := 2) sc_refused.nd rfl (.inl rfl) pe_non)
      (pss_cons (ps_try_kpT (i := 3) (cs := [.ref T.C_BadEnd, .ref T.C_BadLetter, .ref T.C_BadRow, .ref T.C_BadSlip, .ref T.C_BadText, .ref T.C_Ended, .ref T.C_Fault, .ref T.C_NoByte, .ref T.C_NoDeed, .ref T.C_NoSlip]) rfl rfl rfl sc_refused.nd rfl rfl (.cons ⟨rfl, by decide, .inl T.g_BadEnd⟩ (.cons ⟨rfl, by decide, .inl T.g_BadLetter⟩ (.cons ⟨rfl, by decide, .inl T.g_BadRow⟩ (.cons ⟨rfl, by decide, .inl T.g_BadSlip⟩ (.cons ⟨rfl, by decide, .inl T.g_BadText⟩ (.cons ⟨rfl, by decide, .inl T.g_Ended⟩ (.cons ⟨rfl, by decide, .inl T.g_Fault⟩ (.cons ⟨rfl, by decide, .inl T.g_NoByte⟩ (.cons ⟨rfl, by decide, .inl T.g_NoDeed⟩ (.cons ⟨rfl, by decide, .inl T.g_NoSlip⟩ .nil)))))))))) (by show 10 ≤ sizeLine; decide) takes0 (fun W pn xe tk _ => (pss_one (ps_if (pt_val (pv 1)) (pss_one (ps_expr (pe_makeN0S T.mk_Slip (ok_Slip_init T) (hr.mono (by omega)) (by rfl) T.g_Slip T.kbN (fun σ => passAt tk σ) (pk_cons (pe_ix (r := rIxL K) ix_list (pv 0) pe_int (fun _ _ => rfl)) (pk_cons (pe_ix (r := rIxL K) ix_list (pv 0) pe_int (fun _ _ => rfl)) (pk_cons (pe_ix (r := rIxL K) ix_list (pv 0) pe_int (fun _ _ => rfl)) (pk_cons (pe_ix (r := rIxL K) ix_list (pv 0) pe_int (fun _ _ => rfl)) (pk_cons (pe_ix (r := rIxL K) ix_list (pv 0) pe_int (fun _ _ => rfl)) pk_nil)))))))) (pss_one (ps_expr (pe_makeNS T.mk_Slip (ok_Slip_init T) (hr.mono (by omega)) (by rfl) T.g_Slip T.kbP (fun σ => passAt tk σ) (pa_cons (pe_ix (r := rIxL K) ix_list (pv 0) pe_int (fun _ _ => rfl)) (pa_cons (pe_ix (r := rIxL K) ix_list (pv 0) pe_int (fun _ _ => rfl)) (pa_cons (pe_ix (r := rIxL K) ix_list (pv 0) pe_int (fun _ _ => rfl)) pa_nil))) (pk_cons (pe_ix (r := rIxL K) ix_list (pv 0) pe_int (fun _ _ => rfl)) (pk_cons (pe_ix (r := rIxL K) ix_list (pv 0) pe_int (fun _ _ => rfl)) pk_nil)))))))) (fun a oe cls d pn hz hf => (pss_one (ps_set (i := 2) sc_refused.nd rfl (.inl rfl) (pv 3)))))
      (pss_cons (ps_if (pt_cmpR op_isN (pv 2) pe_non (nomark _)) (pss_one (ps_ret pe_non)) pss_nil)
      (pss_cons (ps_set (i := 4) sc_refused.nd rfl (.inl rfl) (pe_callB (r := rIslT K) call_islT (by rfl) T.m_isinstance (by decide +kernel) (pa_cons (pv 2) (pa_cons (pe_tup (pa_cons (pe_glob (v := .ref T.C_BadEnd) (by rfl) T.g_BadEnd rfl) (pa_cons (pe_glob (v := .ref T.C_BadLetter) (by rfl) T.g_BadLetter rfl) (pa_cons (pe_glob (v := .ref T.C_BadRow) (by rfl) T.g_BadRow rfl) (pa_cons (pe_glob (v := .ref T.C_BadText) (by rfl) T.g_BadText rfl) (pa_cons (pe_glob (v := .ref T.C_Ended) (by rfl) T.g_Ended rfl) (pa_cons (pe_glob (v := .ref T.C_Fault) (by rfl) T.g_Fault rfl) (pa_cons (pe_glob (v := .ref T.C_NoByte) (by rfl) T.g_NoByte rfl) (pa_cons (pe_glob (v := .ref T.C_NoDeed) (by rfl) T.g_NoDeed rfl) (pa_cons (pe_glob (v := .ref T.C_NoSlip) (by rfl) T.g_NoSlip rfl) pa_nil)))))))))) pa_nil))))
      (pss_cons (ps_set (i := 5) sc_refused.nd rfl (.inl rfl) (pe_and (pe_callB (r := rIsl K) call_isl (by rfl) T.m_isinstance (by decide +kernel) (pa_cons (pv 2) (pa_cons (pe_glob (v := .ref T.C_BadSlip) (by rfl) T.g_BadSlip rfl) pa_nil))) (pe_one (pe_callB (r := rIsl K) call_isl (by rfl) T.m_isinstance (by decide +kernel) (pa_cons (pv 2) (pa_cons (pe_bltn (v := .ty "ValueError") (u := .type "ValueError") (by rfl) T.m_ValueError (by decide +kernel) rfl) pa_nil))))))
      (pss_one (ps_ret (pe_ifExp (pw_and (pt_val (pv 5)) (pw_and1 (pt_not (pt_val (pv 4))))).pt (pe_xl (pv 2)) pe_str)))))))), ?_⟩
    refine ⟨.bl nm, rfl, nm, rfl, ?_⟩
    cases nm with
    | true =>
      refine ⟨.ref a, rfl, a, _, 3, l, rfl, rfl, sq1 ea, rfl, .ref a, rfl, a, _, 2, d, rfl, rfl, sq1 ea, rfl, .ref a, rfl, a, _, 4, m, rfl, rfl, sq1 ea, rfl, .ref a, rfl, a, _, 0, k, rfl, rfl, sq1 ea, rfl, .ref a, rfl, a, _, 1, t, rfl, rfl, sq1 ea, rfl, rfl, rfl, fun x dx hx hdx ne => ?_⟩
      have kU : ∀ (v : V) (d : PyData), Da S H v d → Da S (upd (upd H dx (.own x)) x (.ins T.C_Slip dx [])) v d := fun v d h => Da.keep (fun b o _ e => up _ _ _ hx hdx b o e) d h
      refine ⟨S, x, dx, k, t, d, l, m, dk, dt, dd, dl, dm, rfl, upd_same, kU _ _ hp.k, kU _ _ hp.t, kU _ _ hp.d, kU _ _ hp.l, kU _ _ hp.m, nd, fun hw H1 k1 => ⟨rfl, ?_⟩, fun p hw H1 dd' s1 hd ed => ?_⟩
      · have s1 : Same H H1 := fun b o e => k1 b o (ne_of_none e hx) (up _ _ _ hx hdx b o e)
        refine ⟨.non, rfl, rfl, _, rfl, ?_⟩
        have z := q H1 s1
        rw [hw] at z
        exact z
      · replace s1 : Same H H1 := fun b o e => s1 b o (up _ _ _ hx hdx b o e)
        refine ⟨true, takes_it T, fun _ ax hax => ?_, fun z => nomatch z⟩
        refine ⟨.ref ax, rfl, ?_⟩
        refine ⟨.ref ax, rfl, rfl, _, rfl, ?_⟩
        have sH2 : Same H1 (upd H1 ax (exl ax (.ref T.C_BadSlip) (some dd'))) := same_upd hax
        have eH2 : (upd H1 ax (exl ax (.ref T.C_BadSlip) (some dd'))) ax = some (exl ax (.ref T.C_BadSlip) (some dd')) := upd_same
        generalize upd H1 ax (exl ax (.ref T.C_BadSlip) (some dd')) = H2 at sH2 eH2 ⊢
        replace s1 := s1.trans sH2
        replace ed := sH2 _ _ ed
        refine ⟨.ref ax, rfl, by show 9 ≤ sizeLine; decide, fun tp htp => ?_⟩
        have sH3 : Same H2 (upd H2 tp (.tup [.ref T.C_BadEnd, .ref T.C_BadLetter, .ref T.C_BadRow, .ref T.C_BadText, .ref T.C_Ended, .ref T.C_Fault, .ref T.C_NoByte, .ref T.C_NoDeed, .ref T.C_NoSlip])) := same_upd htp
        have eH3 : (upd H2 tp (.tup [.ref T.C_BadEnd, .ref T.C_BadLetter, .ref T.C_BadRow, .ref T.C_BadText, .ref T.C_Ended, .ref T.C_Fault, .ref T.C_NoByte, .ref T.C_NoDeed, .ref T.C_NoSlip])) tp = some (.tup [.ref T.C_BadEnd, .ref T.C_BadLetter, .ref T.C_BadRow, .ref T.C_BadText, .ref T.C_Ended, .ref T.C_Fault, .ref T.C_NoByte, .ref T.C_NoDeed, .ref T.C_NoSlip]) := upd_same
        generalize upd H2 tp (.tup [.ref T.C_BadEnd, .ref T.C_BadLetter, .ref T.C_BadRow, .ref T.C_BadText, .ref T.C_Ended, .ref T.C_Fault, .ref T.C_NoByte, .ref T.C_NoDeed, .ref T.C_NoSlip]) = H3 at sH3 eH3 ⊢
        replace s1 := s1.trans sH3
        replace ed := sH3 _ _ ed
        replace eH2 := sH3 _ _ eH2
        refine ⟨ax, T.C_BadSlip, dd', _, tp, _, _, false, rfl, eH2, ed, T.oe_BadSlip.is_, eH3, (.cons (.own _) (.cons (.own _) (.cons (.own _) (.cons (.own _) (.cons (.own _) (.cons (.own _) (.cons (.own _) (.cons (.own _) (.cons (.own _) .nil))))))))), (kitAny_cons (b := false) (other_BadSlip_BadEnd T) (fun _ => kitAny_cons (b := false) (other_BadSlip_BadLetter T) (fun _ => kitAny_cons (b := false) (other_BadSlip_BadRow T) (fun _ => kitAny_cons (b := false) (other_BadSlip_BadText T) (fun _ => kitAny_cons (b := false) (other_BadSlip_Ended T) (fun _ => kitAny_cons (b := false) (other_BadSlip_Fault T) (fun _ => kitAny_cons (b := false) (other_BadSlip_NoByte T) (fun _ => kitAny_cons (b := false) (other_BadSlip_NoDeed T) (fun _ => kitAny_cons (b := false) (other_BadSlip_NoSlip T) (fun _ => rfl) (fun z => nomatch z)) (fun z => nomatch z)) (fun z => nomatch z)) (fun z => nomatch z)) (fun z => nomatch z)) (fun z => nomatch z)) (fun z => nomatch z)) (fun z => nomatch z)) (fun z => nomatch z)), ?_⟩
        have own : PySem.W.kitOne K (.ref T.C_BadSlip) (.ref T.C_BadSlip) = some true := by
          rw [oe_own T.oe_BadSlip T.oe_BadSlip (nr_ValueError _), decide_eq_true rfl]
        refine ⟨.ref ax, rfl, ax, T.C_BadSlip, dd', _, _, _, true, rfl, eH2, ed, T.oe_BadSlip.is_, .own _, own, _, rfl, ?_⟩
        refine ⟨.ref ax, rfl, ax, T.C_BadSlip, dd', _, _, _, true, rfl, eH2, ed, T.oe_BadSlip.is_, .ty _, under_BadSlip T, ?_⟩
        refine ⟨.bl true, rfl, true, rfl, .bl false, rfl, false, rfl, ?_⟩
        have z := q H3 s1
        rw [hw] at z
        exact ⟨.ref ax, rfl, ax, T.C_BadSlip, dd', _, _, rfl, eH2, ed, T.oe_BadSlip.is_, T.n_BadSlip_part, by rfl, z⟩
    | false =>
      refine ⟨.ref a, rfl, a, _, 0, k, rfl, rfl, sq1 ea, rfl, .ref a, rfl, a, _, 1, t, rfl, rfl, sq1 ea, rfl, .ref a, rfl, a, _, 2, d, rfl, rfl, sq1 ea, rfl, .ref a, rfl, a, _, 4, m, rfl, rfl, sq1 ea, rfl, .ref a, rfl, a, _, 3, l, rfl, rfl, sq1 ea, rfl, rfl, rfl, fun x dx hx hdx ne => ?_⟩
      have kU : ∀ (v : V) (d : PyData), Da S H v d → Da S (upd (upd H dx (.own x)) x (.ins T.C_Slip dx [])) v d := fun v d h => Da.keep (fun b o _ e => up _ _ _ hx hdx b o e) d h
      refine ⟨S, x, dx, k, t, d, l, m, dk, dt, dd, dl, dm, rfl, upd_same, kU _ _ hp.k, kU _ _ hp.t, kU _ _ hp.d, kU _ _ hp.l, kU _ _ hp.m, nd, fun hw H1 k1 => ⟨rfl, ?_⟩, fun p hw H1 dd' s1 hd ed => ?_⟩
      · have s1 : Same H H1 := fun b o e => k1 b o (ne_of_none e hx) (up _ _ _ hx hdx b o e)
        refine ⟨.non, rfl, rfl, _, rfl, ?_⟩
        have z := q H1 s1
        rw [hw] at z
        exact z
      · replace s1 : Same H H1 := fun b o e => s1 b o (up _ _ _ hx hdx b o e)
        refine ⟨true, takes_it T, fun _ ax hax => ?_, fun z => nomatch z⟩
        refine ⟨.ref ax, rfl, ?_⟩
        refine ⟨.ref ax, rfl, rfl, _, rfl, ?_⟩
        have sH2 : Same H1 (upd H1 ax (exl ax (.ref T.C_BadSlip) (some dd'))) := same_upd hax
        have eH2 : (upd H1 ax (exl ax (.ref T.C_BadSlip) (some dd'))) ax = some (exl ax (.ref T.C_BadSlip) (some dd')) := upd_same
        generalize upd H1 ax (exl ax (.ref T.C_BadSlip) (some dd')) = H2 at sH2 eH2 ⊢
        replace s1 := s1.trans sH2
        replace ed := sH2 _ _ ed
        refine ⟨.ref ax, rfl, by show 9 ≤ sizeLine; decide, fun tp htp => ?_⟩
        have sH3 : Same H2 (upd H2 tp (.tup [.ref T.C_BadEnd, .ref T.C_BadLetter, .ref T.C_BadRow, .ref T.C_BadText, .ref T.C_Ended, .ref T.C_Fault, .ref T.C_NoByte, .ref T.C_NoDeed, .ref T.C_NoSlip])) := same_upd htp
        have eH3 : (upd H2 tp (.tup [.ref T.C_BadEnd, .ref T.C_BadLetter, .ref T.C_BadRow, .ref T.C_BadText, .ref T.C_Ended, .ref T.C_Fault, .ref T.C_NoByte, .ref T.C_NoDeed, .ref T.C_NoSlip])) tp = some (.tup [.ref T.C_BadEnd, .ref T.C_BadLetter, .ref T.C_BadRow, .ref T.C_BadText, .ref T.C_Ended, .ref T.C_Fault, .ref T.C_NoByte, .ref T.C_NoDeed, .ref T.C_NoSlip]) := upd_same
        generalize upd H2 tp (.tup [.ref T.C_BadEnd, .ref T.C_BadLetter, .ref T.C_BadRow, .ref T.C_BadText, .ref T.C_Ended, .ref T.C_Fault, .ref T.C_NoByte, .ref T.C_NoDeed, .ref T.C_NoSlip]) = H3 at sH3 eH3 ⊢
        replace s1 := s1.trans sH3
        replace ed := sH3 _ _ ed
        replace eH2 := sH3 _ _ eH2
        refine ⟨ax, T.C_BadSlip, dd', _, tp, _, _, false, rfl, eH2, ed, T.oe_BadSlip.is_, eH3, (.cons (.own _) (.cons (.own _) (.cons (.own _) (.cons (.own _) (.cons (.own _) (.cons (.own _) (.cons (.own _) (.cons (.own _) (.cons (.own _) .nil))))))))), (kitAny_cons (b := false) (other_BadSlip_BadEnd T) (fun _ => kitAny_cons (b := false) (other_BadSlip_BadLetter T) (fun _ => kitAny_cons (b := false) (other_BadSlip_BadRow T) (fun _ => kitAny_cons (b := false) (other_BadSlip_BadText T) (fun _ => kitAny_cons (b := false) (other_BadSlip_Ended T) (fun _ => kitAny_cons (b := false) (other_BadSlip_Fault T) (fun _ => kitAny_cons (b := false) (other_BadSlip_NoByte T) (fun _ => kitAny_cons (b := false) (other_BadSlip_NoDeed T) (fun _ => kitAny_cons (b := false) (other_BadSlip_NoSlip T) (fun _ => rfl) (fun z => nomatch z)) (fun z => nomatch z)) (fun z => nomatch z)) (fun z => nomatch z)) (fun z => nomatch z)) (fun z => nomatch z)) (fun z => nomatch z)) (fun z => nomatch z)) (fun z => nomatch z)), ?_⟩
        have own : PySem.W.kitOne K (.ref T.C_BadSlip) (.ref T.C_BadSlip) = some true := by
          rw [oe_own T.oe_BadSlip T.oe_BadSlip (nr_ValueError _), decide_eq_true rfl]
        refine ⟨.ref ax, rfl, ax, T.C_BadSlip, dd', _, _, _, true, rfl, eH2, ed, T.oe_BadSlip.is_, .own _, own, _, rfl, ?_⟩
        refine ⟨.ref ax, rfl, ax, T.C_BadSlip, dd', _, _, _, true, rfl, eH2, ed, T.oe_BadSlip.is_, .ty _, under_BadSlip T, ?_⟩
        refine ⟨.bl true, rfl, true, rfl, .bl false, rfl, false, rfl, ?_⟩
        have z := q H3 s1
        rw [hw] at z
        exact ⟨.ref ax, rfl, ax, T.C_BadSlip, dd', _, _, rfl, eH2, ed, T.oe_BadSlip.is_, T.n_BadSlip_part, by rfl, z⟩
end
end K8

set_option Elab.async false
set_option linter.all false
set_option maxRecDepth 100000
set_option maxHeartbeats 4000000
namespace K8
open PySem PySem.Spec PyProof.Rows L2
/-! ### the law -/
open Cm (Da DaAll wt wtAll okD okAll)
theorem five {xs : List V} (h : xs.length = 5) : ∃ k t d l m, xs = [k, t, d, l, m] := by
  match xs, h with
  | [k, t, d, l, m], _ => exact ⟨k, t, d, l, m, rfl⟩
theorem lenD_wt (d : PyData) : lenD d ≤ wt d := by
  cases d with
  | list ds =>
    have := wtAll_len ds
    show ds.length ≤ wtAll ds + 4
    omega
  | tuple ds =>
    have := wtAll_len ds
    show ds.length ≤ wtAll ds + 4
    omega
  | _ => exact Nat.zero_le _
theorem ix_ok {m i : Nat} (h : i < m) : ixN m (i : Int) = some i := by
  have h2 : (i : Int) < (m : Int) := by omega
  simp [ixN, h2]
theorem scal_opt (o : Option Str) : scal (optS o) (optS o) = true := by cases o <;> rfl
theorem Gx.way7 {S : Addr → Prop} {H : Hp} {K : PySem.W.Frag} {x : V} {n W : Nat} (h : Gx S H x (n + 1) W) : ∃ (t : String) (bl : Bool), TyX K H x (.type t) ∧ PySem.W.kitOne K (.type t) (.type "list") = some bl ∧
    (bl = true → ∃ a xs, x = .ref a ∧ ¬ S a ∧ H a = some (.lst xs) ∧ Ls S H xs n W) := by
  obtain ⟨d, h1, h2, h3, h4⟩ := h
  cases h1 with
  | non => exact ⟨"NoneType", false, .base .non, kit_ty (by decide +kernel), fun z => nomatch z⟩
  | bl y => exact ⟨"bool", false, .base (.bl y), kit_ty (by decide +kernel), fun z => nomatch z⟩
  | int y => exact ⟨"int", false, .base (.int y), kit_ty (by decide +kernel), fun z => nomatch z⟩
  | str y => exact ⟨"str", false, .base (.str y), kit_ty (by decide +kernel), fun z => nomatch z⟩
  | tup _ e _ => exact ⟨"tuple", false, .base (.tup e), kit_ty (by decide +kernel), fun z => nomatch z⟩
  | @lst a xs ds na e al => exact ⟨"list", true, .base (.lst e), kit_ty (by decide +kernel), fun _ => ⟨a, xs, rfl, na, e, ds, al, h2, by
      have z : PyData.depthAll ds + 1 ≤ n + 1 := h3
      omega, by
      have z : wtAll ds + 4 ≤ W := h4
      omega⟩⟩
section
variable {P : Program} {w : World} {K : PySem.W.Frag} {mg : Str → Option Value} {base : Heap}
def spRight : Sp := fun vs H Q _ => ∃ (p : Addr) (a b c : Int), vs = [.ref p] ∧ H p = some (.lst [.int a, .int b, .int c]) ∧ 0 ≤ a ∧ 0 ≤ b ∧ b < 2 ^ 62 ∧ 0 ≤ c ∧ c < 2 ^ 36 ∧ ∀ H', Keep p H H' → Q (.bl true) H'
theorem ok_right (T : Tx K mg) : FnG P w K mg base 11 T.f_right T.fd_right ["_law_box_here"] spRight := by
  refine T.F_right.okG sc_right (fun vs H Q E h => ?_) (fun cdv A outer s H vs Q E hgd hr h => ?_)
  · obtain ⟨p, a, b, c, rfl, _⟩ := h
    rfl
  · obtain ⟨p, a, b, c, rfl, hB, a0, b0, b1, c0, c1, q⟩ := h
    refine ⟨_, (pss_cons (ps_for PassesOwn.never rfl (pi_range1 (by rfl) T.m_range (pa_cons pe_int pa_nil)) (pg_name (i := 1) sc_right.nd rfl (.inl rfl)) (pss_cons (ps_set (i := 2) sc_right.nd rfl (.inl rfl) (pe_callTy call_list_of (by rfl) T.m_list (by decide +kernel) (pa_cons (pe_call (ok_drawn T) (hr.mono (by omega)) (by rfl) T.g_drawn T.F_drawn.kp T.b_drawn .nil pass0 (pa_cons (pv 0) (pa_cons pe_int pa_nil))) pa_nil)))
      (pss_cons (ps_for PassesOwn.never rfl (pi_range1 (by rfl) T.m_range (pa_cons (pe_op op_add pe_int (pe_call (ok_take T) (hr.mono (by omega)) (by rfl) T.g_take T.F_take.kp T.b_take .nil pass0 (pa_cons (pv 0) (pa_cons pe_int pa_nil)))) pa_nil)) (pg_name (i := 3) sc_right.nd rfl (.inl rfl)) (pss_cons (ps_set (i := 4) sc_right.nd rfl (.inl rfl) (pe_call (ok_take T) (hr.mono (by omega)) (by rfl) T.g_take T.F_take.kp T.b_take .nil pass0 (pa_cons (pv 0) (pa_cons pe_int pa_nil))))
      (pss_one (ps_asg (pe_ifExp (pw_and (pt_cmpR op_eq (pv 4) pe_int (nomark _)) (pw_and1 (pt_val (pe_callB (r := rIsi K) call_isi (by rfl) T.m_isinstance (by decide +kernel) (pa_cons (pe_ix (r := rIxL K) ix_list (pv 2) pe_int (fun _ _ => rfl)) (pa_cons (pe_bltn (v := .ty "list") (u := .type "list") (by rfl) T.m_list (by decide +kernel) rfl) pa_nil)))))).pt (pe_call (ok_bent_row T) (hr.mono (by omega)) (by rfl) T.g_bent_row T.F_bent_row.kp T.b_bent_row .nil pass0 (pa_cons (pv 0) (pa_cons (pe_callTy call_list_of (by rfl) T.m_list (by decide +kernel) (pa_cons (pe_ix (r := rIxL K) ix_list (pv 2) pe_int (fun _ _ => rfl)) pa_nil)) pa_nil))) (pe_call (ok_odd T) (hr.mono (by omega)) (by rfl) T.g_odd T.F_odd.kp T.b_odd .nil pass0 (pa_cons (pv 0) pa_nil))) (pg_sub (pv 2) (pv 4) set_list)))))
      (pss_cons (ps_if (pt_cmpR op_eq (pe_call (ok_take T) (hr.mono (by omega)) (by rfl) T.g_take T.F_take.kp T.b_take .nil pass0 (pa_cons (pv 0) (pa_cons pe_int pa_nil))) pe_int (nomark _)) (pss_one (ps_asg pe_bl (pg_sub (pv 2) pe_int set_list))) pss_nil)
      (pss_cons (ps_par (i := 5) (j := 6) rfl sc_right.nd rfl rfl (by decide) rfl rfl (pa_cons (pe_callB (r := rReprD K) (call_reprD hgd hr.units) (by rfl) T.m_repr (by decide +kernel) (pa_cons (pv 2) pa_nil)) (pa_cons (pe_call (ok_wrong T) (hr.mono (by omega)) (by rfl) T.g_wrong T.F_wrong.kp T.b_wrong .nil pass0 (pa_cons (pe_callTy call_tuple_of (by rfl) T.m_tuple (by decide +kernel) (pa_cons (pv 2) pa_nil)) pa_nil)) pa_nil)) rfl)
      (pss_one (ps_if (pw_or (pt_cmpR op_ne (pe_call (ok_refused T) (hr.mono (by omega)) (by rfl) T.g_refused T.F_refused.kp T.b_refused .nil pass0 (pa_cons (pv 2) (pa_cons pe_bl pa_nil))) (pv 6) (nomark _)) (pw_or (pt_cmpR op_ne (pe_call (ok_refused T) (hr.mono (by omega)) (by rfl) T.g_refused T.F_refused.kp T.b_refused .nil pass0 (pa_cons (pv 2) (pa_cons pe_bl pa_nil))) (pv 6) (nomark _)) (pw_or1 (pt_cmpR op_ne (pe_callB (r := rReprD K) (call_reprD hgd hr.units) (by rfl) T.m_repr (by decide +kernel) (pa_cons (pv 2) pa_nil)) (pv 5) (nomark _))))).pt (pss_one (ps_ret pe_bl)) pss_nil)))))))
      (pss_one (ps_ret pe_bl))), ?_⟩
    obtain ⟨S0, hS0⟩ : ∃ S : Addr → Prop, S = fun z => z = p := ⟨_, rfl⟩
    have hSp : S0 p := by rw [hS0]
    have hSy : ∀ y, S0 y → y = p := fun y hy => by rw [hS0] at hy; exact hy
    refine ⟨30, rfl, by decide, by decide, ?_⟩
    refine for_it walk_range (fun i σ Hc => ∃ (y1 y2 y3 y4 y5 y6 : Option V) (a' c' : Int), σ = [some (.ref p), y1, y2, y3, y4, y5, y6] ∧ Keep p H Hc ∧ Hc p = some (.lst [.int a', .int b, .int c']) ∧ 0 ≤ a' ∧ c ≤ c' ∧ c' ≤ c + 1000 * (i : Int)) ⟨_, _, _, _, _, _, a, c, rfl, Keep.refl p H, hB, a0, by omega, by omega⟩ (fun _ _ _ _ _ => trivial) ?_ ?_
    · rintro i0 x0 σ Hc H' hi0 ⟨y1, y2, y3, y4, y5, y6, a1, c1', rfl, kp, ep, a10, cl1, cu1⟩ ⟨rfl, rfl⟩
      have hi0' : i0 < 30 := hi0
      have hSL : SL S0 H' := fun y hy => by
        rw [hSy y hy]
        exact ⟨_, ep⟩
      refine ⟨.ref p, rfl, S0, p, a1, b, c1', rfl, hSp, hSL, ep, a10, b0, b1, by omega, by omega, fun G1 t xs a2 c2 k1 ep a20 cl2 cu2 ft et hlen hgx => ?_⟩
      replace kp := kp.trans k1
      refine ⟨t, _, rfl, .inr (st1 et), fun sm hsm => ?_⟩
      have nsp : sm ≠ p := (ne_of_none ep hsm).symm
      have fsm : H sm = none := kp.free hsm nsp
      obtain ⟨S1, hS1⟩ : ∃ S1 : Addr → Prop, S1 = fun z => S0 z ∨ z = sm := ⟨_, rfl⟩
      have hS1p : S1 p := by rw [hS1]; exact .inl hSp
      have hS1m : S1 sm := by rw [hS1]; exact .inr rfl
      have hS1y : ∀ y, S1 y → y = p ∨ y = sm := fun y hy => by
        rw [hS1] at hy
        exact hy.imp (hSy y) id
      have hgx1 : ∀ x ∈ xs, Gx S1 G1 x 7 300000 := fun x hx => by
        rw [hS1]
        exact Gx.add hsm (hgx x hx)
      clear hgx
      have sG2 : Same G1 (upd G1 sm (.lst xs)) := same_upd hsm
      have eG2 : (upd G1 sm (.lst xs)) sm = some (.lst xs) := upd_same
      generalize upd G1 sm (.lst xs) = G2 at sG2 eG2 ⊢
      replace ep := sG2 _ _ ep
      replace kp := kp.trans (Same.k sG2)
      have hgx2 : ∀ x ∈ xs, Gx S1 G2 x 7 300000 := fun x hx => (hgx1 x hx).same sG2
      have slx : ∀ (Hx : Hp) (us vs : List V), Hx p = some (.lst us) → Hx sm = some (.lst vs) → SL S1 Hx := fun Hx us vs e1 e2 y hy => by
        rcases hS1y y hy with rfl | rfl
        · exact ⟨_, e1⟩
        · exact ⟨_, e2⟩
      refine ⟨.ref p, rfl, p, a2, b, c2, 3, rfl, ep, a20, b0, b1, by omega, by omega, by decide, by decide, fun a3 c3 z a30 cl3 cu3 z0 z1 => ?_⟩
      have kG3 : Keep p G2 (upd G2 p (.lst [.int a3, .int b, .int c3])) := (Keep.refl p G2).upd
      have eG3 : (upd G2 p (.lst [.int a3, .int b, .int c3])) p = some (.lst [.int a3, .int b, .int c3]) := upd_same
      generalize upd G2 p (.lst [.int a3, .int b, .int c3]) = G3 at kG3 eG3 ⊢
      replace eG2 := kG3 _ _ nsp eG2
      replace kp := kp.trans kG3
      refine ⟨1, z, rfl, rfl, _, rfl, by omega, by omega, ?_⟩
      refine for_it walk_range (fun i σ Hc => ∃ (y3 y4 y5 y6 : Option V) (xs : List V) (a' c' : Int), σ = [some (.ref p), some (.int (0 + (i0 : Int))), some (.ref sm), y3, y4, y5, y6] ∧ Keep p H Hc ∧ Hc p = some (.lst [.int a', .int b, .int c']) ∧ 0 ≤ a' ∧ c ≤ c' ∧ c' ≤ c3 + 10 * (i : Int) ∧ Hc sm = some (.lst xs) ∧ xs.length = 5 ∧ ∀ x ∈ xs, Gx S1 Hc x 7 (300000 + 4000 * i)) ?_ (fun _ _ _ _ _ => trivial) ?_ ?_
      · exact ⟨_, _, _, _, xs, a3, c3, rfl, kp, eG3, a30, by omega, by omega, eG2, hlen, fun x hx => ((hgx2 x hx).keep hS1p kG3).mono (Nat.le_refl _) (by omega)⟩
      · rintro i x0 σ Hc H' hi ⟨y3, y4, y5, y6, xs, a4, c4, rfl, kp, ep, a40, cl4, cu4, esm, hlen, hgx⟩ ⟨rfl, rfl⟩
        have hi3 : i < 3 := by
          have : i < (1 + z).toNat := hi
          omega
        refine ⟨.ref p, rfl, p, a4, b, c4, 5, rfl, ep, a40, b0, b1, by omega, by omega, by decide, by decide, fun a5 c5 r a50 cl5 cu5 r0 r1 => ?_⟩
        have kG5 : Keep p H' (upd H' p (.lst [.int a5, .int b, .int c5])) := (Keep.refl p H').upd
        have eG5 : (upd H' p (.lst [.int a5, .int b, .int c5])) p = some (.lst [.int a5, .int b, .int c5]) := upd_same
        generalize upd H' p (.lst [.int a5, .int b, .int c5]) = G5 at kG5 eG5 ⊢
        replace esm := kG5 _ _ nsp esm
        replace kp := kp.trans kG5
        replace hgx : ∀ y ∈ xs, Gx S1 G5 y 7 (300000 + 4000 * i) := fun y hy => (hgx y hy).keep hS1p kG5
        have ep := eG5
        have hSL5 : SL S1 G5 := slx _ _ _ ep esm
        obtain ⟨j, rfl⟩ := Int.eq_ofNat_of_zero_le r0
        have ixj : ixN xs.length (j : Int) = some j := ix_ok (by omega)
        have at2 : atI xs 2 = some (xs[2]'(by omega)) := atI_nat (List.getElem?_eq_getElem _)
        obtain ⟨tn, bl, ty, kl, way⟩ := Gx.way7 (K := K) (hgx (xs[2]'(by omega)) (List.getElem_mem _))
        refine ⟨.int (j : Int), rfl, rfl, _, rfl, ite2 (fun e => ?_) (fun e => ?_)⟩
        · generalize xs[2]'(by omega) = x2 at at2 ty kl way
          refine ⟨.ref sm, rfl, sm, xs, 2, x2, rfl, rfl, sq1 esm, at2, x2, _, _, _, bl, rfl, .ty _, ty, kl, _, rfl, ?_⟩
          cases bl with
          | true =>
            obtain ⟨a2, ys, rfl, na2, ea2, hL⟩ := way rfl
            refine ⟨.ref p, rfl, .ref sm, rfl, sm, xs, 2, .ref a2, rfl, rfl, sq1 esm, at2, a2, _, rfl, .inl (sq1 ea2), fun l hl => ?_⟩
            have nSl : ¬ S1 l := hSL5.new hl
            have sGL : Same G5 (upd G5 l (.lst ys)) := same_upd hl
            have eGL : (upd G5 l (.lst ys)) l = some (.lst ys) := upd_same
            generalize upd G5 l (.lst ys) = GL at sGL eGL ⊢
            replace ep := sGL _ _ ep
            replace esm := sGL _ _ esm
            replace kp := kp.trans (Same.k sGL)
            replace hgx : ∀ y ∈ xs, Gx S1 GL y 7 (300000 + 4000 * i) := fun y hy => (hgx y hy).same sGL
            refine ⟨S1, p, l, a5, b, c5, ys, 300000 + 4000 * i, rfl, hS1p, nSl, hSL5.same sGL, ep, a50, b0, b1, by omega, by omega, eGL, hL.same sGL, by omega, by omega, fun GO x a6 c6 kO ep a60 cl6 cu6 gx => ?_⟩
            replace esm := kO _ _ nsp esm
            replace kp := kp.trans kO
            replace hgx : ∀ y ∈ xs, Gx S1 GO y 7 (300000 + 4000 * i) := fun y hy => (hgx y hy).keep hS1p kO
            refine ⟨.ref sm, rfl, .int (j : Int), rfl, sm, xs, (j : Int), j, rfl, rfl, esm, ixj, ?_⟩
            have kGS : Keep sm GO (upd GO sm (.lst (xs.set j x))) := (Keep.refl sm GO).upd
            have eGS : (upd GO sm (.lst (xs.set j x))) sm = some (.lst (xs.set j x)) := upd_same
            generalize upd GO sm (.lst (xs.set j x)) = GS at kGS eGS ⊢
            replace ep := kGS _ _ (Ne.symm nsp) ep
            replace kp := Keep.mut kp kGS fsm
            refine ⟨_, _, _, _, xs.set j x, _, _, rfl, kp, ep, a60, by omega, by omega, eGS, by rw [List.length_set]; exact hlen, fun y hy => ?_⟩
            rcases List.mem_or_eq_of_mem_set hy with hy | rfl
            · exact ((hgx y hy).keep hS1m kGS).mono (Nat.le_refl _) (by omega)
            · exact (gx.keep hS1m kGS).mono (Nat.le_refl _) (by omega)
          | false =>
            refine ⟨.ref p, rfl, S1, p, a5, b, c5, rfl, hS1p, hSL5, ep, a50, b0, b1, by omega, by omega, fun GO x a6 c6 kO ep a60 cl6 cu6 gx => ?_⟩
            replace esm := kO _ _ nsp esm
            replace kp := kp.trans kO
            replace hgx : ∀ y ∈ xs, Gx S1 GO y 7 (300000 + 4000 * i) := fun y hy => (hgx y hy).keep hS1p kO
            refine ⟨.ref sm, rfl, .int (j : Int), rfl, sm, xs, (j : Int), j, rfl, rfl, esm, ixj, ?_⟩
            have kGS : Keep sm GO (upd GO sm (.lst (xs.set j x))) := (Keep.refl sm GO).upd
            have eGS : (upd GO sm (.lst (xs.set j x))) sm = some (.lst (xs.set j x)) := upd_same
            generalize upd GO sm (.lst (xs.set j x)) = GS at kGS eGS ⊢
            replace ep := kGS _ _ (Ne.symm nsp) ep
            replace kp := Keep.mut kp kGS fsm
            refine ⟨_, _, _, _, xs.set j x, _, _, rfl, kp, ep, a60, by omega, by omega, eGS, by rw [List.length_set]; exact hlen, fun y hy => ?_⟩
            rcases List.mem_or_eq_of_mem_set hy with hy | rfl
            · exact ((hgx y hy).keep hS1m kGS).mono (Nat.le_refl _) (by omega)
            · exact (gx.keep hS1m kGS).mono (Nat.le_refl _) (by omega)
        · skip
          refine ⟨.ref p, rfl, S1, p, a5, b, c5, rfl, hS1p, hSL5, ep, a50, b0, b1, by omega, by omega, fun GO x a6 c6 kO ep a60 cl6 cu6 gx => ?_⟩
          replace esm := kO _ _ nsp esm
          replace kp := kp.trans kO
          replace hgx : ∀ y ∈ xs, Gx S1 GO y 7 (300000 + 4000 * i) := fun y hy => (hgx y hy).keep hS1p kO
          refine ⟨.ref sm, rfl, .int (j : Int), rfl, sm, xs, (j : Int), j, rfl, rfl, esm, ixj, ?_⟩
          have kGS : Keep sm GO (upd GO sm (.lst (xs.set j x))) := (Keep.refl sm GO).upd
          have eGS : (upd GO sm (.lst (xs.set j x))) sm = some (.lst (xs.set j x)) := upd_same
          generalize upd GO sm (.lst (xs.set j x)) = GS at kGS eGS ⊢
          replace ep := kGS _ _ (Ne.symm nsp) ep
          replace kp := Keep.mut kp kGS fsm
          refine ⟨_, _, _, _, xs.set j x, _, _, rfl, kp, ep, a60, by omega, by omega, eGS, by rw [List.length_set]; exact hlen, fun y hy => ?_⟩
          rcases List.mem_or_eq_of_mem_set hy with hy | rfl
          · exact ((hgx y hy).keep hS1m kGS).mono (Nat.le_refl _) (by omega)
          · exact (gx.keep hS1m kGS).mono (Nat.le_refl _) (by omega)
      · rintro σ Hc ⟨y3, y4, y5, y6, xs, a4, c4, rfl, kp, ep, a40, cl4, cu4, esm, hlen, hgx⟩
        have hz : ((1 + z).toNat : Int) ≤ 3 := by omega
        replace hgx : ∀ y ∈ xs, Gx S1 Hc y 7 330000 := fun y hy => (hgx y hy).mono (Nat.le_refl _) (by omega)
        refine ⟨.ref p, rfl, p, a4, b, c4, 6, rfl, ep, a40, b0, b1, by omega, by omega, by decide, by decide, fun a5 c5 r a50 cl5 cu5 r0 r1 => ?_⟩
        have kG6 : Keep p Hc (upd Hc p (.lst [.int a5, .int b, .int c5])) := (Keep.refl p Hc).upd
        have eG6 : (upd Hc p (.lst [.int a5, .int b, .int c5])) p = some (.lst [.int a5, .int b, .int c5]) := upd_same
        generalize upd Hc p (.lst [.int a5, .int b, .int c5]) = G6 at kG6 eG6 ⊢
        replace esm := kG6 _ _ nsp esm
        replace kp := kp.trans kG6
        replace hgx : ∀ y ∈ xs, Gx S1 G6 y 7 330000 := fun y hy => (hgx y hy).keep hS1p kG6
        have ep := eG6
        refine ⟨rfl, _, rfl, ite2 (fun e => ?_) (fun e => ?_)⟩
        · refine ⟨.ref sm, rfl, sm, xs, 3, 3, rfl, rfl, esm, (by rw [hlen]; rfl), ?_⟩
          have kGR : Keep sm G6 (upd G6 sm (.lst (xs.set 3 (.bl false)))) := (Keep.refl sm G6).upd
          have eGR : (upd G6 sm (.lst (xs.set 3 (.bl false)))) sm = some (.lst (xs.set 3 (.bl false))) := upd_same
          generalize upd G6 sm (.lst (xs.set 3 (.bl false))) = GR at kGR eGR ⊢
          replace ep := kGR _ _ (Ne.symm nsp) ep
          replace kp := Keep.mut kp kGR fsm
          replace hgx : ∀ y ∈ xs.set 3 (.bl false), Gx S1 GR y 7 330000 := fun y hy => by
            rcases List.mem_or_eq_of_mem_set hy with hy | rfl
            · exact (hgx y hy).keep hS1m kGR
            · exact Gx.bl.mono (by decide) (by decide)
          have esm := eGR
          replace hlen : (xs.set 3 (.bl false)).length = 5 := by rw [List.length_set]; exact hlen
          generalize xs.set 3 (.bl false) = xs at esm hgx hlen
          obtain ⟨k, t', d, l, m, rfl⟩ := five hlen
          obtain ⟨dk, dak, okk, dpk, wtk⟩ := hgx k (by simp)
          obtain ⟨dt, dat, okt, dpt, wtt⟩ := hgx t' (by simp)
          obtain ⟨dd, dad, okd, dpd, wtd⟩ := hgx d (by simp)
          obtain ⟨dl, dal, okl, dpl, wtl⟩ := hgx l (by simp)
          obtain ⟨dm, dam, okm, dpm, wtm⟩ := hgx m (by simp)
          have pts : Pts S1 GR k t' d l m dk dt dd dl dm := ⟨dak, dat, dad, dal, dam⟩
          have nd : lenD dd ≤ 1000000 := Nat.le_trans (lenD_wt dd) (by omega)
          have nm : lenD dm ≤ 1000000 := Nat.le_trans (lenD_wt dm) (by omega)
          have okA : okD (.list [dk, dt, dd, dl, dm]) = true := by
            show (okD dk && (okD dt && (okD dd && (okD dl && (okD dm && true))))) = true
            rw [okk, okt, okd, okl, okm]
            rfl
          have wtA : wt (.list [dk, dt, dd, dl, dm]) ≤ 2000000 := by
            show (wt dk + 2 + (wt dt + 2 + (wt dd + 2 + (wt dl + 2 + (wt dm + 2 + 0))))) + 4 ≤ _
            omega
          have dpA : (PyData.list [dk, dt, dd, dl, dm]).depth ≤ 60 := by
            show max dk.depth (max dt.depth (max dd.depth (max dl.depth (max dm.depth 0)))) + 1 ≤ _
            omega
          have szA : (PyData.list [dk, dt, dd, dl, dm]).shown.length ≤ sizeLine := Nat.le_trans (Nat.le_trans (Cm.shown_le _ okA) wtA) (by decide)
          have daA : ∀ Hx : Hp, Same GR Hx → Da (fun _ => False) Hx (.ref sm) (.list [dk, dt, dd, dl, dm]) := fun Hx s => .lst (fun z => z) (s _ _ esm) (weak0 _ (.cons (pts.same s).k (.cons (pts.same s).t (.cons (pts.same s).d (.cons (pts.same s).l (.cons (pts.same s).m .nil))))))
          refine ⟨.ref sm, rfl, .ref sm, .list [dk, dt, dd, dl, dm], rfl, Da.dp _ (daA _ (Same.refl GR)), Cm.ok_showable _ okA, dpA, szA, .ref sm, rfl, sm, _, rfl, .inl ⟨sq1 esm, fun t9 ht9 => ?_⟩⟩
          have sGT : Same GR (upd GR t9 (.tup [k, t', d, l, m])) := same_upd ht9
          have eGT : (upd GR t9 (.tup [k, t', d, l, m])) t9 = some (.tup [k, t', d, l, m]) := upd_same
          generalize upd GR t9 (.tup [k, t', d, l, m]) = GT at sGT eGT ⊢
          refine ⟨S1, t9, k, t', d, l, m, dk, dt, dd, dl, dm, rfl, eGT, pts.same sGT, nd, nm, fun GU sU => ⟨_, _, rfl, ?_⟩⟩
          have sRU := sGT.trans sU
          have sc := scal_opt (wrongP dk dt dd dl dm)
          refine ⟨.ref sm, rfl, S1, sm, false, k, t', d, l, m, dk, dt, dd, dl, dm, rfl, sRU _ _ esm, pts.same sRU, nd, fun GV sV => ⟨_, rfl, sc, _, rfl, ?_⟩⟩
          rw [decide_eq_true rfl]
          have sRV := sRU.trans sV
          refine ⟨.ref sm, rfl, S1, sm, true, k, t', d, l, m, dk, dt, dd, dl, dm, rfl, sRV _ _ esm, pts.same sRV, nd, fun GW sW => ⟨_, rfl, sc, _, rfl, ?_⟩⟩
          rw [decide_eq_true rfl]
          have sRW := sRV.trans sW
          refine ⟨.ref sm, rfl, .ref sm, .list [dk, dt, dd, dl, dm], rfl, Da.dp _ (daA _ sRW), Cm.ok_showable _ okA, dpA, szA, .str (PyData.list [dk, dt, dd, dl, dm]).shown, rfl, rfl, _, rfl, ?_⟩
          rw [decide_eq_true rfl]
          exact ⟨_, _, _, _, _, _, a5, c5, rfl, kp.trans (Same.k sRW), sRW _ _ ep, a50, by omega, by omega⟩
        · obtain ⟨GR, hGR⟩ : ∃ GR, GR = G6 := ⟨_, rfl⟩
          rw [← hGR] at ep esm hgx kp ⊢
          obtain ⟨k, t', d, l, m, rfl⟩ := five hlen
          obtain ⟨dk, dak, okk, dpk, wtk⟩ := hgx k (by simp)
          obtain ⟨dt, dat, okt, dpt, wtt⟩ := hgx t' (by simp)
          obtain ⟨dd, dad, okd, dpd, wtd⟩ := hgx d (by simp)
          obtain ⟨dl, dal, okl, dpl, wtl⟩ := hgx l (by simp)
          obtain ⟨dm, dam, okm, dpm, wtm⟩ := hgx m (by simp)
          have pts : Pts S1 GR k t' d l m dk dt dd dl dm := ⟨dak, dat, dad, dal, dam⟩
          have nd : lenD dd ≤ 1000000 := Nat.le_trans (lenD_wt dd) (by omega)
          have nm : lenD dm ≤ 1000000 := Nat.le_trans (lenD_wt dm) (by omega)
          have okA : okD (.list [dk, dt, dd, dl, dm]) = true := by
            show (okD dk && (okD dt && (okD dd && (okD dl && (okD dm && true))))) = true
            rw [okk, okt, okd, okl, okm]
            rfl
          have wtA : wt (.list [dk, dt, dd, dl, dm]) ≤ 2000000 := by
            show (wt dk + 2 + (wt dt + 2 + (wt dd + 2 + (wt dl + 2 + (wt dm + 2 + 0))))) + 4 ≤ _
            omega
          have dpA : (PyData.list [dk, dt, dd, dl, dm]).depth ≤ 60 := by
            show max dk.depth (max dt.depth (max dd.depth (max dl.depth (max dm.depth 0)))) + 1 ≤ _
            omega
          have szA : (PyData.list [dk, dt, dd, dl, dm]).shown.length ≤ sizeLine := Nat.le_trans (Nat.le_trans (Cm.shown_le _ okA) wtA) (by decide)
          have daA : ∀ Hx : Hp, Same GR Hx → Da (fun _ => False) Hx (.ref sm) (.list [dk, dt, dd, dl, dm]) := fun Hx s => .lst (fun z => z) (s _ _ esm) (weak0 _ (.cons (pts.same s).k (.cons (pts.same s).t (.cons (pts.same s).d (.cons (pts.same s).l (.cons (pts.same s).m .nil))))))
          refine ⟨.ref sm, rfl, .ref sm, .list [dk, dt, dd, dl, dm], rfl, Da.dp _ (daA _ (Same.refl GR)), Cm.ok_showable _ okA, dpA, szA, .ref sm, rfl, sm, _, rfl, .inl ⟨sq1 esm, fun t9 ht9 => ?_⟩⟩
          have sGT : Same GR (upd GR t9 (.tup [k, t', d, l, m])) := same_upd ht9
          have eGT : (upd GR t9 (.tup [k, t', d, l, m])) t9 = some (.tup [k, t', d, l, m]) := upd_same
          generalize upd GR t9 (.tup [k, t', d, l, m]) = GT at sGT eGT ⊢
          refine ⟨S1, t9, k, t', d, l, m, dk, dt, dd, dl, dm, rfl, eGT, pts.same sGT, nd, nm, fun GU sU => ⟨_, _, rfl, ?_⟩⟩
          have sRU := sGT.trans sU
          have sc := scal_opt (wrongP dk dt dd dl dm)
          refine ⟨.ref sm, rfl, S1, sm, false, k, t', d, l, m, dk, dt, dd, dl, dm, rfl, sRU _ _ esm, pts.same sRU, nd, fun GV sV => ⟨_, rfl, sc, _, rfl, ?_⟩⟩
          rw [decide_eq_true rfl]
          have sRV := sRU.trans sV
          refine ⟨.ref sm, rfl, S1, sm, true, k, t', d, l, m, dk, dt, dd, dl, dm, rfl, sRV _ _ esm, pts.same sRV, nd, fun GW sW => ⟨_, rfl, sc, _, rfl, ?_⟩⟩
          rw [decide_eq_true rfl]
          have sRW := sRV.trans sW
          refine ⟨.ref sm, rfl, .ref sm, .list [dk, dt, dd, dl, dm], rfl, Da.dp _ (daA _ sRW), Cm.ok_showable _ okA, dpA, szA, .str (PyData.list [dk, dt, dd, dl, dm]).shown, rfl, rfl, _, rfl, ?_⟩
          rw [decide_eq_true rfl]
          exact ⟨_, _, _, _, _, _, a5, c5, rfl, kp.trans (Same.k sRW), sRW _ _ ep, a50, by omega, by omega⟩
    · rintro σ Hc ⟨y1, y2, y3, y4, y5, y6, a5, c5, rfl, kp, _⟩
      exact q _ kp
end
end K8

set_option Elab.async false
set_option linter.all false
set_option maxRecDepth 100000
set_option maxHeartbeats 4000000
namespace K8
open PySem PySem.Spec PyProof.Rows L2
section
variable {P : Program} {w : World} {K : PySem.W.Frag} {mg : Str → Option Value} {base : Heap}
def spLaw (K : PySem.W.Frag) : Sp := fun vs H Q _ => ∃ (a : Addr) (ns : List Int), vs = [.ref a] ∧ SqL K H a (ns.map V.int) ∧ ns.length ≤ 63 ∧ ∀ H', Q (.bl true) H'
/-- all([right(box(script, k)) for k in range(max(1, min(4, len(script))))]) -/
theorem ok_law {f : Addr} {fd : FuncData} (T : Tx K mg) (F : Fun K "law" "law" s_law f fd) : FnG P w K mg base 12 f fd ["_law_script"] (spLaw K) := by
  refine F.okG sc_law (fun vs H Q E h => ?_) (fun cdv A outer s H vs Q E hgd hr h => ?_)
  · obtain ⟨a, ns, rfl, _⟩ := h
    rfl
  · obtain ⟨a, scr, rfl, hS, hlen, q⟩ := h
    refine ⟨_, (pss_one (ps_ret (pe_callB (cr_all rfl) (by rfl) T.m_all (by decide +kernel) (pa_cons (pe_lc (own := [("_law_k", 1)]) (g := gName 1) (tt := tYes) rfl sc_law.nd (pi_range1 (by rfl) T.m_range (pa_cons (pe_callB (call_max2 rfl) (by rfl) T.m_max (by decide +kernel) (pa_cons pe_int (pa_cons (pe_callB (call_min2 rfl) (by rfl) T.m_min (by decide +kernel) (pa_cons pe_int (pa_cons (pe_callB call_len_seq (by rfl) T.m_len (by decide +kernel) (pa_cons (pv 0) pa_nil)) pa_nil))) pa_nil))) pa_nil)) (blkOk_by (N := ["_law_script", "_law_k"]) (sc := defScope s_law) (by decide +kernel)) (fun _ _ _ _ _ => (pg_name (i := 1) sc_law.nd rfl (.inl rfl))) (fun _ _ _ _ _ => pts_nil) (fun _ _ _ _ _ => (pe_callG (ok_right T) hgd (hr.mono (by omega)) (by rfl) T.g_right T.F_right.kp T.b_right .nil (pa_cons (pe_call (ok_box T) (hr.mono (by omega)) (by rfl) T.g_box T.F_box.kp T.b_box .nil pass0 (pa_cons (pv 0) (pa_cons (pv 1) pa_nil))) pa_nil)))) pa_nil)))), ?_⟩
    refine ⟨.ref a, rfl, a, _, rfl, .inl hS, _, _, rfl, _, _, rfl, _, rfl, ?_, ?_, ?_⟩
    · repeat' split <;> omega
    · repeat' split <;> omega
    generalize hn : (if (if ((scr.map V.int).length : Int) < (4 : Int) then ((scr.map V.int).length : Int) else (4 : Int)) > 1 then (if ((scr.map V.int).length : Int) < (4 : Int) then ((scr.map V.int).length : Int) else (4 : Int)) else 1).toNat = n
    have hn8 : n ≤ 100 := by
      rw [← hn]
      repeat' split
      all_goals omega
    refine fun D hD => lc_it walk_range (fun i Hc => Same H Hc ∧ Hc D = some (.lst ((List.replicate i true).map V.bl))) ⟨same_upd hD, upd_same⟩ (fun _ _ _ _ => trivial) ?_ ?_
    · rintro i x Hc H' hi ⟨sm, eD⟩ ⟨rfl, rfl⟩
      have hi' : i < n := hi
      refine ⟨rfl, .ref a, rfl, .int (0 + (i : Int)), rfl, a, scr, _, rfl, sm.seq hS, by omega, by omega, fun p x y hp x0 y0 y1' => ?_⟩
      have hHp : H p = none := Same.free sm hp
      have nDp : D ≠ p := ne_of_none eD hp
      have sH0 : Same H' (upd H' p (.lst [.int x, .int y, .int 0])) := same_upd hp
      have eH0 : (upd H' p (.lst [.int x, .int y, .int 0])) p = some (.lst [.int x, .int y, .int 0]) := upd_same
      generalize upd H' p (.lst [.int x, .int y, .int 0]) = H0 at sH0 eH0 ⊢
      replace sm := sm.trans sH0
      replace eD := sH0 _ _ eD
      refine ⟨p, x, y, 0, rfl, eH0, x0, y0, y1', by decide, by decide, fun H3 k3 => ?_⟩
      refine ⟨_, k3 _ _ nDp eD, (by rw [List.length_map, List.length_replicate, sizeLine_eq]; omega), Same.mut (Same.keep sm k3 hHp) hD, ?_⟩
      rw [upd_same, List.replicate_succ', List.map_append]
      rfl
    · rintro Hc ⟨sm, eD⟩
      refine ⟨D, List.replicate n true, rfl, sq1 eD, ?_⟩
      rw [rep_all]
      exact q _
end
end K8

set_option Elab.async false
set_option linter.all false
set_option maxRecDepth 100000
set_option maxHeartbeats 4000000
namespace K8
open PySem PySem.Spec PyProof.Rows L2

theorem vals_rev : ∀ {xs : List V} {us : List Value}, Vals xs us → Vals xs.reverse us.reverse
  | _, _, .nil => .nil
  | _, _, .cons r t => by
    rw [List.reverse_cons, List.reverse_cons]
    exact (vals_rev t).append (.cons r .nil)
theorem mk_kb_Slip_init {K : PySem.W.Frag} {E f : Addr} {fd : FuncData} (F : FunD K "__init__" "Slip.__init__" (defArgs s_Slip_init) (defBody s_Slip_init) (defScope s_Slip_init) [.ref E] [("last", .bl true), ("mask", .non)] f fd) : KBn K fd ["self", "kind", "talk", "data", "last", "mask"] 4 ["last", "mask"] (fun us ws => us ++ ws) (fun vs zs => vs ++ zs) := by
  obtain ⟨_, h⟩ := F.kbindsD (ps := ["self", "kind", "talk", "data", "last", "mask"]) 4 ["last", "mask"] (fun us _ ws => us ++ ws) (by simp) (fun r1 _ r3 => r1.append r3) (fun T kV doc pm an cdv ct us its ws h1 h2 h3 => match us, its, ws, h1, h2, h3 with | [_, _, _, _], [_], [_, _], _, _, _ => ⟨_, rfl, rfl⟩)
  exact h
theorem all_mk {l : PySem.W.OpenLaw} {w : World} {K : PySem.W.Frag} {h : Heap} {mg : Str → Option Value} {fa f0 f1 f2 f3 f4 f5 f6 f7 f8 f9 f10 f11 f12 f13 f14 f15 f16 f17 f18 f19 f20 : Addr} (X : K.In h) (G : h.Ns mainGlobals mg) (hfa : mg "law" = some (.ref fa))
    {od0 an0 : Option Addr} {sl0 : Array (Option Value)} {oc0 kV0 dc0 pm0 cd0 ct0 : Value}
    (a0 : PySem.W.nsIn K mainGlobals "is_number" = some (some (.ref f0))) (l0 : K.lookup f0 = some ⟨oc0, od0, .func (PySem.W.fnOf "is_number" "is_number" (defArgs s_is_number) (defBody s_is_number) (defScope s_is_number) .none kV0 dc0 pm0 an0 cd0 ct0), sl0⟩) (c0 : PySem.W.codeIn K cd0 "is_number" = true) (k0 : PySem.W.keepIn K (.ref f0) = true)
    {od1 an1 : Option Addr} {sl1 : Array (Option Value)} {oc1 kV1 dc1 pm1 cd1 ct1 : Value}
    (a1 : PySem.W.nsIn K mainGlobals "is_byte" = some (some (.ref f1))) (l1 : K.lookup f1 = some ⟨oc1, od1, .func (PySem.W.fnOf "is_byte" "is_byte" (defArgs s_is_byte) (defBody s_is_byte) (defScope s_is_byte) .none kV1 dc1 pm1 an1 cd1 ct1), sl1⟩) (c1 : PySem.W.codeIn K cd1 "is_byte" = true) (k1 : PySem.W.keepIn K (.ref f1) = true)
    {od2 an2 : Option Addr} {sl2 : Array (Option Value)} {oc2 kV2 dc2 pm2 cd2 ct2 : Value}
    (a2 : PySem.W.nsIn K mainGlobals "are_codes" = some (some (.ref f2))) (l2 : K.lookup f2 = some ⟨oc2, od2, .func (PySem.W.fnOf "are_codes" "are_codes" (defArgs s_are_codes) (defBody s_are_codes) (defScope s_are_codes) .none kV2 dc2 pm2 an2 cd2 ct2), sl2⟩) (c2 : PySem.W.codeIn K cd2 "are_codes" = true) (k2 : PySem.W.keepIn K (.ref f2) = true)
    {od3 an3 : Option Addr} {sl3 : Array (Option Value)} {oc3 kV3 dc3 pm3 cd3 ct3 : Value}
    (a3 : PySem.W.nsIn K mainGlobals "is_control" = some (some (.ref f3))) (l3 : K.lookup f3 = some ⟨oc3, od3, .func (PySem.W.fnOf "is_control" "is_control" (defArgs s_is_control) (defBody s_is_control) (defScope s_is_control) .none kV3 dc3 pm3 an3 cd3 ct3), sl3⟩) (c3 : PySem.W.codeIn K cd3 "is_control" = true) (k3 : PySem.W.keepIn K (.ref f3) = true)
    {od4 an4 : Option Addr} {sl4 : Array (Option Value)} {oc4 kV4 dc4 pm4 cd4 ct4 : Value}
    (a4 : PySem.W.nsIn K mainGlobals "is_mask" = some (some (.ref f4))) (l4 : K.lookup f4 = some ⟨oc4, od4, .func (PySem.W.fnOf "is_mask" "is_mask" (defArgs s_is_mask) (defBody s_is_mask) (defScope s_is_mask) .none kV4 dc4 pm4 an4 cd4 ct4), sl4⟩) (c4 : PySem.W.codeIn K cd4 "is_mask" = true) (k4 : PySem.W.keepIn K (.ref f4) = true)
    {od5 an5 : Option Addr} {sl5 : Array (Option Value)} {oc5 kV5 dc5 pm5 cd5 ct5 : Value}
    (a5 : PySem.W.nsIn K mainGlobals "wrong_part" = some (some (.ref f5))) (l5 : K.lookup f5 = some ⟨oc5, od5, .func (PySem.W.fnOf "wrong_part" "wrong_part" (defArgs s_wrong_part) (defBody s_wrong_part) (defScope s_wrong_part) .none kV5 dc5 pm5 an5 cd5 ct5), sl5⟩) (c5 : PySem.W.codeIn K cd5 "wrong_part" = true) (k5 : PySem.W.keepIn K (.ref f5) = true)
    {od6 an6 : Option Addr} {sl6 : Array (Option Value)} {oc6 kV6 dc6 pm6 cd6 ct6 : Value}
    (a6 : PySem.W.nsIn K mainGlobals "can_be_mask" = some (some (.ref f6))) (l6 : K.lookup f6 = some ⟨oc6, od6, .func (PySem.W.fnOf "can_be_mask" "can_be_mask" (defArgs s_can_be_mask) (defBody s_can_be_mask) (defScope s_can_be_mask) .none kV6 dc6 pm6 an6 cd6 ct6), sl6⟩) (c6 : PySem.W.codeIn K cd6 "can_be_mask" = true) (k6 : PySem.W.keepIn K (.ref f6) = true)
    {od7 an7 : Option Addr} {sl7 : Array (Option Value)} {oc7 kV7 dc7 pm7 cd7 ct7 : Value}
    (a7 : PySem.W.nsIn K mainGlobals "_law_cell_at" = some (some (.ref f7))) (l7 : K.lookup f7 = some ⟨oc7, od7, .func (PySem.W.fnOf "_law_cell_at" "_law_cell_at" (defArgs s_cell_at) (defBody s_cell_at) (defScope s_cell_at) .none kV7 dc7 pm7 an7 cd7 ct7), sl7⟩) (c7 : PySem.W.codeIn K cd7 "_law_cell_at" = true) (k7 : PySem.W.keepIn K (.ref f7) = true)
    {od8 an8 : Option Addr} {sl8 : Array (Option Value)} {oc8 kV8 dc8 pm8 cd8 ct8 : Value}
    (a8 : PySem.W.nsIn K mainGlobals "_law_box" = some (some (.ref f8))) (l8 : K.lookup f8 = some ⟨oc8, od8, .func (PySem.W.fnOf "_law_box" "_law_box" (defArgs s_box) (defBody s_box) (defScope s_box) .none kV8 dc8 pm8 an8 cd8 ct8), sl8⟩) (c8 : PySem.W.codeIn K cd8 "_law_box" = true) (k8 : PySem.W.keepIn K (.ref f8) = true)
    {od9 an9 : Option Addr} {sl9 : Array (Option Value)} {oc9 kV9 dc9 pm9 cd9 ct9 : Value}
    (a9 : PySem.W.nsIn K mainGlobals "_law_take" = some (some (.ref f9))) (l9 : K.lookup f9 = some ⟨oc9, od9, .func (PySem.W.fnOf "_law_take" "_law_take" (defArgs s_take) (defBody s_take) (defScope s_take) .none kV9 dc9 pm9 an9 cd9 ct9), sl9⟩) (c9 : PySem.W.codeIn K cd9 "_law_take" = true) (k9 : PySem.W.keepIn K (.ref f9) = true)
    {od10 an10 : Option Addr} {sl10 : Array (Option Value)} {oc10 kV10 dc10 pm10 cd10 ct10 : Value}
    (a10 : PySem.W.nsIn K mainGlobals "_law_of" = some (some (.ref f10))) (l10 : K.lookup f10 = some ⟨oc10, od10, .func (PySem.W.fnOf "_law_of" "_law_of" (defArgs s_of) (defBody s_of) (defScope s_of) .none kV10 dc10 pm10 an10 cd10 ct10), sl10⟩) (c10 : PySem.W.codeIn K cd10 "_law_of" = true) (k10 : PySem.W.keepIn K (.ref f10) = true)
    {od11 an11 : Option Addr} {sl11 : Array (Option Value)} {oc11 kV11 dc11 pm11 cd11 ct11 : Value}
    (a11 : PySem.W.nsIn K mainGlobals "_law_bytes" = some (some (.ref f11))) (l11 : K.lookup f11 = some ⟨oc11, od11, .func (PySem.W.fnOf "_law_bytes" "_law_bytes" (defArgs s_bytes) (defBody s_bytes) (defScope s_bytes) .none kV11 dc11 pm11 an11 cd11 ct11), sl11⟩) (c11 : PySem.W.codeIn K cd11 "_law_bytes" = true) (k11 : PySem.W.keepIn K (.ref f11) = true)
    {od12 an12 : Option Addr} {sl12 : Array (Option Value)} {oc12 kV12 dc12 pm12 cd12 ct12 : Value}
    (a12 : PySem.W.nsIn K mainGlobals "_law_drawn" = some (some (.ref f12))) (l12 : K.lookup f12 = some ⟨oc12, od12, .func (PySem.W.fnOf "_law_drawn" "_law_drawn" (defArgs s_drawn) (defBody s_drawn) (defScope s_drawn) .none kV12 dc12 pm12 an12 cd12 ct12), sl12⟩) (c12 : PySem.W.codeIn K cd12 "_law_drawn" = true) (k12 : PySem.W.keepIn K (.ref f12) = true)
    {od13 an13 : Option Addr} {sl13 : Array (Option Value)} {oc13 kV13 dc13 pm13 cd13 ct13 : Value}
    (a13 : PySem.W.nsIn K mainGlobals "_law_is_number" = some (some (.ref f13))) (l13 : K.lookup f13 = some ⟨oc13, od13, .func (PySem.W.fnOf "_law_is_number" "_law_is_number" (defArgs s_l_is_number) (defBody s_l_is_number) (defScope s_l_is_number) .none kV13 dc13 pm13 an13 cd13 ct13), sl13⟩) (c13 : PySem.W.codeIn K cd13 "_law_is_number" = true) (k13 : PySem.W.keepIn K (.ref f13) = true)
    {od14 an14 : Option Addr} {sl14 : Array (Option Value)} {oc14 kV14 dc14 pm14 cd14 ct14 : Value}
    (a14 : PySem.W.nsIn K mainGlobals "_law_are_bytes" = some (some (.ref f14))) (l14 : K.lookup f14 = some ⟨oc14, od14, .func (PySem.W.fnOf "_law_are_bytes" "_law_are_bytes" (defArgs s_are_bytes) (defBody s_are_bytes) (defScope s_are_bytes) .none kV14 dc14 pm14 an14 cd14 ct14), sl14⟩) (c14 : PySem.W.codeIn K cd14 "_law_are_bytes" = true) (k14 : PySem.W.keepIn K (.ref f14) = true)
    {od15 an15 : Option Addr} {sl15 : Array (Option Value)} {oc15 kV15 dc15 pm15 cd15 ct15 : Value}
    (a15 : PySem.W.nsIn K mainGlobals "_law_wrong" = some (some (.ref f15))) (l15 : K.lookup f15 = some ⟨oc15, od15, .func (PySem.W.fnOf "_law_wrong" "_law_wrong" (defArgs s_wrong) (defBody s_wrong) (defScope s_wrong) .none kV15 dc15 pm15 an15 cd15 ct15), sl15⟩) (c15 : PySem.W.codeIn K cd15 "_law_wrong" = true) (k15 : PySem.W.keepIn K (.ref f15) = true)
    {od16 an16 : Option Addr} {sl16 : Array (Option Value)} {oc16 kV16 dc16 pm16 cd16 ct16 : Value}
    (a16 : PySem.W.nsIn K mainGlobals "_law_odd" = some (some (.ref f16))) (l16 : K.lookup f16 = some ⟨oc16, od16, .func (PySem.W.fnOf "_law_odd" "_law_odd" (defArgs s_odd) (defBody s_odd) (defScope s_odd) .none kV16 dc16 pm16 an16 cd16 ct16), sl16⟩) (c16 : PySem.W.codeIn K cd16 "_law_odd" = true) (k16 : PySem.W.keepIn K (.ref f16) = true)
    {od17 an17 : Option Addr} {sl17 : Array (Option Value)} {oc17 kV17 dc17 pm17 cd17 ct17 : Value}
    (a17 : PySem.W.nsIn K mainGlobals "_law_bent_row" = some (some (.ref f17))) (l17 : K.lookup f17 = some ⟨oc17, od17, .func (PySem.W.fnOf "_law_bent_row" "_law_bent_row" (defArgs s_bent_row) (defBody s_bent_row) (defScope s_bent_row) .none kV17 dc17 pm17 an17 cd17 ct17), sl17⟩) (c17 : PySem.W.codeIn K cd17 "_law_bent_row" = true) (k17 : PySem.W.keepIn K (.ref f17) = true)
    {od18 an18 : Option Addr} {sl18 : Array (Option Value)} {oc18 kV18 dc18 pm18 cd18 ct18 : Value}
    (a18 : PySem.W.nsIn K mainGlobals "_law_refused" = some (some (.ref f18))) (l18 : K.lookup f18 = some ⟨oc18, od18, .func (PySem.W.fnOf "_law_refused" "_law_refused" (defArgs s_refused) (defBody s_refused) (defScope s_refused) .none kV18 dc18 pm18 an18 cd18 ct18), sl18⟩) (c18 : PySem.W.codeIn K cd18 "_law_refused" = true) (k18 : PySem.W.keepIn K (.ref f18) = true)
    {od19 an19 : Option Addr} {sl19 : Array (Option Value)} {oc19 kV19 dc19 pm19 cd19 ct19 : Value}
    (a19 : PySem.W.nsIn K mainGlobals "_law_right" = some (some (.ref f19))) (l19 : K.lookup f19 = some ⟨oc19, od19, .func (PySem.W.fnOf "_law_right" "_law_right" (defArgs s_right) (defBody s_right) (defScope s_right) .none kV19 dc19 pm19 an19 cd19 ct19), sl19⟩) (c19 : PySem.W.codeIn K cd19 "_law_right" = true) (k19 : PySem.W.keepIn K (.ref f19) = true)
    {od20 an20 : Option Addr} {sl20 : Array (Option Value)} {oc20 kV20 dc20 pm20 cd20 ct20 : Value}
    (a20 : PySem.W.nsIn K mainGlobals "law" = some (some (.ref f20))) (l20 : K.lookup f20 = some ⟨oc20, od20, .func (PySem.W.fnOf "law" "law" (defArgs s_law) (defBody s_law) (defScope s_law) .none kV20 dc20 pm20 an20 cd20 ct20), sl20⟩) (c20 : PySem.W.codeIn K cd20 "law" = true) (k20 : PySem.W.keepIn K (.ref f20) = true)
    {ad_SORT_WORDS : Addr} {n_SORT_WORDS : Nat} {t_SORT_WORDS_0 u_SORT_WORDS_0 t_SORT_WORDS_1 u_SORT_WORDS_1 t_SORT_WORDS_2 u_SORT_WORDS_2 t_SORT_WORDS_3 u_SORT_WORDS_3 t_SORT_WORDS_4 u_SORT_WORDS_4 t_SORT_WORDS_5 u_SORT_WORDS_5 : Tok} (a_SORT_WORDS : PySem.W.nsIn K mainGlobals "SORT_WORDS" = some (some (.ref ad_SORT_WORDS))) (l_SORT_WORDS : K.lookup ad_SORT_WORDS = some ⟨.type "dict", none, .dict #[⟨hashInt 0, .int 0 t_SORT_WORDS_0, .str "more" u_SORT_WORDS_0⟩, ⟨hashInt 1, .int 1 t_SORT_WORDS_1, .str "words" u_SORT_WORDS_1⟩, ⟨hashInt 2, .int 2 t_SORT_WORDS_2, .str "bytes" u_SORT_WORDS_2⟩, ⟨hashInt 8, .int 8 t_SORT_WORDS_3, .str "end" u_SORT_WORDS_3⟩, ⟨hashInt 9, .int 9 t_SORT_WORDS_4, .str "bell" u_SORT_WORDS_4⟩, ⟨hashInt 10, .int 10 t_SORT_WORDS_5, .str "echo" u_SORT_WORDS_5⟩] n_SORT_WORDS, #[]⟩) (lo_SORT_WORDS : (ad_SORT_WORDS == sysModules) = false)
    {tk_ENDING : Tok} (a_ENDING : PySem.W.nsIn K mainGlobals "ENDING" = some (some (.int 8 tk_ENDING)))
    {tk_GREATEST_TALK : Tok} (a_GREATEST_TALK : PySem.W.nsIn K mainGlobals "GREATEST_TALK" = some (some (.int 31 tk_GREATEST_TALK)))
    {tk_GREATEST_CONTROL : Tok} (a_GREATEST_CONTROL : PySem.W.nsIn K mainGlobals "GREATEST_CONTROL" = some (some (.int 120 tk_GREATEST_CONTROL)))
    {C_BadSlip f_BadSlip N_BadSlip : Addr} {nm_BadSlip q_BadSlip : Str} {bs_BadSlip sub_BadSlip : List Value} {sn_BadSlip : List Str} {ab_BadSlip : Bool} {col_BadSlip : Option Bool} {dd_BadSlip : Option Addr} {k0_BadSlip k1_BadSlip k2_BadSlip k3_BadSlip k5_BadSlip : Option Value} {od_BadSlip an_BadSlip : Option Addr} {sl_BadSlip : Array (Option Value)} {oc_BadSlip kV_BadSlip dc_BadSlip pm_BadSlip cd_BadSlip ct_BadSlip : Value} (a_BadSlip : PySem.W.nsIn K mainGlobals "BadSlip" = some (some (.ref C_BadSlip))) (x_BadSlip : K.lookup C_BadSlip = some (excClassObj nm_BadSlip q_BadSlip C_BadSlip N_BadSlip bs_BadSlip bm_ValueError true sn_BadSlip sub_BadSlip ab_BadSlip col_BadSlip dd_BadSlip k0_BadSlip k1_BadSlip k2_BadSlip k3_BadSlip k5_BadSlip "ValueError.__new__")) (sa_BadSlip : PySem.W.findIn K (.ref C_BadSlip) "__setattr__" = some (some (.builtin "object.__setattr__"))) (ga_BadSlip : PySem.W.findIn K (.ref C_BadSlip) "__getattribute__" = some (some (.builtin "BaseException.__getattribute__"))) (gk_BadSlip : PySem.W.findIn K (.ref C_BadSlip) "__getattr__" = some none) (hs_BadSlip : PySem.W.subIn K (.ref C_BadSlip) (.type "BaseException") = some true) (hd_BadSlip : PySem.W.hasDictIn K C_BadSlip = true) (ha_BadSlip : PySem.W.findIn K (.ref C_BadSlip) "__class__" = some (some (.builtin "object.__class__"))) (hm_BadSlip : PySem.W.mroIn K C_BadSlip (.type "object") = some true) (ty_BadSlip : PySem.W.typeIn K (.ref C_BadSlip) = some (.type "type")) (kC_BadSlip : PySem.W.keepIn K (.ref C_BadSlip) = true) (i_BadSlip : PySem.W.findIn K (.ref C_BadSlip) "__init__" = some (some (.ref f_BadSlip))) (t_BadSlip : PySem.W.typeIn K (.ref f_BadSlip) = some (.type "function")) (l_BadSlip : K.lookup f_BadSlip = some ⟨oc_BadSlip, od_BadSlip, .func (PySem.W.fnOf "__init__" "BadSlip.__init__" (defArgs s_BadSlip) (defBody s_BadSlip) (defScope s_BadSlip) .none kV_BadSlip dc_BadSlip pm_BadSlip an_BadSlip cd_BadSlip ct_BadSlip), sl_BadSlip⟩) (c_BadSlip : PySem.W.codeIn K cd_BadSlip "BadSlip.__init__" = true) (k_BadSlip : PySem.W.keepIn K (.ref f_BadSlip) = true) (n_BadSlip_part : PySem.W.findIn K (.ref C_BadSlip) "part" = some none)
    {C_BadLetter f_BadLetter N_BadLetter : Addr} {nm_BadLetter q_BadLetter : Str} {bs_BadLetter sub_BadLetter : List Value} {sn_BadLetter : List Str} {ab_BadLetter : Bool} {col_BadLetter : Option Bool} {dd_BadLetter : Option Addr} {k0_BadLetter k1_BadLetter k2_BadLetter k3_BadLetter k5_BadLetter : Option Value} {od_BadLetter an_BadLetter : Option Addr} {sl_BadLetter : Array (Option Value)} {oc_BadLetter kV_BadLetter dc_BadLetter pm_BadLetter cd_BadLetter ct_BadLetter : Value} (a_BadLetter : PySem.W.nsIn K mainGlobals "BadLetter" = some (some (.ref C_BadLetter))) (x_BadLetter : K.lookup C_BadLetter = some (excClassObj nm_BadLetter q_BadLetter C_BadLetter N_BadLetter bs_BadLetter bm_ValueError true sn_BadLetter sub_BadLetter ab_BadLetter col_BadLetter dd_BadLetter k0_BadLetter k1_BadLetter k2_BadLetter k3_BadLetter k5_BadLetter "ValueError.__new__")) (sa_BadLetter : PySem.W.findIn K (.ref C_BadLetter) "__setattr__" = some (some (.builtin "object.__setattr__"))) (ga_BadLetter : PySem.W.findIn K (.ref C_BadLetter) "__getattribute__" = some (some (.builtin "BaseException.__getattribute__"))) (gk_BadLetter : PySem.W.findIn K (.ref C_BadLetter) "__getattr__" = some none) (hs_BadLetter : PySem.W.subIn K (.ref C_BadLetter) (.type "BaseException") = some true) (hd_BadLetter : PySem.W.hasDictIn K C_BadLetter = true) (ha_BadLetter : PySem.W.findIn K (.ref C_BadLetter) "__class__" = some (some (.builtin "object.__class__"))) (hm_BadLetter : PySem.W.mroIn K C_BadLetter (.type "object") = some true) (ty_BadLetter : PySem.W.typeIn K (.ref C_BadLetter) = some (.type "type")) (kC_BadLetter : PySem.W.keepIn K (.ref C_BadLetter) = true) (i_BadLetter : PySem.W.findIn K (.ref C_BadLetter) "__init__" = some (some (.ref f_BadLetter))) (t_BadLetter : PySem.W.typeIn K (.ref f_BadLetter) = some (.type "function")) (l_BadLetter : K.lookup f_BadLetter = some ⟨oc_BadLetter, od_BadLetter, .func (PySem.W.fnOf "__init__" "BadLetter.__init__" (defArgs s_BadLetter) (defBody s_BadLetter) (defScope s_BadLetter) .none kV_BadLetter dc_BadLetter pm_BadLetter an_BadLetter cd_BadLetter ct_BadLetter), sl_BadLetter⟩) (c_BadLetter : PySem.W.codeIn K cd_BadLetter "BadLetter.__init__" = true) (k_BadLetter : PySem.W.keepIn K (.ref f_BadLetter) = true) (n_BadLetter_part : PySem.W.findIn K (.ref C_BadLetter) "part" = some none)
    {C_BadEnd f_BadEnd N_BadEnd : Addr} {nm_BadEnd q_BadEnd : Str} {bs_BadEnd sub_BadEnd : List Value} {sn_BadEnd : List Str} {ab_BadEnd : Bool} {col_BadEnd : Option Bool} {dd_BadEnd : Option Addr} {k0_BadEnd k1_BadEnd k2_BadEnd k3_BadEnd k5_BadEnd : Option Value} {od_BadEnd an_BadEnd : Option Addr} {sl_BadEnd : Array (Option Value)} {oc_BadEnd kV_BadEnd dc_BadEnd pm_BadEnd cd_BadEnd ct_BadEnd : Value} (a_BadEnd : PySem.W.nsIn K mainGlobals "BadEnd" = some (some (.ref C_BadEnd))) (x_BadEnd : K.lookup C_BadEnd = some (excClassObj nm_BadEnd q_BadEnd C_BadEnd N_BadEnd bs_BadEnd bm_ValueError true sn_BadEnd sub_BadEnd ab_BadEnd col_BadEnd dd_BadEnd k0_BadEnd k1_BadEnd k2_BadEnd k3_BadEnd k5_BadEnd "ValueError.__new__")) (sa_BadEnd : PySem.W.findIn K (.ref C_BadEnd) "__setattr__" = some (some (.builtin "object.__setattr__"))) (ga_BadEnd : PySem.W.findIn K (.ref C_BadEnd) "__getattribute__" = some (some (.builtin "BaseException.__getattribute__"))) (gk_BadEnd : PySem.W.findIn K (.ref C_BadEnd) "__getattr__" = some none) (hs_BadEnd : PySem.W.subIn K (.ref C_BadEnd) (.type "BaseException") = some true) (hd_BadEnd : PySem.W.hasDictIn K C_BadEnd = true) (ha_BadEnd : PySem.W.findIn K (.ref C_BadEnd) "__class__" = some (some (.builtin "object.__class__"))) (hm_BadEnd : PySem.W.mroIn K C_BadEnd (.type "object") = some true) (ty_BadEnd : PySem.W.typeIn K (.ref C_BadEnd) = some (.type "type")) (kC_BadEnd : PySem.W.keepIn K (.ref C_BadEnd) = true) (i_BadEnd : PySem.W.findIn K (.ref C_BadEnd) "__init__" = some (some (.ref f_BadEnd))) (t_BadEnd : PySem.W.typeIn K (.ref f_BadEnd) = some (.type "function")) (l_BadEnd : K.lookup f_BadEnd = some ⟨oc_BadEnd, od_BadEnd, .func (PySem.W.fnOf "__init__" "BadEnd.__init__" (defArgs s_BadEnd) (defBody s_BadEnd) (defScope s_BadEnd) .none kV_BadEnd dc_BadEnd pm_BadEnd an_BadEnd cd_BadEnd ct_BadEnd), sl_BadEnd⟩) (c_BadEnd : PySem.W.codeIn K cd_BadEnd "BadEnd.__init__" = true) (k_BadEnd : PySem.W.keepIn K (.ref f_BadEnd) = true) (n_BadEnd_part : PySem.W.findIn K (.ref C_BadEnd) "part" = some none)
    {C_BadText f_BadText N_BadText : Addr} {nm_BadText q_BadText : Str} {bs_BadText sub_BadText : List Value} {sn_BadText : List Str} {ab_BadText : Bool} {col_BadText : Option Bool} {dd_BadText : Option Addr} {k0_BadText k1_BadText k2_BadText k3_BadText k5_BadText : Option Value} {od_BadText an_BadText : Option Addr} {sl_BadText : Array (Option Value)} {oc_BadText kV_BadText dc_BadText pm_BadText cd_BadText ct_BadText : Value} (a_BadText : PySem.W.nsIn K mainGlobals "BadText" = some (some (.ref C_BadText))) (x_BadText : K.lookup C_BadText = some (excClassObj nm_BadText q_BadText C_BadText N_BadText bs_BadText bm_ValueError true sn_BadText sub_BadText ab_BadText col_BadText dd_BadText k0_BadText k1_BadText k2_BadText k3_BadText k5_BadText "ValueError.__new__")) (sa_BadText : PySem.W.findIn K (.ref C_BadText) "__setattr__" = some (some (.builtin "object.__setattr__"))) (ga_BadText : PySem.W.findIn K (.ref C_BadText) "__getattribute__" = some (some (.builtin "BaseException.__getattribute__"))) (gk_BadText : PySem.W.findIn K (.ref C_BadText) "__getattr__" = some none) (hs_BadText : PySem.W.subIn K (.ref C_BadText) (.type "BaseException") = some true) (hd_BadText : PySem.W.hasDictIn K C_BadText = true) (ha_BadText : PySem.W.findIn K (.ref C_BadText) "__class__" = some (some (.builtin "object.__class__"))) (hm_BadText : PySem.W.mroIn K C_BadText (.type "object") = some true) (ty_BadText : PySem.W.typeIn K (.ref C_BadText) = some (.type "type")) (kC_BadText : PySem.W.keepIn K (.ref C_BadText) = true) (i_BadText : PySem.W.findIn K (.ref C_BadText) "__init__" = some (some (.ref f_BadText))) (t_BadText : PySem.W.typeIn K (.ref f_BadText) = some (.type "function")) (l_BadText : K.lookup f_BadText = some ⟨oc_BadText, od_BadText, .func (PySem.W.fnOf "__init__" "BadText.__init__" (defArgs s_BadText) (defBody s_BadText) (defScope s_BadText) .none kV_BadText dc_BadText pm_BadText an_BadText cd_BadText ct_BadText), sl_BadText⟩) (c_BadText : PySem.W.codeIn K cd_BadText "BadText.__init__" = true) (k_BadText : PySem.W.keepIn K (.ref f_BadText) = true) (n_BadText_text : PySem.W.findIn K (.ref C_BadText) "text" = some none)
    {C_BadRow f_BadRow N_BadRow : Addr} {nm_BadRow q_BadRow : Str} {bs_BadRow sub_BadRow : List Value} {sn_BadRow : List Str} {ab_BadRow : Bool} {col_BadRow : Option Bool} {dd_BadRow : Option Addr} {k0_BadRow k1_BadRow k2_BadRow k3_BadRow k5_BadRow : Option Value} {od_BadRow an_BadRow : Option Addr} {sl_BadRow : Array (Option Value)} {oc_BadRow kV_BadRow dc_BadRow pm_BadRow cd_BadRow ct_BadRow : Value} (a_BadRow : PySem.W.nsIn K mainGlobals "BadRow" = some (some (.ref C_BadRow))) (x_BadRow : K.lookup C_BadRow = some (excClassObj nm_BadRow q_BadRow C_BadRow N_BadRow bs_BadRow bm_ValueError true sn_BadRow sub_BadRow ab_BadRow col_BadRow dd_BadRow k0_BadRow k1_BadRow k2_BadRow k3_BadRow k5_BadRow "ValueError.__new__")) (sa_BadRow : PySem.W.findIn K (.ref C_BadRow) "__setattr__" = some (some (.builtin "object.__setattr__"))) (ga_BadRow : PySem.W.findIn K (.ref C_BadRow) "__getattribute__" = some (some (.builtin "BaseException.__getattribute__"))) (gk_BadRow : PySem.W.findIn K (.ref C_BadRow) "__getattr__" = some none) (hs_BadRow : PySem.W.subIn K (.ref C_BadRow) (.type "BaseException") = some true) (hd_BadRow : PySem.W.hasDictIn K C_BadRow = true) (ha_BadRow : PySem.W.findIn K (.ref C_BadRow) "__class__" = some (some (.builtin "object.__class__"))) (hm_BadRow : PySem.W.mroIn K C_BadRow (.type "object") = some true) (ty_BadRow : PySem.W.typeIn K (.ref C_BadRow) = some (.type "type")) (kC_BadRow : PySem.W.keepIn K (.ref C_BadRow) = true) (i_BadRow : PySem.W.findIn K (.ref C_BadRow) "__init__" = some (some (.ref f_BadRow))) (t_BadRow : PySem.W.typeIn K (.ref f_BadRow) = some (.type "function")) (l_BadRow : K.lookup f_BadRow = some ⟨oc_BadRow, od_BadRow, .func (PySem.W.fnOf "__init__" "BadRow.__init__" (defArgs s_BadRow) (defBody s_BadRow) (defScope s_BadRow) .none kV_BadRow dc_BadRow pm_BadRow an_BadRow cd_BadRow ct_BadRow), sl_BadRow⟩) (c_BadRow : PySem.W.codeIn K cd_BadRow "BadRow.__init__" = true) (k_BadRow : PySem.W.keepIn K (.ref f_BadRow) = true) (n_BadRow_row : PySem.W.findIn K (.ref C_BadRow) "row" = some none)
    {C_Fault f_Fault N_Fault : Addr} {nm_Fault q_Fault : Str} {bs_Fault sub_Fault : List Value} {sn_Fault : List Str} {ab_Fault : Bool} {col_Fault : Option Bool} {dd_Fault : Option Addr} {k0_Fault k1_Fault k2_Fault k3_Fault k5_Fault : Option Value} {od_Fault an_Fault : Option Addr} {sl_Fault : Array (Option Value)} {oc_Fault kV_Fault dc_Fault pm_Fault cd_Fault ct_Fault : Value} (a_Fault : PySem.W.nsIn K mainGlobals "Fault" = some (some (.ref C_Fault))) (x_Fault : K.lookup C_Fault = some (excClassObj nm_Fault q_Fault C_Fault N_Fault bs_Fault bm_ValueError true sn_Fault sub_Fault ab_Fault col_Fault dd_Fault k0_Fault k1_Fault k2_Fault k3_Fault k5_Fault "ValueError.__new__")) (sa_Fault : PySem.W.findIn K (.ref C_Fault) "__setattr__" = some (some (.builtin "object.__setattr__"))) (ga_Fault : PySem.W.findIn K (.ref C_Fault) "__getattribute__" = some (some (.builtin "BaseException.__getattribute__"))) (gk_Fault : PySem.W.findIn K (.ref C_Fault) "__getattr__" = some none) (hs_Fault : PySem.W.subIn K (.ref C_Fault) (.type "BaseException") = some true) (hd_Fault : PySem.W.hasDictIn K C_Fault = true) (ha_Fault : PySem.W.findIn K (.ref C_Fault) "__class__" = some (some (.builtin "object.__class__"))) (hm_Fault : PySem.W.mroIn K C_Fault (.type "object") = some true) (ty_Fault : PySem.W.typeIn K (.ref C_Fault) = some (.type "type")) (kC_Fault : PySem.W.keepIn K (.ref C_Fault) = true) (i_Fault : PySem.W.findIn K (.ref C_Fault) "__init__" = some (some (.ref f_Fault))) (t_Fault : PySem.W.typeIn K (.ref f_Fault) = some (.type "function")) (l_Fault : K.lookup f_Fault = some ⟨oc_Fault, od_Fault, .func (PySem.W.fnOf "__init__" "Fault.__init__" (defArgs s_Fault) (defBody s_Fault) (defScope s_Fault) .none kV_Fault dc_Fault pm_Fault an_Fault cd_Fault ct_Fault), sl_Fault⟩) (c_Fault : PySem.W.codeIn K cd_Fault "Fault.__init__" = true) (k_Fault : PySem.W.keepIn K (.ref f_Fault) = true) (n_Fault_code : PySem.W.findIn K (.ref C_Fault) "code" = some none) (n_Fault_at : PySem.W.findIn K (.ref C_Fault) "at" = some none)
    {C_NoSlip f_NoSlip N_NoSlip : Addr} {nm_NoSlip q_NoSlip : Str} {bs_NoSlip sub_NoSlip : List Value} {sn_NoSlip : List Str} {ab_NoSlip : Bool} {col_NoSlip : Option Bool} {dd_NoSlip : Option Addr} {k0_NoSlip k1_NoSlip k2_NoSlip k3_NoSlip k5_NoSlip : Option Value} {od_NoSlip an_NoSlip : Option Addr} {sl_NoSlip : Array (Option Value)} {oc_NoSlip kV_NoSlip dc_NoSlip pm_NoSlip cd_NoSlip ct_NoSlip : Value} (a_NoSlip : PySem.W.nsIn K mainGlobals "NoSlip" = some (some (.ref C_NoSlip))) (x_NoSlip : K.lookup C_NoSlip = some (excClassObj nm_NoSlip q_NoSlip C_NoSlip N_NoSlip bs_NoSlip bm_IndexError true sn_NoSlip sub_NoSlip ab_NoSlip col_NoSlip dd_NoSlip k0_NoSlip k1_NoSlip k2_NoSlip k3_NoSlip k5_NoSlip "IndexError.__new__")) (sa_NoSlip : PySem.W.findIn K (.ref C_NoSlip) "__setattr__" = some (some (.builtin "object.__setattr__"))) (ga_NoSlip : PySem.W.findIn K (.ref C_NoSlip) "__getattribute__" = some (some (.builtin "BaseException.__getattribute__"))) (gk_NoSlip : PySem.W.findIn K (.ref C_NoSlip) "__getattr__" = some none) (hs_NoSlip : PySem.W.subIn K (.ref C_NoSlip) (.type "BaseException") = some true) (hd_NoSlip : PySem.W.hasDictIn K C_NoSlip = true) (ha_NoSlip : PySem.W.findIn K (.ref C_NoSlip) "__class__" = some (some (.builtin "object.__class__"))) (hm_NoSlip : PySem.W.mroIn K C_NoSlip (.type "object") = some true) (ty_NoSlip : PySem.W.typeIn K (.ref C_NoSlip) = some (.type "type")) (kC_NoSlip : PySem.W.keepIn K (.ref C_NoSlip) = true) (i_NoSlip : PySem.W.findIn K (.ref C_NoSlip) "__init__" = some (some (.ref f_NoSlip))) (t_NoSlip : PySem.W.typeIn K (.ref f_NoSlip) = some (.type "function")) (l_NoSlip : K.lookup f_NoSlip = some ⟨oc_NoSlip, od_NoSlip, .func (PySem.W.fnOf "__init__" "NoSlip.__init__" (defArgs s_NoSlip) (defBody s_NoSlip) (defScope s_NoSlip) .none kV_NoSlip dc_NoSlip pm_NoSlip an_NoSlip cd_NoSlip ct_NoSlip), sl_NoSlip⟩) (c_NoSlip : PySem.W.codeIn K cd_NoSlip "NoSlip.__init__" = true) (k_NoSlip : PySem.W.keepIn K (.ref f_NoSlip) = true) (n_NoSlip_number : PySem.W.findIn K (.ref C_NoSlip) "number" = some none)
    {C_NoByte f_NoByte N_NoByte : Addr} {nm_NoByte q_NoByte : Str} {bs_NoByte sub_NoByte : List Value} {sn_NoByte : List Str} {ab_NoByte : Bool} {col_NoByte : Option Bool} {dd_NoByte : Option Addr} {k0_NoByte k1_NoByte k2_NoByte k3_NoByte k5_NoByte : Option Value} {od_NoByte an_NoByte : Option Addr} {sl_NoByte : Array (Option Value)} {oc_NoByte kV_NoByte dc_NoByte pm_NoByte cd_NoByte ct_NoByte : Value} (a_NoByte : PySem.W.nsIn K mainGlobals "NoByte" = some (some (.ref C_NoByte))) (x_NoByte : K.lookup C_NoByte = some (excClassObj nm_NoByte q_NoByte C_NoByte N_NoByte bs_NoByte bm_IndexError true sn_NoByte sub_NoByte ab_NoByte col_NoByte dd_NoByte k0_NoByte k1_NoByte k2_NoByte k3_NoByte k5_NoByte "IndexError.__new__")) (sa_NoByte : PySem.W.findIn K (.ref C_NoByte) "__setattr__" = some (some (.builtin "object.__setattr__"))) (ga_NoByte : PySem.W.findIn K (.ref C_NoByte) "__getattribute__" = some (some (.builtin "BaseException.__getattribute__"))) (gk_NoByte : PySem.W.findIn K (.ref C_NoByte) "__getattr__" = some none) (hs_NoByte : PySem.W.subIn K (.ref C_NoByte) (.type "BaseException") = some true) (hd_NoByte : PySem.W.hasDictIn K C_NoByte = true) (ha_NoByte : PySem.W.findIn K (.ref C_NoByte) "__class__" = some (some (.builtin "object.__class__"))) (hm_NoByte : PySem.W.mroIn K C_NoByte (.type "object") = some true) (ty_NoByte : PySem.W.typeIn K (.ref C_NoByte) = some (.type "type")) (kC_NoByte : PySem.W.keepIn K (.ref C_NoByte) = true) (i_NoByte : PySem.W.findIn K (.ref C_NoByte) "__init__" = some (some (.ref f_NoByte))) (t_NoByte : PySem.W.typeIn K (.ref f_NoByte) = some (.type "function")) (l_NoByte : K.lookup f_NoByte = some ⟨oc_NoByte, od_NoByte, .func (PySem.W.fnOf "__init__" "NoByte.__init__" (defArgs s_NoByte) (defBody s_NoByte) (defScope s_NoByte) .none kV_NoByte dc_NoByte pm_NoByte an_NoByte cd_NoByte ct_NoByte), sl_NoByte⟩) (c_NoByte : PySem.W.codeIn K cd_NoByte "NoByte.__init__" = true) (k_NoByte : PySem.W.keepIn K (.ref f_NoByte) = true) (n_NoByte_at : PySem.W.findIn K (.ref C_NoByte) "at" = some none)
    {C_NoDeed f_NoDeed N_NoDeed : Addr} {nm_NoDeed q_NoDeed : Str} {bs_NoDeed sub_NoDeed : List Value} {sn_NoDeed : List Str} {ab_NoDeed : Bool} {col_NoDeed : Option Bool} {dd_NoDeed : Option Addr} {k0_NoDeed k1_NoDeed k2_NoDeed k3_NoDeed k5_NoDeed : Option Value} {od_NoDeed an_NoDeed : Option Addr} {sl_NoDeed : Array (Option Value)} {oc_NoDeed kV_NoDeed dc_NoDeed pm_NoDeed cd_NoDeed ct_NoDeed : Value} (a_NoDeed : PySem.W.nsIn K mainGlobals "NoDeed" = some (some (.ref C_NoDeed))) (x_NoDeed : K.lookup C_NoDeed = some (excClassObj nm_NoDeed q_NoDeed C_NoDeed N_NoDeed bs_NoDeed bm_LookupError true sn_NoDeed sub_NoDeed ab_NoDeed col_NoDeed dd_NoDeed k0_NoDeed k1_NoDeed k2_NoDeed k3_NoDeed k5_NoDeed "LookupError.__new__")) (sa_NoDeed : PySem.W.findIn K (.ref C_NoDeed) "__setattr__" = some (some (.builtin "object.__setattr__"))) (ga_NoDeed : PySem.W.findIn K (.ref C_NoDeed) "__getattribute__" = some (some (.builtin "BaseException.__getattribute__"))) (gk_NoDeed : PySem.W.findIn K (.ref C_NoDeed) "__getattr__" = some none) (hs_NoDeed : PySem.W.subIn K (.ref C_NoDeed) (.type "BaseException") = some true) (hd_NoDeed : PySem.W.hasDictIn K C_NoDeed = true) (ha_NoDeed : PySem.W.findIn K (.ref C_NoDeed) "__class__" = some (some (.builtin "object.__class__"))) (hm_NoDeed : PySem.W.mroIn K C_NoDeed (.type "object") = some true) (ty_NoDeed : PySem.W.typeIn K (.ref C_NoDeed) = some (.type "type")) (kC_NoDeed : PySem.W.keepIn K (.ref C_NoDeed) = true) (i_NoDeed : PySem.W.findIn K (.ref C_NoDeed) "__init__" = some (some (.ref f_NoDeed))) (t_NoDeed : PySem.W.typeIn K (.ref f_NoDeed) = some (.type "function")) (l_NoDeed : K.lookup f_NoDeed = some ⟨oc_NoDeed, od_NoDeed, .func (PySem.W.fnOf "__init__" "NoDeed.__init__" (defArgs s_NoDeed) (defBody s_NoDeed) (defScope s_NoDeed) .none kV_NoDeed dc_NoDeed pm_NoDeed an_NoDeed cd_NoDeed ct_NoDeed), sl_NoDeed⟩) (c_NoDeed : PySem.W.codeIn K cd_NoDeed "NoDeed.__init__" = true) (k_NoDeed : PySem.W.keepIn K (.ref f_NoDeed) = true) (n_NoDeed_many : PySem.W.findIn K (.ref C_NoDeed) "many" = some none)
    {C_Ended f_Ended N_Ended : Addr} {nm_Ended q_Ended : Str} {bs_Ended sub_Ended : List Value} {sn_Ended : List Str} {ab_Ended : Bool} {col_Ended : Option Bool} {dd_Ended : Option Addr} {k0_Ended k1_Ended k2_Ended k3_Ended k5_Ended : Option Value} {od_Ended an_Ended : Option Addr} {sl_Ended : Array (Option Value)} {oc_Ended kV_Ended dc_Ended pm_Ended cd_Ended ct_Ended : Value} (a_Ended : PySem.W.nsIn K mainGlobals "Ended" = some (some (.ref C_Ended))) (x_Ended : K.lookup C_Ended = some (excClassObj nm_Ended q_Ended C_Ended N_Ended bs_Ended bm_RuntimeError true sn_Ended sub_Ended ab_Ended col_Ended dd_Ended k0_Ended k1_Ended k2_Ended k3_Ended k5_Ended "RuntimeError.__new__")) (sa_Ended : PySem.W.findIn K (.ref C_Ended) "__setattr__" = some (some (.builtin "object.__setattr__"))) (ga_Ended : PySem.W.findIn K (.ref C_Ended) "__getattribute__" = some (some (.builtin "BaseException.__getattribute__"))) (gk_Ended : PySem.W.findIn K (.ref C_Ended) "__getattr__" = some none) (hs_Ended : PySem.W.subIn K (.ref C_Ended) (.type "BaseException") = some true) (hd_Ended : PySem.W.hasDictIn K C_Ended = true) (ha_Ended : PySem.W.findIn K (.ref C_Ended) "__class__" = some (some (.builtin "object.__class__"))) (hm_Ended : PySem.W.mroIn K C_Ended (.type "object") = some true) (ty_Ended : PySem.W.typeIn K (.ref C_Ended) = some (.type "type")) (kC_Ended : PySem.W.keepIn K (.ref C_Ended) = true) (i_Ended : PySem.W.findIn K (.ref C_Ended) "__init__" = some (some (.ref f_Ended))) (t_Ended : PySem.W.typeIn K (.ref f_Ended) = some (.type "function")) (l_Ended : K.lookup f_Ended = some ⟨oc_Ended, od_Ended, .func (PySem.W.fnOf "__init__" "Ended.__init__" (defArgs s_Ended) (defBody s_Ended) (defScope s_Ended) .none kV_Ended dc_Ended pm_Ended an_Ended cd_Ended ct_Ended), sl_Ended⟩) (c_Ended : PySem.W.codeIn K cd_Ended "Ended.__init__" = true) (k_Ended : PySem.W.keepIn K (.ref f_Ended) = true) (n_Ended_talk : PySem.W.findIn K (.ref C_Ended) "talk" = some none)
    {C_Slip : Addr} (a_Slip : PySem.W.nsIn K mainGlobals "Slip" = some (some (.ref C_Slip))) (pg_Slip : PySem.W.plainGet K C_Slip Str.empty = true) (hd_Slip : PySem.W.hasDictIn K C_Slip = true) (po_Slip : PySem.W.plainOver K C_Slip = true) (sa_Slip : PySem.W.findIn K (.ref C_Slip) "__setattr__" = some (some (.builtin "object.__setattr__"))) (mk_Slip : PySem.W.makesIn K C_Slip = true) (kc_Slip : PySem.W.keepIn K (.ref C_Slip) = true) (n_Slip_kind : PySem.W.findIn K (.ref C_Slip) "kind" = some none) (n_Slip_talk : PySem.W.findIn K (.ref C_Slip) "talk" = some none) (n_Slip_data : PySem.W.findIn K (.ref C_Slip) "data" = some none) (n_Slip_last : PySem.W.findIn K (.ref C_Slip) "last" = some none) (n_Slip_mask : PySem.W.findIn K (.ref C_Slip) "mask" = some none)
    {f_Slip_init T_Slip_init D_Slip_init E_Slip_init : Addr} {od_Slip_init an_Slip_init odT_Slip_init odE_Slip_init : Option Addr} {sl_Slip_init slT_Slip_init slE_Slip_init : Array (Option Value)} {nT_Slip_init nE_Slip_init : Nat} {oc_Slip_init dc_Slip_init pm_Slip_init cd_Slip_init ct_Slip_init : Value} (at_Slip_init : PySem.W.findIn K (.ref C_Slip) "__init__" = some (some (.ref f_Slip_init))) (i_Slip_init : PySem.W.isFn K (.ref f_Slip_init) = true) (l_Slip_init : K.lookup f_Slip_init = some ⟨oc_Slip_init, od_Slip_init, .func (PySem.W.fnOf "__init__" "Slip.__init__" (defArgs s_Slip_init) (defBody s_Slip_init) (defScope s_Slip_init) (.ref T_Slip_init) (.ref D_Slip_init) dc_Slip_init pm_Slip_init an_Slip_init cd_Slip_init ct_Slip_init), sl_Slip_init⟩) (c_Slip_init : PySem.W.codeIn K cd_Slip_init "Slip.__init__" = true) (k_Slip_init : PySem.W.keepIn K (.ref f_Slip_init) = true) (lT_Slip_init : K.lookup T_Slip_init = some ⟨.type "tuple", odT_Slip_init, .seq #[.ref E_Slip_init] nT_Slip_init, slT_Slip_init⟩) (lE_Slip_init : K.lookup E_Slip_init = some ⟨.type "tuple", odE_Slip_init, .seq #[] nE_Slip_init, slE_Slip_init⟩) (d_Slip_init_last : PySem.W.nsIn K D_Slip_init "last" = some (some (.bool true))) (d_Slip_init_mask : PySem.W.nsIn K D_Slip_init "mask" = some (some (.none)))
    (hn_ : PySem.W.specialIn K (.builtin "object.__class__") "__get__" = some (some (.builtin "getset_descriptor.__get__"))) (ht_ : PySem.W.takesIn K (.builtin "object.__class__") = some true)
    (lt_BadSlip : C_BadSlip < C_BadLetter)
    (lt_BadLetter : C_BadLetter < C_BadEnd)
    (lt_BadEnd : C_BadEnd < C_BadText)
    (lt_BadText : C_BadText < C_BadRow)
    (lt_BadRow : C_BadRow < C_Fault)
    (lt_Fault : C_Fault < C_NoSlip)
    (lt_NoSlip : C_NoSlip < C_NoByte)
    (lt_NoByte : C_NoByte < C_NoDeed)
    (lt_NoDeed : C_NoDeed < C_Ended)
    (v_IndexError : PySem.W.findCls K (.type "IndexError") (.type "type") "__init__" = some (.val (.builtin "IndexError.__init__")))
    (v_LookupError : PySem.W.findCls K (.type "LookupError") (.type "type") "__init__" = some (.val (.builtin "LookupError.__init__")))
    (v_RuntimeError : PySem.W.findCls K (.type "RuntimeError") (.type "type") "__init__" = some (.val (.builtin "RuntimeError.__init__")))
    (v_ValueError : PySem.W.findCls K (.type "ValueError") (.type "type") "__init__" = some (.val (.builtin "ValueError.__init__")))
    (z_len : PySem.W.nsIn K mainGlobals "len" = some none) (z_abs : PySem.W.nsIn K mainGlobals "abs" = some none) (z_int : PySem.W.nsIn K mainGlobals "int" = some none) (z_bool : PySem.W.nsIn K mainGlobals "bool" = some none) (z_list : PySem.W.nsIn K mainGlobals "list" = some none) (z_tuple : PySem.W.nsIn K mainGlobals "tuple" = some none) (z_isinstance : PySem.W.nsIn K mainGlobals "isinstance" = some none) (z_all : PySem.W.nsIn K mainGlobals "all" = some none) (z_min : PySem.W.nsIn K mainGlobals "min" = some none) (z_max : PySem.W.nsIn K mainGlobals "max" = some none) (z_range : PySem.W.nsIn K mainGlobals "range" = some none) (z_repr : PySem.W.nsIn K mainGlobals "repr" = some none) (z_ValueError : PySem.W.nsIn K mainGlobals "ValueError" = some none) (z_IndexError : PySem.W.nsIn K mainGlobals "IndexError" = some none) (z_LookupError : PySem.W.nsIn K mainGlobals "LookupError" = some none) (z_RuntimeError : PySem.W.nsIn K mainGlobals "RuntimeError" = some none) :
    ∃ fd : FuncData, (∀ (s : Shared) (v : Value), BindsTo s fd ⟨[v], []⟩ [("_law_script", v)]) ∧ ∀ base : Heap, K.In base → base.Ns mainGlobals mg → FnG l.prog w K mg base 12 fa fd ["_law_script"] (spLaw K) := by
  have e := hfa.symm.trans (PySem.W.mg_of X G a20)
  cases e
  have F0 := fun_mk (st := s_is_number) l0 c0 k0
  have F1 := fun_mk (st := s_is_byte) l1 c1 k1
  have F2 := fun_mk (st := s_are_codes) l2 c2 k2
  have F3 := fun_mk (st := s_is_control) l3 c3 k3
  have F4 := fun_mk (st := s_is_mask) l4 c4 k4
  have F5 := fun_mk (st := s_wrong_part) l5 c5 k5
  have F6 := fun_mk (st := s_can_be_mask) l6 c6 k6
  have F7 := fun_mk (st := s_cell_at) l7 c7 k7
  have F8 := fun_mk (st := s_box) l8 c8 k8
  have F9 := fun_mk (st := s_take) l9 c9 k9
  have F10 := fun_mk (st := s_of) l10 c10 k10
  have F11 := fun_mk (st := s_bytes) l11 c11 k11
  have F12 := fun_mk (st := s_drawn) l12 c12 k12
  have F13 := fun_mk (st := s_l_is_number) l13 c13 k13
  have F14 := fun_mk (st := s_are_bytes) l14 c14 k14
  have F15 := fun_mk (st := s_wrong) l15 c15 k15
  have F16 := fun_mk (st := s_odd) l16 c16 k16
  have F17 := fun_mk (st := s_bent_row) l17 c17 k17
  have F18 := fun_mk (st := s_refused) l18 c18 k18
  have F19 := fun_mk (st := s_right) l19 c19 k19
  have F20 := fun_mk (st := s_law) l20 c20 k20
  have b0 := F0.binds (ps := ["thing"]) fun _ _ _ _ _ _ us hl => match us, hl with | [_], _ => rfl
  have b1 := F1.binds (ps := ["thing"]) fun _ _ _ _ _ _ us hl => match us, hl with | [_], _ => rfl
  have b2 := F2.binds (ps := ["thing"]) fun _ _ _ _ _ _ us hl => match us, hl with | [_], _ => rfl
  have b3 := F3.binds (ps := ["sort"]) fun _ _ _ _ _ _ us hl => match us, hl with | [_], _ => rfl
  have b4 := F4.binds (ps := ["thing"]) fun _ _ _ _ _ _ us hl => match us, hl with | [_], _ => rfl
  have b5 := F5.binds (ps := ["kind", "talk", "data", "last", "mask"]) fun _ _ _ _ _ _ us hl => match us, hl with | [_, _, _, _, _], _ => rfl
  have b6 := F6.binds (ps := ["thing"]) fun _ _ _ _ _ _ us hl => match us, hl with | [_], _ => rfl
  have b7 := F7.binds (ps := ["_law_script", "_law_k"]) fun _ _ _ _ _ _ us hl => match us, hl with | [_, _], _ => rfl
  have b8 := F8.binds (ps := ["_law_script", "_law_k"]) fun _ _ _ _ _ _ us hl => match us, hl with | [_, _], _ => rfl
  have b9 := F9.binds (ps := ["_law_box_here", "_law_count"]) fun _ _ _ _ _ _ us hl => match us, hl with | [_, _], _ => rfl
  have b10 := F10.binds (ps := ["_law_box_here", "_law_some"]) fun _ _ _ _ _ _ us hl => match us, hl with | [_, _], _ => rfl
  have b11 := F11.binds (ps := ["_law_box_here", "_law_count"]) fun _ _ _ _ _ _ us hl => match us, hl with | [_, _], _ => rfl
  have b12 := F12.binds (ps := ["_law_box_here", "_law_most"]) fun _ _ _ _ _ _ us hl => match us, hl with | [_, _], _ => rfl
  have b13 := F13.binds (ps := ["_law_thing", "_law_least", "_law_most"]) fun _ _ _ _ _ _ us hl => match us, hl with | [_, _, _], _ => rfl
  have b14 := F14.binds (ps := ["_law_thing"]) fun _ _ _ _ _ _ us hl => match us, hl with | [_], _ => rfl
  have b15 := F15.binds (ps := ["_law_parts"]) fun _ _ _ _ _ _ us hl => match us, hl with | [_], _ => rfl
  have b16 := F16.binds (ps := ["_law_box_here"]) fun _ _ _ _ _ _ us hl => match us, hl with | [_], _ => rfl
  have b17 := F17.binds (ps := ["_law_box_here", "_law_row"]) fun _ _ _ _ _ _ us hl => match us, hl with | [_, _], _ => rfl
  have b18 := F18.binds (ps := ["_law_parts", "_law_named"]) fun _ _ _ _ _ _ us hl => match us, hl with | [_, _], _ => rfl
  have b19 := F19.binds (ps := ["_law_box_here"]) fun _ _ _ _ _ _ us hl => match us, hl with | [_], _ => rfl
  have F_BadSlip := fun_mk (st := s_BadSlip) l_BadSlip c_BadSlip k_BadSlip
  have b_BadSlip := F_BadSlip.binds (ps := ["self", "part"]) fun _ _ _ _ _ _ us hl => match us, hl with | [_, _], _ => rfl
  have oe_BadSlip : OeC K C_BadSlip "ValueError" "ValueError.__new__" "ValueError.__init__" bm_ValueError := { base := PySem.F.excBase_ValueError, pass := PySem.MyX.pass_Value, ob := by decide +kernel, cls := ⟨_, _, _, _, _, _, _, _, _, _, _, _, _, _, x_BadSlip⟩, sa := sa_BadSlip, is_ := ⟨ga_BadSlip, gk_BadSlip, hs_BadSlip, hd_BadSlip, ha_BadSlip, hn_, ht_, hm_BadSlip⟩, ty := ty_BadSlip, kC := kC_BadSlip }
  have F_BadLetter := fun_mk (st := s_BadLetter) l_BadLetter c_BadLetter k_BadLetter
  have b_BadLetter := F_BadLetter.binds (ps := ["self", "part"]) fun _ _ _ _ _ _ us hl => match us, hl with | [_, _], _ => rfl
  have oe_BadLetter : OeC K C_BadLetter "ValueError" "ValueError.__new__" "ValueError.__init__" bm_ValueError := { base := PySem.F.excBase_ValueError, pass := PySem.MyX.pass_Value, ob := by decide +kernel, cls := ⟨_, _, _, _, _, _, _, _, _, _, _, _, _, _, x_BadLetter⟩, sa := sa_BadLetter, is_ := ⟨ga_BadLetter, gk_BadLetter, hs_BadLetter, hd_BadLetter, ha_BadLetter, hn_, ht_, hm_BadLetter⟩, ty := ty_BadLetter, kC := kC_BadLetter }
  have F_BadEnd := fun_mk (st := s_BadEnd) l_BadEnd c_BadEnd k_BadEnd
  have b_BadEnd := F_BadEnd.binds (ps := ["self", "part"]) fun _ _ _ _ _ _ us hl => match us, hl with | [_, _], _ => rfl
  have oe_BadEnd : OeC K C_BadEnd "ValueError" "ValueError.__new__" "ValueError.__init__" bm_ValueError := { base := PySem.F.excBase_ValueError, pass := PySem.MyX.pass_Value, ob := by decide +kernel, cls := ⟨_, _, _, _, _, _, _, _, _, _, _, _, _, _, x_BadEnd⟩, sa := sa_BadEnd, is_ := ⟨ga_BadEnd, gk_BadEnd, hs_BadEnd, hd_BadEnd, ha_BadEnd, hn_, ht_, hm_BadEnd⟩, ty := ty_BadEnd, kC := kC_BadEnd }
  have F_BadText := fun_mk (st := s_BadText) l_BadText c_BadText k_BadText
  have b_BadText := F_BadText.binds (ps := ["self", "text"]) fun _ _ _ _ _ _ us hl => match us, hl with | [_, _], _ => rfl
  have oe_BadText : OeC K C_BadText "ValueError" "ValueError.__new__" "ValueError.__init__" bm_ValueError := { base := PySem.F.excBase_ValueError, pass := PySem.MyX.pass_Value, ob := by decide +kernel, cls := ⟨_, _, _, _, _, _, _, _, _, _, _, _, _, _, x_BadText⟩, sa := sa_BadText, is_ := ⟨ga_BadText, gk_BadText, hs_BadText, hd_BadText, ha_BadText, hn_, ht_, hm_BadText⟩, ty := ty_BadText, kC := kC_BadText }
  have F_BadRow := fun_mk (st := s_BadRow) l_BadRow c_BadRow k_BadRow
  have b_BadRow := F_BadRow.binds (ps := ["self", "row"]) fun _ _ _ _ _ _ us hl => match us, hl with | [_, _], _ => rfl
  have oe_BadRow : OeC K C_BadRow "ValueError" "ValueError.__new__" "ValueError.__init__" bm_ValueError := { base := PySem.F.excBase_ValueError, pass := PySem.MyX.pass_Value, ob := by decide +kernel, cls := ⟨_, _, _, _, _, _, _, _, _, _, _, _, _, _, x_BadRow⟩, sa := sa_BadRow, is_ := ⟨ga_BadRow, gk_BadRow, hs_BadRow, hd_BadRow, ha_BadRow, hn_, ht_, hm_BadRow⟩, ty := ty_BadRow, kC := kC_BadRow }
  have F_Fault := fun_mk (st := s_Fault) l_Fault c_Fault k_Fault
  have b_Fault := F_Fault.binds (ps := ["self", "code", "at"]) fun _ _ _ _ _ _ us hl => match us, hl with | [_, _, _], _ => rfl
  have oe_Fault : OeC K C_Fault "ValueError" "ValueError.__new__" "ValueError.__init__" bm_ValueError := { base := PySem.F.excBase_ValueError, pass := PySem.MyX.pass_Value, ob := by decide +kernel, cls := ⟨_, _, _, _, _, _, _, _, _, _, _, _, _, _, x_Fault⟩, sa := sa_Fault, is_ := ⟨ga_Fault, gk_Fault, hs_Fault, hd_Fault, ha_Fault, hn_, ht_, hm_Fault⟩, ty := ty_Fault, kC := kC_Fault }
  have F_NoSlip := fun_mk (st := s_NoSlip) l_NoSlip c_NoSlip k_NoSlip
  have b_NoSlip := F_NoSlip.binds (ps := ["self", "number"]) fun _ _ _ _ _ _ us hl => match us, hl with | [_, _], _ => rfl
  have oe_NoSlip : OeC K C_NoSlip "IndexError" "IndexError.__new__" "IndexError.__init__" bm_IndexError := { base := PySem.F.excBase_IndexError, pass := PySem.MyX.pass_Index, ob := by decide +kernel, cls := ⟨_, _, _, _, _, _, _, _, _, _, _, _, _, _, x_NoSlip⟩, sa := sa_NoSlip, is_ := ⟨ga_NoSlip, gk_NoSlip, hs_NoSlip, hd_NoSlip, ha_NoSlip, hn_, ht_, hm_NoSlip⟩, ty := ty_NoSlip, kC := kC_NoSlip }
  have F_NoByte := fun_mk (st := s_NoByte) l_NoByte c_NoByte k_NoByte
  have b_NoByte := F_NoByte.binds (ps := ["self", "at"]) fun _ _ _ _ _ _ us hl => match us, hl with | [_, _], _ => rfl
  have oe_NoByte : OeC K C_NoByte "IndexError" "IndexError.__new__" "IndexError.__init__" bm_IndexError := { base := PySem.F.excBase_IndexError, pass := PySem.MyX.pass_Index, ob := by decide +kernel, cls := ⟨_, _, _, _, _, _, _, _, _, _, _, _, _, _, x_NoByte⟩, sa := sa_NoByte, is_ := ⟨ga_NoByte, gk_NoByte, hs_NoByte, hd_NoByte, ha_NoByte, hn_, ht_, hm_NoByte⟩, ty := ty_NoByte, kC := kC_NoByte }
  have F_NoDeed := fun_mk (st := s_NoDeed) l_NoDeed c_NoDeed k_NoDeed
  have b_NoDeed := F_NoDeed.binds (ps := ["self", "many"]) fun _ _ _ _ _ _ us hl => match us, hl with | [_, _], _ => rfl
  have oe_NoDeed : OeC K C_NoDeed "LookupError" "LookupError.__new__" "LookupError.__init__" bm_LookupError := { base := PySem.F.excBase_LookupError, pass := PySem.MyX.pass_Lookup, ob := by decide +kernel, cls := ⟨_, _, _, _, _, _, _, _, _, _, _, _, _, _, x_NoDeed⟩, sa := sa_NoDeed, is_ := ⟨ga_NoDeed, gk_NoDeed, hs_NoDeed, hd_NoDeed, ha_NoDeed, hn_, ht_, hm_NoDeed⟩, ty := ty_NoDeed, kC := kC_NoDeed }
  have F_Ended := fun_mk (st := s_Ended) l_Ended c_Ended k_Ended
  have b_Ended := F_Ended.binds (ps := ["self", "talk"]) fun _ _ _ _ _ _ us hl => match us, hl with | [_, _], _ => rfl
  have oe_Ended : OeC K C_Ended "RuntimeError" "RuntimeError.__new__" "RuntimeError.__init__" bm_RuntimeError := { base := PySem.F.excBase_RuntimeError, pass := PySem.MyX.pass_Runtime, ob := by decide +kernel, cls := ⟨_, _, _, _, _, _, _, _, _, _, _, _, _, _, x_Ended⟩, sa := sa_Ended, is_ := ⟨ga_Ended, gk_Ended, hs_Ended, hd_Ended, ha_Ended, hn_, ht_, hm_Ended⟩, ty := ty_Ended, kC := kC_Ended }
  have F_Slip_init : FunD K "__init__" "Slip.__init__" (defArgs s_Slip_init) (defBody s_Slip_init) (defScope s_Slip_init) [.ref E_Slip_init] [("last", .bl true), ("mask", .non)] f_Slip_init _ := ⟨⟨_, _, .ref T_Slip_init, .ref D_Slip_init, _, _, _, _, _, _, rfl, l_Slip_init, c_Slip_init, .inr ⟨by simp, T_Slip_init, _, [.ref E_Slip_init], _, rfl, lT_Slip_init, rfl, .cons rfl .nil⟩, .inr ⟨D_Slip_init, rfl, fun q hq => by
    simp only [List.mem_cons, List.not_mem_nil, or_false] at hq
    rcases hq with rfl | rfl
    · exact ⟨_, d_Slip_init_last, rfl⟩
    · exact ⟨_, d_Slip_init_mask, rfl⟩⟩⟩, k_Slip_init⟩
  have T : Tx K mg := { f_is_number := f0, fd_is_number := _, F_is_number := F0, g_is_number := PySem.W.mg_of X G a0, b_is_number := b0, f_is_byte := f1, fd_is_byte := _, F_is_byte := F1, g_is_byte := PySem.W.mg_of X G a1, b_is_byte := b1, f_are_codes := f2, fd_are_codes := _, F_are_codes := F2, g_are_codes := PySem.W.mg_of X G a2, b_are_codes := b2, f_is_control := f3, fd_is_control := _, F_is_control := F3, g_is_control := PySem.W.mg_of X G a3, b_is_control := b3, f_is_mask := f4, fd_is_mask := _, F_is_mask := F4, g_is_mask := PySem.W.mg_of X G a4, b_is_mask := b4, f_wrong_part := f5, fd_wrong_part := _, F_wrong_part := F5, g_wrong_part := PySem.W.mg_of X G a5, b_wrong_part := b5, f_can_be_mask := f6, fd_can_be_mask := _, F_can_be_mask := F6, g_can_be_mask := PySem.W.mg_of X G a6, b_can_be_mask := b6, f_cell_at := f7, fd_cell_at := _, F_cell_at := F7, g_cell_at := PySem.W.mg_of X G a7, b_cell_at := b7, f_box := f8, fd_box := _, F_box := F8, g_box := PySem.W.mg_of X G a8, b_box := b8, f_take := f9, fd_take := _, F_take := F9, g_take := PySem.W.mg_of X G a9, b_take := b9, f_of := f10, fd_of := _, F_of := F10, g_of := PySem.W.mg_of X G a10, b_of := b10, f_bytes := f11, fd_bytes := _, F_bytes := F11, g_bytes := PySem.W.mg_of X G a11, b_bytes := b11, f_drawn := f12, fd_drawn := _, F_drawn := F12, g_drawn := PySem.W.mg_of X G a12, b_drawn := b12, f_l_is_number := f13, fd_l_is_number := _, F_l_is_number := F13, g_l_is_number := PySem.W.mg_of X G a13, b_l_is_number := b13, f_are_bytes := f14, fd_are_bytes := _, F_are_bytes := F14, g_are_bytes := PySem.W.mg_of X G a14, b_are_bytes := b14, f_wrong := f15, fd_wrong := _, F_wrong := F15, g_wrong := PySem.W.mg_of X G a15, b_wrong := b15, f_odd := f16, fd_odd := _, F_odd := F16, g_odd := PySem.W.mg_of X G a16, b_odd := b16, f_bent_row := f17, fd_bent_row := _, F_bent_row := F17, g_bent_row := PySem.W.mg_of X G a17, b_bent_row := b17, f_refused := f18, fd_refused := _, F_refused := F18, g_refused := PySem.W.mg_of X G a18, b_refused := b18, f_right := f19, fd_right := _, F_right := F19, g_right := PySem.W.mg_of X G a19, b_right := b19, a_SORT_WORDS := ad_SORT_WORDS, g_SORT_WORDS := PySem.W.mg_of X G a_SORT_WORDS, q_SORT_WORDS := ⟨⟨_, _, _, l_SORT_WORDS, (.cons ⟨_, rfl⟩ (.cons ⟨_, rfl⟩ (.cons ⟨_, rfl⟩ (.cons ⟨_, rfl⟩ (.cons ⟨_, rfl⟩ (.cons ⟨_, rfl⟩ .nil))))))⟩, by decide, lo_SORT_WORDS⟩, tk_ENDING := _, g_ENDING := PySem.W.mg_of X G a_ENDING, tk_GREATEST_TALK := _, g_GREATEST_TALK := PySem.W.mg_of X G a_GREATEST_TALK, tk_GREATEST_CONTROL := _, g_GREATEST_CONTROL := PySem.W.mg_of X G a_GREATEST_CONTROL, C_BadSlip := C_BadSlip, f_BadSlip := f_BadSlip, fd_BadSlip := _, F_BadSlip := F_BadSlip, g_BadSlip := PySem.W.mg_of X G a_BadSlip, oe_BadSlip := oe_BadSlip, i_BadSlip := i_BadSlip, t_BadSlip := t_BadSlip, b_BadSlip := b_BadSlip, n_BadSlip_part := n_BadSlip_part, C_BadLetter := C_BadLetter, f_BadLetter := f_BadLetter, fd_BadLetter := _, F_BadLetter := F_BadLetter, g_BadLetter := PySem.W.mg_of X G a_BadLetter, oe_BadLetter := oe_BadLetter, i_BadLetter := i_BadLetter, t_BadLetter := t_BadLetter, b_BadLetter := b_BadLetter, n_BadLetter_part := n_BadLetter_part, C_BadEnd := C_BadEnd, f_BadEnd := f_BadEnd, fd_BadEnd := _, F_BadEnd := F_BadEnd, g_BadEnd := PySem.W.mg_of X G a_BadEnd, oe_BadEnd := oe_BadEnd, i_BadEnd := i_BadEnd, t_BadEnd := t_BadEnd, b_BadEnd := b_BadEnd, n_BadEnd_part := n_BadEnd_part, C_BadText := C_BadText, f_BadText := f_BadText, fd_BadText := _, F_BadText := F_BadText, g_BadText := PySem.W.mg_of X G a_BadText, oe_BadText := oe_BadText, i_BadText := i_BadText, t_BadText := t_BadText, b_BadText := b_BadText, n_BadText_text := n_BadText_text, C_BadRow := C_BadRow, f_BadRow := f_BadRow, fd_BadRow := _, F_BadRow := F_BadRow, g_BadRow := PySem.W.mg_of X G a_BadRow, oe_BadRow := oe_BadRow, i_BadRow := i_BadRow, t_BadRow := t_BadRow, b_BadRow := b_BadRow, n_BadRow_row := n_BadRow_row, C_Fault := C_Fault, f_Fault := f_Fault, fd_Fault := _, F_Fault := F_Fault, g_Fault := PySem.W.mg_of X G a_Fault, oe_Fault := oe_Fault, i_Fault := i_Fault, t_Fault := t_Fault, b_Fault := b_Fault, n_Fault_code := n_Fault_code, n_Fault_at := n_Fault_at, C_NoSlip := C_NoSlip, f_NoSlip := f_NoSlip, fd_NoSlip := _, F_NoSlip := F_NoSlip, g_NoSlip := PySem.W.mg_of X G a_NoSlip, oe_NoSlip := oe_NoSlip, i_NoSlip := i_NoSlip, t_NoSlip := t_NoSlip, b_NoSlip := b_NoSlip, n_NoSlip_number := n_NoSlip_number, C_NoByte := C_NoByte, f_NoByte := f_NoByte, fd_NoByte := _, F_NoByte := F_NoByte, g_NoByte := PySem.W.mg_of X G a_NoByte, oe_NoByte := oe_NoByte, i_NoByte := i_NoByte, t_NoByte := t_NoByte, b_NoByte := b_NoByte, n_NoByte_at := n_NoByte_at, C_NoDeed := C_NoDeed, f_NoDeed := f_NoDeed, fd_NoDeed := _, F_NoDeed := F_NoDeed, g_NoDeed := PySem.W.mg_of X G a_NoDeed, oe_NoDeed := oe_NoDeed, i_NoDeed := i_NoDeed, t_NoDeed := t_NoDeed, b_NoDeed := b_NoDeed, n_NoDeed_many := n_NoDeed_many, C_Ended := C_Ended, f_Ended := f_Ended, fd_Ended := _, F_Ended := F_Ended, g_Ended := PySem.W.mg_of X G a_Ended, oe_Ended := oe_Ended, i_Ended := i_Ended, t_Ended := t_Ended, b_Ended := b_Ended, n_Ended_talk := n_Ended_talk, C_Slip := C_Slip, g_Slip := PySem.W.mg_of X G a_Slip, cl_Slip := ⟨pg_Slip, hd_Slip, po_Slip, sa_Slip⟩, n_Slip_kind := n_Slip_kind, n_Slip_talk := n_Slip_talk, n_Slip_data := n_Slip_data, n_Slip_last := n_Slip_last, n_Slip_mask := n_Slip_mask, E_Slip := E_Slip_init, qE_Slip := fun H => .inr ⟨_, _, _, lE_Slip_init, rfl, rfl, (by show 0 ≤ sizeLine; decide), .nil⟩, f_Slip_init := f_Slip_init, fd_Slip_init := _, F_Slip_init := F_Slip_init, kb_Slip_init := mk_kb_Slip_init F_Slip_init, mk_Slip := ⟨mk_Slip, at_Slip_init, i_Slip_init, kc_Slip⟩, lt_BadSlip := lt_BadSlip, lt_BadLetter := lt_BadLetter, lt_BadEnd := lt_BadEnd, lt_BadText := lt_BadText, lt_BadRow := lt_BadRow, lt_Fault := lt_Fault, lt_NoSlip := lt_NoSlip, lt_NoByte := lt_NoByte, lt_NoDeed := lt_NoDeed, v_IndexError := v_IndexError, v_LookupError := v_LookupError, v_RuntimeError := v_RuntimeError, v_ValueError := v_ValueError, m_len := PySem.W.mg_none_of X G z_len, m_abs := PySem.W.mg_none_of X G z_abs, m_int := PySem.W.mg_none_of X G z_int, m_bool := PySem.W.mg_none_of X G z_bool, m_list := PySem.W.mg_none_of X G z_list, m_tuple := PySem.W.mg_none_of X G z_tuple, m_isinstance := PySem.W.mg_none_of X G z_isinstance, m_all := PySem.W.mg_none_of X G z_all, m_min := PySem.W.mg_none_of X G z_min, m_max := PySem.W.mg_none_of X G z_max, m_range := PySem.W.mg_none_of X G z_range, m_repr := PySem.W.mg_none_of X G z_repr, m_ValueError := PySem.W.mg_none_of X G z_ValueError, m_IndexError := PySem.W.mg_none_of X G z_IndexError, m_LookupError := PySem.W.mg_none_of X G z_LookupError, m_RuntimeError := PySem.W.mg_none_of X G z_RuntimeError, kbP := mk_kbP F_Slip_init, kbN := mk_kbN F_Slip_init }
  exact ⟨PySem.W.fnOf "law" "law" (defArgs s_law) (defBody s_law) (defScope s_law) .none kV20 dc20 pm20 an20 cd20 ct20, fun s v => .of_eq rfl, fun base _ _ => ok_law T F20⟩
end K8
open PySem PySem.W PyProof.Rows
set_option maxHeartbeats 0 in
theorem PySem.Challenge.cw_slipwire_k08_slips_that_can_not_be_holds : PySem.Challenge.rw_slipwire_k08_slips_that_can_not_be.Holds := by
  w_on; o_law; k_head; (case hw => w_witness2)
  k_fill
  refine L2.walk_ofG (l := PySem.Challenge.rw_slipwire_k08_slips_that_can_not_be) (n := 63) (k := 12) (x := "_law_script") (sp := fun w => K8.spLaw _) rfl (by decide) rfl ⟨rfl, by decide, by decide⟩ (fun w h Y => PySem.W.kIn_of Y) ?F (fun _ _ a ns hl _ hS => ⟨a, ns, rfl, hS, hl, fun _ => rfl⟩)
  case F =>
    intro w mg fa h KX G hmg
    refine' K8.all_mk KX G hmg ?a0 ?l0 ?c0 ?k0 ?a1 ?l1 ?c1 ?k1 ?a2 ?l2 ?c2 ?k2 ?a3 ?l3 ?c3 ?k3 ?a4 ?l4 ?c4 ?k4 ?a5 ?l5 ?c5 ?k5 ?a6 ?l6 ?c6 ?k6 ?a7 ?l7 ?c7 ?k7 ?a8 ?l8 ?c8 ?k8 ?a9 ?l9 ?c9 ?k9 ?a10 ?l10 ?c10 ?k10 ?a11 ?l11 ?c11 ?k11 ?a12 ?l12 ?c12 ?k12 ?a13 ?l13 ?c13 ?k13 ?a14 ?l14 ?c14 ?k14 ?a15 ?l15 ?c15 ?k15 ?a16 ?l16 ?c16 ?k16 ?a17 ?l17 ?c17 ?k17 ?a18 ?l18 ?c18 ?k18 ?a19 ?l19 ?c19 ?k19 ?a20 ?l20 ?c20 ?k20 ?a_SORT_WORDS ?l_SORT_WORDS ?lo_SORT_WORDS ?a_ENDING ?a_GREATEST_TALK ?a_GREATEST_CONTROL ?a_BadSlip ?x_BadSlip ?sa_BadSlip ?ga_BadSlip ?gk_BadSlip ?hs_BadSlip ?hd_BadSlip ?ha_BadSlip ?hm_BadSlip ?ty_BadSlip ?kC_BadSlip ?i_BadSlip ?t_BadSlip ?l_BadSlip ?c_BadSlip ?k_BadSlip ?n_BadSlip_part ?a_BadLetter ?x_BadLetter ?sa_BadLetter ?ga_BadLetter ?gk_BadLetter ?hs_BadLetter ?hd_BadLetter ?ha_BadLetter ?hm_BadLetter ?ty_BadLetter ?kC_BadLetter ?i_BadLetter ?t_BadLetter ?l_BadLetter ?c_BadLetter ?k_BadLetter ?n_BadLetter_part ?a_BadEnd ?x_BadEnd ?sa_BadEnd ?ga_BadEnd ?gk_BadEnd ?hs_BadEnd ?hd_BadEnd ?ha_BadEnd ?hm_BadEnd ?ty_BadEnd ?kC_BadEnd ?i_BadEnd ?t_BadEnd ?l_BadEnd ?c_BadEnd ?k_BadEnd ?n_BadEnd_part ?a_BadText ?x_BadText ?sa_BadText ?ga_BadText ?gk_BadText ?hs_BadText ?hd_BadText ?ha_BadText ?hm_BadText ?ty_BadText ?kC_BadText ?i_BadText ?t_BadText ?l_BadText ?c_BadText ?k_BadText ?n_BadText_text ?a_BadRow ?x_BadRow ?sa_BadRow ?ga_BadRow ?gk_BadRow ?hs_BadRow ?hd_BadRow ?ha_BadRow ?hm_BadRow ?ty_BadRow ?kC_BadRow ?i_BadRow ?t_BadRow ?l_BadRow ?c_BadRow ?k_BadRow ?n_BadRow_row ?a_Fault ?x_Fault ?sa_Fault ?ga_Fault ?gk_Fault ?hs_Fault ?hd_Fault ?ha_Fault ?hm_Fault ?ty_Fault ?kC_Fault ?i_Fault ?t_Fault ?l_Fault ?c_Fault ?k_Fault ?n_Fault_code ?n_Fault_at ?a_NoSlip ?x_NoSlip ?sa_NoSlip ?ga_NoSlip ?gk_NoSlip ?hs_NoSlip ?hd_NoSlip ?ha_NoSlip ?hm_NoSlip ?ty_NoSlip ?kC_NoSlip ?i_NoSlip ?t_NoSlip ?l_NoSlip ?c_NoSlip ?k_NoSlip ?n_NoSlip_number ?a_NoByte ?x_NoByte ?sa_NoByte ?ga_NoByte ?gk_NoByte ?hs_NoByte ?hd_NoByte ?ha_NoByte ?hm_NoByte ?ty_NoByte ?kC_NoByte ?i_NoByte ?t_NoByte ?l_NoByte ?c_NoByte ?k_NoByte ?n_NoByte_at ?a_NoDeed ?x_NoDeed ?sa_NoDeed ?ga_NoDeed ?gk_NoDeed ?hs_NoDeed ?hd_NoDeed ?ha_NoDeed ?hm_NoDeed ?ty_NoDeed ?kC_NoDeed ?i_NoDeed ?t_NoDeed ?l_NoDeed ?c_NoDeed ?k_NoDeed ?n_NoDeed_many ?a_Ended ?x_Ended ?sa_Ended ?ga_Ended ?gk_Ended ?hs_Ended ?hd_Ended ?ha_Ended ?hm_Ended ?ty_Ended ?kC_Ended ?i_Ended ?t_Ended ?l_Ended ?c_Ended ?k_Ended ?n_Ended_talk ?a_Slip ?pg_Slip ?hd_Slip ?po_Slip ?sa_Slip ?mk_Slip ?kc_Slip ?n_Slip_kind ?n_Slip_talk ?n_Slip_data ?n_Slip_last ?n_Slip_mask ?at_Slip_init ?i_Slip_init ?l_Slip_init ?c_Slip_init ?k_Slip_init ?lT_Slip_init ?lE_Slip_init ?d_Slip_init_last ?d_Slip_init_mask ?hn_ ?ht_ ?lt_BadSlip ?lt_BadLetter ?lt_BadEnd ?lt_BadText ?lt_BadRow ?lt_Fault ?lt_NoSlip ?lt_NoByte ?lt_NoDeed ?v_IndexError ?v_LookupError ?v_RuntimeError ?v_ValueError ?z_len ?z_abs ?z_int ?z_bool ?z_list ?z_tuple ?z_isinstance ?z_all ?z_min ?z_max ?z_range ?z_repr ?z_ValueError ?z_IndexError ?z_LookupError ?z_RuntimeError
    (case a0 => k_is); (case l0 => k_is); (case c0 => k_is); (case k0 => k_is); (case a1 => k_is); (case l1 => k_is); (case c1 => k_is); (case k1 => k_is); (case a2 => k_is); (case l2 => k_is); (case c2 => k_is); (case k2 => k_is); (case a3 => k_is); (case l3 => k_is); (case c3 => k_is); (case k3 => k_is); (case a4 => k_is); (case l4 => k_is); (case c4 => k_is); (case k4 => k_is); (case a5 => k_is); (case l5 => k_is); (case c5 => k_is); (case k5 => k_is); (case a6 => k_is); (case l6 => k_is); (case c6 => k_is); (case k6 => k_is); (case a7 => k_is); (case l7 => k_is); (case c7 => k_is); (case k7 => k_is); (case a8 => k_is); (case l8 => k_is); (case c8 => k_is); (case k8 => k_is); (case a9 => k_is); (case l9 => k_is); (case c9 => k_is); (case k9 => k_is); (case a10 => k_is); (case l10 => k_is); (case c10 => k_is); (case k10 => k_is); (case a11 => k_is); (case l11 => k_is); (case c11 => k_is); (case k11 => k_is); (case a12 => k_is); (case l12 => k_is); (case c12 => k_is); (case k12 => k_is); (case a13 => k_is); (case l13 => k_is); (case c13 => k_is); (case k13 => k_is); (case a14 => k_is); (case l14 => k_is); (case c14 => k_is); (case k14 => k_is); (case a15 => k_is); (case l15 => k_is); (case c15 => k_is); (case k15 => k_is); (case a16 => k_is); (case l16 => k_is); (case c16 => k_is); (case k16 => k_is); (case a17 => k_is); (case l17 => k_is); (case c17 => k_is); (case k17 => k_is); (case a18 => k_is); (case l18 => k_is); (case c18 => k_is); (case k18 => k_is); (case a19 => k_is); (case l19 => k_is); (case c19 => k_is); (case k19 => k_is); (case a20 => k_is); (case l20 => k_is); (case c20 => k_is); (case k20 => k_is); (case a_SORT_WORDS => k_is); (case l_SORT_WORDS => k_is); (case lo_SORT_WORDS => decide); (case a_ENDING => k_is); (case a_GREATEST_TALK => k_is); (case a_GREATEST_CONTROL => k_is); (case a_BadSlip => k_is); (case x_BadSlip => k_is); (case sa_BadSlip => k_is); (case ga_BadSlip => k_is); (case gk_BadSlip => k_is); (case hs_BadSlip => k_is); (case hd_BadSlip => k_is); (case ha_BadSlip => k_is); (case hm_BadSlip => k_is); (case ty_BadSlip => k_is); (case kC_BadSlip => k_is); (case i_BadSlip => k_is); (case t_BadSlip => k_is); (case l_BadSlip => k_is); (case c_BadSlip => k_is); (case k_BadSlip => k_is); (case n_BadSlip_part => k_is); (case a_BadLetter => k_is); (case x_BadLetter => k_is); (case sa_BadLetter => k_is); (case ga_BadLetter => k_is); (case gk_BadLetter => k_is); (case hs_BadLetter => k_is); (case hd_BadLetter => k_is); (case ha_BadLetter => k_is); (case hm_BadLetter => k_is); (case ty_BadLetter => k_is); (case kC_BadLetter => k_is); (case i_BadLetter => k_is); (case t_BadLetter => k_is); (case l_BadLetter => k_is); (case c_BadLetter => k_is); (case k_BadLetter => k_is); (case n_BadLetter_part => k_is); (case a_BadEnd => k_is); (case x_BadEnd => k_is); (case sa_BadEnd => k_is); (case ga_BadEnd => k_is); (case gk_BadEnd => k_is); (case hs_BadEnd => k_is); (case hd_BadEnd => k_is); (case ha_BadEnd => k_is); (case hm_BadEnd => k_is); (case ty_BadEnd => k_is); (case kC_BadEnd => k_is); (case i_BadEnd => k_is); (case t_BadEnd => k_is); (case l_BadEnd => k_is); (case c_BadEnd => k_is); (case k_BadEnd => k_is); (case n_BadEnd_part => k_is); (case a_BadText => k_is); (case x_BadText => k_is); (case sa_BadText => k_is); (case ga_BadText => k_is); (case gk_BadText => k_is); (case hs_BadText => k_is); (case hd_BadText => k_is); (case ha_BadText => k_is); (case hm_BadText => k_is); (case ty_BadText => k_is); (case kC_BadText => k_is); (case i_BadText => k_is); (case t_BadText => k_is); (case l_BadText => k_is); (case c_BadText => k_is); (case k_BadText => k_is); (case n_BadText_text => k_is); (case a_BadRow => k_is); (case x_BadRow => k_is); (case sa_BadRow => k_is); (case ga_BadRow => k_is); (case gk_BadRow => k_is); (case hs_BadRow => k_is); (case hd_BadRow => k_is); (case ha_BadRow => k_is); (case hm_BadRow => k_is); (case ty_BadRow => k_is); (case kC_BadRow => k_is); (case i_BadRow => k_is); (case t_BadRow => k_is); (case l_BadRow => k_is); (case c_BadRow => k_is); (case k_BadRow => k_is); (case n_BadRow_row => k_is); (case a_Fault => k_is); (case x_Fault => k_is); (case sa_Fault => k_is); (case ga_Fault => k_is); (case gk_Fault => k_is); (case hs_Fault => k_is); (case hd_Fault => k_is); (case ha_Fault => k_is); (case hm_Fault => k_is); (case ty_Fault => k_is); (case kC_Fault => k_is); (case i_Fault => k_is); (case t_Fault => k_is); (case l_Fault => k_is); (case c_Fault => k_is); (case k_Fault => k_is); (case n_Fault_code => k_is); (case n_Fault_at => k_is); (case a_NoSlip => k_is); (case x_NoSlip => k_is); (case sa_NoSlip => k_is); (case ga_NoSlip => k_is); (case gk_NoSlip => k_is); (case hs_NoSlip => k_is); (case hd_NoSlip => k_is); (case ha_NoSlip => k_is); (case hm_NoSlip => k_is); (case ty_NoSlip => k_is); (case kC_NoSlip => k_is); (case i_NoSlip => k_is); (case t_NoSlip => k_is); (case l_NoSlip => k_is); (case c_NoSlip => k_is); (case k_NoSlip => k_is); (case n_NoSlip_number => k_is); (case a_NoByte => k_is); (case x_NoByte => k_is); (case sa_NoByte => k_is); (case ga_NoByte => k_is); (case gk_NoByte => k_is); (case hs_NoByte => k_is); (case hd_NoByte => k_is); (case ha_NoByte => k_is); (case hm_NoByte => k_is); (case ty_NoByte => k_is); (case kC_NoByte => k_is); (case i_NoByte => k_is); (case t_NoByte => k_is); (case l_NoByte => k_is); (case c_NoByte => k_is); (case k_NoByte => k_is); (case n_NoByte_at => k_is); (case a_NoDeed => k_is); (case x_NoDeed => k_is); (case sa_NoDeed => k_is); (case ga_NoDeed => k_is); (case gk_NoDeed => k_is); (case hs_NoDeed => k_is); (case hd_NoDeed => k_is); (case ha_NoDeed => k_is); (case hm_NoDeed => k_is); (case ty_NoDeed => k_is); (case kC_NoDeed => k_is); (case i_NoDeed => k_is); (case t_NoDeed => k_is); (case l_NoDeed => k_is); (case c_NoDeed => k_is); (case k_NoDeed => k_is); (case n_NoDeed_many => k_is); (case a_Ended => k_is); (case x_Ended => k_is); (case sa_Ended => k_is); (case ga_Ended => k_is); (case gk_Ended => k_is); (case hs_Ended => k_is); (case hd_Ended => k_is); (case ha_Ended => k_is); (case hm_Ended => k_is); (case ty_Ended => k_is); (case kC_Ended => k_is); (case i_Ended => k_is); (case t_Ended => k_is); (case l_Ended => k_is); (case c_Ended => k_is); (case k_Ended => k_is); (case n_Ended_talk => k_is); (case a_Slip => k_is); (case pg_Slip => k_is); (case hd_Slip => k_is); (case po_Slip => k_is); (case sa_Slip => k_is); (case mk_Slip => k_is); (case kc_Slip => k_is); (case n_Slip_kind => k_is); (case n_Slip_talk => k_is); (case n_Slip_data => k_is); (case n_Slip_last => k_is); (case n_Slip_mask => k_is); (case at_Slip_init => k_is); (case i_Slip_init => k_is); (case l_Slip_init => k_is); (case c_Slip_init => k_is); (case k_Slip_init => k_is); (case lT_Slip_init => k_is); (case lE_Slip_init => k_is); (case d_Slip_init_last => k_is); (case d_Slip_init_mask => k_is); (case hn_ => k_is); (case ht_ => k_is); (case lt_BadSlip => decide); (case lt_BadLetter => decide); (case lt_BadEnd => decide); (case lt_BadText => decide); (case lt_BadRow => decide); (case lt_Fault => decide); (case lt_NoSlip => decide); (case lt_NoByte => decide); (case lt_NoDeed => decide); (case v_IndexError => k_is); (case v_LookupError => k_is); (case v_RuntimeError => k_is); (case v_ValueError => k_is); (case z_len => k_is); (case z_abs => k_is); (case z_int => k_is); (case z_bool => k_is); (case z_list => k_is); (case z_tuple => k_is); (case z_isinstance => k_is); (case z_all => k_is); (case z_min => k_is); (case z_max => k_is); (case z_range => k_is); (case z_repr => k_is); (case z_ValueError => k_is); (case z_IndexError => k_is); (case z_LookupError => k_is); (case z_RuntimeError => k_is)
