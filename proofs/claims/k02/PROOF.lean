import PyProof.Rows.All
import Wide.All
import OpenK.AllK
import Wide.FinOn
import HandS.ForMost
import HandS.Walk
import HandS.IsInst
import HandS.Zip
import HandS.Defaults
import HandS.MakeKwOnly
import HandS.Style
import HandS.DeepEq
import KE.GoesMore
import KE.GoesEnum
import KE.GoesZip
import HandS.RaiseMore
import HandS.TupAny
import PySem.Challenge.RW_slipwire_k02_masks_of_slips_by_number
set_option Elab.async false
set_option linter.all false
set_option maxRecDepth 100000
set_option maxHeartbeats 4000000
/-! my own rules over the hand layer: enumerate of a tuple, a call by keywords alone -/
namespace PySem
open Sem (wp)
set_option maxHeartbeats 1000000 in
theorem my_meets_enumT (t : Addr) (items : Array Value) :
    Meets (Builtin.«enumerate.__new__» ⟨[.type "enumerate", .ref t], []⟩) (fun _ R s => s.heap.IsTuple t items ∧
      R (.ok (.ret (.ref (s.heap.push { cls := .type "tuple_iterator", data := .fields #[.ref t, .int 0 0] }).objs.size)))
        { s with heap := (s.heap.push { cls := .type "tuple_iterator", data := .fields #[.ref t, .int 0 0] }).push { cls := .type "enumerate", data := .fields #[.none, .bool false, .ref s.heap.objs.size, rawInt 0, .none, .none] } }) :=
  .of_wp fun prog w A R s h => by
    obtain ⟨hp, g, d, tk, os⟩ := s
    obtain ⟨hl, h⟩ := h
    have hsub := sub_enumerate
    have hL : Heap.IsTuple (Shared.heap ⟨hp, g, d, tk, os⟩) t items := hl
    wp_walk using wpAny_pyIter_tuple hL
    refine wpAny_stack_any fun st => wpAny_pure ?_
    split
    · rename_i c _ _ _ _ _
      cases (c == Value.type "enumerate")
      · wp_walk using wpAny_pyIter_tuple hL
        exact ⟨_, rfl, h⟩
      · wp_walk using wpAny_pyIter_tuple hL
        exact ⟨_, rfl, h⟩
    · wp_walk using wpAny_pyIter_tuple hL
      exact ⟨_, rfl, h⟩
theorem my_call_enumT {prog : Program} {w : World} {A : Around} {E : Value → Shared → Prop} {s : Shared} {t : Addr} {items : Array Value} {Q : Value → Shared → Prop} (hL : s.heap.IsTuple t items)
    (h : ∀ h', IsEnum h' (s.heap.objs.size + 1) s.heap.objs.size 0 .none → h'.IsTupleIter s.heap.objs.size t 0 → h'.objs.size = s.heap.objs.size + 2 →
      (∀ b o, s.heap.get? b = some o → h'.get? b = some o) → Q (.ref (s.heap.objs.size + 1)) { s with heap := h' }) :
    wpAny (model prog w) A (call (.type "enumerate") [.ref t]) Q E s := by
  refine callType_new F.called_enumerate (by decide) (F.typeCall_enumerate_1 _) (F.newCall_enumerate_1 _) (fun obj => F.args_object_init_2 obj _) F.entry_enumerate_new
    (my_meets_enumT t items) ⟨hL, ?_⟩
  have hz : (s.heap.push { cls := .type "tuple_iterator", data := .fields #[.ref t, .int 0 0] }).objs.size = s.heap.objs.size + 1 := Heap.size_push ..
  show _ ∧ _
  rw [hz]
  have he : IsEnum ((s.heap.push { cls := .type "tuple_iterator", data := .fields #[.ref t, .int 0 0] }).push
      { cls := .type "enumerate", data := .fields #[.none, .bool false, .ref s.heap.objs.size, rawInt 0, .none, .none] }) (s.heap.objs.size + 1) s.heap.objs.size 0 .none := by
    have := Heap.get?_push_size (s.heap.push { cls := .type "tuple_iterator", data := .fields #[.ref t, .int 0 0] })
      (o := { cls := .type "enumerate", data := .fields #[.none, .bool false, .ref s.heap.objs.size, rawInt 0, .none, .none] }) rfl
    rw [hz] at this; exact this
  refine ⟨⟨_, he, rfl⟩, h _ he ⟨_, Heap.get?_push_of_some _ (Heap.get?_push_size _ rfl), rfl, rfl⟩ (by rw [Heap.size_push, hz]) fun b o x => Heap.get?_push_of_some _ (Heap.get?_push_of_some _ x)⟩
end PySem
namespace L2
open PySem PySem.Spec PyProof.Rows
/-! ### enumerate(tuple) -/
def IteT (K : PySem.W.Frag) (a : Addr) : It :=
  ⟨fun i H => ∃ (xs : List V) (x : V), SqT K H a xs ∧ xs[i]? = some x, fun i H v H' => ∃ T x, v = .ref T ∧ H T = none ∧ H' = upd H T (.tup [.int (i : Nat), x]) ∧ ∀ xs, SqT K H a xs → xs[i]? = some x, fun i H => ∃ xs : List V, SqT K H a xs ∧ xs.length = i⟩
theorem turn_enumT {P : Program} {w : World} {K : PySem.W.Frag} {elts : List Expr} {kk : Nat} {tpos : Pos} (a e it : Addr) :
    Turn P w K (.Tuple elts kk tpos) (IteT K a) [e, it] e (fun i h => (∃ old, IsEnum h e it ((i : Nat) : Int) old) ∧ h.IsTupleIter it a i ∧ e ≠ it ∧ a ≠ it ∧ a ≠ e) where
  mem := by simp
  obj := fun i h st b hb => by
    obtain ⟨⟨old, he⟩, ⟨o, ho, hc, hd⟩, _⟩ := st
    have e' : b = e ∨ b = it := by simpa using hb
    rcases e' with z | z
    · rw [z]; exact ⟨_, he, fun v q => nomatch q⟩
    · rw [z]; exact ⟨o, ho, fun v q => by rw [hd] at q; cases q⟩
  keep := fun i h h' st k => let ⟨⟨old, he⟩, hi, hne⟩ := st; ⟨⟨old, k e (by simp) _ he⟩, hi.at fun o q => k it (by simp) o q, hne⟩
  item := by
    intro X hP hw hK hc i pins s σ H E I hf st hg
    subst hP hw hK
    obtain ⟨⟨old, he⟩, hit, hne, hai, hae⟩ := st
    obtain ⟨xs, x, hq, hx⟩ := hg
    obtain ⟨its, rv, p, hz⟩ := I.tuple hq
    obtain ⟨u, hu, ru⟩ := rv.get hx
    have hel : e < s.heap.objs.size := Heap.lt_size he
    have hil : it < s.heap.objs.size := by obtain ⟨_, q, _⟩ := hit; exact Heap.lt_size q
    have hlt : i < its.toArray.size := by
      have h1 : i < its.length := (List.getElem?_eq_some_iff.mp hu).1
      rw [List.size_toArray]
      exact h1
    have D : Draws X.prog X.w X.A.in1 it [it, a] its.toArray.size (fun i v => its.toArray[i]? = some v) (fun i h => h.IsTupleIter it a i ∧ h.IsTuple a its.toArray) := Draws.tuple (show X.A.in1.handled = none from I.ok.hd hc) it a hai its.toArray
    refine wpAny_pyNext_enum_itemD D he ⟨hit, p⟩ hlt hne (by simp only [List.mem_cons, List.not_mem_nil, or_false, not_or]; exact ⟨hne, fun z => hae z.symm⟩) fun v h' tk hP ho hs' hT hsz hk => ?_
    obtain rfl : u = v := by
      have z : its.toArray[i]? = some u := by simpa using hu
      rw [z] at hP
      exact Option.some.inj hP
    refine ⟨_, rfl, wpAny_letOwnedTupleGo_enum (s := { s with heap := h', toks := tk + 1 }) ho fun h'' he' sb => ?_⟩
    have hT2 : h''.get? s.heap.objs.size = some { cls := .type "tuple", data := .seq #[.int i tk, u] } := (sb.2 _ (Nat.ne_of_gt hel)).trans hT
    have new : ObjOk X.prog X.w (upd H s.heap.objs.size (.tup [.int (i : Nat), x])) h'' s.heap.objs.size (.tup [.int (i : Nat), x]) :=
      ⟨by show 2 ≤ sizeLine; decide, [.int i tk, u], .cons ⟨_, rfl⟩ (.cons ru .nil), ⟨_, hT2, rfl, _, rfl⟩⟩
    have I1 : Inv X pins σ (upd H s.heap.objs.size (.tup [.int (i : Nat), x])) { s with heap := h'', toks := tk + 1 } :=
      I.turnedNew (ch := [e, it]) (fun b ob hb q => (sb.2 b (fun z => hb (by simp [z]))).trans (hk b ob (fun z => hb (by simp [z])) (fun z => hb (by simp [z])) q)) hf (Nat.le_refl _) new
    refine ⟨.ref s.heap.objs.size, _, I1, rfl, ⟨_, x, rfl, I.hok.fresh (Nat.le_refl _), rfl, fun ys hy => by rw [I.tuple_inj hy hq]; exact hx⟩, ⟨⟨u, ?_⟩, hs'.1.at fun o q => (sb.2 it (Ne.symm hne)).trans q, hne, hai, hae⟩, fun b hb => ?_⟩
    · have e1 : ((i + 1 : Nat) : Int) = (i : Int) + 1 := by omega
      rw [e1]; exact he'
    · have hb' : b < s.heap.objs.size := by
        have e' : b = e ∨ b = it := by simpa using hb
        rcases e' with z | z
        · rw [z]; exact hel
        · rw [z]; exact hil
      rw [upd_ne (Nat.ne_of_lt hb')]
      exact (hf b hb).1
  done := by
    intro X hP hw hK hc i pins s σ H E I hf st hg
    subst hP hw hK
    obtain ⟨⟨old, he⟩, hit, hne, hai, hae⟩ := st
    obtain ⟨xs, hq, hx⟩ := hg
    obtain ⟨its, rv, p, hz⟩ := I.tuple hq
    obtain ⟨f0, f1, f2, f3, f4, f5⟩ := hf it (by simp)
    have hl := rv.length
    have hi : i = its.toArray.size := by rw [List.size_toArray]; omega
    subst hi
    have D : Draws X.prog X.w X.A.in1 it [it, a] its.toArray.size (fun i v => its.toArray[i]? = some v) (fun i h => h.IsTupleIter it a i ∧ h.IsTuple a its.toArray) := Draws.tuple (show X.A.in1.handled = none from I.ok.hd hc) it a hai its.toArray
    exact wpAny_pyNext_enum_endD D he ⟨hit, p⟩ fun h' eb => ⟨rfl, I.turned (t' := s.toks) (fun b o hb q => eb b o hb q) f0 f1 f3 f4 f5⟩
  self := fun A i s Q E st h => let ⟨⟨_, he⟩, _⟩ := st; wpAny_pyIter_enum he h
/-- enumerate of a list or a tuple -/
def iEnumA (K : PySem.W.Frag) (ta : TA) : TI := fun σ H R => ta σ H fun vs H1 => ∃ a xs, vs = [.ref a] ∧ ((SqL K H1 a xs ∧ R (Ite K a) H1) ∨ (SqT K H1 a xs ∧ R (IteT K a) H1))
theorem pi_enumA {X : Cx} {e : Expr} {ta : TA} {p pos tpos : Pos} {elts : List Expr} {kk : Nat} (hg : Gl X "enumerate") (hm : X.mg "enumerate" = none) (ha : PA X [e] ta) (hs : starEach [e] X.env = [(false, eval e X.env)] := by rfl) :
    PI X (.Tuple elts kk tpos) (.Call (.Name "enumerate" p) [e] [] pos) (iEnumA X.K ta) := by
  refine ⟨fun pins s σ H R I h => ?_⟩
  refine Call_ (ld_blt I hg hm boot_enumerate (PyProof.Rows.callWith_type1 (thn (ha.run pos pins s σ H _ I h) fun us s1 ⟨vs, H1, I1, r1, q1⟩ => ?_) hs rfl))
  obtain ⟨a, xs, ex, q1⟩ := q1
  subst ex
  cases r1 with
  | cons r rr =>
    cases rr
    cases r
    have fresh2 : ∀ b, b ∈ [s1.heap.objs.size + 1, s1.heap.objs.size] → FpOk X pins H1 b := fun b hb => by
      have e' : b = s1.heap.objs.size + 1 ∨ b = s1.heap.objs.size := by simpa using hb
      have hle : s1.heap.objs.size ≤ b := by
        rcases e' with z | z
        · rw [z]; exact Nat.le_add_right _ _
        · rw [z]; exact Nat.le_refl _
      exact I1.fpOk hle (I1.hok.fresh hle)
    rcases q1 with ⟨hq, q⟩ | ⟨hq, q⟩
    · obtain ⟨its, rv, p', hz⟩ := I1.list hq
      refine call_enumerate_list p'.isList fun h' he hit hsz hk => wpAny_pyIter_enum he ?_
      have I2 : Inv X pins σ H1 { s1 with heap := h' } := I1.kept (t' := s1.toks) hk
      exact ⟨s1.heap.objs.size + 1, [s1.heap.objs.size + 1, s1.heap.objs.size], _, _, H1, rfl, I2, turn_enum a (s1.heap.objs.size + 1) s1.heap.objs.size, ⟨⟨.none, he⟩, hit, Nat.succ_ne_self _⟩, fresh2, q⟩
    · obtain ⟨its, rv, p', hz⟩ := I1.tuple hq
      obtain ⟨o1, ho1, _⟩ := id p'
      have hlt : a < s1.heap.objs.size := Heap.lt_size ho1
      refine my_call_enumT (show s1.heap.IsTuple a its.toArray from p') fun h' he hit hsz hk => wpAny_pyIter_enum he ?_
      have I2 : Inv X pins σ H1 { s1 with heap := h' } := I1.kept (t' := s1.toks) hk
      exact ⟨s1.heap.objs.size + 1, [s1.heap.objs.size + 1, s1.heap.objs.size], _, _, H1, rfl, I2, turn_enumT a (s1.heap.objs.size + 1) s1.heap.objs.size, ⟨⟨.none, he⟩, hit, Nat.succ_ne_self _, Nat.ne_of_lt hlt, Nat.ne_of_lt (Nat.lt_succ_of_lt hlt)⟩, fresh2, q⟩
theorem walk_enumT {K : PySem.W.Frag} {a : Addr} {xs : List V} : Walk (IteT K a) xs.length (fun H => SqT K H a xs) (YPair (fun i => some (.int (i : Nat))) (fun i => xs[i]?)) := by
  refine ⟨fun i _ hi q => ⟨xs, xs[i], q, by simp [hi]⟩, fun _ q => ⟨xs, q, rfl⟩, fun i H v H' _ q y => ?_⟩
  obtain ⟨T, x, h1, h2, h3, h4⟩ := y
  exact ⟨T, .int (i : Nat), x, h1, h2, h3, rfl, h4 xs q⟩
/-! ### a call by keywords alone -/
section
variable {X : Cx} {CX : CXT} {k n : Nat} {f : Addr} {fd : FuncData} {ps ks : List Str} {sp : Sp} {x : Str} {g : List Value → List Value → List Value} {gV : List V → List V → List V} {E : XK} {tk : TA} {kws : List Keyword} {p pos : Pos}
theorem pe_callN0 (F : FnOk X.prog X.w X.K X.mg X.base CX k f fd ps sp) (hr : Room k X.A) (hg : Gl X x) (hm : X.mg x = some (.ref f)) (hk : PySem.W.keepIn X.K (.ref f) = true) (hb : KBn X.K fd ps 0 ks g gV) (hx : Passes CX X E)
    (hkw : PK X kws tk) (hall : (backToKw pos (keywordEach kws X.env)).all (·.1.isSome) = true := by rfl) (hks : (backToKw pos (keywordEach kws X.env)).filterMap (·.1) = ks := by rfl)
    (hdb : (x == ("__debug__" : Str)) = false := by decide)
    (hpl : ((backTo pos (starEach [] X.env)).any (·.1) || (backToKw pos (keywordEach kws X.env)).any (·.1.isNone)) = false := by rfl) :
    PE X (.Call (.Name x p) [] kws pos) (tCallN 0 ks.length sp gV E tNil tk) := by
  refine ⟨fun pins s σ H Q I h => ?_⟩
  refine wpAny_Call_Name_kw (ld_glob I hg hm ?_ hdb)
  refine PySem.W.callWith_KW0 (h₀ := X.base) I.ok.mod.kin hk hall ?_ hpl
  refine thn (hkw.run pos pins s σ H _ I h) fun ws s2 ⟨zs, H2, I2, rz, l1, l2, q2⟩ => ⟨I2.kIn, ?_⟩
  rw [hks]
  exact run_fnN (us := []) (vs := []) F hr hb hx I2 .nil rz rfl l2 q2
end
end L2

set_option Elab.async false
set_option linter.all false
set_option maxRecDepth 100000
set_option maxHeartbeats 4000000
/-! my own rule: zip of two rows, each a list or a tuple (kind true: a tuple) -/
namespace L2
open PySem PySem.Spec PyProof.Rows
def SqX (K : PySem.W.Frag) (H : Hp) : Bool → Addr → List V → Prop
  | true, a, xs => SqT K H a xs
  | false, a, xs => SqL K H a xs
def ItX (h : Heap) : Bool → Addr → Addr → Nat → Prop
  | true, it, a, i => h.IsTupleIter it a i
  | false, it, a, i => h.IsListIter it a i
def SeX (h : Heap) : Bool → Addr → Array Value → Prop
  | true, a, its => h.IsTuple a its
  | false, a, its => h.IsList a its
theorem drawX {prog : Program} {w : World} {A : Around} (k : Bool) (hh : A.handled = none) (it a : Addr) (hne : a ≠ it) (its : Array Value) :
    Draws prog w A it [it, a] its.size (fun i v => its[i]? = some v) (fun i h => ItX h k it a i ∧ SeX h k a its) := by
  cases k with
  | true => exact Draws.tuple hh it a hne its
  | false => exact Draws.list hh it a hne its
theorem ItX.at {h h' : Heap} {k : Bool} {it a : Addr} {i : Nat} (x : ItX h k it a i) (e : ∀ o, h.get? it = some o → h'.get? it = some o) : ItX h' k it a i := by
  cases k with
  | true => exact Heap.IsTupleIter.at x e
  | false => exact Heap.IsListIter.at x e
theorem ItX.obj {h : Heap} {k : Bool} {it a : Addr} {i : Nat} (x : ItX h k it a i) : ∃ o, h.get? it = some o ∧ ∀ v, o.data ≠ .cell v := by
  cases k with
  | true =>
    obtain ⟨o, e, _, d⟩ := x
    exact ⟨o, e, fun v q => by rw [d] at q; cases q⟩
  | false =>
    obtain ⟨o, e, _, d⟩ := x
    exact ⟨o, e, fun v q => by rw [d] at q; cases q⟩
section
variable {X : Cx} {pins : List (Addr × Obj)} {σ : St} {H : Hp} {s : Shared} {k : Bool} {a : Addr} {xs ys : List V}
theorem sqx_get (I : Inv X pins σ H s) (h : SqX X.K H k a xs) : ∃ its : List Value, Vals xs its ∧ SeX s.heap k a its.toArray ∧ a < s.heap.objs.size := by
  cases k with
  | true =>
    obtain ⟨its, rv, p, _⟩ := I.tuple h
    obtain ⟨o, ho, _⟩ := id p
    exact ⟨its, rv, p, Heap.lt_size ho⟩
  | false =>
    obtain ⟨its, rv, p, _⟩ := I.list h
    exact ⟨its, rv, p.isList, p.lt⟩
theorem sqx_inj (I : Inv X pins σ H s) (h : SqX X.K H k a xs) (g : SqX X.K H k a ys) : xs = ys := by
  cases k with
  | true => exact I.tuple_inj h g
  | false => exact I.list_inj h g
end
theorem beginsX (k : Bool) (a : Addr) (its : Array Value) : ∃ o, Begins (.ref a) o (fun h => SeX h k a its) ∧ ∀ (h : Heap) (it : Addr), h.get? it = some o → ItX h k it a 0 := by
  cases k with
  | true => exact ⟨_, begins_tuple a its, fun h it e => ⟨_, e, rfl, rfl⟩⟩
  | false => exact ⟨_, begins_list a its, fun h it e => ⟨_, e, rfl, rfl⟩⟩
/-- two rows as they stand at each turn, the items in new pairs -/
def ItzG (K : PySem.W.Frag) (k1 k2 : Bool) (a b : Addr) : It :=
  ⟨fun i H => ∃ (xs ys : List V) (x y : V), SqX K H k1 a xs ∧ SqX K H k2 b ys ∧ xs[i]? = some x ∧ ys[i]? = some y,
    fun i H v H' => ∃ T x y, v = .ref T ∧ H T = none ∧ H' = upd H T (.tup [x, y]) ∧ (∀ xs, SqX K H k1 a xs → xs[i]? = some x) ∧ ∀ ys, SqX K H k2 b ys → ys[i]? = some y,
    fun i H => ∃ xs ys : List V, SqX K H k1 a xs ∧ SqX K H k2 b ys ∧ min xs.length ys.length = i⟩
theorem turn_zipG {P : Program} {w : World} {K : PySem.W.Frag} {elts : List Expr} {kk : Nat} {tpos : Pos} {k1 k2 : Bool} {a b z TI TO i1 i2 : Addr} (S : ZipSep2 z TI TO i1 i2 [i1, a] [i2, b]) (hi : i1 ≠ i2) (ha : a ≠ i1) (hb : b ≠ i2) :
    Turn P w K (.Tuple elts kk tpos) (ItzG K k1 k2 a b) [z, TI, TO, i1, i2] z (fun i h => IsZip h z TI TO .none ∧ IsTupOf2 h TI (.ref i1) (.ref i2) ∧ (∃ x y, IsTupOf2 h TO x y) ∧ ItX h k1 i1 a i ∧ ItX h k2 i2 b i) where
  mem := by simp
  obj := fun i h st c hc => by
    obtain ⟨q1, q2, ⟨x, y, q3⟩, q4, q5⟩ := st
    simp only [List.mem_cons, List.not_mem_nil, or_false] at hc
    rcases hc with rfl | rfl | rfl | rfl | rfl
    · exact ⟨_, q1, fun v q => nomatch q⟩
    · exact ⟨_, q2, fun v q => nomatch q⟩
    · exact ⟨_, q3, fun v q => nomatch q⟩
    · exact q4.obj
    · exact q5.obj
  keep := fun i h h' st kp => by
    obtain ⟨q1, q2, ⟨x, y, q3⟩, q4, q5⟩ := st
    exact ⟨kp z (by simp) _ q1, kp TI (by simp) _ q2, ⟨x, y, kp TO (by simp) _ q3⟩, q4.at fun o q => kp i1 (by simp) o q, q5.at fun o q => kp i2 (by simp) o q⟩
  item := by
    intro X hP hw hK hc i pins s σ H E I hf st hg
    subst hP hw hK
    obtain ⟨q1, q2, ⟨x0, y0, q3⟩, q4, q5⟩ := st
    obtain ⟨xs, ys, x, y, hqx, hqy, hx, hy⟩ := hg
    obtain ⟨its, rv, pa, la⟩ := sqx_get I hqx
    obtain ⟨jts, rw', pb, lb⟩ := sqx_get I hqy
    obtain ⟨u, hu, ru⟩ := rv.get hx
    obtain ⟨v, hv, rv'⟩ := rw'.get hy
    have lz : z < s.heap.objs.size := Heap.lt_size q1
    have n1 : i < its.toArray.size := by
      rw [List.size_toArray]
      exact (List.getElem?_eq_some_iff.mp hu).1
    have n2 : i < jts.toArray.size := by
      rw [List.size_toArray]
      exact (List.getElem?_eq_some_iff.mp hv).1
    have hh : X.A.in1.handled = none := I.ok.hd hc
    refine wpAny_pyNext_zipD2_item S (drawX k1 hh i1 a ha its.toArray) (drawX k2 hh i2 b hb jts.toArray) q1 q2 q3 ⟨q4, pa⟩ ⟨q5, pb⟩ n1 n2 fun u' v' h' tk hu' hv' z1 t1 d1 d2 hT hsz hk => ?_
    obtain rfl : u = u' := by
      have e : its.toArray[i]? = some u := by simpa using hu
      exact Option.some.inj (e.symm.trans hu')
    obtain rfl : v = v' := by
      have e : jts.toArray[i]? = some v := by simpa using hv
      exact Option.some.inj (e.symm.trans hv')
    refine ⟨_, rfl, wpAny_letOwnedTupleGo_zip (s := { s with heap := h', toks := tk }) z1 fun h'' z2 sb => ?_⟩
    have up : ∀ c o, c ≠ z → h'.get? c = some o → h''.get? c = some o := fun c o hc' e => (sb.2 c hc').trans e
    have tupN : h''.get? s.heap.objs.size = some { cls := .type "tuple", data := .seq #[u, v] } := up _ _ (Nat.ne_of_gt lz) hT
    have fresh : ObjOk X.prog X.w (upd H s.heap.objs.size (.tup [x, y])) h'' s.heap.objs.size (.tup [x, y]) :=
      ⟨by show 2 ≤ sizeLine; decide, [u, v], .cons ru (.cons rv' .nil), ⟨_, tupN, rfl, _, rfl⟩⟩
    have J : Inv X pins σ (upd H s.heap.objs.size (.tup [x, y])) { s with heap := h'', toks := tk } :=
      I.turnedNew (t' := tk) (ch := [z, TI, TO, i1, i2]) (fun c o hb' e => up c o (fun q => hb' (by simp [q])) (hk c o (fun q => hb' (by simp [q])) (fun q => hb' (by simp [q])) (fun q => hb' (by simp [q])) (fun q => hb' (by simp [q])) e)) hf (Nat.le_refl _) fresh
    refine ⟨.ref s.heap.objs.size, _, J, rfl, ⟨_, x, y, rfl, I.hok.fresh (Nat.le_refl _), rfl, fun l hl => by rw [sqx_inj I hl hqx]; exact hx, fun l hl => by rw [sqx_inj I hl hqy]; exact hy⟩, ⟨z2, ?_, ⟨u, v, ?_⟩, ?_, ?_⟩, fun c hcm => ?_⟩
    · exact up _ _ S.TIz (hk _ _ S.TIz S.TITO S.TIi1 S.TIi2 q2)
    · exact up _ _ S.TOz t1
    · exact d1.1.at fun o e => up _ o (Ne.symm S.zi1) e
    · exact d2.1.at fun o e => up _ o (Ne.symm S.zi2) e
    · have lc : c < s.heap.objs.size := by
        simp only [List.mem_cons, List.not_mem_nil, or_false] at hcm
        rcases hcm with rfl | rfl | rfl | rfl | rfl
        · exact lz
        · exact Heap.lt_size q2
        · exact Heap.lt_size q3
        · obtain ⟨o, e, _⟩ := q4.obj
          exact Heap.lt_size e
        · obtain ⟨o, e, _⟩ := q5.obj
          exact Heap.lt_size e
      rw [upd_ne (Nat.ne_of_lt lc)]
      exact (hf c hcm).1
  done := by
    intro X hP hw hK hc i pins s σ H E I hf st hg
    subst hP hw hK
    obtain ⟨q1, q2, ⟨x0, y0, q3⟩, q4, q5⟩ := st
    obtain ⟨xs, ys, hqx, hqy, hend⟩ := hg
    obtain ⟨its, rv, pa, _⟩ := sqx_get I hqx
    obtain ⟨jts, rw', pb, _⟩ := sqx_get I hqy
    have l1 := rv.length
    have l2 := rw'.length
    have hh : X.A.in1.handled = none := I.ok.hd hc
    exact wpAny_pyNext_zipD2_end (i := i) S (drawX k1 hh i1 a ha its.toArray) (drawX k2 hh i2 b hb jts.toArray) q1 q2 q3 ⟨q4, pa⟩ ⟨q5, pb⟩ (by rw [List.size_toArray]; omega) (by rw [List.size_toArray]; omega) (by rw [List.size_toArray, List.size_toArray]; omega)
      fun h' tk hk => ⟨rfl, I.turnedL (t' := tk) (ch := [z, TI, TO, i1, i2]) (fun c o hb' e => hk c o (fun q => hb' (by simp [q])) (fun q => hb' (by simp [q])) (fun q => hb' (by simp [q])) (fun q => hb' (by simp [q])) e) hf⟩
  self := fun A i s Q E st h => wpAny_pyIter_zip st.1 h
def iZipG (K : PySem.W.Frag) (ta : TA) : TI := fun σ H R => ta σ H fun vs H1 => ∃ (k1 k2 : Bool) (a b : Addr) (xs ys : List V), vs = [.ref a, .ref b] ∧ SqX K H1 k1 a xs ∧ SqX K H1 k2 b ys ∧ R (ItzG K k1 k2 a b) H1
theorem pi_zipG {X : Cx} {e e2 : Expr} {ta : TA} {p pos tpos : Pos} {elts : List Expr} {kk : Nat} (hg : Gl X "zip") (hm : X.mg "zip" = none) (ha : PA X [e, e2] ta)
    (hs : starEach [e, e2] X.env = (false, eval e X.env) :: starEach [e2] X.env := by rfl) (hpl : (backTo pos (starEach [e2] X.env)).any (·.1) = false := by rfl) :
    PI X (.Tuple elts kk tpos) (.Call (.Name "zip" p) [e, e2] [] pos) (iZipG X.K ta) := by
  refine ⟨fun pins s σ H R I h => ?_⟩
  refine Call_ (ld_blt I hg hm PyProof.Rows.boot_zip (PyProof.Rows.callWith_type1 (thn (ha.run pos pins s σ H _ I h) fun us s1 ⟨vs, H1, I1, r1, q1⟩ => ?_) hs hpl))
  obtain ⟨k1, k2, a, b, xs, ys, ex, hqx, hqy, q⟩ := q1
  subst ex
  obtain ⟨u1, u2, rfl, ra, rb⟩ := vals2 r1
  cases (show u1 = Value.ref a from ra)
  cases (show u2 = Value.ref b from rb)
  obtain ⟨its, rv, pa, la⟩ := sqx_get I1 hqx
  obtain ⟨jts, rw', pb, lb⟩ := sqx_get I1 hqy
  obtain ⟨o1, B1, i1⟩ := beginsX k1 a its.toArray
  obtain ⟨o2, B2, i2⟩ := beginsX k2 b jts.toArray
  refine zip_begins2 B1 B2 pa pb fun h' hz hTI hTO h1 h2 hsz hk => wpAny_pyIter_zip hz ?_
  have J : Inv X pins σ H1 { s1 with heap := h' } := I1.kept (t' := s1.toks) hk
  have sep := zip_sep2 (N := s1.heap.objs.size) (fp1 := [a]) (fp2 := [b]) (fun c hc => by rw [List.mem_singleton.mp hc]; exact la) (fun c hc => by rw [List.mem_singleton.mp hc]; exact lb)
  refine ⟨s1.heap.objs.size + 4, [s1.heap.objs.size + 4, s1.heap.objs.size + 2, s1.heap.objs.size + 3, s1.heap.objs.size, s1.heap.objs.size + 1], _, _, H1, rfl, J, turn_zipG sep (Nat.ne_of_lt (Nat.lt_succ_self _)) (Nat.ne_of_lt la) (Nat.ne_of_lt (Nat.lt_succ_of_lt lb)), ⟨hz, hTI, ⟨_, _, hTO⟩, i1 _ _ h1, i2 _ _ h2⟩, fun c hcm => ?_, q⟩
  have hle : s1.heap.objs.size ≤ c := by
    simp only [List.mem_cons, List.not_mem_nil, or_false] at hcm
    rcases hcm with rfl | rfl | rfl | rfl | rfl
    · exact Nat.le_add_right _ _
    · exact Nat.le_add_right _ _
    · exact Nat.le_add_right _ _
    · exact Nat.le_refl _
    · exact Nat.le_add_right _ _
  exact I1.fpOk hle (I1.hok.fresh hle)
theorem walk_zipG {K : PySem.W.Frag} {k1 k2 : Bool} {a b : Addr} {xs ys : List V} {n : Nat} (hn : n = min xs.length ys.length) : Walk (ItzG K k1 k2 a b) n (fun H => SqX K H k1 a xs ∧ SqX K H k2 b ys) (YPair (fun i => xs[i]?) (fun i => ys[i]?)) := by
  subst hn
  refine ⟨fun i _ hi q => ?_, fun _ q => ⟨xs, ys, q.1, q.2, rfl⟩, fun i H v H' _ q y => ?_⟩
  · have h1 : i < xs.length := by omega
    have h2 : i < ys.length := by omega
    exact ⟨xs, ys, xs[i], ys[i], q.1, q.2, by simp [h1], by simp [h2]⟩
  · obtain ⟨T, x, z, h1, h2, h3, h4, h5⟩ := y
    exact ⟨T, x, z, h1, h2, h3, h4 xs q.1, h5 ys q.2⟩
end L2

set_option Elab.async false
set_option linter.all false
set_option maxRecDepth 100000
set_option maxHeartbeats 4000000
/-! my own rules: repr of data, for defs that are called where no repr is under way -/
namespace L2
open PySem PySem.Spec PyProof.Rows
/-- a promise that is kept where no repr is under way -/
structure FnG (P : Program) (w : World) (K : PySem.W.Frag) (mg : Str → Option Value) (base : Heap) (k : Nat) (f : Addr) (fd : FuncData) (ps : List Str) (sp : Sp) : Prop where
  len : ∀ vs H Q E, sp vs H Q E → vs.length = ps.length
  run : ∀ (A : Around) (outer : List Env) (s : Shared) (H : Hp) (args : Args) (us : List Value) (vs : List V) (Q : VK) (E : XK), A.guards = some [] → Room k A → Env0 P w K mg base A outer s H →
    BindsTo s fd args (ps.zip us) → Vals vs us → sp vs H Q E → codeAny (model P w) A (.call (.ref f) args) (CR CX0 outer P w H s Q E) s
theorem FnOk.guarded {P : Program} {w : World} {K : PySem.W.Frag} {mg : Str → Option Value} {base : Heap} {k : Nat} {f : Addr} {fd : FuncData} {ps : List Str} {sp : Sp} (F : FnOk P w K mg base CX0 k f fd ps sp) : FnG P w K mg base k f fd ps sp :=
  ⟨F.len, fun A outer s H args us vs Q E _ hr e0 hb r h => F.run A outer s H args us vs Q E hr e0 hb r h⟩
/-- the rule for such a def -/
theorem Fun.okG {P : Program} {w : World} {K : PySem.W.Frag} {mg : Str → Option Value} {base : Heap} {x qual : Str} {st : Stmt} {f : Addr} {fd : FuncData} {N ps : List Str} {k : Nat} {sp : Sp} (F : Fun K x qual st f fd) (S : FnScope N ps (defScope st))
    (len : ∀ vs H Q E, sp vs H Q E → vs.length = ps.length)
    (hbody : ∀ (cdv : Value) (A : Around) (outer : List Env) (s : Shared) (H : Hp) (vs : List V) (Q : VK) (E : XK), A.guards = some [] → Room k (A.deeper (envOfC qual (defScope st) s.heap.objs.size f cdv)) → sp vs H Q E →
      ∃ t, PSs (cxOf CX0 P w K mg base N qual (defScope st) f cdv A outer s H E).nox (defBody st) t ∧ t { nx := fun _ H' => Q .non H', rt := Q } (start N vs) H) : FnG P w K mg base (k + 1) f fd ps sp := by
  obtain ⟨oc, od, kV, doc, pm, an, cdv, ct, osl, rfl, lk, hcd⟩ := F.ex
  refine ⟨len, fun A outer s H args us vs Q E hgd hr e0 hb r hsp => ?_⟩
  have many := len _ _ _ _ hsp
  have written : K.In s.heap := e0.mod.kin.keeps fun c oo z => (e0.bs c oo z).1
  have noLimit : s.heap.NoLimit := e0.mod.nolimit.keeps fun c oo z => (e0.bs c oo z).1
  have kinds : ∀ y ∈ ps.zip us, (defScope st).names.lookup y.1 = some .local ∨ ((defScope st).names.lookup y.1 = some .cell ∧ ((cellsFrom (s.heap.objs.size + 1) (defScope st).names []).lookup y.1).isSome = true) := fun ⟨n, v⟩ hy => by
    rcases S.par n (List.of_mem_zip hy).1 with z | z
    · exact .inl z
    · exact .inr ⟨z, PySem.W.cellsFrom_some _ _ _ (.inl z)⟩
  refine codeAny_call_function hr.depth (written _ _ lk) rfl S.co S.gen rfl (PySem.W.codeRec_of written hcd) (hb _ _ _ _ ?_)
  refine wpAny_newFunctionEnv_cells S.kind kinds fun env0 he s1 inside => ?_
  subst he
  refine ⟨noLimit.keeps inside.toInCall.keep, codeAny_func ?_⟩
  obtain ⟨t, ht, hq⟩ := hbody cdv A outer s H vs Q E hgd (hr.deeper _) hsp
  have J0 : Inv (cxOf CX0 P w K mg base N qual (defScope st) f cdv A outer s H E) [] (start N vs) H s1 := inv_start S hr.hd e0 many r inside
  refine wpAny_mono (ht.nox.run [] s1 (start N vs) H _ J0 hq) (fun flow s' hs => ?_) fun e s' hs => hs
  have close : ∀ {σ' : St} {H' : Hp} {v : V} {u : Value}, Inv (cxOf CX0 P w K mg base N qual (defScope st) f cdv A outer s H E) [] σ' H' s' → RelV v u → Q v H' → CE outer P w H s Q u s' :=
    fun {σ' H' v u} J rv z => ⟨v, H', J.os, J.bare, J.base, J.hok, rv, z⟩
  cases flow with
  | ret u =>
    obtain ⟨v, σ', H', J, rv, z⟩ := hs
    exact close J rv z
  | next =>
    obtain ⟨σ', H', J, z⟩ := hs
    exact close (v := V.non) (u := Value.none) J rfl z
  | brk =>
    obtain ⟨_, _, _, z⟩ := hs
    exact z.elim
  | cont =>
    obtain ⟨_, _, _, z⟩ := hs
    exact z.elim
/-- the law's own call -/
theorem law_callG {P : Program} {w : World} {K : PySem.W.Frag} {mg mb : Str → Option Value} {k : Nat} {fa a : Addr} {fd : FuncData} {x : Str} {sp : Sp} {s₁ : Shared} {vs : List Value} {ns : List Int}
    (KX : K.In s₁.heap) (hns : s₁.heap.Ns mainGlobals mg) (hb : s₁.heap.Ns builtinsNs mb) (hbb : ∀ x : Str, x ≠ "__name__" → mb x = bootBuiltins x) (hlim : s₁.heap.NoLimit) (hg : s₁.gens = #[])
    (ha : s₁.heap.get? a = some { cls := .type "list", data := .seq vs.toArray }) (hi : IntsAre vs ns) (hl : ns.length ≤ sizeLine) (hr : Room k callerA)
    (F : ∀ base : Heap, K.In base → base.Ns mainGlobals mg → FnG P w K mg base k fa fd [x] sp) (hbind : ∀ (s : Shared) (u : Value), BindsTo s fd ⟨[u], []⟩ [(x, u)])
    (hsp : ∀ H : Hp, Only H → SqL K H a (ns.map V.int) → sp [.ref a] H (fun v _ => v = .bl true) fun _ _ _ => False) :
    codeAny (model P w) callerA (.call (.ref fa) ⟨[.ref a], []⟩) (fun r s' => r = .ok (.ret (.bool true)) ∧ OldK s₁.heap s'.heap ∧ s'.os = s₁.os ∧ AllBare s'.gens) s₁ := by
  have pair := vals_ints hi
  have size := hi.length
  have from_ : ∀ H : Hp, Only H → SqL K H a (ns.map V.int) → HOk P w H s₁.heap → (∀ c, H c ≠ none → c = a) → (H a ≠ none → K.lookup a = none) →
      codeAny (model P w) callerA (.call (.ref fa) ⟨[.ref a], []⟩) (fun r s' => r = .ok (.ret (.bool true)) ∧ OldK s₁.heap s'.heap ∧ s'.os = s₁.os ∧ AllBare s'.gens) s₁ := by
    intro H only row held alone apart
    have below : ∀ {c : Addr} {oo : Obj}, s₁.heap.get? c = some oo → H c = none → (hidT s₁.heap H).get? c = some oo := fun z n => hidT_get z n
    have noDict : ∀ {c : Addr} {oo : Obj} {es : Array DictEntry} {ep : Nat}, s₁.heap.get? c = some oo → oo.data = .dict es ep → H c = none := fun {c oo es ep} z d => by
      cases hc : H c with
      | none => rfl
      | some u =>
        have same : c = a := alone c (by rw [hc]; simp)
        subst same
        rw [ha] at z
        cases z
        cases (show Data.seq vs.toArray _ = Data.dict es ep from d)
    have spaces : ∀ {c : Addr} {m : Str → Option Value}, s₁.heap.Ns c m → (hidT s₁.heap H).Ns c m := fun {c m} ⟨oo, es, ep, z, d, rest⟩ => ⟨oo, es, ep, below z (noDict z d), d, rest⟩
    have hidden : K.In (hidT s₁.heap H) := fun c oo z => below (KX c oo z) (by
      cases hc : H c with
      | none => rfl
      | some u =>
        have same : c = a := alone c (by rw [hc]; simp)
        subst same
        rw [apart (by rw [hc]; simp)] at z
        cases z)
    have module_ : Mod K mg (hidT s₁.heap H) := ⟨hidden, spaces hns, ⟨mb, spaces hb, hbb⟩, let ⟨mc, h1, h2⟩ := hlim; ⟨mc, spaces h1, h2⟩⟩
    have start_ : Env0 P w K mg (hidT s₁.heap H) callerA [] s₁ H := ⟨rfl, module_, fun c oo z => of_hidT z, Nat.le_of_eq (hidT_size _ _), trivial, fun c hc => absurd (show c ∈ ([] : List Addr) from hc) (by simp), held, .of_eq hg⟩
    refine codeAny_mono ((F _ hidden (spaces hns)).run callerA [] s₁ H ⟨[.ref a], []⟩ [.ref a] [.ref a] _ _ rfl hr start_ (hbind s₁ (.ref a)) (.cons rfl .nil) (hsp H only row)) fun r s' after => ?_
    cases r with
    | error e => exact after.elim
    | ok flow =>
      cases flow with
      | next => exact after.elim
      | brk => exact after.elim
      | cont => exact after.elim
      | ret u =>
        obtain ⟨v, H', os, bare, un, held', rel, z⟩ := after
        cases (show v = .bl true from z)
        obtain rfl : u = Value.bool true := rel
        refine ⟨rfl, OldK.of_keep fun c oo e => ?_, os, bare⟩
        cases hc : H c with
        | none => exact un.keep c oo e hc (fun y => absurd (show c ∈ ([] : List Addr) from y) (by simp)) (by simp)
        | some u =>
          rcases only c with y | ⟨ob, xs, y⟩
          · rw [hc] at y
            cases y
          · have y' := un.frzs c ob _ y
            obtain ⟨g1, _⟩ := held c _ y
            obtain ⟨g2, _⟩ := held' c _ y'
            rw [e] at g1
            cases g1
            exact g2
  cases look : K.lookup a with
  | some oo =>
    have e := KX a oo look
    rw [ha] at e
    cases e
    exact from_ (fun _ => none) (fun _ => .inl rfl) (.inr ⟨_, vs.toArray, _, look, rfl, rfl, rfl, by rw [List.size_toArray, size]; exact hl, by simpa using pair⟩) (fun c u z => by cases (show (none : Option HO) = some u from z)) (fun c z => absurd rfl z) fun z => absurd rfl z
  | none =>
    refine from_ (fun c => if c = a then some (.frz { cls := .type "list", data := .seq vs.toArray } (.lst (ns.map V.int))) else none) (fun c => ?_) (.inl (.inr ⟨{ cls := .type "list", data := .seq vs.toArray }, if_pos rfl⟩)) (fun c u z => ?_) (fun c z => ?_) fun _ => look
    · by_cases hc : c = a
      · exact .inr ⟨_, _, if_pos hc⟩
      · exact .inl (if_neg hc)
    · by_cases hc : c = a
      · cases (if_pos hc).symm.trans z
        subst hc
        exact ⟨ha, by rw [List.length_map]; exact hl, vs, _, pair, ha⟩
      · cases (if_neg hc).symm.trans z
    · by_cases hc : c = a
      · exact hc
      · exact absurd (if_neg hc) z
theorem walk_ofG {l : PySem.W.OpenLaw} {n k : Nat} {q : Program} {loose : List Str} {XP : (Str → Option Value) → Heap → Prop} {YP : World → Heap → Prop} {d : DefRec} {K : Params → PySem.W.Frag} {sp : World → Sp} {x : Str}
    (hn : l.most = some n) (hn2 : n ≤ sizeLine) (hdf : d.params.defaults = []) (hr : Room k callerA)
    (hY : ∀ (w : World) (h : Heap), YP w h → (K w.params).In h)
    (F : ∀ (w : World) (mg : Str → Option Value) (fa : Addr) (h : Heap), (K w.params).In h → h.Ns mainGlobals mg → mg d.name = some (.ref fa) →
      ∃ fd : FuncData, (∀ (s : Shared) (u : Value), BindsTo s fd ⟨[u], []⟩ [(x, u)]) ∧ ∀ base : Heap, (K w.params).In base → base.Ns mainGlobals mg → FnG l.prog w (K w.params) mg base k fa fd [x] (sp w))
    (hsp : ∀ (w : World) (H : Hp) (a : Addr) (ns : List Int), ns.length ≤ n → Only H → SqL (K w.params) H a (ns.map V.int) → sp w [.ref a] H (fun v _ => v = .bl true) fun _ _ _ => False) :
    PySem.W.WalkO q loose XP YP l.row.toRowW d [] (fun f vs => PySem.call f vs) := by
  refine Att.attach_call hn hdf fun w s₀ s₁ mg mb fa o pm cd doc a vs ns G Y ho hd hcd hmg hobj hints hlen hg => ?_
  obtain ⟨fd, hb, hF⟩ := F w mg fa _ (hY w _ Y) G.T.g hmg
  exact law_callG (hY w _ Y) G.T.g G.T.b G.T.builtins G.T.nolimit hg hobj hints (Nat.le_trans hlen hn2) hr hF hb fun H only row => hsp w H a ns hlen only row
/-! ### repr of data -/
mutual
theorem dp_noDict {K : PySem.W.Frag} {H : Hp} : ∀ (d : PyData) {v : V}, Dp K H v d → d.hasDict = false
  | .none, _, _ => rfl
  | .bool _, _, _ => rfl
  | .int _, _, _ => rfl
  | .str _, _, _ => rfl
  | .list ds, _, h => by
    cases h with
    | lst _ a => exact dpAll_noDict ds a
  | .tuple ds, _, h => by
    cases h with
    | tup _ a => exact dpAll_noDict ds a
  | .dict _, _, h => nomatch h
theorem dpAll_noDict {K : PySem.W.Frag} {H : Hp} : ∀ (ds : List PyData) {vs : List V}, DpAll K H vs ds → PyData.hasDictAll ds = false
  | [], _, _ => rfl
  | d :: ds, _, h => by
    cases h with
    | cons a b =>
      show (d.hasDict || PyData.hasDictAll ds) = false
      rw [dp_noDict d a, dpAll_noDict ds b]
      rfl
end
def rReprD (K : PySem.W.Frag) : List V → Hp → VK → Prop := fun xs H Q => ∃ (x : V) (d : PyData), xs = [x] ∧ Dp K H x d ∧ d.showable = true ∧ d.depth ≤ 60 ∧ d.shown.length ≤ sizeLine ∧ Q (.str d.shown) H
theorem call_reprD {X : Cx} (hg : X.A.guards = some []) (hu : X.A.units + 64 < cLine) : CallR X (.builtin "repr") (rReprD X.K) := by
  intro pins s σ H xs us Q I r h
  obtain ⟨x, d, rfl, hd, hs, hdep, hz, q⟩ := h
  obtain ⟨u, rfl, ru⟩ := vals1 r
  obtain ⟨as, rd⟩ := Dp.reads I d x u hd ru
  have nd := dp_noDict d hd
  cases hd with
  | non =>
    cases (show u = Value.none from ru)
    exact PySem.P.repr_of_none ⟨.str _, H, I.tok _, ⟨_, rfl⟩, q⟩
  | bl b =>
    cases (show u = Value.bool b from ru)
    exact PySem.P.repr_of_bool ⟨.str _, H, I.tok _, ⟨_, rfl⟩, q⟩
  | int i =>
    obtain ⟨t, rfl⟩ := ru
    exact PySem.P.repr_of_int (of_decide_eq_true hs) ⟨.str _, H, I.tok _, ⟨_, rfl⟩, q⟩
  | str y =>
    obtain ⟨t, rfl⟩ := ru
    exact PySem.P.repr_of_str ⟨.str _, H, I.tok _, ⟨_, rfl⟩, q⟩ (hsz := hz)
  | lst hq ha =>
    cases ru
    exact repr_of_reads' rd hs (fun z => by rw [nd] at z; cases z) hg (by omega) (fun _ _ e => e) (fun h' u tk hk => ⟨.str _, H, I.kept (t' := tk) hk, ⟨_, rfl⟩, q⟩) (hsz := hz)
  | tup hq ha =>
    cases ru
    exact repr_of_reads' rd hs (fun z => by rw [nd] at z; cases z) hg (by omega) (fun _ _ e => e) (fun h' u tk hk => ⟨.str _, H, I.kept (t' := tk) hk, ⟨_, rfl⟩, q⟩) (hsz := hz)
end L2

set_option Elab.async false
set_option linter.all false
set_option maxRecDepth 100000
set_option maxHeartbeats 4000000
/-! my own: how long a shown datum is at most; data that stand apart from one place -/
namespace Cm
open PySem PySem.Spec PyProof.Rows L2
mutual
/-- a bound of the shown text's length; ints and texts as far as they can be shown -/
def wt : PyData → Nat
  | .none => 4
  | .bool _ => 5
  | .int _ => 2000
  | .str x => 10 * x.length + 2
  | .list xs => wtAll xs + 4
  | .tuple xs => wtAll xs + 4
  | .dict _ => 0
def wtAll : List PyData → Nat
  | [] => 0
  | x :: xs => wt x + 2 + wtAll xs
end
mutual
def okD : PyData → Bool
  | .none => true
  | .bool _ => true
  | .int i => decide (i.natAbs.log2 < 1920)
  | .str x => x.cps.toList.all fun c => decide (c < 16 ^ 8)
  | .list xs => okAll xs
  | .tuple xs => okAll xs
  | .dict _ => false
def okAll : List PyData → Bool
  | [] => true
  | x :: xs => okD x && okAll xs
end
theorem listText_le (ts : List Str) : (listText ts).length ≤ piled ts + 2 := by
  unfold listText
  rw [Str.length_append]
  cases ts with
  | nil => exact (by decide : (textFrom 0 "[" []).length + ("]" : Str).length ≤ piled [] + 2)
  | cons t r =>
    show (textFrom 1 (("[" : Str) ++ (if 0 > 0 then ", " else "" : String) ++ t) r).length + ("]" : Str).length ≤ _
    rw [textFrom_length_pos r 1 _ (by decide), Str.length_append, Str.length_append]
    have e1 : ("[" : Str).length = 1 := rfl
    have e2 : (((if 0 > 0 then ", " else "" : String)) : Str).length = 0 := rfl
    have e3 : ("]" : Str).length = 1 := rfl
    have e4 : piled (t :: r) = t.length + 2 + piled r := by simp [piled]
    rw [e1, e2, e3, e4]
    omega
theorem tupleText_le (ts : List Str) : (tupleText ts).length ≤ piled ts + 2 := by
  unfold tupleText
  rw [Str.length_append, Str.length_append]
  cases ts with
  | nil => exact (by decide : ("(" : Str).length + (Str.join ", " []).length + (((if ([] : List Str).length == 1 then ",)" else ")" : String)) : Str).length ≤ piled [] + 2)
  | cons t r =>
    have j := join_length_add (t :: r) (by simp)
    have e1 : ("(" : Str).length = 1 := rfl
    have e2 : (((if (t :: r).length == 1 then ",)" else ")" : String)) : Str).length ≤ 2 := by
      split
      · exact (by decide : (((",)" : String)) : Str).length ≤ 2)
      · exact (by decide : (((")" : String)) : Str).length ≤ 2)
    omega
mutual
theorem shown_le : ∀ d : PyData, okD d = true → d.shown.length ≤ wt d
  | .none, _ => by decide
  | .bool b, _ => by cases b <;> decide
  | .int i, h => by
    have := int_text_len_1921 (i := i) (of_decide_eq_true h)
    show (Str.ofString (toString i)).length ≤ 2000
    omega
  | .str x, h => PySem.StrLaws.reprText_len x fun c hc => of_decide_eq_true (List.all_eq_true.mp h c hc)
  | .list xs, h => by
    have := shownAll_le xs h
    have := listText_le (PyData.shownAll xs)
    show (listText (PyData.shownAll xs)).length ≤ wtAll xs + 4
    omega
  | .tuple xs, h => by
    have := shownAll_le xs h
    have := tupleText_le (PyData.shownAll xs)
    show (tupleText (PyData.shownAll xs)).length ≤ wtAll xs + 4
    omega
  | .dict _, h => nomatch h
theorem shownAll_le : ∀ ds : List PyData, okAll ds = true → piled (PyData.shownAll ds) ≤ wtAll ds
  | [], _ => by decide
  | d :: ds, h => by
    have h' := Bool.and_eq_true_iff.mp h
    have a := shown_le d h'.1
    have b := shownAll_le ds h'.2
    have e : piled (PyData.shownAll (d :: ds)) = d.shown.length + 2 + piled (PyData.shownAll ds) := by simp [piled, PyData.shownAll]
    rw [e]
    show _ ≤ wt d + 2 + wtAll ds
    omega
end
mutual
theorem ok_showable : ∀ d : PyData, okD d = true → d.showable = true
  | .none, _ => rfl
  | .bool _, _ => rfl
  | .int _, h => h
  | .str _, _ => rfl
  | .list xs, h => okAll_showable xs h
  | .tuple xs, h => okAll_showable xs h
  | .dict _, h => nomatch h
theorem okAll_showable : ∀ ds : List PyData, okAll ds = true → PyData.showableAll ds = true
  | [], _ => rfl
  | d :: ds, h => by
    have h' := Bool.and_eq_true_iff.mp h
    show (d.showable && PyData.showableAll ds) = true
    rw [ok_showable d h'.1, okAll_showable ds h'.2]
    rfl
end
/-! ### data apart from some places -/
mutual
inductive Da (S : Addr → Prop) (H : Hp) : V → PyData → Prop
  | non : Da S H .non .none
  | bl (b : Bool) : Da S H (.bl b) (.bool b)
  | int (i : Int) : Da S H (.int i) (.int i)
  | str (x : Str) : Da S H (.str x) (.str x)
  | lst {a : Addr} {xs : List V} {ds : List PyData} : ¬ S a → H a = some (.lst xs) → DaAll S H xs ds → Da S H (.ref a) (.list ds)
  | tup {a : Addr} {xs : List V} {ds : List PyData} : ¬ S a → H a = some (.tup xs) → DaAll S H xs ds → Da S H (.ref a) (.tuple ds)
inductive DaAll (S : Addr → Prop) (H : Hp) : List V → List PyData → Prop
  | nil : DaAll S H [] []
  | cons {v : V} {vs : List V} {d : PyData} {ds : List PyData} : Da S H v d → DaAll S H vs ds → DaAll S H (v :: vs) (d :: ds)
end
mutual
theorem Da.dp {S : Addr → Prop} {H : Hp} {K : PySem.W.Frag} : ∀ (d : PyData) {v : V}, Da S H v d → Dp K H v d
  | .none, _, h => by cases h; exact .non
  | .bool b, _, h => by cases h; exact .bl b
  | .int i, _, h => by cases h; exact .int i
  | .str x, _, h => by cases h; exact .str x
  | .list ds, _, h => by
    cases h with
    | lst _ e a => exact .lst (.inl (.inl e)) (Da.dpAll ds a)
  | .tuple ds, _, h => by
    cases h with
    | tup _ e a => exact .tup (.inl (.inl e)) (Da.dpAll ds a)
  | .dict _, _, h => nomatch h
theorem Da.dpAll {S : Addr → Prop} {H : Hp} {K : PySem.W.Frag} : ∀ (ds : List PyData) {vs : List V}, DaAll S H vs ds → DpAll K H vs ds
  | [], _, h => by cases h; exact .nil
  | d :: ds, _, h => by
    cases h with
    | cons a b => exact .cons (Da.dp d a) (Da.dpAll ds b)
end
mutual
theorem Da.keep {S : Addr → Prop} {H H' : Hp} (k : ∀ b o, ¬ S b → H b = some o → H' b = some o) : ∀ (d : PyData) {v : V}, Da S H v d → Da S H' v d
  | .none, _, h => by cases h; exact .non
  | .bool b, _, h => by cases h; exact .bl b
  | .int i, _, h => by cases h; exact .int i
  | .str x, _, h => by cases h; exact .str x
  | .list ds, _, h => by
    cases h with
    | lst n e a => exact .lst n (k _ _ n e) (Da.keepAll k ds a)
  | .tuple ds, _, h => by
    cases h with
    | tup n e a => exact .tup n (k _ _ n e) (Da.keepAll k ds a)
  | .dict _, _, h => nomatch h
theorem Da.keepAll {S : Addr → Prop} {H H' : Hp} (k : ∀ b o, ¬ S b → H b = some o → H' b = some o) : ∀ (ds : List PyData) {vs : List V}, DaAll S H vs ds → DaAll S H' vs ds
  | [], _, h => by cases h; exact .nil
  | d :: ds, _, h => by
    cases h with
    | cons a b => exact .cons (Da.keep k d a) (Da.keepAll k ds b)
end
theorem DaAll.length {S : Addr → Prop} {H : Hp} : ∀ {vs : List V} {ds : List PyData}, DaAll S H vs ds → vs.length = ds.length
  | _, _, .nil => rfl
  | _, _, .cons _ t => congrArg Nat.succ (DaAll.length t)
theorem DaAll.get {S : Addr → Prop} {H : Hp} : ∀ {vs : List V} {ds : List PyData} {i : Nat} {v : V}, DaAll S H vs ds → vs[i]? = some v → ∃ d, ds[i]? = some d ∧ Da S H v d
  | _, _, _, _, .nil, e => by simp at e
  | _, _, 0, _, .cons a _, e => by simp at e; subst e; exact ⟨_, rfl, a⟩
  | _, _, i + 1, _, .cons _ t, e => by
    obtain ⟨d, h1, h2⟩ := DaAll.get (i := i) t (by simpa using e)
    exact ⟨d, by simpa using h1, h2⟩
theorem DaAll.append {S : Addr → Prop} {H : Hp} : ∀ {vs us : List V} {ds es : List PyData}, DaAll S H vs ds → DaAll S H us es → DaAll S H (vs ++ us) (ds ++ es)
  | _, _, _, _, .nil, s => s
  | _, _, _, _, .cons a t, s => .cons a (DaAll.append t s)
theorem DaAll.ints {S : Addr → Prop} {H : Hp} : ∀ ns : List Int, DaAll S H (ns.map V.int) (ns.map PyData.int)
  | [] => .nil
  | n :: ns => .cons (.int n) (DaAll.ints ns)
/-- the kinds of a datum -/
theorem Da.kit {S : Addr → Prop} {H : Hp} {K : PySem.W.Frag} {v : V} {d : PyData} (h : Da S H v d) : ∃ (n : String) (bi bb bt : Bool), TyX K H v (.type n) ∧ PySem.W.kitOne K (.type n) (.type "int") = some bi ∧ PySem.W.kitOne K (.type n) (.type "bool") = some bb ∧
    PySem.W.kitOne K (.type n) (.type "tuple") = some bt ∧ (bi && !bb) = (match d with | .int _ => true | _ => false) ∧ bt = (match d with | .tuple _ => true | _ => false) := by
  cases h with
  | non => exact ⟨"NoneType", false, false, false, .base .non, kit_ty (by decide +kernel), kit_ty (by decide +kernel), kit_ty (by decide +kernel), rfl, rfl⟩
  | bl y => exact ⟨"bool", true, true, false, .base (.bl y), kit_ty (by decide +kernel), kit_ty (by decide +kernel), kit_ty (by decide +kernel), rfl, rfl⟩
  | int y => exact ⟨"int", true, false, false, .base (.int y), kit_ty (by decide +kernel), kit_ty (by decide +kernel), kit_ty (by decide +kernel), rfl, rfl⟩
  | str y => exact ⟨"str", false, false, false, .base (.str y), kit_ty (by decide +kernel), kit_ty (by decide +kernel), kit_ty (by decide +kernel), rfl, rfl⟩
  | lst _ e _ => exact ⟨"list", false, false, false, .base (.lst e), kit_ty (by decide +kernel), kit_ty (by decide +kernel), kit_ty (by decide +kernel), rfl, rfl⟩
  | tup _ e _ => exact ⟨"tuple", false, false, true, .base (.tup e), kit_ty (by decide +kernel), kit_ty (by decide +kernel), kit_ty (by decide +kernel), rfl, rfl⟩
end Cm

set_option Elab.async false
set_option linter.all false
set_option maxRecDepth 100000
set_option maxHeartbeats 4000000
namespace K2
open PySem PySem.Spec PyProof.Rows L2
/-! ### the text -/
def topS (i : Nat) : Stmt := PySem.Challenge.pw_slipwire_k02_masks_of_slips_by_number.main.body.getD i (.Pass ⟨0, 0, 0, 0⟩)
abbrev s_is_number : Stmt := topS 1
abbrev s_is_byte : Stmt := topS 2
abbrev s_is_mask : Stmt := topS 5
abbrev s_mask_of : Stmt := topS 6
abbrev s_cell_at : Stmt := topS 8
abbrev s_box : Stmt := topS 9
abbrev s_take : Stmt := topS 10
abbrev s_same : Stmt := topS 11
abbrev s_of : Stmt := topS 12
abbrev s_bytes : Stmt := topS 13
abbrev s_due : Stmt := topS 14
abbrev s_l_is_mask : Stmt := topS 15
abbrev s_bent : Stmt := topS 16
abbrev s_law : Stmt := topS 17
theorem sc_is_number : FnScope ["thing"] ["thing"] (defScope s_is_number) := ⟨rfl, rfl, rfl, by decide +kernel, rfl, by decide +kernel, by decide +kernel⟩
theorem sc_is_byte : FnScope ["thing"] ["thing"] (defScope s_is_byte) := ⟨rfl, rfl, rfl, by decide +kernel, rfl, by decide +kernel, by decide +kernel⟩
theorem sc_is_mask : FnScope ["thing", "part"] ["thing"] (defScope s_is_mask) := ⟨rfl, rfl, rfl, by decide +kernel, rfl, by decide +kernel, by decide +kernel⟩
theorem sc_mask_of : FnScope ["first", "number", "byte", "step"] ["first", "number"] (defScope s_mask_of) := ⟨rfl, rfl, rfl, by decide +kernel, rfl, by decide +kernel, by decide +kernel⟩
theorem sc_cell_at : FnScope ["_law_script", "_law_k"] ["_law_script", "_law_k"] (defScope s_cell_at) := ⟨rfl, rfl, rfl, by decide +kernel, rfl, by decide +kernel, by decide +kernel⟩
theorem sc_box : FnScope ["_law_script", "_law_k", "_law_cell"] ["_law_script", "_law_k"] (defScope s_box) := ⟨rfl, rfl, rfl, by decide +kernel, rfl, by decide +kernel, by decide +kernel⟩
theorem sc_take : FnScope ["_law_box_here", "_law_count", "_law_found", "_law_once", "_law_twice"] ["_law_box_here", "_law_count"] (defScope s_take) := ⟨rfl, rfl, rfl, by decide +kernel, rfl, by decide +kernel, by decide +kernel⟩
theorem sc_same : FnScope ["_law_found", "_law_due_here", "_law_one", "_law_two"] ["_law_found", "_law_due_here"] (defScope s_same) := ⟨rfl, rfl, rfl, by decide +kernel, rfl, by decide +kernel, by decide +kernel⟩
theorem sc_of : FnScope ["_law_box_here", "_law_some"] ["_law_box_here", "_law_some"] (defScope s_of) := ⟨rfl, rfl, rfl, by decide +kernel, rfl, by decide +kernel, by decide +kernel⟩
theorem sc_bytes : FnScope ["_law_box_here", "_law_count", "_law_make", "_law_found", "_law_turn"] ["_law_box_here", "_law_count"] (defScope s_bytes) := ⟨rfl, rfl, rfl, by decide +kernel, rfl, by decide +kernel, by decide +kernel⟩
theorem sc_due : FnScope ["_law_veil", "_law_count", "_law_spot"] ["_law_veil", "_law_count"] (defScope s_due) := ⟨rfl, rfl, rfl, by decide +kernel, rfl, by decide +kernel, by decide +kernel⟩
theorem sc_l_is_mask : FnScope ["_law_some", "_law_one"] ["_law_some"] (defScope s_l_is_mask) := ⟨rfl, rfl, rfl, by decide +kernel, rfl, by decide +kernel, by decide +kernel⟩
theorem sc_bent : FnScope ["_law_box_here", "_law_veil", "_law_way", "_law_spot", "_law_part", "_law_odd"] ["_law_box_here", "_law_veil"] (defScope s_bent) := ⟨rfl, rfl, rfl, by decide +kernel, rfl, by decide +kernel, by decide +kernel⟩
theorem sc_law : FnScope ["_law_script", "_law_k", "_law_box_here", "_law_turn", "_law_veil", "_law_some", "_law_count", "_law_due_here", "_law_told", "_law_things", "_law_kept", "_law_found", "_law_step"] ["_law_script"] (defScope s_law) := ⟨rfl, rfl, rfl, by decide +kernel, rfl, by decide +kernel, by decide +kernel⟩
/-! ### what stands behind the top -/
structure Tx (K : PySem.W.Frag) (mg : Str → Option Value) where
  f_is_number : Addr
  fd_is_number : FuncData
  F_is_number : Fun K "is_number" "is_number" s_is_number f_is_number fd_is_number
  g_is_number : mg "is_number" = some (.ref f_is_number)
  b_is_number : Binds K fd_is_number ["thing"] []
  f_is_byte : Addr
  fd_is_byte : FuncData
  F_is_byte : Fun K "is_byte" "is_byte" s_is_byte f_is_byte fd_is_byte
  g_is_byte : mg "is_byte" = some (.ref f_is_byte)
  b_is_byte : Binds K fd_is_byte ["thing"] []
  f_is_mask : Addr
  fd_is_mask : FuncData
  F_is_mask : Fun K "is_mask" "is_mask" s_is_mask f_is_mask fd_is_mask
  g_is_mask : mg "is_mask" = some (.ref f_is_mask)
  b_is_mask : Binds K fd_is_mask ["thing"] []
  f_mask_of : Addr
  fd_mask_of : FuncData
  F_mask_of : Fun K "mask_of" "mask_of" s_mask_of f_mask_of fd_mask_of
  g_mask_of : mg "mask_of" = some (.ref f_mask_of)
  b_mask_of : Binds K fd_mask_of ["first", "number"] []
  f_cell_at : Addr
  fd_cell_at : FuncData
  F_cell_at : Fun K "_law_cell_at" "_law_cell_at" s_cell_at f_cell_at fd_cell_at
  g_cell_at : mg "_law_cell_at" = some (.ref f_cell_at)
  b_cell_at : Binds K fd_cell_at ["_law_script", "_law_k"] []
  f_box : Addr
  fd_box : FuncData
  F_box : Fun K "_law_box" "_law_box" s_box f_box fd_box
  g_box : mg "_law_box" = some (.ref f_box)
  b_box : Binds K fd_box ["_law_script", "_law_k"] []
  f_take : Addr
  fd_take : FuncData
  F_take : Fun K "_law_take" "_law_take" s_take f_take fd_take
  g_take : mg "_law_take" = some (.ref f_take)
  b_take : Binds K fd_take ["_law_box_here", "_law_count"] []
  f_same : Addr
  fd_same : FuncData
  F_same : Fun K "_law_same" "_law_same" s_same f_same fd_same
  g_same : mg "_law_same" = some (.ref f_same)
  b_same : Binds K fd_same ["_law_found", "_law_due_here"] []
  f_of : Addr
  fd_of : FuncData
  F_of : Fun K "_law_of" "_law_of" s_of f_of fd_of
  g_of : mg "_law_of" = some (.ref f_of)
  b_of : Binds K fd_of ["_law_box_here", "_law_some"] []
  f_bytes : Addr
  fd_bytes : FuncData
  F_bytes : Fun K "_law_bytes" "_law_bytes" s_bytes f_bytes fd_bytes
  g_bytes : mg "_law_bytes" = some (.ref f_bytes)
  b_bytes : Binds K fd_bytes ["_law_box_here", "_law_count"] []
  f_due : Addr
  fd_due : FuncData
  F_due : Fun K "_law_due" "_law_due" s_due f_due fd_due
  g_due : mg "_law_due" = some (.ref f_due)
  b_due : Binds K fd_due ["_law_veil", "_law_count"] []
  f_l_is_mask : Addr
  fd_l_is_mask : FuncData
  F_l_is_mask : Fun K "_law_is_mask" "_law_is_mask" s_l_is_mask f_l_is_mask fd_l_is_mask
  g_l_is_mask : mg "_law_is_mask" = some (.ref f_l_is_mask)
  b_l_is_mask : Binds K fd_l_is_mask ["_law_some"] []
  f_bent : Addr
  fd_bent : FuncData
  F_bent : Fun K "_law_bent" "_law_bent" s_bent f_bent fd_bent
  g_bent : mg "_law_bent" = some (.ref f_bent)
  b_bent : Binds K fd_bent ["_law_box_here", "_law_veil"] []
  kb_mask_of_0_number_first : KBn K fd_mask_of ["first", "number"] 0 ["number", "first"] (fun us ws => us ++ ws.reverse) (fun vs zs => vs ++ zs.reverse)
  kb_is_mask_0_thing : KBn K fd_is_mask ["thing"] 0 ["thing"] (fun us ws => us ++ ws) (fun vs zs => vs ++ zs)
  a_STEPS : Addr
  g_STEPS : mg "STEPS" = some (.ref a_STEPS)
  q_STEPS : ∀ H : Hp, SqT K H a_STEPS [.int 1, .int 3, .int 5, .int 7]
  m_len : mg "len" = none
  m_abs : mg "abs" = none
  m_int : mg "int" = none
  m_bool : mg "bool" = none
  m_list : mg "list" = none
  m_tuple : mg "tuple" = none
  m_str : mg "str" = none
  m_isinstance : mg "isinstance" = none
  m_all : mg "all" = none
  m_zip : mg "zip" = none
  m_min : mg "min" = none
  m_range : mg "range" = none
  m_repr : mg "repr" = none
end K2

set_option Elab.async false
set_option linter.all false
set_option maxRecDepth 100000
set_option maxHeartbeats 4000000
namespace K2
open PySem PySem.Spec PyProof.Rows L2
/-! ### heaps and bytes -/
def Bts (ns : List Int) : Prop := ∀ x ∈ ns, 0 ≤ x ∧ x < 256
/-- all but p is as it was -/
def Keep (p : Addr) (H H' : Hp) : Prop := ∀ b o, b ≠ p → H b = some o → H' b = some o
theorem same_upd {H : Hp} {p : Addr} {o : HO} (h : H p = none) : Same H (upd H p o) := fun b x e => by
  rw [upd_ne (ne_of_none e h)]
  exact e
theorem sq1 {K : PySem.W.Frag} {H : Hp} {a : Addr} {xs : List V} (h : H a = some (.lst xs)) : SqL K H a xs := .inl (.inl h)
theorem st1 {K : PySem.W.Frag} {H : Hp} {a : Addr} {xs : List V} (h : H a = some (.tup xs)) : SqT K H a xs := .inl (.inl h)
/-- an item of a list of ints -/
theorem atI_ints {xs : List Int} {r : Int} (h0 : 0 ≤ r) (h1 : r < xs.length) : ∃ x, x ∈ xs ∧ atI (xs.map V.int) r = some (.int x) := by
  obtain ⟨j, rfl⟩ := Int.eq_ofNat_of_zero_le h0
  have hj : j < xs.length := by omega
  refine ⟨xs[j], List.getElem_mem hj, atI_nat ?_⟩
  rw [List.getElem?_map, List.getElem?_eq_getElem hj]
  rfl
theorem Keep.upd {p : Addr} {H H' : Hp} {o : HO} (k : Keep p H H') : Keep p H (upd H' p o) := fun b x hb e => by
  rw [upd_ne hb]
  exact k b x hb e
theorem Keep.refl (p : Addr) (H : Hp) : Keep p H H := fun _ _ _ e => e
theorem Keep.trans {p : Addr} {H H1 H2 : Hp} (a : Keep p H H1) (b : Keep p H1 H2) : Keep p H H2 := fun c o hc e => b c o hc (a c o hc e)
theorem Keep.new {p q : Addr} {H H' : Hp} {o : HO} (k : Keep p H H') (hq : H' q = none) : Keep p H (L2.upd H' q o) := fun b x hb e => by
  rw [upd_ne (ne_of_none (k b x hb e) hq)]
  exact k b x hb e
theorem Same.seqT {K : PySem.W.Frag} {H H' : Hp} {a : Addr} {xs : List V} (e : Same H H') (h : SqT K H a xs) : SqT K H' a xs := by
  rcases h with (h | ⟨o, h⟩) | h
  · exact .inl (.inl (e _ _ h))
  · exact .inl (.inr ⟨o, e _ _ h⟩)
  · exact .inr h
theorem Same.new {H H' : Hp} {p : Addr} {o : HO} (s : Same H H') (h : H' p = none) : Same H (L2.upd H' p o) := s.trans (same_upd h)
/-- a change at a place that was free -/
theorem Same.mut {H H' : Hp} {p : Addr} {o : HO} (s : Same H H') (h : H p = none) : Same H (L2.upd H' p o) := fun b x e => by
  rw [upd_ne (ne_of_none e h)]
  exact s b x e
theorem walk_zipT {K : PySem.W.Frag} {a b : Addr} {xs ys : List V} {n : Nat} (hn : n = min xs.length ys.length) : Walk (RZ.ItzT K a b) n (fun H => SqT K H a xs ∧ SqT K H b ys) (YPair (fun i => xs[i]?) (fun i => ys[i]?)) := by
  subst hn
  refine ⟨fun i _ hi q => ?_, fun _ q => ⟨xs, ys, q.1, q.2, by omega⟩, fun i H v H' _ q y => ?_⟩
  · have h1 : i < xs.length := by omega
    have h2 : i < ys.length := by omega
    exact ⟨xs, ys, xs[i], ys[i], q.1, q.2, by simp [h1], by simp [h2]⟩
  · obtain ⟨T, x, z, h1, h2, h3, h4, h5⟩ := y
    exact ⟨T, x, z, h1, h2, h3, h4 xs q.1, h5 ys q.2⟩
theorem Same.keep {p : Addr} {H H1 H2 : Hp} (s : Same H H1) (k : Keep p H1 H2) (h : H p = none) : Same H H2 := fun b o e => k b o (ne_of_none e h) (s b o e)

section
variable {P : Program} {w : World} {K : PySem.W.Frag} {mg : Str → Option Value} {base : Heap}
/-! ### the cells and the draws -/
def spCell (K : PySem.W.Frag) : Sp := fun vs H Q _ => ∃ (a : Addr) (ns : List Int) (k : Int), vs = [.ref a, .int k] ∧ SqL K H a (ns.map V.int) ∧ 0 ≤ k ∧ ∀ z : Int, Q (.int z) H
theorem ok_cell_at (T : Tx K mg) : FnOk P w K mg base CX0 1 T.f_cell_at T.fd_cell_at ["_law_script", "_law_k"] (spCell K) := by
  refine T.F_cell_at.ok sc_cell_at (fun vs H Q E h => ?_) (fun cdv A outer s H vs Q E hr h => ?_)
  · obtain ⟨a, ns, k, rfl, _⟩ := h
    rfl
  · obtain ⟨a, ns, k, rfl, hS, h0, q⟩ := h
    refine ⟨_, (pss_cons (ps_if (pt_cmpR op_lt (pv 1) (pe_callB call_len_seq (by rfl) T.m_len (by decide +kernel) (pa_cons (pv 0) pa_nil)) (nomark _)) (pss_one (ps_ret (pe_ix (r := rIxL K) ix_list (pv 0) (pv 1) (fun _ _ => rfl)))) pss_nil)
      (pss_one (ps_ret pe_int))), ?_⟩
    refine ⟨.int k, rfl, .ref a, rfl, a, ns.map V.int, rfl, .inl hS, k, _, rfl, rfl, _, rfl, ite2 (fun e => ?_) (fun e => ?_)⟩
    · have e1 : k < ((ns.map V.int).length : Int) := of_decide_eq_true e
      rw [List.length_map] at e1
      obtain ⟨x, _, hx⟩ := atI_ints h0 e1
      exact ⟨.ref a, rfl, .int k, rfl, a, _, k, .int x, rfl, rfl, hS, hx, q x⟩
    · exact q 0
def spBox (K : PySem.W.Frag) : Sp := fun vs H Q _ => ∃ (a : Addr) (ns : List Int) (k : Int), vs = [.ref a, .int k] ∧ SqL K H a (ns.map V.int) ∧ 0 ≤ k ∧ k ≤ 1000 ∧
  ∀ (p : Addr) (x y : Int), H p = none → 0 ≤ x → 0 ≤ y → y < 2 ^ 62 → Q (.ref p) (upd H p (.lst [.int x, .int y, .int 0]))
theorem ok_box (T : Tx K mg) : FnOk P w K mg base CX0 2 T.f_box T.fd_box ["_law_script", "_law_k"] (spBox K) := by
  refine T.F_box.ok sc_box (fun vs H Q E h => ?_) (fun cdv A outer s H vs Q E hr h => ?_)
  · obtain ⟨a, ns, k, rfl, _⟩ := h
    rfl
  · obtain ⟨a, ns, k, rfl, hS, h0, h1, q⟩ := h
    refine ⟨_, (pss_cons (ps_set (i := 2) sc_box.nd rfl (.inl rfl) (pe_call (ok_cell_at T) (hr.mono (by omega)) (by rfl) T.g_cell_at T.F_cell_at.kp T.b_cell_at .nil pass0 (pa_cons (pv 0) (pa_cons (pv 1) pa_nil))))
      (pss_one (ps_ret (pe_lst (pa_cons (pe_op op_mul (pe_callB call_abs (by rfl) T.m_abs (by decide +kernel) (pa_cons (pv 2) pa_nil)) (pe_callTy call_int1 (by rfl) T.m_int (by decide +kernel) (pa_cons (pe_cmpR op_ge (pe_callB call_abs (by rfl) T.m_abs (by decide +kernel) (pa_cons (pv 2) pa_nil)) (pe_op op_pow pe_int pe_int) (nomark _)) pa_nil))) (pa_cons (pe_op op_add (pe_op op_add (pe_op op_mod (pv 2) pe_int) (pe_op op_mul pe_int (pv 1))) pe_int) (pa_cons pe_int pa_nil))))))), ?_⟩
    refine ⟨.ref a, rfl, .int k, rfl, a, ns, k, rfl, hS, h0, fun z => ?_⟩
    -- abs(cell) * int(abs(cell) >= 10 ** 18)
    refine ⟨.int z, rfl, z, rfl, .int z, rfl, z, rfl, 10, 18, rfl, rfl, ⟨by decide, by decide, by decide⟩, _, _, rfl, rfl, .inr ⟨_, rfl, _, _, rfl, rfl, ?_, ?_⟩⟩
    · refine .inr ?_
      constructor <;> (repeat' split) <;> decide
    · refine ⟨.int z, rfl, z, 2305843009213693951, rfl, rfl, (by show (0 : Int) < _; decide), .int k, rfl, 39373, k, rfl, rfl, .inl ⟨by decide, by decide⟩, _, _, rfl, rfl, _, _, rfl, rfl, by show 3 ≤ sizeLine; decide, fun p hp => ?_⟩
      refine q p _ _ hp ?_ ?_ ?_
      · refine Int.mul_nonneg ?_ ?_
        · split <;> omega
        · split <;> omega
      · have := Int.emod_nonneg z (b := 2305843009213693951) (by decide)
        omega
      · have := Int.emod_lt_of_pos z (b := 2305843009213693951) (by decide)
        omega
/-- a draw: the box at p keeps its form, the answer lies below the count -/
def spTake : Sp := fun vs H Q _ => ∃ (p : Addr) (a b c m : Int), vs = [.ref p, .int m] ∧ H p = some (.lst [.int a, .int b, .int c]) ∧ 0 ≤ a ∧ 0 ≤ b ∧ b < 2 ^ 62 ∧ 0 ≤ c ∧ c < 2 ^ 40 ∧ 0 < m ∧ m < 1073741824 ∧
  ∀ a' c' r : Int, 0 ≤ a' → c ≤ c' → c' ≤ c + 1 → 0 ≤ r → r < m → Q (.int r) (upd H p (.lst [.int a', .int b, .int c']))
theorem ok_take (T : Tx K mg) : FnOk P w K mg base CX0 1 T.f_take T.fd_take ["_law_box_here", "_law_count"] spTake := by
  refine T.F_take.ok sc_take (fun vs H Q E h => ?_) (fun cdv A outer s H vs Q E hr h => ?_)
  · obtain ⟨p, a, b, c, m, rfl, _⟩ := h
    rfl
  · obtain ⟨p, a, b, c, m, rfl, hB, a0, b0, b1, c0, c1, m0, m1, q⟩ := h
    refine ⟨_, (pss_cons (ps_if (pt_cmpR op_gt (pe_ix (r := rIxL K) ix_list (pv 0) pe_int (fun _ _ => rfl)) pe_int (nomark _)) (pss_cons (ps_set (i := 2) sc_take.nd rfl (.inl rfl) (pe_op op_mod (pe_ix (r := rIxL K) ix_list (pv 0) pe_int (fun _ _ => rfl)) (pv 1)))
      (pss_cons (ps_asg (pe_op op_fdiv (pe_ix (r := rIxL K) ix_list (pv 0) pe_int (fun _ _ => rfl)) (pv 1)) (pg_sub (pv 0) pe_int set_list))
      (pss_one (ps_ret (pv 2))))) pss_nil)
      (pss_cons (ps_asg (pe_op op_add (pe_ix (r := rIxL K) ix_list (pv 0) pe_int (fun _ _ => rfl)) pe_int) (pg_sub (pv 0) pe_int set_list))
      (pss_cons (ps_set (i := 3) sc_take.nd rfl (.inl rfl) (pe_op op_mod (pe_op op_mul (pe_op op_add (pe_ix (r := rIxL K) ix_list (pv 0) pe_int (fun _ _ => rfl)) (pe_op op_mul pe_int (pe_ix (r := rIxL K) ix_list (pv 0) pe_int (fun _ _ => rfl)))) (pe_op op_add pe_int (pe_ix (r := rIxL K) ix_list (pv 0) pe_int (fun _ _ => rfl)))) pe_int))
      (pss_cons (ps_set (i := 4) sc_take.nd rfl (.inl rfl) (pe_op op_mod (pe_op op_mul (pe_op op_add (pe_op op_add (pv 3) (pe_ix (r := rIxL K) ix_list (pv 0) pe_int (fun _ _ => rfl))) (pe_op op_fdiv (pe_ix (r := rIxL K) ix_list (pv 0) pe_int (fun _ _ => rfl)) pe_int)) (pe_op op_add (pe_op op_mod (pv 3) pe_int) pe_int)) pe_int))
      (pss_one (ps_ret (pe_op op_mod (pe_op op_fdiv (pe_op op_mod (pe_op op_add (pe_op op_mul (pv 4) pe_int) (pv 3)) pe_int) pe_int) (pv 1)))))))), ?_⟩
    refine ⟨.ref p, rfl, p, _, 0, .int a, rfl, rfl, sq1 hB, rfl, _, _, rfl, rfl, _, rfl, ite2 (fun e => ?_) (fun e => ?_)⟩
    · -- found = box[0] % count; box[0] = box[0] // count
      refine ⟨.ref p, rfl, p, _, 0, .int a, rfl, rfl, sq1 hB, rfl, .int m, rfl, a, m, rfl, rfl, m0, ?_⟩
      refine ⟨.ref p, rfl, p, _, 0, .int a, rfl, rfl, sq1 hB, rfl, .int m, rfl, a, m, rfl, rfl, ⟨m0, m1⟩, ?_⟩
      refine ⟨.ref p, rfl, p, _, 0, 0, rfl, rfl, hB, rfl, ?_⟩
      refine ⟨.int (a % m), rfl, ?_⟩
      exact q _ _ _ (Int.ediv_nonneg a0 (by omega)) (Int.le_refl _) (by omega) (Int.emod_nonneg _ (by omega)) (Int.emod_lt_of_pos _ m0)
    · -- box[2] = box[2] + 1
      refine ⟨.ref p, rfl, p, _, 2, .int c, rfl, rfl, sq1 hB, rfl, c, 1, rfl, rfl, .ref p, rfl, p, _, 2, 2, rfl, rfl, hB, rfl, ?_⟩
      have hB1 : (upd H p (.lst [.int a, .int b, .int (c + 1)])) p = some (.lst [.int a, .int b, .int (c + 1)]) := upd_same
      show (tSeq _ _) _ _ (upd H p (.lst [.int a, .int b, .int (c + 1)]))
      -- once
      refine ⟨.ref p, rfl, p, _, 1, .int b, rfl, rfl, sq1 hB1, rfl, .ref p, rfl, p, _, 2, .int (c + 1), rfl, rfl, sq1 hB1, rfl, 48271, c + 1, rfl, rfl, .inl ⟨by decide, by decide⟩, b, _, rfl, rfl,
        .ref p, rfl, p, _, 2, .int (c + 1), rfl, rfl, sq1 hB1, rfl, 39373, c + 1, rfl, rfl, _, _, rfl, rfl, .inr ⟨by omega, by omega⟩, _, 2147483647, rfl, rfl, (by show (0 : Int) < _; decide), ?_⟩
      -- twice
      have o2 := Int.emod_nonneg ((b + 48271 * (c + 1)) * (39373 + (c + 1)) % 2147483647) (b := 40009) (by decide)
      have o3 := Int.emod_lt_of_pos ((b + 48271 * (c + 1)) * (39373 + (c + 1)) % 2147483647) (b := 40009) (by decide)
      refine ⟨_, rfl, .ref p, rfl, p, _, 2, .int (c + 1), rfl, rfl, sq1 hB1, rfl, _, c + 1, rfl, rfl, .ref p, rfl, p, _, 1, .int b, rfl, rfl, sq1 hB1, rfl, b, 1000003, rfl, rfl, ⟨by decide, by decide⟩, _, _, rfl, rfl,
        _, rfl, _, 40009, rfl, rfl, (by show (0 : Int) < _; decide), _, 7, rfl, rfl, _, _, rfl, rfl, .inr ⟨?_, ?_⟩, _, 2147483629, rfl, rfl, (by show (0 : Int) < _; decide), ?_⟩
      · exact Int.lt_of_lt_of_le (by decide) (Int.add_le_add_right o2 7)
      · exact Int.lt_trans (Int.add_lt_add_right o3 7) (by decide)
      -- the answer
      refine ⟨_, rfl, _, 48271, rfl, rfl, .inr ⟨by decide, by decide⟩, _, rfl, _, _, rfl, rfl, _, 2147483587, rfl, rfl, (by show (0 : Int) < _; decide), _, 64, rfl, rfl, ⟨by decide, by decide⟩, .int m, rfl, _, m, rfl, rfl, m0, ?_⟩
      exact q _ _ _ a0 (by omega) (Int.le_refl _) (Int.emod_nonneg _ (by omega)) (Int.emod_lt_of_pos _ m0)
end

section
variable {P : Program} {w : World} {K : PySem.W.Frag} {mg : Str → Option Value} {base : Heap}
/-! ### rows of bytes -/
def spBytes : Sp := fun vs H Q _ => ∃ (p : Addr) (a b c n : Int), vs = [.ref p, .int n] ∧ H p = some (.lst [.int a, .int b, .int c]) ∧ 0 ≤ a ∧ 0 ≤ b ∧ b < 2 ^ 62 ∧ 0 ≤ c ∧ c < 2 ^ 39 ∧ 0 ≤ n ∧ n ≤ 1000000 ∧
  ∀ (H' : Hp) (q : Addr) (ns : List Int) (a' c' : Int), H q = none → H' q = some (.lst (ns.map V.int)) → H' p = some (.lst [.int a', .int b, .int c']) → 0 ≤ a' → c ≤ c' → c' ≤ c + 1 + 2 * n → Keep p H H' → (ns.length : Int) = n → Bts ns → Q (.ref q) H'
theorem ok_bytes (T : Tx K mg) : FnOk P w K mg base CX0 2 T.f_bytes T.fd_bytes ["_law_box_here", "_law_count"] spBytes := by
  refine T.F_bytes.ok sc_bytes (fun vs H Q E h => ?_) (fun cdv A outer s H vs Q E hr h => ?_)
  · obtain ⟨p, a, b, c, n, rfl, _⟩ := h
    rfl
  · obtain ⟨p, a, b, c, n, rfl, hB, a0, b0, b1, c0, c1, n0, n1, q⟩ := h
    refine ⟨_, (pss_cons (ps_par (i := 2) (j := 3) rfl sc_bytes.nd rfl rfl (by decide) rfl rfl (pa_cons (pe_call (ok_take T) (hr.mono (by omega)) (by rfl) T.g_take T.F_take.kp T.b_take .nil pass0 (pa_cons (pv 0) (pa_cons pe_int pa_nil))) (pa_cons (pe_lst pa_nil) pa_nil)) rfl)
      (pss_cons (ps_for PassesOwn.never rfl (pi_range1 (by rfl) T.m_range (pa_cons (pv 1) pa_nil)) (pg_name (i := 4) sc_bytes.nd rfl (.inl rfl)) (pss_one (ps_expr (pe_bm PySem.F.plainAttrs_list PySem.F.slot_list_append PySem.F.type_list_append mt_append (pv 3) (pa_cons (pe_ix (r := rIxL K) ix_list (pe_lst (pa_cons (pe_call (ok_take T) (hr.mono (by omega)) (by rfl) T.g_take T.F_take.kp T.b_take .nil pass0 (pa_cons (pv 0) (pa_cons pe_int pa_nil))) (pa_cons pe_int (pa_cons pe_int (pa_cons (pe_ix (r := rIxL K) ix_list (pe_lst (pa_cons pe_int (pa_cons pe_int (pa_cons pe_int (pa_cons pe_int (pa_cons pe_int (pa_cons pe_int (pa_cons pe_int (pa_cons pe_int pa_nil))))))))) (pe_call (ok_take T) (hr.mono (by omega)) (by rfl) T.g_take T.F_take.kp T.b_take .nil pass0 (pa_cons (pv 0) (pa_cons pe_int pa_nil))) (fun _ _ => rfl)) pa_nil))))) (pv 2) (fun _ _ => rfl)) pa_nil)))))
      (pss_one (ps_ret (pv 3))))), ?_⟩
    refine ⟨.ref p, rfl, p, a, b, c, 4, rfl, hB, a0, b0, b1, c0, by omega, by decide, by decide, fun a1 c2 mk a10 cl cu mk0 mk1 => ?_⟩
    refine ⟨Nat.zero_le _, fun l hl => ?_⟩
    refine ⟨_, _, rfl, ?_⟩
    have npl : p ≠ l := fun z => by
      rw [← z, upd_same] at hl
      cases hl
    have hHl : H l = none := by
      rw [upd_ne (Ne.symm npl)] at hl
      exact hl
    refine ⟨.int n, rfl, n, rfl, by omega, by omega, ?_⟩
    refine for_it walk_range (fun i σ Hc => ∃ (y4 : Option V) (ns : List Int) (a' c' : Int), σ = [some (.ref p), some (.int n), some (.int mk), some (.ref l), y4] ∧ Hc l = some (.lst (ns.map V.int)) ∧ Hc p = some (.lst [.int a', .int b, .int c']) ∧ 0 ≤ a' ∧ c ≤ c' ∧ c' ≤ c + 1 + 2 * (i : Int) ∧ Keep p H Hc ∧ ns.length = i ∧ Bts ns) ?_ (fun _ _ _ _ _ => trivial) ?_ ?_
    · refine ⟨none, [], a1, c2, rfl, ?_, ?_, a10, cl, by omega, ?_, rfl, fun x hx => by cases hx⟩
      · rw [upd_same]
        rfl
      · rw [upd_ne npl, upd_same]
      · exact ((Keep.refl p H).upd).new hl
    · rintro i x σ Hc H' hi ⟨y4, ns, a', c', rfl, el, ep, a'0, cl', cu', kp, hlen, hb⟩ ⟨rfl, rfl⟩
      -- found.append([take(box, 256), 0, 255, [..][take(box, 8)]][make])
      refine ⟨.ref l, rfl, .inl ⟨rfl, _, sq1 el⟩, ?_⟩
      refine ⟨.ref p, rfl, p, a', b, c', 256, rfl, ep, a'0, b0, b1, by omega, by omega, by decide, by decide, fun a2 c3 r1 a20 cl2 cu2 r10 r11 => ?_⟩
      refine ⟨by show 8 ≤ sizeLine; decide, fun l2 hl2 => ?_⟩
      have np2 : p ≠ l2 := fun z => by
        rw [← z, upd_same] at hl2
        cases hl2
      refine ⟨.ref p, rfl, p, a2, b, c3, 8, rfl, (by rw [upd_ne np2, upd_same]), a20, b0, b1, by omega, by omega, by decide, by decide, fun a3 c4 r2 a30 cl3 cu3 r20 r21 => ?_⟩
      obtain ⟨x2, hx2, hat2⟩ := atI_ints (xs := [32, 33, 34, 41, 10, 250, 251, 3]) r20 r21
      refine ⟨l2, _, r2, .int x2, rfl, rfl, sq1 (by rw [upd_ne np2.symm, upd_same]; rfl), hat2, ?_⟩
      refine ⟨by show 4 ≤ sizeLine; decide, fun l3 hl3 => ?_⟩
      have hx2b : 0 ≤ x2 ∧ x2 < 256 := by
        simp only [List.mem_cons, List.not_mem_nil, or_false] at hx2
        omega
      obtain ⟨x3, hx3, hat3⟩ := atI_ints (xs := [r1, 0, 255, x2]) mk0 mk1
      have hx3b : 0 ≤ x3 ∧ x3 < 256 := by
        simp only [List.mem_cons, List.not_mem_nil, or_false] at hx3
        omega
      refine ⟨.int mk, rfl, l3, _, mk, .int x3, rfl, rfl, sq1 upd_same, hat3, ?_⟩
      have nlp : l ≠ p := npl.symm
      have nl2 : l ≠ l2 := fun z => by
        rw [← z, upd_ne nlp, el] at hl2
        cases hl2
      have nl3 : l ≠ l3 := fun z => by
        rw [← z, upd_ne nlp, upd_ne nl2, upd_ne nlp, el] at hl3
        cases hl3
      have np3 : p ≠ l3 := fun z => by
        rw [← z, upd_same] at hl3
        cases hl3
      refine ⟨l, _, _, rfl, rfl, (by rw [upd_ne nl3, upd_ne nlp, upd_ne nl2, upd_ne nlp]; exact el), ?_, ?_⟩
      · rw [List.length_map, hlen]
        exact Nat.lt_of_le_of_lt (show i ≤ 1000000 by omega) (by decide)
      · refine ⟨some (.int (0 + (i : Int))), ns ++ [x3], a3, c4, rfl, ?_, ?_, a30, by omega, by omega, ?_, ?_, ?_⟩
        · rw [upd_same, List.map_append]
          rfl
        · rw [upd_ne npl, upd_ne np3, upd_same]
        · refine fun b' o hb' e => ?_
          have k1 := kp.upd (o := .lst [.int a2, .int b, .int c3])
          have k2 := k1.new (q := l2) (o := .lst [.int 32, .int 33, .int 34, .int 41, .int 10, .int 250, .int 251, .int 3]) hl2
          have k3 := k2.upd (o := .lst [.int a3, .int b, .int c4])
          have k4 := k3.new (q := l3) (o := .lst [.int r1, .int 0, .int 255, .int x2]) hl3
          rw [upd_ne (ne_of_none e hHl)]
          exact k4 b' o hb' e
        · rw [List.length_append, hlen]
          rfl
        · intro y hy
          rcases List.mem_append.mp hy with hy | hy
          · exact hb y hy
          · rw [List.mem_singleton.mp hy]
            exact hx3b
    · rintro σ Hc ⟨y4, ns, a', c', rfl, el, ep, a'0, cl', cu', kp, hlen, hb⟩
      exact ⟨.ref l, rfl, q Hc l ns a' c' hHl el ep a'0 cl' (by omega) kp (by omega) hb⟩
end

/-! ### the same, kind by kind -/
/-- x and y are the same data, at most n deep -/
def Sm (H : Hp) : Nat → V → V → Prop
  | 0, x, y => x = y ∧ flatV x = true
  | n + 1, x, y => (x = y ∧ flatV x = true) ∨ ∃ (a b : Addr) (xs ys : List V), x = .ref a ∧ y = .ref b ∧ xs.length = ys.length ∧ xs.length ≤ 1000000 ∧ (∀ (i : Nat) u v, xs[i]? = some u → ys[i]? = some v → Sm H n u v) ∧
      ((H a = some (.lst xs) ∧ H b = some (.lst ys)) ∨ (H a = some (.tup xs) ∧ H b = some (.tup ys)))
theorem Sm.mono {H H' : Hp} (s : Same H H') : ∀ {n : Nat} {x y : V}, Sm H n x y → Sm H' n x y
  | 0, _, _, h => h
  | n + 1, _, _, .inl h => .inl h
  | n + 1, _, _, .inr ⟨a, b, xs, ys, e1, e2, l, hl, hi, h⟩ => .inr ⟨a, b, xs, ys, e1, e2, l, hl, fun i u v hu hv => Sm.mono s (hi i u v hu hv), by
    rcases h with ⟨h1, h2⟩ | ⟨h1, h2⟩
    · exact .inl ⟨s _ _ h1, s _ _ h2⟩
    · exact .inr ⟨s _ _ h1, s _ _ h2⟩⟩
theorem Sm.flat {H : Hp} {n : Nat} {x : V} (h : flatV x = true) : Sm H n x x := by
  cases n with
  | zero => exact ⟨rfl, h⟩
  | succ n => exact .inl ⟨rfl, h⟩
/-- two lists of the same ints -/
theorem Sm.ints {H : Hp} {n : Nat} {a b : Addr} {ns : List Int} (h1 : H a = some (.lst (ns.map V.int))) (h2 : H b = some (.lst (ns.map V.int))) (hl : ns.length ≤ 1000000) : Sm H (n + 1) (.ref a) (.ref b) :=
  .inr ⟨a, b, _, _, rfl, rfl, rfl, by rw [List.length_map]; exact hl, fun i u v hu hv => by
    rw [hu] at hv
    cases hv
    rw [List.getElem?_map] at hu
    obtain ⟨z, _, rfl⟩ := Option.map_eq_some_iff.mp hu
    exact Sm.flat rfl, .inl ⟨h1, h2⟩⟩
theorem leaf_kit {K : PySem.W.Frag} {H : Hp} {x : V} (h : flatV x = true) : ∃ (n : String) (bb bi : Bool), (∀ H', TyX K H' x (.type n)) ∧ PySem.W.kitAny K (.type n) [.type "list", .type "tuple"] = some false ∧
    PySem.W.kitOne K (.type n) (.type "bool") = some bb ∧ PySem.W.kitOne K (.type n) (.type "int") = some bi := by
  cases x with
  | non => exact ⟨"NoneType", false, false, fun _ => .base .non, kitAny_cons (b := false) (kit_ty (by decide +kernel)) (fun _ => kitAny_cons (b := false) (kit_ty (by decide +kernel)) (fun _ => rfl) (fun z => nomatch z)) (fun z => nomatch z), kit_ty (by decide +kernel), kit_ty (by decide +kernel)⟩
  | bl y => exact ⟨"bool", true, true, fun _ => .base (.bl y), kitAny_cons (b := false) (kit_ty (by decide +kernel)) (fun _ => kitAny_cons (b := false) (kit_ty (by decide +kernel)) (fun _ => rfl) (fun z => nomatch z)) (fun z => nomatch z), kit_ty (by decide +kernel), kit_ty (by decide +kernel)⟩
  | int y => exact ⟨"int", false, true, fun _ => .base (.int y), kitAny_cons (b := false) (kit_ty (by decide +kernel)) (fun _ => kitAny_cons (b := false) (kit_ty (by decide +kernel)) (fun _ => rfl) (fun z => nomatch z)) (fun z => nomatch z), kit_ty (by decide +kernel), kit_ty (by decide +kernel)⟩
  | str y => exact ⟨"str", false, false, fun _ => .base (.str y), kitAny_cons (b := false) (kit_ty (by decide +kernel)) (fun _ => kitAny_cons (b := false) (kit_ty (by decide +kernel)) (fun _ => rfl) (fun z => nomatch z)) (fun z => nomatch z), kit_ty (by decide +kernel), kit_ty (by decide +kernel)⟩
  | byt _ => cases h
  | flt _ => cases h
  | ref _ => cases h
  | ty _ => cases h
theorem seq_kit {K : PySem.W.Frag} {H : Hp} {a b : Addr} {xs ys : List V} (h : (H a = some (.lst xs) ∧ H b = some (.lst ys)) ∨ (H a = some (.tup xs) ∧ H b = some (.tup ys))) :
    ∃ (n : String) (bl bt : Bool), (∀ H', Same H H' → TyX K H' (.ref a) (.type n) ∧ TyX K H' (.ref b) (.type n)) ∧ PySem.W.kitAny K (.type n) [.type "list", .type "tuple"] = some true ∧
      PySem.W.kitOne K (.type n) (.type "list") = some bl ∧ PySem.W.kitOne K (.type n) (.type "tuple") = some bt := by
  rcases h with ⟨h1, h2⟩ | ⟨h1, h2⟩
  · exact ⟨"list", true, false, fun H' s => ⟨.base (.lst (s _ _ h1)), .base (.lst (s _ _ h2))⟩, kitAny_cons (b := true) (kit_ty (by decide +kernel)) (fun z => nomatch z) (fun _ => rfl), kit_ty (by decide +kernel), kit_ty (by decide +kernel)⟩
  · exact ⟨"tuple", false, true, fun H' s => ⟨.base (.tup (s _ _ h1)), .base (.tup (s _ _ h2))⟩, kitAny_cons (b := false) (kit_ty (by decide +kernel)) (fun _ => kitAny_cons (b := true) (kit_ty (by decide +kernel)) (fun z => nomatch z) (fun _ => rfl)) (fun z => nomatch z), kit_ty (by decide +kernel), kit_ty (by decide +kernel)⟩
theorem rep_all (n : Nat) : (List.replicate n true).all id = true := by
  induction n with
  | zero => rfl
  | succ n ih => rw [List.replicate_succ, List.all_cons, ih]; rfl
section
variable {P : Program} {w : World} {K : PySem.W.Frag} {mg : Str → Option Value} {base : Heap}
def spSame : Nat → Sp
  | 0 => fun _ _ _ _ => False
  | n + 1 => fun vs H Q _ => ∃ (x y : V), vs = [x, y] ∧ Sm H n x y ∧ ∀ H', Same H H' → Q (.bl true) H'
theorem ok_same (T : Tx K mg) : ∀ n : Nat, FnOk P w K mg base CX0 n T.f_same T.fd_same ["_law_found", "_law_due_here"] (spSame n)
  | 0 => ⟨fun _ _ _ _ h => h.elim, fun _ _ _ _ _ _ _ _ _ _ _ _ _ h => h.elim⟩
  | n + 1 => by
    have ih := ok_same T n
    refine T.F_same.ok sc_same (fun vs H Q E h => ?_) (fun cdv A outer s H vs Q E hr h => ?_)
    · obtain ⟨x, y, rfl, _⟩ := h
      rfl
    · obtain ⟨x, y, rfl, h, q⟩ := h
      refine ⟨_, (pss_cons (ps_if (pt_val (pe_callB (r := rIsiT K) call_isiT (by rfl) T.m_isinstance (by decide +kernel) (pa_cons (pv 1) (pa_cons (pe_tup (pa_cons (pe_bltn (v := .ty "list") (u := .type "list") (by rfl) T.m_list (by decide +kernel) rfl) (pa_cons (pe_bltn (v := .ty "tuple") (u := .type "tuple") (by rfl) T.m_tuple (by decide +kernel) rfl) pa_nil))) pa_nil)))) (pss_cons (ps_if (pw_or (pt_cmpR op_ne (pe_callB (r := rIsi K) call_isi (by rfl) T.m_isinstance (by decide +kernel) (pa_cons (pv 0) (pa_cons (pe_bltn (v := .ty "list") (u := .type "list") (by rfl) T.m_list (by decide +kernel) rfl) pa_nil))) (pe_callB (r := rIsi K) call_isi (by rfl) T.m_isinstance (by decide +kernel) (pa_cons (pv 1) (pa_cons (pe_bltn (v := .ty "list") (u := .type "list") (by rfl) T.m_list (by decide +kernel) rfl) pa_nil))) (nomark _)) (pw_or1 (pt_cmpR op_ne (pe_callB (r := rIsi K) call_isi (by rfl) T.m_isinstance (by decide +kernel) (pa_cons (pv 0) (pa_cons (pe_bltn (v := .ty "tuple") (u := .type "tuple") (by rfl) T.m_tuple (by decide +kernel) rfl) pa_nil))) (pe_callB (r := rIsi K) call_isi (by rfl) T.m_isinstance (by decide +kernel) (pa_cons (pv 1) (pa_cons (pe_bltn (v := .ty "tuple") (u := .type "tuple") (by rfl) T.m_tuple (by decide +kernel) rfl) pa_nil))) (nomark _)))).pt (pss_one (ps_ret pe_bl)) pss_nil)
      (pss_one (ps_ret (pe_and (pe_cmpR op_eq (pe_callB call_len_seq (by rfl) T.m_len (by decide +kernel) (pa_cons (pv 0) pa_nil)) (pe_callB call_len_seq (by rfl) T.m_len (by decide +kernel) (pa_cons (pv 1) pa_nil)) (nomark _)) (pe_one (pe_callB (cr_all rfl) (by rfl) T.m_all (by decide +kernel) (pa_cons (pe_lc (own := [("_law_one", 2), ("_law_two", 3)]) (g := gTup K 2 (gCons (gName 2) (gCons (gName 3) gNil))) (tt := tYes) rfl sc_same.nd (RZ.pi_zipA (by rfl) T.m_zip (pa_cons (pv 0) (pa_cons (pv 1) pa_nil))) (blkOk_by (N := ["_law_found", "_law_due_here", "_law_one", "_law_two"]) (sc := defScope s_same) (by decide +kernel)) (fun _ _ _ _ _ => (pg_tup rfl (pgs_cons (pg_name (i := 2) sc_same.nd rfl (.inl rfl)) (pgs_cons (pg_name (i := 3) sc_same.nd rfl (.inl rfl)) pgs_nil)))) (fun _ _ _ _ _ => pts_nil) (fun _ _ _ _ _ => (pe_call ih (hr.mono (by omega)) (by rfl) T.g_same T.F_same.kp T.b_same .nil pass0 (pa_cons (pv 2) (pa_cons (pv 3) pa_nil))))) pa_nil))))))) pss_nil)
      (pss_cons (ps_if (pw_or (pt_cmpR op_ne (pe_callB (r := rIsi K) call_isi (by rfl) T.m_isinstance (by decide +kernel) (pa_cons (pv 0) (pa_cons (pe_bltn (v := .ty "bool") (u := .type "bool") (by rfl) T.m_bool (by decide +kernel) rfl) pa_nil))) (pe_callB (r := rIsi K) call_isi (by rfl) T.m_isinstance (by decide +kernel) (pa_cons (pv 1) (pa_cons (pe_bltn (v := .ty "bool") (u := .type "bool") (by rfl) T.m_bool (by decide +kernel) rfl) pa_nil))) (nomark _)) (pw_or1 (pt_cmpR op_ne (pe_callB (r := rIsi K) call_isi (by rfl) T.m_isinstance (by decide +kernel) (pa_cons (pv 0) (pa_cons (pe_bltn (v := .ty "int") (u := .type "int") (by rfl) T.m_int (by decide +kernel) rfl) pa_nil))) (pe_callB (r := rIsi K) call_isi (by rfl) T.m_isinstance (by decide +kernel) (pa_cons (pv 1) (pa_cons (pe_bltn (v := .ty "int") (u := .type "int") (by rfl) T.m_int (by decide +kernel) rfl) pa_nil))) (nomark _)))).pt (pss_one (ps_ret pe_bl)) pss_nil)
      (pss_one (ps_ret (pe_cmpR op_eq (pv 0) (pv 1) (nomark _)))))), ?_⟩
      have hc : (x = y ∧ flatV x = true) ∨ ∃ (a b : Addr) (xs ys : List V), x = .ref a ∧ y = .ref b ∧ xs.length = ys.length ∧ xs.length ≤ 1000000 ∧ (∀ (i : Nat) u v, xs[i]? = some u → ys[i]? = some v → n ≠ 0 ∧ Sm H (n - 1) u v) ∧
          ((H a = some (.lst xs) ∧ H b = some (.lst ys)) ∨ (H a = some (.tup xs) ∧ H b = some (.tup ys))) := by
        cases n with
        | zero => exact .inl h
        | succ n =>
          rcases h with h | ⟨a, b, xs, ys, e1, e2, l, hl, hi, h⟩
          · exact .inl h
          · exact .inr ⟨a, b, xs, ys, e1, e2, l, hl, fun i u v hu hv => ⟨Nat.succ_ne_zero _, hi i u v hu hv⟩, h⟩
      rcases hc with ⟨rfl, hf⟩ | ⟨a, b, xs, ys, rfl, rfl, hl, hlm, hi2, hh⟩
      · -- a leaf
        obtain ⟨t, bb, bi, ty, k1, k2, k3⟩ := leaf_kit (K := K) (H := H) hf
        refine ⟨x, rfl, by show 2 ≤ sizeLine; decide, fun p hp => ?_⟩
        refine ⟨x, p, _, _, _, false, rfl, upd_same, .cons (.ty _) (.cons (.ty _) .nil), ty _, k1, _, rfl, ?_⟩
        refine ⟨x, rfl, x, _, _, _, bb, rfl, .ty _, ty _, k2, x, rfl, x, _, _, _, bb, rfl, .ty _, ty _, k2, rfl, _, rfl, ?_⟩
        rw [decide_eq_true rfl]
        refine ⟨x, rfl, x, _, _, _, bi, rfl, .ty _, ty _, k3, x, rfl, x, _, _, _, bi, rfl, .ty _, ty _, k3, rfl, _, rfl, ?_⟩
        rw [decide_eq_true rfl]
        refine ⟨x, rfl, x, rfl, ?_, ?_⟩
        · cases x <;> first | rfl | cases hf
        · rw [decide_eq_true rfl]
          exact q _ (same_upd hp)
      · -- two rows
        obtain ⟨t, bl, bt, ty, k1, k2, k3⟩ := seq_kit (K := K) hh
        refine ⟨.ref b, rfl, by show 2 ≤ sizeLine; decide, fun p hp => ?_⟩
        have s1 : Same H (upd H p (.tup [.ty "list", .ty "tuple"])) := same_upd hp
        obtain ⟨ta, tb⟩ := ty _ s1
        refine ⟨.ref b, p, _, _, _, true, rfl, upd_same, .cons (.ty _) (.cons (.ty _) .nil), tb, k1, _, rfl, ?_⟩
        refine ⟨.ref a, rfl, .ref a, _, _, _, bl, rfl, .ty _, ta, k2, .ref b, rfl, .ref b, _, _, _, bl, rfl, .ty _, tb, k2, rfl, _, rfl, ?_⟩
        rw [decide_eq_true rfl]
        refine ⟨.ref a, rfl, .ref a, _, _, _, bt, rfl, .ty _, ta, k3, .ref b, rfl, .ref b, _, _, _, bt, rfl, .ty _, tb, k3, rfl, _, rfl, ?_⟩
        rw [decide_eq_true rfl]
        have hsq : ∀ Hc, Same H Hc → (SqL K Hc a xs ∧ SqL K Hc b ys) ∨ (SqT K Hc a xs ∧ SqT K Hc b ys) := fun Hc s => by
          rcases hh with ⟨h1, h2⟩ | ⟨h1, h2⟩
          · exact .inl ⟨sq1 (s _ _ h1), sq1 (s _ _ h2)⟩
          · exact .inr ⟨st1 (s _ _ h1), st1 (s _ _ h2)⟩
        have hla : SqL K (upd H p (.tup [.ty "list", .ty "tuple"])) a xs ∨ SqT K (upd H p (.tup [.ty "list", .ty "tuple"])) a xs := by
          rcases hsq _ s1 with h | h
          · exact .inl h.1
          · exact .inr h.1
        have hlb : SqL K (upd H p (.tup [.ty "list", .ty "tuple"])) b ys ∨ SqT K (upd H p (.tup [.ty "list", .ty "tuple"])) b ys := by
          rcases hsq _ s1 with h | h
          · exact .inl h.2
          · exact .inr h.2
        refine ⟨.ref a, rfl, a, xs, rfl, hla, .ref b, rfl, b, ys, rfl, hlb, rfl, true, ?_, ?_⟩
        · rw [hl, decide_eq_true rfl]
        refine ⟨.ref a, rfl, .ref b, rfl, a, b, xs, ys, rfl, ?_⟩
        rcases hh with ⟨h1, h2⟩ | ⟨h1, h2⟩
        · refine .inl ⟨sq1 (s1 _ _ h1), sq1 (s1 _ _ h2), fun D hD => lc_it (walk_zip (xs := xs) (ys := ys) (n := xs.length) (by omega)) (fun i Hc => Same (upd H p (.tup [.ty "list", .ty "tuple"])) Hc ∧ Hc D = some (.lst ((List.replicate i true).map V.bl))) ?_ ?_ ?_ ?_⟩
          · refine ⟨same_upd hD, ?_⟩
            rw [upd_same]
            rfl
          · rintro i Hc hi ⟨sm, _⟩
            exact ⟨sq1 (sm _ _ (s1 _ _ h1)), sq1 (sm _ _ (s1 _ _ h2))⟩
          · rintro i x Hc H' hi ⟨sm, eD⟩ ⟨T', v1, v2, rfl, hT, rfl, e1, e2⟩
            have sm2 : Same (upd H p (.tup [.ty "list", .ty "tuple"])) (upd Hc T' (.tup [v1, v2])) := sm.trans (same_upd hT)
            have nDT : D ≠ T' := ne_of_none eD hT
            refine ⟨T', [v1, v2], rfl, .inl (.inl upd_same), rfl, _, _, rfl, _, _, rfl, rfl, rfl, ?_⟩
            refine ⟨_, rfl, _, rfl, ?_⟩
            obtain ⟨hn, hS⟩ := hi2 i v1 v2 e1 e2
            cases n with
            | zero => exact absurd rfl hn
            | succ n =>
              refine ⟨v1, v2, rfl, Sm.mono (s1.trans sm2) hS, fun H3 s3 => ?_⟩
              refine ⟨_, s3 _ _ (by rw [upd_ne nDT]; exact eD), ?_, ?_, ?_⟩
              · rw [List.length_map, List.length_replicate]
                exact Nat.lt_of_le_of_lt (show i ≤ 1000000 by omega) (by decide)
              · exact Same.mut (sm2.trans s3) hD
              · rw [upd_same, List.replicate_succ', List.map_append]
                rfl
          · rintro Hc ⟨sm, eD⟩
            refine ⟨D, List.replicate xs.length true, rfl, sq1 eD, ?_⟩
            rw [rep_all]
            exact q Hc (s1.trans sm)
        · refine .inr ⟨st1 (s1 _ _ h1), st1 (s1 _ _ h2), fun D hD => lc_it (walk_zipT (xs := xs) (ys := ys) (n := xs.length) (by omega)) (fun i Hc => Same (upd H p (.tup [.ty "list", .ty "tuple"])) Hc ∧ Hc D = some (.lst ((List.replicate i true).map V.bl))) ?_ ?_ ?_ ?_⟩
          · refine ⟨same_upd hD, ?_⟩
            rw [upd_same]
            rfl
          · rintro i Hc hi ⟨sm, _⟩
            exact ⟨st1 (sm _ _ (s1 _ _ h1)), st1 (sm _ _ (s1 _ _ h2))⟩
          · rintro i x Hc H' hi ⟨sm, eD⟩ ⟨T', v1, v2, rfl, hT, rfl, e1, e2⟩
            have sm2 : Same (upd H p (.tup [.ty "list", .ty "tuple"])) (upd Hc T' (.tup [v1, v2])) := sm.trans (same_upd hT)
            have nDT : D ≠ T' := ne_of_none eD hT
            refine ⟨T', [v1, v2], rfl, .inl (.inl upd_same), rfl, _, _, rfl, _, _, rfl, rfl, rfl, ?_⟩
            refine ⟨_, rfl, _, rfl, ?_⟩
            obtain ⟨hn, hS⟩ := hi2 i v1 v2 e1 e2
            cases n with
            | zero => exact absurd rfl hn
            | succ n =>
              refine ⟨v1, v2, rfl, Sm.mono (s1.trans sm2) hS, fun H3 s3 => ?_⟩
              refine ⟨_, s3 _ _ (by rw [upd_ne nDT]; exact eD), ?_, ?_, ?_⟩
              · rw [List.length_map, List.length_replicate]
                exact Nat.lt_of_le_of_lt (show i ≤ 1000000 by omega) (by decide)
              · exact Same.mut (sm2.trans s3) hD
              · rw [upd_same, List.replicate_succ', List.map_append]
                rfl
          · rintro Hc ⟨sm, eD⟩
            refine ⟨D, List.replicate xs.length true, rfl, sq1 eD, ?_⟩
            rw [rep_all]
            exact q Hc (s1.trans sm)
end

/-! ### data of ints -/
theorem dp_all {K : PySem.W.Frag} {H : Hp} : ∀ ns : List Int, DpAll K H (ns.map V.int) (ns.map PyData.int)
  | [] => .nil
  | n :: ns => .cons (.int n) (dp_all ns)
theorem dp_ints {K : PySem.W.Frag} {H : Hp} {a : Addr} {ns : List Int} (h : SqL K H a (ns.map V.int)) : Dp K H (.ref a) (.list (ns.map PyData.int)) := .lst h (dp_all ns)
theorem can_ints : ∀ ns : List Int, PyData.canLayAll0 (ns.map PyData.int) = true
  | [] => rfl
  | n :: ns => by
    show (PyData.canLay0 (.int n) && PyData.canLayAll0 (ns.map PyData.int)) = true
    rw [can_ints ns]
    rfl
theorem depth_ints : ∀ ns : List Int, PyData.depthAll (ns.map PyData.int) ≤ 1
  | [] => by decide
  | n :: ns => by
    have ih := depth_ints ns
    show max (PyData.depth (.int n)) (PyData.depthAll (ns.map PyData.int)) ≤ 1
    have e : PyData.depth (.int n) ≤ 1 := by
      unfold PyData.depth
      decide
    omega
theorem shaped_ints (ns : List Int) : SeqAt.shaped (.list (ns.map PyData.int)) = true := by
  unfold SeqAt.shaped
  have h1 : (PyData.list (ns.map PyData.int)).canLay0 = true := can_ints ns
  have h2 : (PyData.list (ns.map PyData.int)).depth ≤ 64 := by
    have := depth_ints ns
    show PyData.depthAll (ns.map PyData.int) + 1 ≤ 64
    omega
  rw [h1, decide_eq_true h2]
  rfl
theorem eqv_ints (ns : List Int) : PyData.eqv (.list (ns.map PyData.int)) (.list (ns.map PyData.int)) = true := SeqAt.eqv_refl _ (can_ints ns)
end K2

set_option Elab.async false
set_option linter.all false
set_option maxRecDepth 100000
set_option maxHeartbeats 4000000
namespace K2
open PySem PySem.Spec PyProof.Rows L2
open Cm (Da DaAll)
/-! ### what is asked of things, by their data -/
def numD : PyData → Bool
  | .int _ => true
  | _ => false
def byteD : PyData → Bool
  | .int i => decide (0 ≤ i) && decide (i ≤ 255)
  | _ => false
def maskD : PyData → Bool
  | .tuple ds => decide (ds.length = 4) && ds.all byteD
  | _ => false
theorem dec_len (n : Nat) : decide (V.int (n : Int) = V.int 4) = decide (n = 4) := by
  by_cases h : n = 4
  · subst h
    rfl
  · rw [decide_eq_false h, decide_eq_false]
    intro z
    exact h (by have := V.int.inj z; omega)
/-- the mask of a slip -/
def mo1 (ns : List Int) (c : Int) (i : Nat) : Int := (ns.getD i 0 + c * (2 * (i : Int) + 1)) % 256
def mo (ns : List Int) (c : Int) : List Int := (List.range 4).map (mo1 ns c)
theorem mo_len (ns : List Int) (c : Int) : (mo ns c).length = 4 := by
  unfold mo
  rw [List.length_map, List.length_range]
theorem mo_step {ns : List Int} {c : Int} (i : Nat) : ((List.range (i + 1)).map (mo1 ns c)).map V.int = ((List.range i).map (mo1 ns c)).map V.int ++ [.int (mo1 ns c i)] := by
  rw [List.range_succ, List.map_append, List.map_append]
  rfl
theorem mo_bts (ns : List Int) (c : Int) : Bts (mo ns c) := by
  intro x hx
  obtain ⟨i, _, rfl⟩ := List.mem_map.mp hx
  exact ⟨Int.emod_nonneg _ (by decide), Int.emod_lt_of_pos _ (by decide)⟩
theorem mo_zero {ns : List Int} (h : ns.length = 4) (hb : Bts ns) : mo ns 0 = ns := by
  match ns, h with
  | [a, b, c, d], _ =>
    have h1 := hb a (by simp)
    have h2 := hb b (by simp)
    have h3 := hb c (by simp)
    have h4 := hb d (by simp)
    show [(a + 0 * _) % 256, (b + 0 * _) % 256, (c + 0 * _) % 256, (d + 0 * _) % 256] = [a, b, c, d]
    simp only [Int.zero_mul, Int.add_zero]
    rw [Int.emod_eq_of_lt h1.1 h1.2, Int.emod_eq_of_lt h2.1 h2.2, Int.emod_eq_of_lt h3.1 h3.2, Int.emod_eq_of_lt h4.1 h4.2]
theorem getD_of {ns : List Int} {i : Nat} {v : V} (h : (ns.map V.int)[i]? = some v) : v = .int (ns.getD i 0) := by
  rw [List.getElem?_map] at h
  obtain ⟨z, hz, rfl⟩ := Option.map_eq_some_iff.mp h
  rw [List.getD_eq_getElem?_getD, hz]
  rfl
theorem at_getD {ns : List Int} {i : Nat} (h : i < ns.length) : atI (ns.map V.int) (i : Int) = some (.int (ns.getD i 0)) := by
  refine atI_nat ?_
  rw [List.getElem?_map, List.getElem?_eq_getElem h, List.getD_eq_getElem?_getD, List.getElem?_eq_getElem h]
  rfl
theorem step_of {i : Nat} {v : V} (h : ([.int 1, .int 3, .int 5, .int 7] : List V)[i]? = some v) : v = .int (2 * (i : Int) + 1) := by
  match i, h with
  | 0, h => cases h; rfl
  | 1, h => cases h; rfl
  | 2, h => cases h; rfl
  | 3, h => cases h; rfl
  | i + 4, h => cases h
section
variable {P : Program} {w : World} {K : PySem.W.Frag} {mg : Str → Option Value} {base : Heap}
/-- one of a list, drawn -/
def spOf : Sp := fun vs H Q _ => ∃ (p l : Addr) (a b c : Int) (xs : List V), vs = [.ref p, .ref l] ∧ H p = some (.lst [.int a, .int b, .int c]) ∧ 0 ≤ a ∧ 0 ≤ b ∧ b < 2 ^ 62 ∧ 0 ≤ c ∧ c < 2 ^ 40 ∧ l ≠ p ∧ H l = some (.lst xs) ∧ 0 < xs.length ∧ xs.length < 1000 ∧
  ∀ (a' c' : Int) (x : V), 0 ≤ a' → c ≤ c' → c' ≤ c + 1 → x ∈ xs → Q x (upd H p (.lst [.int a', .int b, .int c']))
theorem ok_of (T : Tx K mg) : FnOk P w K mg base CX0 2 T.f_of T.fd_of ["_law_box_here", "_law_some"] spOf := by
  refine T.F_of.ok sc_of (fun vs H Q E h => ?_) (fun cdv A outer s H vs Q E hr h => ?_)
  · obtain ⟨p, l, a, b, c, xs, rfl, _⟩ := h
    rfl
  · obtain ⟨p, l, a, b, c, xs, rfl, hB, a0, b0, b1, c0, c1, npl, hL, l0, l1, q⟩ := h
    refine ⟨_, (pss_one (ps_ret (pe_ix (r := rIxL K) ix_list (pv 1) (pe_call (ok_take T) (hr.mono (by omega)) (by rfl) T.g_take T.F_take.kp T.b_take .nil pass0 (pa_cons (pv 0) (pa_cons (pe_callB call_len_seq (by rfl) T.m_len (by decide +kernel) (pa_cons (pv 1) pa_nil)) pa_nil))) (fun _ _ => rfl)))), ?_⟩
    refine ⟨.ref l, rfl, .ref p, rfl, .ref l, rfl, l, xs, rfl, .inl (sq1 hL), p, a, b, c, _, rfl, hB, a0, b0, b1, c0, c1, by omega, by omega, fun a' c' r a'0 cl cu r0 r1 => ?_⟩
    obtain ⟨j, rfl⟩ := Int.eq_ofNat_of_zero_le r0
    have hj : j < xs.length := by omega
    exact ⟨l, xs, _, xs[j], rfl, rfl, sq1 (by rw [upd_ne npl]; exact hL), atI_nat (List.getElem?_eq_getElem hj), q a' c' _ a'0 cl cu (List.getElem_mem hj)⟩
def spNum : Sp := fun vs H Q _ => ∃ (S : Addr → Prop) (x : V) (d : PyData), vs = [x] ∧ Da S H x d ∧ Q (.bl (numD d)) H
theorem ok_is_number (T : Tx K mg) : FnOk P w K mg base CX0 1 T.f_is_number T.fd_is_number ["thing"] spNum := by
  refine T.F_is_number.ok sc_is_number (fun vs H Q E h => ?_) (fun cdv A outer s H vs Q E hr h => ?_)
  · obtain ⟨S, x, d, rfl, _⟩ := h
    rfl
  · obtain ⟨S, x, d, rfl, hd, q⟩ := h
    obtain ⟨n, bi, bb, bt, ty, k1, k2, k3, e1, e2⟩ := hd.kit (K := K)
    have e1' : (bi && !bb) = numD d := by rw [e1]; cases d <;> rfl
    refine ⟨_, (pss_one (ps_ret (pe_and (pe_callB (r := rIsi K) call_isi (by rfl) T.m_isinstance (by decide +kernel) (pa_cons (pv 0) (pa_cons (pe_bltn (v := .ty "int") (u := .type "int") (by rfl) T.m_int (by decide +kernel) rfl) pa_nil))) (pe_one (pe_not (pe_callB (r := rIsi K) call_isi (by rfl) T.m_isinstance (by decide +kernel) (pa_cons (pv 0) (pa_cons (pe_bltn (v := .ty "bool") (u := .type "bool") (by rfl) T.m_bool (by decide +kernel) rfl) pa_nil)))))))), ?_⟩
    refine ⟨x, rfl, x, _, _, _, bi, rfl, .ty _, ty, k1, bi, rfl, ?_⟩
    cases bi with
    | true =>
      refine ⟨x, rfl, x, _, _, _, bb, rfl, .ty _, ty, k2, bb, rfl, ?_⟩
      rw [← e1'] at q
      exact q
    | false =>
      rw [← e1'] at q
      exact q
def spByte : Sp := fun vs H Q _ => ∃ (S : Addr → Prop) (x : V) (d : PyData), vs = [x] ∧ Da S H x d ∧ Q (.bl (byteD d)) H
theorem ok_is_byte (T : Tx K mg) : FnOk P w K mg base CX0 2 T.f_is_byte T.fd_is_byte ["thing"] spByte := by
  refine T.F_is_byte.ok sc_is_byte (fun vs H Q E h => ?_) (fun cdv A outer s H vs Q E hr h => ?_)
  · obtain ⟨S, x, d, rfl, _⟩ := h
    rfl
  · obtain ⟨S, x, d, rfl, hd, q⟩ := h
    refine ⟨_, (pss_one (ps_ret (pe_and (pe_call (ok_is_number T) (hr.mono (by omega)) (by rfl) T.g_is_number T.F_is_number.kp T.b_is_number .nil pass0 (pa_cons (pv 0) pa_nil)) (pe_one (pe_chain op_le op_le pe_int (pv 0) pe_int))))), ?_⟩
    refine ⟨x, rfl, S, x, d, rfl, hd, numD d, rfl, ?_⟩
    cases hd with
    | int i =>
      refine ⟨.int i, rfl, 0, i, rfl, rfl, _, rfl, ite2 (fun e => ?_) (fun e => ?_)⟩
      · refine ⟨i, 255, rfl, rfl, ?_⟩
        have e' : byteD (.int i) = decide (i ≤ 255) := by
          show (decide (0 ≤ i) && decide (i ≤ 255)) = _
          rw [e]
          rfl
        rw [e'] at q
        exact q
      · have e' : byteD (.int i) = false := by
          show (decide (0 ≤ i) && decide (i ≤ 255)) = _
          rw [Bool.eq_false_iff.mpr e]
          rfl
        rw [e'] at q
        exact q
    | non => exact q
    | bl _ => exact q
    | str _ => exact q
    | lst _ _ _ => exact q
    | tup _ _ _ => exact q
def spMask : Sp := fun vs H Q _ => ∃ (S : Addr → Prop) (x : V) (d : PyData), vs = [x] ∧ Da S H x d ∧ ∀ H', Same H H' → Q (.bl (maskD d)) H'
theorem ok_is_mask (T : Tx K mg) : FnOk P w K mg base CX0 3 T.f_is_mask T.fd_is_mask ["thing"] spMask := by
  refine T.F_is_mask.ok sc_is_mask (fun vs H Q E h => ?_) (fun cdv A outer s H vs Q E hr h => ?_)
  · obtain ⟨S, x, d, rfl, _⟩ := h
    rfl
  · obtain ⟨S, x, d, rfl, hd, q⟩ := h
    obtain ⟨n, bi, bb, bt, ty, k1, k2, k3, e1, e2⟩ := hd.kit (K := K)
    refine ⟨_, (pss_one (ps_ret (pe_and (pe_callB (r := rIsi K) call_isi (by rfl) T.m_isinstance (by decide +kernel) (pa_cons (pv 0) (pa_cons (pe_bltn (v := .ty "tuple") (u := .type "tuple") (by rfl) T.m_tuple (by decide +kernel) rfl) pa_nil))) (pe_and (pe_cmpR op_eq (pe_callB call_len_seq (by rfl) T.m_len (by decide +kernel) (pa_cons (pv 0) pa_nil)) pe_int (nomark _)) (pe_one (pe_callB (cr_all rfl) (by rfl) T.m_all (by decide +kernel) (pa_cons (pe_lc (own := [("part", 1)]) (g := gName 1) (tt := tYes) rfl sc_is_mask.nd (pi_tup (pv 0)) (blkOk_by (N := ["thing", "part"]) (sc := defScope s_is_mask) (by decide +kernel)) (fun _ _ _ _ _ => (pg_name (i := 1) sc_is_mask.nd rfl (.inl rfl))) (fun _ _ _ _ _ => pts_nil) (fun _ _ _ _ _ => (pe_call (ok_is_byte T) (hr.mono (by omega)) (by rfl) T.g_is_byte T.F_is_byte.kp T.b_is_byte .nil pass0 (pa_cons (pv 1) pa_nil)))) pa_nil))))))), ?_⟩
    refine ⟨x, rfl, x, _, _, _, bt, rfl, .ty _, ty, k3, bt, rfl, ?_⟩
    subst e2
    cases hd with
    | non => exact q _ (Same.refl H)
    | bl _ => exact q _ (Same.refl H)
    | int _ => exact q _ (Same.refl H)
    | str _ => exact q _ (Same.refl H)
    | lst _ _ _ => exact q _ (Same.refl H)
    | @tup a xs ds na ea all =>
      have hl := all.length
      refine ⟨.ref a, rfl, a, xs, rfl, .inr (st1 ea), rfl, _, rfl, ?_⟩
      rw [dec_len, hl]
      by_cases h4 : ds.length = 4
      · rw [decide_eq_true h4]
        refine ⟨.ref a, rfl, a, rfl, ⟨_, st1 ea⟩, fun D hD => lc_it (walk_tup (xs := xs)) (fun i Hc => Same H Hc ∧ Hc D = some (.lst (((ds.take i).map byteD).map V.bl))) ?_ ?_ ?_ ?_⟩
        · refine ⟨same_upd hD, ?_⟩
          rw [upd_same]
          rfl
        · rintro i Hc hi ⟨sm, _⟩
          exact st1 (sm _ _ ea)
        · rintro i y Hc H' hi ⟨sm, eD⟩ ⟨rfl, hy⟩
          obtain ⟨d', hd', da'⟩ := all.get hy
          refine ⟨rfl, ?_⟩
          refine ⟨y, rfl, S, y, d', rfl, Da.keep (fun b o _ e => sm b o e) _ da', ?_⟩
          refine ⟨_, eD, ?_, ?_, ?_⟩
          · rw [List.length_map, List.length_map, List.length_take]
            exact Nat.lt_of_le_of_lt (show min i ds.length ≤ 4 by omega) (by decide)
          · exact Same.mut sm hD
          · rw [upd_same, List.take_add_one, hd', List.map_append, List.map_append]
            rfl
        · rintro Hc ⟨sm, eD⟩
          rw [hl, List.take_of_length_le (Nat.le_refl _)] at eD
          refine ⟨D, ds.map byteD, rfl, sq1 eD, ?_⟩
          have e' : maskD (.tuple ds) = (ds.map byteD).all id := by
            show (decide (ds.length = 4) && ds.all byteD) = _
            rw [decide_eq_true h4, List.all_map]
            rfl
          rw [← e']
          exact q Hc sm
      · rw [decide_eq_false h4]
        have e' : maskD (.tuple ds) = false := by
          show (decide (ds.length = 4) && ds.all byteD) = _
          rw [decide_eq_false h4]
          rfl
        rw [e'] at q
        exact q _ (Same.refl H)
theorem ok_l_is_mask (T : Tx K mg) : FnOk P w K mg base CX0 1 T.f_l_is_mask T.fd_l_is_mask ["_law_some"] spMask := by
  refine T.F_l_is_mask.ok sc_l_is_mask (fun vs H Q E h => ?_) (fun cdv A outer s H vs Q E hr h => ?_)
  · obtain ⟨S, x, d, rfl, _⟩ := h
    rfl
  · obtain ⟨S, x, d, rfl, hd, q⟩ := h
    obtain ⟨n, bi, bb, bt, ty, k1, k2, k3, e1, e2⟩ := hd.kit (K := K)
    refine ⟨_, (pss_cons (ps_if (pw_or (pt_not (pt_val (pe_callB (r := rIsi K) call_isi (by rfl) T.m_isinstance (by decide +kernel) (pa_cons (pv 0) (pa_cons (pe_bltn (v := .ty "tuple") (u := .type "tuple") (by rfl) T.m_tuple (by decide +kernel) rfl) pa_nil))))) (pw_or1 (pt_cmpR op_ne (pe_callB call_len_seq (by rfl) T.m_len (by decide +kernel) (pa_cons (pv 0) pa_nil)) pe_int (nomark _)))).pt (pss_one (ps_ret pe_bl)) pss_nil)
      (pss_one (ps_ret (pe_callB (cr_all rfl) (by rfl) T.m_all (by decide +kernel) (pa_cons (pe_lc (own := [("_law_one", 1)]) (g := gName 1) (tt := tYes) rfl sc_l_is_mask.nd (pi_tup (pv 0)) (blkOk_by (N := ["_law_some", "_law_one"]) (sc := defScope s_l_is_mask) (by decide +kernel)) (fun _ _ _ _ _ => (pg_name (i := 1) sc_l_is_mask.nd rfl (.inl rfl))) (fun _ _ _ _ _ => pts_nil) (fun _ _ _ _ _ => (pe_and (pe_callB (r := rIsi K) call_isi (by rfl) T.m_isinstance (by decide +kernel) (pa_cons (pv 1) (pa_cons (pe_bltn (v := .ty "int") (u := .type "int") (by rfl) T.m_int (by decide +kernel) rfl) pa_nil))) (pe_and (pe_not (pe_callB (r := rIsi K) call_isi (by rfl) T.m_isinstance (by decide +kernel) (pa_cons (pv 1) (pa_cons (pe_bltn (v := .ty "bool") (u := .type "bool") (by rfl) T.m_bool (by decide +kernel) rfl) pa_nil)))) (pe_one (pe_chain op_le op_lt pe_int (pv 1) pe_int)))))) pa_nil))))), ?_⟩
    refine ⟨x, rfl, x, _, _, _, bt, rfl, .ty _, ty, k3, bt, rfl, ?_⟩
    subst e2
    cases hd with
    | non => exact q _ (Same.refl H)
    | bl _ => exact q _ (Same.refl H)
    | int _ => exact q _ (Same.refl H)
    | str _ => exact q _ (Same.refl H)
    | lst _ _ _ => exact q _ (Same.refl H)
    | @tup a xs ds na ea all =>
      have hl := all.length
      refine ⟨.ref a, rfl, a, xs, rfl, .inr (st1 ea), rfl, _, rfl, ?_⟩
      rw [dec_len, hl]
      by_cases h4 : ds.length = 4
      · rw [decide_eq_true h4]
        refine ⟨.ref a, rfl, a, rfl, ⟨_, st1 ea⟩, fun D hD => lc_it (walk_tup (xs := xs)) (fun i Hc => Same H Hc ∧ Hc D = some (.lst (((ds.take i).map byteD).map V.bl))) ?_ ?_ ?_ ?_⟩
        · refine ⟨same_upd hD, ?_⟩
          rw [upd_same]
          rfl
        · rintro i Hc hi ⟨sm, _⟩
          exact st1 (sm _ _ ea)
        · rintro i y Hc H' hi ⟨sm, eD⟩ ⟨rfl, hy⟩
          obtain ⟨d', hd', da'⟩ := all.get hy
          have da2 : Da S H' y d' := Da.keep (fun b o _ e => sm b o e) _ da'
          have fin : ∀ b : Bool, b = byteD d' → ∃ acc, H' D = some (.lst acc) ∧ acc.length < sizeLine ∧ (Same H (upd H' D (.lst (acc ++ [.bl b]))) ∧ (upd H' D (.lst (acc ++ [.bl b]))) D = some (.lst (((ds.take (i + 1)).map byteD).map V.bl))) := by
            rintro b rfl
            refine ⟨_, eD, ?_, ?_, ?_⟩
            · rw [List.length_map, List.length_map, List.length_take]
              exact Nat.lt_of_le_of_lt (show min i ds.length ≤ 4 by omega) (by decide)
            · exact Same.mut sm hD
            · rw [upd_same, List.take_add_one, hd', List.map_append, List.map_append]
              rfl
          obtain ⟨n', bi', bb', bt', ty', k1', k2', k3', e1', e2'⟩ := da2.kit (K := K)
          refine ⟨rfl, ?_⟩
          refine ⟨y, rfl, y, _, _, _, bi', rfl, .ty _, ty', k1', bi', rfl, ?_⟩
          cases hbi : bi' with
          | false =>
            refine fin false ?_
            rw [hbi] at e1'
            cases d' <;> first | rfl | cases e1'
          | true =>
            refine ⟨y, rfl, y, _, _, _, bb', rfl, .ty _, ty', k2', bb', rfl, _, rfl, ?_⟩
            rw [hbi] at e1'
            cases hbb : bb' with
            | true =>
              refine fin false ?_
              rw [hbb] at e1'
              cases d' <;> first | rfl | cases e1'
            | false =>
              rw [hbb] at e1'
              cases da2 with
              | int i' =>
                refine ⟨.int i', rfl, 0, i', rfl, rfl, _, rfl, ite2 (fun e => ?_) (fun e => ?_)⟩
                · refine ⟨i', 256, rfl, rfl, fin _ ?_⟩
                  show decide (i' < 256) = (decide (0 ≤ i') && decide (i' ≤ 255))
                  rw [e, Bool.true_and]
                  exact decide_eq_decide.mpr (by omega)
                · refine fin false ?_
                  show false = (decide (0 ≤ i') && decide (i' ≤ 255))
                  rw [Bool.eq_false_iff.mpr e]
                  rfl
              | non => cases e1'
              | bl _ => cases e1'
              | str _ => cases e1'
              | lst _ _ _ => cases e1'
              | tup _ _ _ => cases e1'
        · rintro Hc ⟨sm, eD⟩
          rw [hl, List.take_of_length_le (Nat.le_refl _)] at eD
          refine ⟨D, ds.map byteD, rfl, sq1 eD, ?_⟩
          have e' : maskD (.tuple ds) = (ds.map byteD).all id := by
            show (decide (ds.length = 4) && ds.all byteD) = _
            rw [decide_eq_true h4, List.all_map]
            rfl
          rw [← e']
          exact q Hc sm
      · rw [decide_eq_false h4]
        have e' : maskD (.tuple ds) = false := by
          show (decide (ds.length = 4) && ds.all byteD) = _
          rw [decide_eq_false h4]
          rfl
        rw [e'] at q
        exact q _ (Same.refl H)
/-! ### masks of slips -/
def spMaskOf (K : PySem.W.Frag) : Sp := fun vs H Q _ => ∃ (k : Bool) (a : Addr) (ns : List Int) (c : Int), vs = [.ref a, .int c] ∧ SqX K H k a (ns.map V.int) ∧ ns.length = 4 ∧
  ∀ (H' : Hp) (p : Addr), Same H H' → H p = none → H' p = some (.tup ((mo ns c).map V.int)) → Q (.ref p) H'
theorem Same.seqX {H H' : Hp} {k : Bool} {a : Addr} {xs : List V} (e : Same H H') (h : SqX K H k a xs) : SqX K H' k a xs := by
  cases k with
  | true => exact Same.seqT e h
  | false => exact e.seq h
theorem ok_mask_of (T : Tx K mg) : FnOk P w K mg base CX0 1 T.f_mask_of T.fd_mask_of ["first", "number"] (spMaskOf K) := by
  refine T.F_mask_of.ok sc_mask_of (fun vs H Q E h => ?_) (fun cdv A outer s H vs Q E hr h => ?_)
  · obtain ⟨k, a, ns, c, rfl, _⟩ := h
    rfl
  · obtain ⟨k, a, ns, c, rfl, hA, hl, q⟩ := h
    refine ⟨_, (pss_one (ps_ret (pe_callTy call_tuple_of (by rfl) T.m_tuple (by decide +kernel) (pa_cons (pe_lc (own := [("byte", 2), ("step", 3)]) (g := gTup K 2 (gCons (gName 2) (gCons (gName 3) gNil))) (tt := tYes) rfl sc_mask_of.nd (pi_zipG (by rfl) T.m_zip (pa_cons (pv 0) (pa_cons (pe_glob (v := .ref T.a_STEPS) (by rfl) T.g_STEPS rfl) pa_nil))) (blkOk_by (N := ["first", "number", "byte", "step"]) (sc := defScope s_mask_of) (by decide +kernel)) (fun _ _ _ _ _ => (pg_tup rfl (pgs_cons (pg_name (i := 2) sc_mask_of.nd rfl (.inl rfl)) (pgs_cons (pg_name (i := 3) sc_mask_of.nd rfl (.inl rfl)) pgs_nil)))) (fun _ _ _ _ _ => pts_nil) (fun _ _ _ _ _ => (pe_op op_mod (pe_op op_add (pv 2) (pe_op op_mul (pv 1) (pv 3))) pe_int))) pa_nil)))), ?_⟩
    refine ⟨.ref a, rfl, k, true, a, T.a_STEPS, ns.map V.int, _, rfl, hA, T.q_STEPS H, fun D hD => lc_it (walk_zipG (xs := ns.map V.int) (ys := [.int 1, .int 3, .int 5, .int 7]) (n := 4) (by rw [List.length_map, hl]; rfl)) (fun i Hc => Same H Hc ∧ Hc D = some (.lst (((List.range i).map (mo1 ns c)).map V.int))) ?_ ?_ ?_ ?_⟩
    · refine ⟨same_upd hD, ?_⟩
      rw [upd_same]
      rfl
    · rintro i Hc hi ⟨sm, _⟩
      exact ⟨Same.seqX sm hA, T.q_STEPS Hc⟩
    · rintro i x Hc H' hi ⟨sm, eD⟩ ⟨T', v1, v2, rfl, hT, rfl, e1, e2⟩
      have e3 := getD_of e1
      have e4 := step_of e2
      subst e3 e4
      have nDT : D ≠ T' := ne_of_none eD hT
      refine ⟨T', [_, _], rfl, .inl (.inl upd_same), rfl, _, _, rfl, _, _, rfl, rfl, rfl, ?_⟩
      refine ⟨_, rfl, .int c, rfl, _, rfl, c, _, rfl, rfl, .inr ⟨by omega, by omega⟩, _, _, rfl, rfl, _, 256, rfl, rfl, (by show (0 : Int) < _; decide), ?_⟩
      refine ⟨_, (by rw [upd_ne nDT]; exact eD), ?_, ?_, ?_⟩
      · rw [List.length_map, List.length_map, List.length_range]
        exact Nat.lt_of_le_of_lt (show i ≤ 4 by omega) (by decide)
      · exact Same.mut (sm.trans (same_upd hT)) hD
      · rw [upd_same, mo_step]
        rfl
    · rintro Hc ⟨sm, eD⟩
      exact ⟨D, _, rfl, .inl ⟨sq1 eD, fun t ht => q _ t (sm.trans (same_upd ht)) (Same.free sm ht) upd_same⟩⟩
def spDue : Sp := fun vs H Q _ => ∃ (a : Addr) (ns : List Int) (c : Int), vs = [.ref a, .int c] ∧ H a = some (.tup (ns.map V.int)) ∧ ns.length = 4 ∧
  ∀ (H' : Hp) (p : Addr), Same H H' → H p = none → H' p = some (.tup ((mo ns c).map V.int)) → Q (.ref p) H'
theorem ok_due (T : Tx K mg) : FnOk P w K mg base CX0 1 T.f_due T.fd_due ["_law_veil", "_law_count"] spDue := by
  refine T.F_due.ok sc_due (fun vs H Q E h => ?_) (fun cdv A outer s H vs Q E hr h => ?_)
  · obtain ⟨a, ns, c, rfl, _⟩ := h
    rfl
  · obtain ⟨a, ns, c, rfl, hA, hl, q⟩ := h
    refine ⟨_, (pss_one (ps_ret (pe_callTy call_tuple_of (by rfl) T.m_tuple (by decide +kernel) (pa_cons (pe_lc (own := [("_law_spot", 2)]) (g := gName 2) (tt := tYes) rfl sc_due.nd (pi_range1 (by rfl) T.m_range (pa_cons pe_int pa_nil)) (blkOk_by (N := ["_law_veil", "_law_count", "_law_spot"]) (sc := defScope s_due) (by decide +kernel)) (fun _ _ _ _ _ => (pg_name (i := 2) sc_due.nd rfl (.inl rfl))) (fun _ _ _ _ _ => pts_nil) (fun _ _ _ _ _ => (pe_op op_mod (pe_op op_add (pe_ix (r := rIxT K) ix_tup (pv 0) (pv 2) (fun _ _ => rfl)) (pe_op op_mul (pv 1) (pe_op op_add (pe_op op_mul pe_int (pv 2)) pe_int))) pe_int))) pa_nil)))), ?_⟩
    refine ⟨4, rfl, by decide, by decide, fun D hD => lc_it walk_range (fun i Hc => Same H Hc ∧ Hc D = some (.lst (((List.range i).map (mo1 ns c)).map V.int))) ?_ (fun _ _ _ _ => trivial) ?_ ?_⟩
    · refine ⟨same_upd hD, ?_⟩
      rw [upd_same]
      rfl
    · rintro i x Hc H' hi ⟨sm, eD⟩ ⟨rfl, rfl⟩
      have hi4 : i < 4 := hi
      refine ⟨rfl, ?_⟩
      refine ⟨.ref a, rfl, _, rfl, a, _, _, _, rfl, rfl, st1 (sm _ _ hA), (by rw [Int.zero_add]; exact at_getD (by omega)), .int c, rfl, _, rfl, 2, _, rfl, rfl, .inl ⟨by decide, by decide⟩, _, 1, rfl, rfl, c, _, rfl, rfl, .inr ⟨by omega, by omega⟩, _, _, rfl, rfl, _, 256, rfl, rfl, (by show (0 : Int) < _; decide), ?_⟩
      refine ⟨_, eD, ?_, ?_, ?_⟩
      · rw [List.length_map, List.length_map, List.length_range]
        exact Nat.lt_of_le_of_lt (show i ≤ 4 by omega) (by decide)
      · exact Same.mut sm hD
      · rw [upd_same, mo_step, Int.zero_add]
        rfl
    · rintro Hc ⟨sm, eD⟩
      exact ⟨D, _, rfl, .inl ⟨sq1 eD, fun t ht => q _ t (sm.trans (same_upd ht)) (Same.free sm ht) upd_same⟩⟩
end
end K2

set_option Elab.async false
set_option linter.all false
set_option maxRecDepth 100000
set_option maxHeartbeats 4000000
namespace K2
open PySem PySem.Spec PyProof.Rows L2
open Cm (Da DaAll wt wtAll okD okAll)
/-! ### data that can be shown -/
theorem okAll_app : ∀ (xs ys : List PyData), okAll (xs ++ ys) = (okAll xs && okAll ys)
  | [], ys => by simp [okAll]
  | x :: xs, ys => by
    show (okD x && okAll (xs ++ ys)) = ((okD x && okAll xs) && okAll ys)
    rw [okAll_app xs ys, Bool.and_assoc]
theorem wtAll_app : ∀ (xs ys : List PyData), wtAll (xs ++ ys) = wtAll xs + wtAll ys
  | [], ys => by simp [wtAll]
  | x :: xs, ys => by
    show wt x + 2 + wtAll (xs ++ ys) = (wt x + 2 + wtAll xs) + wtAll ys
    rw [wtAll_app xs ys]
    omega
theorem depthAll_app : ∀ (xs ys : List PyData), PyData.depthAll (xs ++ ys) = max (PyData.depthAll xs) (PyData.depthAll ys)
  | [], ys => by simp [PyData.depthAll]
  | x :: xs, ys => by
    show max x.depth (PyData.depthAll (xs ++ ys)) = max (max x.depth (PyData.depthAll xs)) (PyData.depthAll ys)
    rw [depthAll_app xs ys]
    omega
theorem okI {i : Int} (h : i.natAbs < 2 ^ 64) : okD (.int i) = true := by
  refine decide_eq_true ?_
  by_cases h0 : i.natAbs = 0
  · rw [h0]
    decide
  · exact Nat.lt_trans ((Nat.log2_lt h0).mpr h) (by decide)
theorem ok_ints : ∀ {ns : List Int}, Bts ns → okAll (ns.map PyData.int) = true
  | [], _ => rfl
  | n :: ns, h => by
    show (okD (.int n) && okAll (ns.map PyData.int)) = true
    have hn := h n (by simp)
    rw [okI (by omega), ok_ints fun x hx => h x (List.mem_cons_of_mem _ hx)]
    rfl
theorem wt_ints : ∀ ns : List Int, wtAll (ns.map PyData.int) = 2002 * ns.length
  | [] => rfl
  | n :: ns => by
    show 2000 + 2 + wtAll (ns.map PyData.int) = 2002 * (ns.length + 1)
    rw [wt_ints ns]
    omega
/-- a thing that may be shown and asked of, apart from p -/
def Gd (S : Addr → Prop) (H : Hp) (x : V) (n : Nat) : Prop := ∃ d, Da S H x d ∧ okD d = true ∧ d.depth ≤ n ∧ wt d ≤ 7000 * n
/-- some places, lists all of them -/
def SL (S : Addr → Prop) (H : Hp) : Prop := ∀ a, S a → ∃ xs, H a = some (.lst xs)
theorem SL.tup {S : Addr → Prop} {H : Hp} {a : Addr} {ys : List V} (h : SL S H) (e : H a = some (.tup ys)) : ¬ S a := fun z => by
  obtain ⟨xs, e'⟩ := h a z
  rw [e] at e'
  cases e'
theorem SL.new {S : Addr → Prop} {H : Hp} {a : Addr} (h : SL S H) (e : H a = none) : ¬ S a := fun z => by
  obtain ⟨xs, e'⟩ := h a z
  rw [e] at e'
  cases e'
theorem SL.same {S : Addr → Prop} {H H' : Hp} (h : SL S H) (s : Same H H') : SL S H' := fun a z => by
  obtain ⟨xs, e⟩ := h a z
  exact ⟨xs, s _ _ e⟩
theorem SL.keep {S : Addr → Prop} {p : Addr} {H H' : Hp} {ys : List V} (h : SL S H) (k : Keep p H H') (e : H' p = some (.lst ys)) : SL S H' := fun a z => by
  by_cases ha : a = p
  · subst ha
    exact ⟨ys, e⟩
  · obtain ⟨xs, e'⟩ := h a z
    exact ⟨xs, k _ _ ha e'⟩
theorem Gd.keepS {S : Addr → Prop} {H H' : Hp} {x : V} {n : Nat} (k : ∀ b o, ¬ S b → H b = some o → H' b = some o) (h : Gd S H x n) : Gd S H' x n := by
  obtain ⟨d, h1, h2⟩ := h
  exact ⟨d, Da.keep k d h1, h2⟩
theorem Gd.keep {S : Addr → Prop} {p : Addr} {H H' : Hp} {x : V} {n : Nat} (hp : S p) (k : Keep p H H') (h : Gd S H x n) : Gd S H' x n := h.keepS fun b o nb e => k b o (fun z => nb (z ▸ hp)) e
theorem Gd.same {S : Addr → Prop} {H H' : Hp} {x : V} {n : Nat} (k : Same H H') (h : Gd S H x n) : Gd S H' x n := h.keepS fun b o _ e => k b o e
theorem Gd.mono {S : Addr → Prop} {H : Hp} {x : V} {n m : Nat} (h : Gd S H x n) (l : n ≤ m) : Gd S H x m := by
  obtain ⟨d, h1, h2, h3, h4⟩ := h
  exact ⟨d, h1, h2, Nat.le_trans h3 l, by omega⟩
theorem Gd.int {S : Addr → Prop} {H : Hp} {i : Int} (h : i.natAbs < 2 ^ 64) : Gd S H (.int i) 3 := ⟨_, .int i, okI h, Nat.zero_le _, by show 2000 ≤ 21000; decide⟩
theorem Gd.bl {S : Addr → Prop} {H : Hp} {b : Bool} : Gd S H (.bl b) 3 := ⟨_, .bl b, rfl, Nat.zero_le _, by show 5 ≤ 21000; decide⟩
theorem Gd.non {S : Addr → Prop} {H : Hp} : Gd S H .non 3 := ⟨_, .non, rfl, Nat.zero_le _, by show 4 ≤ 21000; decide⟩
theorem codes_ok (s : String) : ((Str.ofString s).cps.toList.all fun c => decide (c < 16 ^ 8)) = true := by
  rw [List.all_eq_true]
  intro c hc
  refine decide_eq_true ?_
  rw [Str.ofString_eq_toList] at hc
  have h : c ∈ s.toList.map Char.toNat := by simpa using hc
  obtain ⟨ch, _, rfl⟩ := List.mem_map.mp h
  exact ch.val.toNat_lt
theorem Gd.str {S : Addr → Prop} {H : Hp} {s : String} (h : (Str.ofString s).length ≤ 2000) : Gd S H (.str (Str.ofString s)) 3 := ⟨_, .str _, codes_ok s, Nat.zero_le _, by show 10 * (Str.ofString s).length + 2 ≤ 21000; omega⟩
theorem Gd.ints {S : Addr → Prop} {a : Addr} {H : Hp} {ns : List Int} (na : ¬ S a) (h : H a = some (.tup (ns.map V.int))) (hb : Bts ns) (hl : ns.length ≤ 10) : Gd S H (.ref a) 3 :=
  ⟨_, .tup na h (DaAll.ints ns), ok_ints hb, by have := depth_ints ns; show PyData.depthAll (ns.map PyData.int) + 1 ≤ 3; omega, by show wtAll (ns.map PyData.int) + 4 ≤ 21000; rw [wt_ints]; omega⟩
theorem Gd.intsL {S : Addr → Prop} {a : Addr} {H : Hp} {ns : List Int} (na : ¬ S a) (h : H a = some (.lst (ns.map V.int))) (hb : Bts ns) (hl : ns.length ≤ 10) : Gd S H (.ref a) 3 :=
  ⟨_, .lst na h (DaAll.ints ns), ok_ints hb, by have := depth_ints ns; show PyData.depthAll (ns.map PyData.int) + 1 ≤ 3; omega, by show wtAll (ns.map PyData.int) + 4 ≤ 21000; rw [wt_ints]; omega⟩
/-! ### tuples added and cut -/
theorem cat_tups {K : PySem.W.Frag} {H : Hp} {a b : Addr} {xs ys : List V} {Q : VK} (ha : H a = some (.tup xs)) (hb : H b = some (.tup ys)) (hl : xs.length + ys.length ≤ 1000)
    (h : ∀ (c : Addr) (H' : Hp), Same H H' → H' c = some (.tup (xs ++ ys)) → Q (.ref c) H') : rCatA K (.ref a) (.ref b) H Q := by
  refine ⟨a, b, xs, ys, rfl, rfl, st1 ha, st1 hb, Nat.le_trans hl (by decide), fun e => ?_, fun _ e => ?_, fun _ _ p hp => h p _ (same_upd hp) upd_same⟩
  · exact h b H (Same.refl H) (by rw [e]; exact hb)
  · exact h a H (Same.refl H) (by rw [e, List.append_nil]; exact ha)
theorem cutT_lo (ns : List Int) (c : Nat) : cutV (ns.map V.int) none (some (c : Int)) = (ns.take c).map V.int := by
  unfold cutV
  rw [HT.sIx_none, HT.sIx_nat, List.drop_zero, Nat.sub_zero, List.length_map, ← List.map_take]
  by_cases h : c ≤ ns.length
  · rw [Nat.min_eq_left h]
  · rw [Nat.min_eq_right (by omega), List.take_of_length_le (Nat.le_refl _), List.take_of_length_le (by omega)]
theorem cutT_hi (ns : List Int) (c : Nat) (h : c ≤ ns.length) : cutV (ns.map V.int) (some (c : Int)) none = (ns.drop c).map V.int := by
  unfold cutV
  rw [HT.sIx_none, HT.sIx_nat, List.length_map, Nat.min_eq_left h, ← List.map_drop, List.take_of_length_le]
  rw [List.length_map, List.length_drop]
  exact Nat.le_refl _
theorem slT_lo {K : PySem.W.Frag} {H : Hp} {a : Addr} {ns : List Int} {c : Nat} {Q : VK} (ha : H a = some (.tup (ns.map V.int)))
    (h : ∀ (b : Addr) (H' : Hp), Same H H' → H' b = some (.tup ((ns.take c).map V.int)) → Q (.ref b) H') : rSlA K (.ref a) none (some (c : Int)) H Q := by
  refine ⟨a, _, rfl, st1 ha, fun e => h a H (Same.refl H) ?_, fun _ p hp => h p _ (same_upd hp) (by rw [upd_same, cutT_lo])⟩
  have e2 := e.2
  rw [HT.sIx_nat, List.length_map] at e2
  rw [List.take_of_length_le (by omega)]
  exact ha
theorem slT_hi {K : PySem.W.Frag} {H : Hp} {a : Addr} {ns : List Int} {z : Int} {c : Nat} {Q : VK} (ha : H a = some (.tup (ns.map V.int))) (hz : z = (c : Int)) (hc : c ≤ ns.length)
    (h : ∀ (b : Addr) (H' : Hp), Same H H' → H' b = some (.tup ((ns.drop c).map V.int)) → Q (.ref b) H') : rSlA K (.ref a) (some z) none H Q := by
  subst hz
  refine ⟨a, _, rfl, st1 ha, fun e => h a H (Same.refl H) ?_, fun _ p hp => h p _ (same_upd hp) (by rw [upd_same, cutT_hi ns c hc])⟩
  have e1 := e.1
  rw [HT.sIx_nat, List.length_map, Nat.min_eq_left hc] at e1
  rw [e1]
  exact ha
theorem np {σ : L2.St} {H : Hp} {Q : Option Int → Hp → Prop} (h : Q none H) : tNoPart σ H Q := h
theorem atI_mem {xs : List V} {r : Int} (h0 : 0 ≤ r) (h1 : r < xs.length) : ∃ x, x ∈ xs ∧ atI xs r = some x := by
  obtain ⟨j, rfl⟩ := Int.eq_ofNat_of_zero_le h0
  have hj : j < xs.length := by omega
  exact ⟨xs[j], List.getElem_mem hj, atI_nat (List.getElem?_eq_getElem hj)⟩
theorem bts_take {ns : List Int} (h : Bts ns) (c : Nat) : Bts (ns.take c) := fun x hx => h x (List.mem_of_mem_take hx)
theorem bts_drop {ns : List Int} (h : Bts ns) (c : Nat) : Bts (ns.drop c) := fun x hx => h x (List.mem_of_mem_drop hx)
theorem tup_ne {H : Hp} {p a : Addr} {xs ys : List V} (h1 : H p = some (.lst xs)) (h2 : H a = some (.tup ys)) : a ≠ p := fun z => by
  rw [z, h1] at h2
  cases h2
section
variable {P : Program} {w : World} {K : PySem.W.Frag} {mg : Str → Option Value} {base : Heap}
/-- a mask bent -/
def spBent : Sp := fun vs H Q _ => ∃ (S : Addr → Prop) (p v : Addr) (a b c : Int) (ns : List Int), vs = [.ref p, .ref v] ∧ S p ∧ SL S H ∧ H p = some (.lst [.int a, .int b, .int c]) ∧ 0 ≤ a ∧ 0 ≤ b ∧ b < 2 ^ 62 ∧ 0 ≤ c ∧ c < 2 ^ 39 ∧ H v = some (.tup (ns.map V.int)) ∧ ns.length = 4 ∧ Bts ns ∧
  ∀ (H' : Hp) (x : V) (a' c' : Int), Keep p H H' → H' p = some (.lst [.int a', .int b, .int c']) → 0 ≤ a' → c ≤ c' → c' ≤ c + 3 → Gd S H' x 5 → Q x H'
theorem ok_bent (T : Tx K mg) : FnOk P w K mg base CX0 2 T.f_bent T.fd_bent ["_law_box_here", "_law_veil"] spBent := by
  refine T.F_bent.ok sc_bent (fun vs H Q E h => ?_) (fun cdv A outer s H vs Q E hr h => ?_)
  · obtain ⟨S, p, v, a, b, c, ns, rfl, _⟩ := h
    rfl
  · obtain ⟨S, p, v, a, b, c, ns, rfl, hSp, hSL, hB, a0, b0, b1, c0, c1, hV, hl, hb, q⟩ := h
    refine ⟨_, (pss_cons (ps_par (i := 2) (j := 3) rfl sc_bent.nd rfl rfl (by decide) rfl rfl (pa_cons (pe_call (ok_take T) (hr.mono (by omega)) (by rfl) T.g_take T.F_take.kp T.b_take .nil pass0 (pa_cons (pv 0) (pa_cons pe_int pa_nil))) (pa_cons (pe_call (ok_take T) (hr.mono (by omega)) (by rfl) T.g_take T.F_take.kp T.b_take .nil pass0 (pa_cons (pv 0) (pa_cons pe_int pa_nil))) pa_nil)) rfl)
      (pss_cons (ps_set (i := 4) sc_bent.nd rfl (.inl rfl) (pe_ix (r := rIxT K) ix_tup (pv 1) (pv 3) (fun _ _ => rfl)))
      (pss_cons (ps_set (i := 5) sc_bent.nd rfl (.inl rfl) (pe_lst (pa_cons pe_int (pa_cons (pe_un un_neg pe_int) (pa_cons pe_bl (pa_cons pe_bl (pa_cons pe_non (pa_cons (pe_callTy call_str_int (by rfl) T.m_str (by decide +kernel) (pa_cons (pv 4) pa_nil)) (pa_cons (pe_tup (pa_cons (pv 4) pa_nil)) (pa_cons (pe_lst (pa_cons (pv 4) pa_nil)) (pa_cons pe_int (pa_cons pe_int (pa_cons (pe_op op_add (pv 4) pe_int) (pa_cons (pe_op op_pow pe_int pe_int) pa_nil))))))))))))))
      (pss_cons (ps_if (pt_cmpR op_lt (pv 2) pe_int (nomark _)) (pss_one (ps_ret (pe_op op_catA (pe_op op_catA (pe_slice sl_tupA (pv 1) po_none (po_some (pv 3))) (pe_tup (pa_cons (pe_ix (r := rIxL K) ix_list (pv 5) (pe_call (ok_take T) (hr.mono (by omega)) (by rfl) T.g_take T.F_take.kp T.b_take .nil pass0 (pa_cons (pv 0) (pa_cons pe_int pa_nil))) (fun _ _ => rfl)) pa_nil))) (pe_slice sl_tupA (pv 1) (po_some (pe_op op_add (pv 3) pe_int)) po_none)))) pss_nil)
      (pss_one (ps_ret (pe_ix (r := rIxL K) ix_list (pe_lst (pa_cons (pe_op op_catA (pe_slice sl_tupA (pv 1) po_none (po_some (pv 3))) (pe_slice sl_tupA (pv 1) (po_some (pe_op op_add (pv 3) pe_int)) po_none)) (pa_cons (pe_op op_catA (pv 1) (pe_tup (pa_cons (pv 4) pa_nil))) (pa_cons (pe_callTy call_list_of (by rfl) T.m_list (by decide +kernel) (pa_cons (pv 1) pa_nil)) (pa_cons (pe_tup (pa_cons (pv 1) pa_nil)) pa_nil))))) (pe_op op_sub (pv 2) pe_int) (fun _ _ => rfl)))))))), ?_⟩
    -- way, spot = take(box, 7), take(box, 4)
    refine ⟨.ref p, rfl, p, a, b, c, 7, rfl, hB, a0, b0, b1, c0, by omega, by decide, by decide, fun a1 c2 way a10 cl1 cu1 w0 w1 => ?_⟩
    refine ⟨.ref p, rfl, p, a1, b, c2, 4, rfl, upd_same, a10, b0, b1, by omega, by omega, by decide, by decide, fun a2 c3 spot a20 cl2 cu2 s0 s1 => ?_⟩
    refine ⟨_, _, rfl, ?_⟩
    have nvp : v ≠ p := tup_ne hB hV
    have k2 : Keep p H (upd (upd H p (.lst [.int a1, .int b, .int c2])) p (.lst [.int a2, .int b, .int c3])) := ((Keep.refl p H).upd).upd
    have eb2 : (upd (upd H p (.lst [.int a1, .int b, .int c2])) p (.lst [.int a2, .int b, .int c3])) p = some (.lst [.int a2, .int b, .int c3]) := upd_same
    generalize upd (upd H p (.lst [.int a1, .int b, .int c2])) p (.lst [.int a2, .int b, .int c3]) = H2 at *
    have hV2 := k2 _ _ nvp hV
    have L2' : SL S H2 := hSL.keep k2 eb2
    have nvS : ¬ S v := hSL.tup hV
    obtain ⟨sn, rfl⟩ := Int.eq_ofNat_of_zero_le s0
    have sn4 : sn < ns.length := by omega
    have pb := hb (ns.getD sn 0) (by
      rw [List.getD_eq_getElem?_getD, List.getElem?_eq_getElem sn4]
      exact List.getElem_mem sn4)
    -- part
    refine ⟨.ref v, rfl, .int sn, rfl, v, _, _, _, rfl, rfl, st1 hV2, at_getD sn4, ?_⟩
    generalize ns.getD sn 0 = part at *
    have plen : (Str.ofString (toString part)).length ≤ 2000 := by
      have := int_text_len_1921 (i := part) (of_decide_eq_true (okI (i := part) (by omega)))
      omega
    -- odd
    refine ⟨1, rfl, .int part, rfl, part, rfl, of_decide_eq_true (okI (i := part) (by omega)), .int part, rfl, by show 1 ≤ sizeLine; decide, fun t1 ht1 => ?_⟩
    refine ⟨.int part, rfl, by show 1 ≤ sizeLine; decide, fun l1 hl1 => ?_⟩
    refine ⟨.int part, rfl, part, 256, rfl, rfl, 10, 9, rfl, rfl, ⟨by decide, by decide, by decide⟩, by show 12 ≤ sizeLine; decide, fun lo hlo => ?_⟩
    have s23 : Same H2 (upd H2 t1 (.tup [.int part])) := same_upd ht1
    have et1 : (upd H2 t1 (.tup [.int part])) t1 = some (.tup ([part].map V.int)) := upd_same
    generalize upd H2 t1 (.tup [.int part]) = H3 at *
    have s34 : Same H3 (upd H3 l1 (.lst [.int part])) := same_upd hl1
    have el1 : (upd H3 l1 (.lst [.int part])) l1 = some (.lst ([part].map V.int)) := upd_same
    have nl1 : ¬ S l1 := (L2'.same s23).new hl1
    generalize upd H3 l1 (.lst [.int part]) = H4 at *
    have s24 := s23.trans s34
    have nlo : lo ≠ p := fun z => by
      rw [z, s24 _ _ eb2] at hlo
      cases hlo
    have odds : ∀ x ∈ ([.int 256, .int (-1), .bl true, .bl false, .non, .str (Str.ofString (toString part)), .ref t1, .ref l1, .int 255, .int 0, .int (part + 256), .int (10 ^ (Int.toNat 9))] : List V), Gd S H4 x 3 := by
      intro x hx
      have bp : Bts [part] := fun y hy => by rw [List.mem_singleton.mp hy]; exact pb
      simp only [List.mem_cons, List.not_mem_nil, or_false] at hx
      rcases hx with rfl | rfl | rfl | rfl | rfl | rfl | rfl | rfl | rfl | rfl | rfl | rfl
      · exact Gd.int (by decide)
      · exact Gd.int (by decide)
      · exact Gd.bl
      · exact Gd.bl
      · exact Gd.non
      · exact Gd.str plen
      · exact Gd.ints ((L2'.same s24).tup (s34 _ _ et1)) (s34 _ _ et1) bp (by show 1 ≤ 10; decide)
      · exact Gd.intsL nl1 el1 bp (by show 1 ≤ 10; decide)
      · exact Gd.int (by decide)
      · exact Gd.int (by decide)
      · exact Gd.int (by omega)
      · exact Gd.int (by decide)
    have s45 : Same H4 (upd H4 lo (.lst [.int 256, .int (-1), .bl true, .bl false, .non, .str (Str.ofString (toString part)), .ref t1, .ref l1, .int 255, .int 0, .int (part + 256), .int (10 ^ (Int.toNat 9))])) := same_upd hlo
    have elo : (upd H4 lo (.lst [.int 256, .int (-1), .bl true, .bl false, .non, .str (Str.ofString (toString part)), .ref t1, .ref l1, .int 255, .int 0, .int (part + 256), .int (10 ^ (Int.toNat 9))])) lo = some (.lst [.int 256, .int (-1), .bl true, .bl false, .non, .str (Str.ofString (toString part)), .ref t1, .ref l1, .int 255, .int 0, .int (part + 256), .int (10 ^ (Int.toNat 9))]) := upd_same
    generalize upd H4 lo (.lst [.int 256, .int (-1), .bl true, .bl false, .non, .str (Str.ofString (toString part)), .ref t1, .ref l1, .int 255, .int 0, .int (part + 256), .int (10 ^ (Int.toNat 9))]) = H5 at *
    have s25 := s24.trans s45
    have k5 : Keep p H H5 := k2.trans fun b o _ e => s25 b o e
    have hV5 := s25 _ _ hV2
    have eb5 := s25 _ _ eb2
    have odds5 := fun x hx => (odds x hx).same s45
    refine ⟨.int way, rfl, way, 3, rfl, rfl, _, rfl, ite2 (fun e => ?_) (fun e => ?_)⟩
    · -- one byte otherwise
      refine ⟨.ref v, rfl, .int sn, rfl, (sn : Int), rfl, slT_lo hV5 fun h1 H6 s56 eh1 => ?_⟩
      refine ⟨.ref lo, rfl, .ref p, rfl, p, a2, b, c3, 12, rfl, s56 _ _ eb5, a20, b0, b1, by omega, by omega, by decide, by decide, fun a3 c4 r a30 cl3 cu3 r0 r1 => ?_⟩
      obtain ⟨x, hx, hat⟩ := atI_mem (xs := [.int 256, .int (-1), .bl true, .bl false, .non, .str (Str.ofString (toString part)), .ref t1, .ref l1, .int 255, .int 0, .int (part + 256), .int (10 ^ (Int.toNat 9))]) r0 r1
      refine ⟨lo, _, r, x, rfl, rfl, sq1 (by rw [upd_ne nlo]; exact s56 _ _ elo), hat, ?_⟩
      have nh1 : h1 ≠ p := tup_ne (s56 _ _ eb5) eh1
      have k7 : Keep p H5 (upd H6 p (.lst [.int a3, .int b, .int c4])) := (show Keep p H5 H6 from fun b o _ e => s56 b o e).upd
      have eb7 : (upd H6 p (.lst [.int a3, .int b, .int c4])) p = some (.lst [.int a3, .int b, .int c4]) := upd_same
      have eh7 : (upd H6 p (.lst [.int a3, .int b, .int c4])) h1 = some (.tup ((ns.take sn).map V.int)) := by rw [upd_ne nh1]; exact eh1
      generalize upd H6 p (.lst [.int a3, .int b, .int c4]) = H7 at *
      refine ⟨by show 1 ≤ sizeLine; decide, fun t2 ht2 => ?_⟩
      have s78 : Same H7 (upd H7 t2 (.tup [x])) := same_upd ht2
      have et2 : (upd H7 t2 (.tup [x])) t2 = some (.tup [x]) := upd_same
      generalize upd H7 t2 (.tup [x]) = H8 at *
      refine cat_tups (s78 _ _ eh7) et2 (by rw [List.length_map, List.length_take]; simp only [List.length_cons, List.length_nil]; omega) fun h2 H9 s89 eh2 => ?_
      have s79 := s78.trans s89
      refine ⟨.ref v, rfl, .int sn, rfl, (sn : Int), 1, rfl, rfl, (sn : Int) + 1, rfl, np (slT_hi (c := sn + 1) (s79 _ _ (k7 _ _ nvp hV5)) (by omega) (by omega) fun h3 HA s9A eh3 => ?_)⟩
      refine cat_tups (s9A _ _ eh2) eh3 (by rw [List.length_append, List.length_map, List.length_map, List.length_take, List.length_drop]; simp only [List.length_cons, List.length_nil]; omega) fun h4 HB sAB eh4 => ?_
      have s7B := (s79.trans s9A).trans sAB
      have ebB := s7B _ _ eb7
      have kB : Keep p H HB := (k5.trans k7).trans fun b o _ e => s7B b o e
      obtain ⟨d, gd1, gd2, gd3, gd4⟩ := ((odds5 x hx).keep hSp k7).same s7B
      refine q HB (.ref h4) a3 c4 kB ebB a30 (by omega) (by omega) ⟨.tuple ((ns.take sn).map PyData.int ++ [d] ++ (ns.drop (sn + 1)).map PyData.int), .tup ((hSL.keep kB ebB).tup eh4) eh4 (((DaAll.ints _).append (.cons gd1 .nil)).append (DaAll.ints _)), ?_, ?_, ?_⟩
      · show okAll _ = true
        rw [okAll_app, okAll_app, ok_ints (bts_take hb sn), ok_ints (bts_drop hb (sn + 1))]
        show (true && (okD d && true) && true) = true
        rw [gd2]
        rfl
      · show PyData.depthAll _ + 1 ≤ 5
        rw [depthAll_app, depthAll_app]
        have z1 := depth_ints (ns.take sn)
        have z2 := depth_ints (ns.drop (sn + 1))
        have z3 : PyData.depthAll [d] = max d.depth 0 := rfl
        omega
      · show wtAll _ + 4 ≤ 35000
        rw [wtAll_app, wtAll_app, wt_ints, wt_ints, List.length_take, List.length_drop]
        have z3 : wtAll [d] = wt d + 2 + 0 := rfl
        rw [z3]
        omega
    · -- one fewer, one more, a list, within another one
      have w3 : 3 ≤ way := by
        have : ¬ way < 3 := fun z => e (decide_eq_true z)
        omega
      have bp : Bts [part] := fun y hy => by rw [List.mem_singleton.mp hy]; exact pb
      refine ⟨.ref v, rfl, .int sn, rfl, (sn : Int), rfl, slT_lo hV5 fun h1 H6 s56 eh1 => ?_⟩
      refine ⟨.ref v, rfl, .int sn, rfl, (sn : Int), 1, rfl, rfl, (sn : Int) + 1, rfl, np (slT_hi (c := sn + 1) (s56 _ _ hV5) (by omega) (by omega) fun h2 H7 s67 eh2 => ?_)⟩
      refine cat_tups (s67 _ _ eh1) eh2 (by rw [List.length_map, List.length_map, List.length_take, List.length_drop]; omega) fun hA H8 s78 ehA => ?_
      have s58 := (s56.trans s67).trans s78
      rw [← List.map_append] at ehA
      refine ⟨.ref v, rfl, .int part, rfl, by show 1 ≤ sizeLine; decide, fun t2 ht2 => ?_⟩
      have s89 : Same H8 (upd H8 t2 (.tup [.int part])) := same_upd ht2
      have et2 : (upd H8 t2 (.tup [.int part])) t2 = some (.tup ([part].map V.int)) := upd_same
      generalize upd H8 t2 (.tup [.int part]) = H9 at *
      have s59 := s58.trans s89
      refine cat_tups (s59 _ _ hV5) et2 (by rw [List.length_map, List.length_map]; simp only [List.length_cons, List.length_nil]; omega) fun hB HA s9A ehB => ?_
      rw [← List.map_append] at ehB
      have s5A := s59.trans s9A
      refine ⟨.ref v, rfl, v, _, rfl, .inr (st1 (s5A _ _ hV5)), fun lC hlC => ?_⟩
      have sAB : Same HA (upd HA lC (.lst (ns.map V.int))) := same_upd hlC
      have elC : (upd HA lC (.lst (ns.map V.int))) lC = some (.lst (ns.map V.int)) := upd_same
      have nlC : ¬ S lC := ((L2'.same s25).same s5A).new hlC
      generalize upd HA lC (.lst (ns.map V.int)) = HB at *
      have s5B := s5A.trans sAB
      refine ⟨.ref v, rfl, by show 1 ≤ sizeLine; decide, fun tD htD => ?_⟩
      have sBC : Same HB (upd HB tD (.tup [.ref v])) := same_upd htD
      have etD : (upd HB tD (.tup [.ref v])) tD = some (.tup [.ref v]) := upd_same
      generalize upd HB tD (.tup [.ref v]) = HC at *
      have s5C := s5B.trans sBC
      refine ⟨by show 4 ≤ sizeLine; decide, fun lE hlE => ?_⟩
      have sCD : Same HC (upd HC lE (.lst [.ref hA, .ref hB, .ref lC, .ref tD])) := same_upd hlE
      have elE : (upd HC lE (.lst [.ref hA, .ref hB, .ref lC, .ref tD])) lE = some (.lst [.ref hA, .ref hB, .ref lC, .ref tD]) := upd_same
      generalize upd HC lE (.lst [.ref hA, .ref hB, .ref lC, .ref tD]) = HD at *
      have s5D := s5C.trans sCD
      obtain ⟨x, hx, hat⟩ := atI_mem (xs := [.ref hA, .ref hB, .ref lC, .ref tD]) (r := way - 3) (by omega) (by simp only [List.length_cons, List.length_nil]; omega)
      refine ⟨.int way, rfl, way, 3, rfl, rfl, lE, _, _, x, rfl, rfl, sq1 elE, hat, ?_⟩
      have ebD := s5D _ _ eb5
      have s8D : Same H8 HD := (((s89.trans s9A).trans sAB).trans sBC).trans sCD
      have sAD : Same HA HD := (sAB.trans sBC).trans sCD
      have fA := s8D _ _ ehA
      have fB := sAD _ _ ehB
      have fC := (sBC.trans sCD) _ _ elC
      have fD := sCD _ _ etD
      have fV := s5D _ _ hV5
      have LD : SL S HD := (L2'.same s25).same s5D
      refine q HD x a2 c3 (k5.trans fun b o _ e => s5D b o e) ebD a20 (by omega) (by omega) ?_
      simp only [List.mem_cons, List.not_mem_nil, or_false] at hx
      rcases hx with rfl | rfl | rfl | rfl
      · refine (Gd.ints (LD.tup fA) fA ?_ ?_).mono (by decide)
        · intro y hy
          rcases List.mem_append.mp hy with hy | hy
          · exact bts_take hb _ y hy
          · exact bts_drop hb _ y hy
        · rw [List.length_append, List.length_take, List.length_drop]
          omega
      · refine (Gd.ints (LD.tup fB) fB ?_ ?_).mono (by decide)
        · intro y hy
          rcases List.mem_append.mp hy with hy | hy
          · exact hb y hy
          · exact bp y hy
        · rw [List.length_append]
          simp only [List.length_cons, List.length_nil]
          omega
      · exact (Gd.intsL nlC fC hb (by omega)).mono (by decide)
      · refine ⟨.tuple [.tuple (ns.map PyData.int)], .tup (LD.tup fD) fD (.cons (.tup nvS fV (DaAll.ints ns)) .nil), ?_, ?_, ?_⟩
        · show (okAll (ns.map PyData.int) && true) = true
          rw [ok_ints hb]
          rfl
        · have := depth_ints ns
          show max (PyData.depthAll (ns.map PyData.int) + 1) 0 + 1 ≤ 5
          omega
        · show (wtAll (ns.map PyData.int) + 4) + 2 + 0 + 4 ≤ 35000
          rw [wt_ints]
          omega
end
end K2

set_option Elab.async false
set_option linter.all false
set_option maxRecDepth 100000
set_option maxHeartbeats 4000000
namespace K2
open PySem PySem.Spec PyProof.Rows L2
open Cm (Da DaAll wt wtAll okD okAll)
/-- two tuples of the same ints -/
theorem Sm.tups {H : Hp} {n : Nat} {a b : Addr} {ns : List Int} (h1 : H a = some (.tup (ns.map V.int))) (h2 : H b = some (.tup (ns.map V.int))) (hl : ns.length ≤ 1000000) : Sm H (n + 1) (.ref a) (.ref b) :=
  .inr ⟨a, b, _, _, rfl, rfl, rfl, by rw [List.length_map]; exact hl, fun i u v hu hv => by
    rw [hu] at hv
    cases hv
    rw [List.getElem?_map] at hu
    obtain ⟨z, _, rfl⟩ := Option.map_eq_some_iff.mp hu
    exact Sm.flat rfl, .inr ⟨h1, h2⟩⟩
theorem shapedT_ints (ns : List Int) : SeqAt.shaped (.tuple (ns.map PyData.int)) = true := by
  unfold SeqAt.shaped
  have h1 : (PyData.tuple (ns.map PyData.int)).canLay0 = true := can_ints ns
  have h2 : (PyData.tuple (ns.map PyData.int)).depth ≤ 64 := by
    have := depth_ints ns
    show PyData.depthAll (ns.map PyData.int) + 1 ≤ 64
    omega
  rw [h1, decide_eq_true h2]
  rfl
theorem mask_ints {ns : List Int} (h : ns.length = 4) (hb : Bts ns) : maskD (.tuple (ns.map PyData.int)) = true := by
  show (decide ((ns.map PyData.int).length = 4) && (ns.map PyData.int).all byteD) = true
  rw [List.length_map, decide_eq_true h, List.all_map, Bool.true_and, List.all_eq_true]
  intro x hx
  have := hb x hx
  show (decide (0 ≤ x) && decide (x ≤ 255)) = true
  rw [decide_eq_true this.1, decide_eq_true (by omega)]
  rfl
section
variable {P : Program} {w : World} {K : PySem.W.Frag} {mg : Str → Option Value} {base : Heap}
def spLaw (K : PySem.W.Frag) : Sp := fun vs H Q _ => ∃ (a : Addr) (ns : List Int), vs = [.ref a] ∧ SqL K H a (ns.map V.int) ∧ ns.length ≤ 63 ∧ ∀ H', Q (.bl true) H'
theorem ok_law {f : Addr} {fd : FuncData} (T : Tx K mg) (F : Fun K "law" "law" s_law f fd) : FnG P w K mg base 6 f fd ["_law_script"] (spLaw K) := by
  refine F.okG sc_law (fun vs H Q E h => ?_) (fun cdv A outer s H vs Q E hgd hr h => ?_)
  · obtain ⟨a, ns, rfl, _⟩ := h
    rfl
  · obtain ⟨a, scr, rfl, hS, hlen, q⟩ := h
    refine ⟨_, (pss_cons (ps_for PassesOwn.never rfl (pi_range1 (by rfl) T.m_range (pa_cons (pe_op op_add pe_int (pe_callB (call_min2 rfl) (by rfl) T.m_min (by decide +kernel) (pa_cons pe_int (pa_cons (pe_callB call_len_seq (by rfl) T.m_len (by decide +kernel) (pa_cons (pv 0) pa_nil)) pa_nil)))) pa_nil)) (pg_name (i := 1) sc_law.nd rfl (.inl rfl)) (pss_cons (ps_set (i := 2) sc_law.nd rfl (.inr rfl) (pe_call (ok_box T) (hr.mono (by omega)) (by rfl) T.g_box T.F_box.kp T.b_box .nil pass0 (pa_cons (pv 0) (pa_cons (pv 1) pa_nil))))
      (pss_one (ps_for PassesOwn.never rfl (pi_range1 (by rfl) T.m_range (pa_cons pe_int pa_nil)) (pg_name (i := 3) sc_law.nd rfl (.inl rfl)) (pss_cons (ps_set (i := 4) sc_law.nd rfl (.inl rfl) (pe_callTy call_tuple_of (by rfl) T.m_tuple (by decide +kernel) (pa_cons (pe_call (ok_bytes T) (hr.mono (by omega)) (by rfl) T.g_bytes T.F_bytes.kp T.b_bytes .nil pass0 (pa_cons (pv 2) (pa_cons pe_int pa_nil))) pa_nil)))
      (pss_cons (ps_set (i := 5) sc_law.nd rfl (.inl rfl) (pe_lst (pa_cons pe_int (pa_cons (pe_call (ok_take T) (hr.mono (by omega)) (by rfl) T.g_take T.F_take.kp T.b_take .nil pass0 (pa_cons (pv 2) (pa_cons pe_int pa_nil))) (pa_cons (pe_op op_add pe_int (pe_call (ok_take T) (hr.mono (by omega)) (by rfl) T.g_take T.F_take.kp T.b_take .nil pass0 (pa_cons (pv 2) (pa_cons pe_int pa_nil)))) (pa_cons (pe_call (ok_take T) (hr.mono (by omega)) (by rfl) T.g_take T.F_take.kp T.b_take .nil pass0 (pa_cons (pv 2) (pa_cons (pe_op op_pow pe_int pe_int) pa_nil))) (pa_cons (pe_op op_sub (pe_op op_pow pe_int pe_int) pe_int) pa_nil)))))))
      (pss_cons (ps_set (i := 6) sc_law.nd rfl (.inl rfl) (pe_call (ok_of T) (hr.mono (by omega)) (by rfl) T.g_of T.F_of.kp T.b_of .nil pass0 (pa_cons (pv 2) (pa_cons (pv 5) pa_nil))))
      (pss_cons (ps_set (i := 7) sc_law.nd rfl (.inr rfl) (pe_call (ok_due T) (hr.mono (by omega)) (by rfl) T.g_due T.F_due.kp T.b_due .nil pass0 (pa_cons (pv 4) (pa_cons (pv 6) pa_nil))))
      (pss_cons (ps_set (i := 8) sc_law.nd rfl (.inl rfl) (pe_lst (pa_cons (pe_call (ok_mask_of T) (hr.mono (by omega)) (by rfl) T.g_mask_of T.F_mask_of.kp T.b_mask_of .nil pass0 (pa_cons (pv 4) (pa_cons (pv 6) pa_nil))) (pa_cons (pe_callN0 (ok_mask_of T) (hr.mono (by omega)) (by rfl) T.g_mask_of T.F_mask_of.kp T.kb_mask_of_0_number_first pass0 (pk_cons (pv 6) (pk_cons (pv 4) pk_nil))) (pa_cons (pe_call (ok_mask_of T) (hr.mono (by omega)) (by rfl) T.g_mask_of T.F_mask_of.kp T.b_mask_of .nil pass0 (pa_cons (pe_callTy call_list_of (by rfl) T.m_list (by decide +kernel) (pa_cons (pv 4) pa_nil)) (pa_cons (pv 6) pa_nil))) pa_nil)))))
      (pss_cons (ps_if (pt_not (pt_val (pe_call (ok_same T 3) (hr.mono (by omega)) (by rfl) T.g_same T.F_same.kp T.b_same .nil pass0 (pa_cons (pe_op op_cat (pv 8) (pe_lst (pa_cons (pe_call (ok_mask_of T) (hr.mono (by omega)) (by rfl) T.g_mask_of T.F_mask_of.kp T.b_mask_of .nil pass0 (pa_cons (pv 7) (pa_cons pe_int pa_nil))) pa_nil))) (pa_cons (pe_op op_rep (pe_lst (pa_cons (pv 7) pa_nil)) pe_int) pa_nil))))) (pss_one (ps_ret pe_bl)) pss_nil)
      (pss_cons (ps_set (i := 9) sc_law.nd rfl (.inl rfl) (pe_op op_cat (pe_lst (pa_cons (pv 4) (pa_cons (pv 7) pa_nil))) (pe_lc (own := [("_law_step", 12)]) (g := gName 12) (tt := tYes) rfl sc_law.nd (pi_range1 (by rfl) T.m_range (pa_cons pe_int pa_nil)) (blkOk_by (N := ["_law_script", "_law_k", "_law_box_here", "_law_turn", "_law_veil", "_law_some", "_law_count", "_law_due_here", "_law_told", "_law_things", "_law_kept", "_law_found", "_law_step"]) (sc := defScope s_law) (by decide +kernel)) (fun _ _ _ _ _ => (pg_name (i := 12) sc_law.nd rfl (.inl rfl))) (fun _ _ _ _ _ => pts_nil) (fun _ _ _ _ _ => (pe_call (ok_bent T) (hr.mono (by omega)) (by rfl) T.g_bent T.F_bent.kp T.b_bent .nil pass0 (pa_cons (pv 2) (pa_cons (pv 7) pa_nil)))))))
      (pss_cons (ps_set (i := 9) sc_law.nd rfl (.inl rfl) (pe_op op_cat (pv 9) (pe_lst (pa_cons (pe_call (ok_bent T) (hr.mono (by omega)) (by rfl) T.g_bent T.F_bent.kp T.b_bent .nil pass0 (pa_cons (pv 2) (pa_cons (pv 4) pa_nil))) (pa_cons pe_non (pa_cons pe_int (pa_cons pe_bl (pa_cons pe_str (pa_cons pe_str (pa_cons (pe_lst pa_nil) (pa_cons (pe_tup pa_nil) (pa_cons (pe_lst (pa_cons pe_int (pa_cons pe_int (pa_cons pe_int (pa_cons pe_int pa_nil))))) pa_nil))))))))))))
      (pss_cons (ps_expr (pe_bm PySem.F.plainAttrs_list PySem.F.slot_list_append PySem.F.type_list_append mt_append (pv 9) (pa_cons (pe_tup (pa_cons (pe_tup pa_nil) (pa_cons (pe_tup pa_nil) (pa_cons (pe_tup pa_nil) (pa_cons (pe_tup pa_nil) pa_nil))))) pa_nil)))
      (pss_cons (ps_for PassesOwn.never rfl (pi_list (pv 9)) (pg_name (i := 5) sc_law.nd rfl (.inl rfl)) (pss_cons (ps_par (i := 10) (j := 11) rfl sc_law.nd rfl rfl (by decide) rfl rfl (pa_cons (pe_callB (r := rReprD K) (call_reprD hgd hr.units) (by rfl) T.m_repr (by decide +kernel) (pa_cons (pv 5) pa_nil)) (pa_cons (pe_call (ok_is_mask T) (hr.mono (by omega)) (by rfl) T.g_is_mask T.F_is_mask.kp T.b_is_mask .nil pass0 (pa_cons (pv 5) pa_nil)) pa_nil)) rfl)
      (pss_one (ps_if (pw_or (pt_not (pt_val (pe_callB (r := rIsi K) call_isi (by rfl) T.m_isinstance (by decide +kernel) (pa_cons (pv 11) (pa_cons (pe_bltn (v := .ty "bool") (u := .type "bool") (by rfl) T.m_bool (by decide +kernel) rfl) pa_nil))))) (pw_or (pt_cmpR op_ne (pv 11) (pe_call (ok_l_is_mask T) (hr.mono (by omega)) (by rfl) T.g_l_is_mask T.F_l_is_mask.kp T.b_l_is_mask .nil pass0 (pa_cons (pv 5) pa_nil)) (nomark _)) (pw_or1 (pt_cmpR op_ne (pe_callB (r := rReprD K) (call_reprD hgd hr.units) (by rfl) T.m_repr (by decide +kernel) (pa_cons (pv 5) pa_nil)) (pv 10) (nomark _))))).pt (pss_one (ps_ret pe_bl)) pss_nil))))
      (pss_one (ps_if (pt_cmpR op_notBl (pe_callN0 (ok_is_mask T) (hr.mono (by omega)) (by rfl) T.g_is_mask T.F_is_mask.kp T.kb_is_mask_0_thing pass0 (pk_cons (pv 7) pk_nil)) pe_bl (nomark _)) (pss_one (ps_ret pe_bl)) pss_nil))))))))))))))))
      (pss_one (ps_ret (pe_cmpR (op_eqD hr.units) (pe_call (ok_mask_of T) (hr.mono (by omega)) (by rfl) T.g_mask_of T.F_mask_of.kp T.b_mask_of .nil pass0 (pa_cons (pe_tup (pa_cons pe_int (pa_cons pe_int (pa_cons pe_int (pa_cons pe_int pa_nil))))) (pa_cons pe_int pa_nil))) (pe_tup (pa_cons pe_int (pa_cons pe_int (pa_cons pe_int (pa_cons pe_int pa_nil))))) (nomark _))))), ?_⟩
    refine ⟨.ref a, rfl, a, _, rfl, .inl hS, _, _, rfl, 1, _, rfl, rfl, _, rfl, ?_, ?_, ?_⟩
    · split <;> omega
    · split <;> omega
    refine for_it walk_range (fun i σ Hc => ∃ (y1 y2 y3 y4 y5 y6 y7 y8 y9 yA yB yC : Option V), σ = [some (.ref a), y1, y2, y3, y4, y5, y6, y7, y8, y9, yA, yB, yC] ∧ Same H Hc) ⟨none, none, none, none, none, none, none, none, none, none, none, none, rfl, Same.refl H⟩ (fun _ _ _ _ _ => trivial) ?_ ?_
    · rintro i x σ Hc H' hi ⟨y1, y2, y3, y4, y5, y6, y7, y8, y9, yA, yB, yC, rfl, sm⟩ ⟨rfl, rfl⟩
      have hi7 : i ≤ 7 := by
        have : i < (1 + (if ((scr.map V.int).length : Int) < 7 then ((scr.map V.int).length : Int) else 7)).toNat := hi
        split at this <;> omega
      refine ⟨.ref a, rfl, .int (0 + (i : Int)), rfl, a, scr, _, rfl, sm.seq hS, by omega, by omega, fun p x y hp x0 y0 y1' => ?_⟩
      have hHp : H p = none := Same.free sm hp
      refine ⟨5, rfl, by decide, by decide, ?_⟩
      refine for_it walk_range (fun j σ Hd => ∃ (y3 y4 y5 y6 y7 y8 y9 yA yB yC : Option V) (a' c' : Int), σ = [some (.ref a), some (.int (0 + (i : Int))), some (.ref p), y3, y4, y5, y6, y7, y8, y9, yA, yB, yC] ∧ Same H Hd ∧ Hd p = some (.lst [.int a', .int y, .int c']) ∧ 0 ≤ a' ∧ 0 ≤ c' ∧ c' ≤ 1000 * (j : Int)) ?_ (fun _ _ _ _ _ => trivial) ?_ ?_
      · exact ⟨y3, y4, y5, y6, y7, y8, y9, yA, yB, yC, x, 0, rfl, sm.trans (same_upd hp), upd_same, x0, by decide, by omega⟩
      · rintro j xj σ Hd H' hj ⟨y3, y4, y5, y6, y7, y8, y9, yA, yB, yC, a0, c0, rfl, sm0, eb0, a00, c00, cu0⟩ ⟨rfl, rfl⟩
        have hj5 : j < 5 := hj
        -- veil = tuple(bytes(box, 4))
        refine ⟨.ref p, rfl, p, a0, y, c0, 4, rfl, eb0, a00, y0, y1', c00, by omega, by decide, by decide, fun H1 r ns a1 c1 nr er eb1 a10 cl1 cu1 k01 rl rb => ?_⟩
        have nl : ns.length = 4 := by omega
        refine ⟨r, _, rfl, .inl ⟨sq1 er, fun v hv => ?_⟩⟩
        have sm1 : Same H H1 := Same.keep sm0 k01 hHp
        have s12 : Same H1 (upd H1 v (.tup (ns.map V.int))) := same_upd hv
        have ev2 : (upd H1 v (.tup (ns.map V.int))) v = some (.tup (ns.map V.int)) := upd_same
        generalize upd H1 v (.tup (ns.map V.int)) = H2 at *
        have sm2 := sm1.trans s12
        have eb2 := s12 _ _ eb1
        have nvp : v ≠ p := tup_ne eb2 ev2
        -- some = [0, take(box, 9), 250 + take(box, 12), take(box, 2 ** 24), 2 ** 24 - 1]
        refine ⟨.ref p, rfl, p, a1, y, c1, 9, rfl, eb2, a10, y0, y1', by omega, by omega, by decide, by decide, fun a3 c3 b1 a30 cl3 cu3 b10 b11 => ?_⟩
        refine ⟨.ref p, rfl, p, a3, y, c3, 12, rfl, upd_same, a30, y0, y1', by omega, by omega, by decide, by decide, fun a4 c4 b2 a40 cl4 cu4 b20 b21 => ?_⟩
        refine ⟨250, b2, rfl, rfl, ?_⟩
        refine ⟨.ref p, rfl, 2, 24, rfl, rfl, ⟨by decide, by decide, by decide⟩, p, a4, y, c4, _, rfl, upd_same, a40, y0, y1', by omega, by omega, by decide, by decide, fun a5 c5 b3 a50 cl5 cu5 b30 b31 => ?_⟩
        refine ⟨2, 24, rfl, rfl, ⟨by decide, by decide, by decide⟩, _, 1, rfl, rfl, by show 5 ≤ sizeLine; decide, fun l1 hl1 => ?_⟩
        have k25 : Keep p H2 (upd (upd (upd H2 p (.lst [.int a3, .int y, .int c3])) p (.lst [.int a4, .int y, .int c4])) p (.lst [.int a5, .int y, .int c5])) := (((Keep.refl p H2).upd).upd).upd
        have eb5 : (upd (upd (upd H2 p (.lst [.int a3, .int y, .int c3])) p (.lst [.int a4, .int y, .int c4])) p (.lst [.int a5, .int y, .int c5])) p = some (.lst [.int a5, .int y, .int c5]) := upd_same
        generalize upd (upd (upd H2 p (.lst [.int a3, .int y, .int c3])) p (.lst [.int a4, .int y, .int c4])) p (.lst [.int a5, .int y, .int c5]) = H5 at *
        have s56 : Same H5 (upd H5 l1 (.lst [.int 0, .int b1, .int (250 + b2), .int b3, .int (2 ^ (Int.toNat 24) - 1)])) := same_upd hl1
        have el6 : (upd H5 l1 (.lst [.int 0, .int b1, .int (250 + b2), .int b3, .int (2 ^ (Int.toNat 24) - 1)])) l1 = some (.lst [.int 0, .int b1, .int (250 + b2), .int b3, .int (2 ^ (Int.toNat 24) - 1)]) := upd_same
        have nl1 : l1 ≠ p := fun z => by
          rw [z, eb5] at hl1
          cases hl1
        generalize upd H5 l1 (.lst [.int 0, .int b1, .int (250 + b2), .int b3, .int (2 ^ (Int.toNat 24) - 1)]) = H6 at *
        -- count = of(box, some)
        refine ⟨.ref p, rfl, .ref l1, rfl, p, l1, a5, y, c5, _, rfl, s56 _ _ eb5, a50, y0, y1', by omega, by omega, nl1, el6, by show 0 < 5; decide, by show 5 < 1000; decide, fun a7 c7 cv a70 cl7 cu7 hcv => ?_⟩
        obtain ⟨cc, rfl⟩ : ∃ cc : Int, cv = .int cc := by
          simp only [List.mem_cons, List.not_mem_nil, or_false] at hcv
          rcases hcv with h | h | h | h | h <;> exact ⟨_, h⟩
        have k27 : Keep p H2 (upd H6 p (.lst [.int a7, .int y, .int c7])) := (k25.trans fun b o _ e => s56 b o e).upd
        have eb7 : (upd H6 p (.lst [.int a7, .int y, .int c7])) p = some (.lst [.int a7, .int y, .int c7]) := upd_same
        generalize upd H6 p (.lst [.int a7, .int y, .int c7]) = H7 at *
        have sm7 : Same H H7 := Same.keep sm2 k27 hHp
        have ev7 := k27 _ _ nvp ev2
        -- due = due(veil, count)
        refine ⟨.ref v, rfl, .int cc, rfl, v, ns, cc, rfl, ev7, nl, fun H8 d s78 nd ed => ?_⟩
        have s8 := sm7.trans s78
        -- told
        refine ⟨.ref v, rfl, .int cc, rfl, true, v, ns, cc, rfl, st1 (s78 _ _ ev7), nl, fun H9 u1 s89 nu1 eu1 => ?_⟩
        have s79 := s78.trans s89
        refine ⟨.int cc, rfl, .ref v, rfl, rfl, rfl, true, v, ns, cc, rfl, st1 (s79 _ _ ev7), nl, fun HA u2 s9A nu2 eu2 => ?_⟩
        have s7A := s79.trans s9A
        refine ⟨.ref v, rfl, v, _, rfl, .inr (st1 (s7A _ _ ev7)), fun l2 hl2 => ?_⟩
        have sAB : Same HA (upd HA l2 (.lst (ns.map V.int))) := same_upd hl2
        have elB : (upd HA l2 (.lst (ns.map V.int))) l2 = some (.lst (ns.map V.int)) := upd_same
        generalize upd HA l2 (.lst (ns.map V.int)) = HB at *
        refine ⟨.int cc, rfl, false, l2, ns, cc, rfl, sq1 elB, nl, fun HC u3 sBC nu3 eu3 => ?_⟩
        have s7C := (s7A.trans sAB).trans sBC
        refine ⟨by show 3 ≤ sizeLine; decide, fun l3 hl3 => ?_⟩
        have sCD : Same HC (upd HC l3 (.lst [.ref u1, .ref u2, .ref u3])) := same_upd hl3
        have elD : (upd HC l3 (.lst [.ref u1, .ref u2, .ref u3])) l3 = some (.lst [.ref u1, .ref u2, .ref u3]) := upd_same
        generalize upd HC l3 (.lst [.ref u1, .ref u2, .ref u3]) = HD at *
        have s8D : Same H8 HD := (((s89.trans s9A).trans sAB).trans sBC).trans sCD
        have sAD : Same HA HD := (sAB.trans sBC).trans sCD
        -- if not same(told + [mask_of(due, 0)], [due] * 4)
        refine ⟨.ref l3, rfl, .ref d, rfl, true, d, mo ns cc, 0, rfl, st1 (s8D _ _ ed), mo_len ns cc, fun HE u4 sDE nu4 eu4 => ?_⟩
        rw [mo_zero (mo_len ns cc) (mo_bts ns cc)] at eu4
        refine ⟨by show 1 ≤ sizeLine; decide, fun l4 hl4 => ?_⟩
        have sEF : Same HE (upd HE l4 (.lst [.ref u4])) := same_upd hl4
        have elF : (upd HE l4 (.lst [.ref u4])) l4 = some (.lst [.ref u4]) := upd_same
        generalize upd HE l4 (.lst [.ref u4]) = HF at *
        refine ⟨l3, l4, _, _, rfl, rfl, (sDE.trans sEF) _ _ elD, elF, by show 3 + 1 ≤ sizeLine; decide, fun l5 hl5 => ?_⟩
        have sFG : Same HF (upd HF l5 (.lst ([.ref u1, .ref u2, .ref u3] ++ [.ref u4]))) := same_upd hl5
        have elG : (upd HF l5 (.lst ([.ref u1, .ref u2, .ref u3] ++ [.ref u4]))) l5 = some (.lst [.ref u1, .ref u2, .ref u3, .ref u4]) := upd_same
        generalize upd HF l5 (.lst ([.ref u1, .ref u2, .ref u3] ++ [.ref u4])) = HG at *
        refine ⟨.ref d, rfl, by show 1 ≤ sizeLine; decide, fun l6 hl6 => ?_⟩
        refine ⟨l6, 4, _, rfl, rfl, upd_same, by decide, by decide, by show 1 * 4 ≤ sizeLine; decide, fun l7 hl7 => ?_⟩
        have sGI : Same HG (upd (upd HG l6 (.lst [.ref d])) l7 (.lst (List.replicate (Int.toNat 4) [V.ref d]).flatten)) := (same_upd hl6).trans (same_upd hl7)
        have elI : (upd (upd HG l6 (.lst [.ref d])) l7 (.lst (List.replicate (Int.toNat 4) [V.ref d]).flatten)) l7 = some (.lst [.ref d, .ref d, .ref d, .ref d]) := upd_same
        generalize upd (upd HG l6 (.lst [.ref d])) l7 (.lst (List.replicate (Int.toNat 4) [V.ref d]).flatten) = HI at *
        have sEI : Same HE HI := (sEF.trans sFG).trans sGI
        have s8I : Same H8 HI := (s8D.trans sDE).trans sEI
        have s9I : Same H9 HI := ((((s9A.trans sAB).trans sBC).trans sCD).trans sDE).trans sEI
        have sAI : Same HA HI := (sAD.trans sDE).trans sEI
        have sCI : Same HC HI := (sCD.trans sDE).trans sEI
        have ml : (mo ns cc).length ≤ 1000000 := by rw [mo_len]; decide
        have edI := s8I _ _ ed
        refine ⟨.ref l5, .ref l7, rfl, .inr ⟨l5, l7, [.ref u1, .ref u2, .ref u3, .ref u4], [.ref d, .ref d, .ref d, .ref d], rfl, rfl, rfl, (by show 4 ≤ 1000000; decide), fun i u v hu hv => ?_, .inl ⟨sGI _ _ elG, elI⟩⟩, fun HJ sIJ => ⟨_, rfl, ?_⟩⟩
        · match i, hu, hv with
          | 0, hu, hv => cases hu; cases hv; exact Sm.tups (s9I _ _ eu1) edI ml
          | 1, hu, hv => cases hu; cases hv; exact Sm.tups (sAI _ _ eu2) edI ml
          | 2, hu, hv => cases hu; cases hv; exact Sm.tups (sCI _ _ eu3) edI ml
          | 3, hu, hv => cases hu; cases hv; exact Sm.tups (sEI _ _ eu4) edI ml
          | i + 4, hu, hv => cases hu
        have s7J := (s78.trans s8I).trans sIJ
        have edJ := sIJ _ _ edI
        have evJ := s7J _ _ ev7
        have ebJ := s7J _ _ eb7
        have smJ := sm7.trans s7J
        have ndp : d ≠ p := tup_ne ebJ edJ
        have mb := mo_bts ns cc
        -- things = [veil, due] + [bent(box, due) for step in range(4)]
        refine ⟨.ref v, rfl, .ref d, rfl, by show 2 ≤ sizeLine; decide, fun m1 hm1 => ?_⟩
        have sJK : Same HJ (upd HJ m1 (.lst [.ref v, .ref d])) := same_upd hm1
        have emK : (upd HJ m1 (.lst [.ref v, .ref d])) m1 = some (.lst [.ref v, .ref d]) := upd_same
        have nm1 : m1 ≠ p := fun z => by
          rw [z, ebJ] at hm1
          cases hm1
        generalize upd HJ m1 (.lst [.ref v, .ref d]) = HK at *
        have smK := smJ.trans sJK
        refine ⟨4, rfl, by decide, by decide, fun D hD => lc_it walk_range (fun i Hc => ∃ (xs : List V) (a' c' : Int), Keep p HK Hc ∧ Hc D = some (.lst xs) ∧ D ≠ p ∧ xs.length = i ∧ (∀ x ∈ xs, Gd (fun b => b = p ∨ b = D) Hc x 5) ∧ Hc p = some (.lst [.int a', .int y, .int c']) ∧ 0 ≤ a' ∧ 0 ≤ c' ∧ c' ≤ c7 + 3 * (i : Int)) ?_ (fun _ _ _ _ => trivial) ?_ ?_⟩
        · have nDp : D ≠ p := fun z => by
            rw [z, sJK _ _ ebJ] at hD
            cases hD
          exact ⟨[], a7, c7, (Keep.refl p HK).new hD, upd_same, nDp, rfl, fun x hx => (by cases hx), (by rw [upd_ne (Ne.symm nDp)]; exact sJK _ _ ebJ), a70, by omega, by omega⟩
        · rintro i x Hc H' hi ⟨xs, a', c', kp, eD, nDp, xl, xg, ebc, a'0, c'0, cu⟩ ⟨rfl, rfl⟩
          have hi4 : i < 4 := hi
          refine ⟨rfl, ?_⟩
          refine ⟨.ref p, rfl, .ref d, rfl, fun b => b = p ∨ b = D, p, d, a', y, c', mo ns cc, rfl, .inl rfl, (by rintro b (rfl | rfl); exact ⟨_, ebc⟩; exact ⟨_, eD⟩), ebc, a'0, y0, y1', c'0, by omega, kp _ _ ndp (sJK _ _ edJ), mo_len ns cc, mb, fun H2' x a'' c'' k2 eb2' a''0 cl2 cu2 gx => ?_⟩
          have eD2 := k2 _ _ nDp eD
          refine ⟨xs, eD2, (by rw [xl]; exact Nat.lt_of_le_of_lt (show i ≤ 4 by omega) (by decide)), xs ++ [x], a'', c'', ?_, upd_same, nDp, (by rw [List.length_append, xl]; rfl), ?_, (by rw [upd_ne (Ne.symm nDp)]; exact eb2'), a''0, by omega, by omega⟩
          · intro b' o hb' e
            have hDK : HK D = none := hD
            rw [upd_ne (ne_of_none e hDK)]
            exact k2 _ _ hb' (kp _ _ hb' e)
          · intro z hz
            have st : ∀ b o, ¬ (b = p ∨ b = D) → H2' b = some o → (upd H2' D (.lst (xs ++ [x]))) b = some o := fun b o nb e => by
              rw [upd_ne (fun q => nb (.inr q))]
              exact e
            rcases List.mem_append.mp hz with hz | hz
            · exact ((xg z hz).keep (.inl rfl) k2).keepS st
            · rw [List.mem_singleton.mp hz]
              exact gx.keepS st
        · rintro HL ⟨xs, aL, cL, kKL, eDL, nDp, xl, xg, ebL, aL0, cL0, cuL⟩
          have smL : Same H HL := Same.keep smK kKL hHp
          have evL := kKL _ _ nvp (sJK _ _ evJ)
          have edL := kKL _ _ ndp (sJK _ _ edJ)
          have emL := kKL _ _ nm1 emK
          have SL0 : SL (fun b => b = p ∨ b = D) HL := by
            rintro b (rfl | rfl)
            · exact ⟨_, ebL⟩
            · exact ⟨_, eDL⟩
          have gv : Gd (fun b => b = p ∨ b = D) HL (.ref v) 5 := (Gd.ints (SL0.tup evL) evL rb (by omega)).mono (by decide)
          have gdd : Gd (fun b => b = p ∨ b = D) HL (.ref d) 5 := (Gd.ints (SL0.tup edL) edL mb (by rw [mo_len]; decide)).mono (by decide)
          refine ⟨m1, D, _, _, rfl, rfl, emL, eDL, (by rw [xl]; show 2 + 4 ≤ sizeLine; decide), fun m2 hm2 => ?_⟩
          have sLM : Same HL (upd HL m2 (.lst ([.ref v, .ref d] ++ xs))) := same_upd hm2
          have emM : (upd HL m2 (.lst ([.ref v, .ref d] ++ xs))) m2 = some (.lst ([.ref v, .ref d] ++ xs)) := upd_same
          have nm2 : m2 ≠ p := fun z => by
            rw [z, ebL] at hm2
            cases hm2
          have g2 : ∀ z ∈ ([.ref v, .ref d] ++ xs : List V), Gd (fun b => b = p ∨ b = D) HL z 5 := by
            intro z hz
            rcases List.mem_append.mp hz with hz | hz
            · simp only [List.mem_cons, List.not_mem_nil, or_false] at hz
              rcases hz with rfl | rfl
              · exact gv
              · exact gdd
            · exact xg z hz
          have l2' : ([.ref v, .ref d] ++ xs : List V).length = 6 := by rw [List.length_append, xl]; rfl
          generalize upd HL m2 (.lst ([.ref v, .ref d] ++ xs)) = HM at *
          have smM := smL.trans sLM
          have ebM := sLM _ _ ebL
          -- things = things + [bent(box, veil), None, 0, True, '', 'mask', [], (), [1, 2, 3, 4]]
          refine ⟨.ref m2, rfl, .ref p, rfl, .ref v, rfl, fun b => b = p ∨ b = D, p, v, aL, y, cL, ns, rfl, .inl rfl, SL0.same sLM, ebM, aL0, y0, y1', cL0, by omega, sLM _ _ evL, nl, rb, fun HN x aN cN kMN ebN aN0 clN cuN gx => ?_⟩
          have smN : Same H HN := Same.keep smM kMN hHp
          have edN := kMN _ _ ndp (sLM _ _ edL)
          have emN := kMN _ _ nm2 emM
          have SLN : SL (fun b => b = p ∨ b = D) HN := (SL0.same sLM).keep kMN ebN
          have g3 : ∀ z ∈ ([.ref v, .ref d] ++ xs : List V), Gd (fun b => b = p ∨ b = D) HN z 5 := fun z hz => ((g2 z hz).same sLM).keep (.inl rfl) kMN
          generalize ([.ref v, .ref d] ++ xs : List V) = ths at *
          refine ⟨Nat.zero_le _, fun e1 he1 => ?_⟩
          have sNO : Same HN (upd HN e1 (.lst [])) := same_upd he1
          have ee1 : (upd HN e1 (.lst [])) e1 = some (.lst (([] : List Int).map V.int)) := upd_same
          have ne1 := SLN.new he1
          generalize upd HN e1 (.lst []) = HO at *
          refine ⟨Nat.zero_le _, fun e2 he2 => ?_⟩
          have sOP : Same HO (upd HO e2 (.tup [])) := same_upd he2
          have ee2 : (upd HO e2 (.tup [])) e2 = some (.tup (([] : List Int).map V.int)) := upd_same
          generalize upd HO e2 (.tup []) = HP at *
          refine ⟨by show 4 ≤ sizeLine; decide, fun e3 he3 => ?_⟩
          have sPQ : Same HP (upd HP e3 (.lst [.int 1, .int 2, .int 3, .int 4])) := same_upd he3
          have ee3 : (upd HP e3 (.lst [.int 1, .int 2, .int 3, .int 4])) e3 = some (.lst (([1, 2, 3, 4] : List Int).map V.int)) := upd_same
          have ne3 := (SLN.same (sNO.trans sOP)).new he3
          generalize upd HP e3 (.lst [.int 1, .int 2, .int 3, .int 4]) = HQ at *
          have sNQ := (sNO.trans sOP).trans sPQ
          have SLQ := SLN.same sNQ
          refine ⟨by show 9 ≤ sizeLine; decide, fun e4 he4 => ?_⟩
          have g4 : ∀ z ∈ (ths ++ [x, .non, .int 0, .bl true, .str (Str.ofString ""), .str (Str.ofString "mask"), .ref e1, .ref e2, .ref e3] : List V), Gd (fun b => b = p ∨ b = D) HQ z 5 := by
            intro z hz
            rcases List.mem_append.mp hz with hz | hz
            · exact (g3 z hz).same sNQ
            · simp only [List.mem_cons, List.not_mem_nil, or_false] at hz
              rcases hz with rfl | rfl | rfl | rfl | rfl | rfl | rfl | rfl | rfl
              · exact gx.same sNQ
              · exact Gd.non.mono (by decide)
              · exact (Gd.int (by decide)).mono (by decide)
              · exact Gd.bl.mono (by decide)
              · exact (Gd.str (by decide)).mono (by decide)
              · exact (Gd.str (by decide)).mono (by decide)
              · exact (Gd.intsL ne1 ((sOP.trans sPQ) _ _ ee1) (fun y hy => by cases hy) (by decide)).mono (by decide)
              · exact (Gd.ints (SLQ.tup (sPQ _ _ ee2)) (sPQ _ _ ee2) (fun y hy => by cases hy) (by decide)).mono (by decide)
              · exact (Gd.intsL ne3 ee3 (fun y hy => by simp only [List.mem_cons, List.not_mem_nil, or_false] at hy; omega) (by decide)).mono (by decide)
          have sQR : Same HQ (upd HQ e4 (.lst [x, .non, .int 0, .bl true, .str (Str.ofString ""), .str (Str.ofString "mask"), .ref e1, .ref e2, .ref e3])) := same_upd he4
          have ee4 : (upd HQ e4 (.lst [x, .non, .int 0, .bl true, .str (Str.ofString ""), .str (Str.ofString "mask"), .ref e1, .ref e2, .ref e3])) e4 = some (.lst [x, .non, .int 0, .bl true, .str (Str.ofString ""), .str (Str.ofString "mask"), .ref e1, .ref e2, .ref e3]) := upd_same
          refine ⟨m2, e4, _, _, rfl, rfl, sQR _ _ (sNQ _ _ emN), ee4, (by rw [l2']; show 6 + 9 ≤ sizeLine; decide), fun M hM => ?_⟩
          generalize upd HQ e4 (.lst [x, .non, .int 0, .bl true, .str (Str.ofString ""), .str (Str.ofString "mask"), .ref e1, .ref e2, .ref e3]) = HR at *
          have l3' : (ths ++ [x, .non, .int 0, .bl true, .str (Str.ofString ""), .str (Str.ofString "mask"), .ref e1, .ref e2, .ref e3] : List V).length = 15 := by rw [List.length_append, l2']; rfl
          generalize (ths ++ [x, .non, .int 0, .bl true, .str (Str.ofString ""), .str (Str.ofString "mask"), .ref e1, .ref e2, .ref e3] : List V) = tht at *
          have sRS : Same HR (upd HR M (.lst tht)) := same_upd hM
          have eMS : (upd HR M (.lst tht)) M = some (.lst tht) := upd_same
          generalize upd HR M (.lst tht) = HS at *
          -- things.append(((), (), (), ()))
          refine ⟨.ref M, rfl, .inl ⟨rfl, _, sq1 eMS⟩, ?_⟩
          refine ⟨Nat.zero_le _, fun t1 ht1 => ⟨Nat.zero_le _, fun t2 ht2 => ⟨Nat.zero_le _, fun t3 ht3 => ⟨Nat.zero_le _, fun t4 ht4 => ⟨by show 4 ≤ sizeLine; decide, fun t5 ht5 => ?_⟩⟩⟩⟩⟩
          have sS1 : Same HS (upd HS t1 (.tup [])) := same_upd ht1
          have f1 : (upd HS t1 (.tup [])) t1 = some (.tup []) := upd_same
          generalize upd HS t1 (.tup []) = H1' at *
          have s12' : Same H1' (upd H1' t2 (.tup [])) := same_upd ht2
          have f2 : (upd H1' t2 (.tup [])) t2 = some (.tup []) := upd_same
          generalize upd H1' t2 (.tup []) = H2' at *
          have s23' : Same H2' (upd H2' t3 (.tup [])) := same_upd ht3
          have f3 : (upd H2' t3 (.tup [])) t3 = some (.tup []) := upd_same
          generalize upd H2' t3 (.tup []) = H3' at *
          have s34' : Same H3' (upd H3' t4 (.tup [])) := same_upd ht4
          have f4 : (upd H3' t4 (.tup [])) t4 = some (.tup []) := upd_same
          generalize upd H3' t4 (.tup []) = H4' at *
          have s45' : Same H4' (upd H4' t5 (.tup [.ref t1, .ref t2, .ref t3, .ref t4])) := same_upd ht5
          have f5 : (upd H4' t5 (.tup [.ref t1, .ref t2, .ref t3, .ref t4])) t5 = some (.tup [.ref t1, .ref t2, .ref t3, .ref t4]) := upd_same
          generalize upd H4' t5 (.tup [.ref t1, .ref t2, .ref t3, .ref t4]) = H5' at *
          have sS5 : Same HS H5' := (((sS1.trans s12').trans s23').trans s34').trans s45'
          refine ⟨M, tht, _, rfl, rfl, sS5 _ _ eMS, (by rw [l3']; decide), ?_⟩
          have eMZ : (upd H5' M (.lst (tht ++ [.ref t5]))) M = some (.lst (tht ++ [.ref t5])) := upd_same
          have sRZ : Same HR (upd H5' M (.lst (tht ++ [.ref t5]))) := Same.mut (sRS.trans sS5) hM
          have gZ : ∀ z ∈ (tht ++ [.ref t5] : List V), ∃ S, Gd S (upd H5' M (.lst (tht ++ [.ref t5]))) z 5 := by
            intro z hz
            rcases List.mem_append.mp hz with hz | hz
            · exact ⟨_, ((g4 z hz).same sQR).same sRZ⟩
            · rw [List.mem_singleton.mp hz]
              have LM : SL (fun b => b = M) H5' := fun b hb' => by
                rw [hb']
                exact ⟨_, sS5 _ _ eMS⟩
              have h1' : H5' t1 = some (.tup []) := (((s12'.trans s23').trans s34').trans s45') _ _ f1
              have h2' : H5' t2 = some (.tup []) := ((s23'.trans s34').trans s45') _ _ f2
              have h3' : H5' t3 = some (.tup []) := (s34'.trans s45') _ _ f3
              have h4' : H5' t4 = some (.tup []) := s45' _ _ f4
              have gt : Gd (fun b => b = M) H5' (.ref t5) 5 := ⟨.tuple [.tuple [], .tuple [], .tuple [], .tuple []], .tup (LM.tup f5) f5 (.cons (.tup (LM.tup h1') h1' .nil) (.cons (.tup (LM.tup h2') h2' .nil) (.cons (.tup (LM.tup h3') h3' .nil) (.cons (.tup (LM.tup h4') h4' .nil) .nil)))), rfl, by decide, by decide⟩
              exact ⟨_, gt.keepS fun b o nb e => by rw [upd_ne nb]; exact e⟩
          have ebZ := sRZ _ _ (sQR _ _ (sNQ _ _ ebN))
          have edZ := sRZ _ _ (sQR _ _ (sNQ _ _ edN))
          have smZ := ((smN.trans sNQ).trans sQR).trans sRZ
          generalize upd H5' M (.lst (tht ++ [.ref t5])) = HZ at *
          generalize (tht ++ [.ref t5] : List V) = things at *
          -- for some in things
          refine ⟨.ref M, rfl, M, rfl, ⟨_, sq1 eMZ⟩, ?_⟩
          refine for_it (walk_list (xs := things)) (fun _ σ Hc => ∃ (z5 zA zB : Option V), σ = [some (.ref a), some (.int (0 + (i : Int))), some (.ref p), some (.int (0 + (j : Int))), some (.ref v), z5, some (.int cc), some (.ref d), some (.ref l3), some (.ref M), zA, zB, yC] ∧ Same HZ Hc) ?_ ?_ ?_ ?_
          · exact ⟨_, _, _, rfl, Same.refl HZ⟩
          · rintro k σ Hc hk ⟨z5, zA, zB, rfl, sc⟩
            exact sq1 (sc _ _ eMZ)
          · rintro k x σ Hc H' hk ⟨z5, zA, zB, rfl, sc⟩ ⟨rfl, hx⟩
            obtain ⟨S, dd, da, okd, dep, wtd⟩ := gZ x (List.mem_of_getElem? hx)
            have dac := Da.keep (fun b o _ e => sc b o e) _ da
            have sz : dd.shown.length ≤ sizeLine := Nat.le_trans (Nat.le_trans (Cm.shown_le dd okd) (show wt dd ≤ 100000 by omega)) (by decide)
            refine ⟨x, rfl, x, dd, rfl, Da.dp _ dac, Cm.ok_showable dd okd, by omega, sz, ?_⟩
            refine ⟨x, rfl, S, x, dd, rfl, dac, fun H2 s2 => ?_⟩
            refine ⟨_, _, rfl, ?_⟩
            have da2 := Da.keep (fun b o _ e => s2 b o e) _ dac
            refine ⟨.bl (maskD dd), rfl, .bl (maskD dd), _, _, _, true, rfl, .ty _, .base (.bl _), kit_ty (by decide +kernel), _, rfl, ?_⟩
            refine ⟨.bl (maskD dd), rfl, x, rfl, S, x, dd, rfl, da2, fun H3 s3 => ?_⟩
            refine ⟨rfl, _, rfl, ?_⟩
            rw [decide_eq_true rfl]
            have da3 := Da.keep (fun b o _ e => s3 b o e) _ da2
            refine ⟨x, rfl, x, dd, rfl, Da.dp _ da3, Cm.ok_showable dd okd, by omega, sz, .str dd.shown, rfl, rfl, _, rfl, ?_⟩
            rw [decide_eq_true rfl]
            exact ⟨_, _, _, rfl, (sc.trans s2).trans s3⟩
          · rintro σ Hc ⟨z5, zA, zB, rfl, sc⟩
            -- if is_mask(thing=due) is not True
            have edc := sc _ _ edZ
            refine ⟨.ref d, rfl, rfl, rfl, (fun _ => False), .ref d, _, rfl, .tup (fun z => z) edc (DaAll.ints _), fun H2 s2 => ?_⟩
            rw [mask_ints (mo_len ns cc) mb]
            refine ⟨true, true, rfl, rfl, _, rfl, ?_⟩
            refine ⟨_, _, _, _, _, _, _, _, _, _, aN, cN, rfl, (smZ.trans sc).trans s2, (sc.trans s2) _ _ ebZ, aN0, by omega, by omega⟩
      · rintro σ Hd ⟨y3, y4, y5, y6, y7, y8, y9, yA, yB, yC, a', c', rfl, sm', _⟩
        exact ⟨_, _, _, _, _, _, _, _, _, _, _, _, rfl, sm'⟩
    · rintro σ Hc ⟨y1, y2, y3, y4, y5, y6, y7, y8, y9, yA, yB, yC, rfl, sm⟩
      -- return mask_of((250, 250, 250, 250), 2) == (252, 0, 4, 8)
      refine ⟨by show 4 ≤ sizeLine; decide, fun t1 ht1 => ?_⟩
      refine ⟨true, t1, [250, 250, 250, 250], 2, rfl, st1 upd_same, rfl, fun H2 t2 s2 nt2 et2 => ?_⟩
      refine ⟨by show 4 ≤ sizeLine; decide, fun t3 ht3 => ?_⟩
      have em : mo [250, 250, 250, 250] 2 = [252, 0, 4, 8] := by decide +kernel
      rw [em] at et2
      refine ⟨_, _, .tup (st1 (same_upd ht3 _ _ et2)) (dp_all [252, 0, 4, 8]), .tup (st1 upd_same) (dp_all [252, 0, 4, 8]), shapedT_ints _, shapedT_ints _, ?_⟩
      rw [show PyData.eqv (.tuple ([252, 0, 4, 8].map PyData.int)) (.tuple ([252, 0, 4, 8].map PyData.int)) = true from by decide +kernel]
      exact q _
end
end K2

set_option Elab.async false
set_option linter.all false
set_option maxRecDepth 100000
set_option maxHeartbeats 4000000
namespace K2
open PySem PySem.Spec PyProof.Rows L2

theorem vals_rev : ∀ {xs : List V} {us : List Value}, Vals xs us → Vals xs.reverse us.reverse
  | _, _, .nil => .nil
  | _, _, .cons r t => by
    rw [List.reverse_cons, List.reverse_cons]
    exact (vals_rev t).append (.cons r .nil)
theorem mk_kb_mask_of_0_number_first {K : PySem.W.Frag} {f : Addr} {fd : FuncData} (F : Fun K "mask_of" "mask_of" s_mask_of f fd) : KBn K fd ["first", "number"] 0 ["number", "first"] (fun us ws => us ++ ws.reverse) (fun vs zs => vs ++ zs.reverse) := by
  obtain ⟨oc, od, kV, doc, pm, an, cdv, ct, osl, rfl, lk, hcd⟩ := F.ex
  exact ⟨fun s us ws _ h1 h2 => match us, ws, h1, h2 with | [], [_, _], _, _ => .of_eq rfl, fun r1 r2 => r1.append (vals_rev r2)⟩
theorem mk_kb_is_mask_0_thing {K : PySem.W.Frag} {f : Addr} {fd : FuncData} (F : Fun K "is_mask" "is_mask" s_is_mask f fd) : KBn K fd ["thing"] 0 ["thing"] (fun us ws => us ++ ws) (fun vs zs => vs ++ zs) := by
  obtain ⟨oc, od, kV, doc, pm, an, cdv, ct, osl, rfl, lk, hcd⟩ := F.ex
  exact ⟨fun s us ws _ h1 h2 => match us, ws, h1, h2 with | [], [_], _, _ => .of_eq rfl, fun r1 r2 => r1.append r2⟩
theorem all_mk {l : PySem.W.OpenLaw} {w : World} {K : PySem.W.Frag} {h : Heap} {mg : Str → Option Value} {fa f0 f1 f2 f3 f4 f5 f6 f7 f8 f9 f10 f11 f12 f13 : Addr} (X : K.In h) (G : h.Ns mainGlobals mg) (hfa : mg "law" = some (.ref fa))
    {od0 an0 : Option Addr} {sl0 : Array (Option Value)} {oc0 kV0 dc0 pm0 cd0 ct0 : Value}
    (a0 : PySem.W.nsIn K mainGlobals "is_number" = some (some (.ref f0))) (l0 : K.lookup f0 = some ⟨oc0, od0, .func (PySem.W.fnOf "is_number" "is_number" (defArgs s_is_number) (defBody s_is_number) (defScope s_is_number) .none kV0 dc0 pm0 an0 cd0 ct0), sl0⟩) (c0 : PySem.W.codeIn K cd0 "is_number" = true) (k0 : PySem.W.keepIn K (.ref f0) = true)
    {od1 an1 : Option Addr} {sl1 : Array (Option Value)} {oc1 kV1 dc1 pm1 cd1 ct1 : Value}
    (a1 : PySem.W.nsIn K mainGlobals "is_byte" = some (some (.ref f1))) (l1 : K.lookup f1 = some ⟨oc1, od1, .func (PySem.W.fnOf "is_byte" "is_byte" (defArgs s_is_byte) (defBody s_is_byte) (defScope s_is_byte) .none kV1 dc1 pm1 an1 cd1 ct1), sl1⟩) (c1 : PySem.W.codeIn K cd1 "is_byte" = true) (k1 : PySem.W.keepIn K (.ref f1) = true)
    {od2 an2 : Option Addr} {sl2 : Array (Option Value)} {oc2 kV2 dc2 pm2 cd2 ct2 : Value}
    (a2 : PySem.W.nsIn K mainGlobals "is_mask" = some (some (.ref f2))) (l2 : K.lookup f2 = some ⟨oc2, od2, .func (PySem.W.fnOf "is_mask" "is_mask" (defArgs s_is_mask) (defBody s_is_mask) (defScope s_is_mask) .none kV2 dc2 pm2 an2 cd2 ct2), sl2⟩) (c2 : PySem.W.codeIn K cd2 "is_mask" = true) (k2 : PySem.W.keepIn K (.ref f2) = true)
    {od3 an3 : Option Addr} {sl3 : Array (Option Value)} {oc3 kV3 dc3 pm3 cd3 ct3 : Value}
    (a3 : PySem.W.nsIn K mainGlobals "mask_of" = some (some (.ref f3))) (l3 : K.lookup f3 = some ⟨oc3, od3, .func (PySem.W.fnOf "mask_of" "mask_of" (defArgs s_mask_of) (defBody s_mask_of) (defScope s_mask_of) .none kV3 dc3 pm3 an3 cd3 ct3), sl3⟩) (c3 : PySem.W.codeIn K cd3 "mask_of" = true) (k3 : PySem.W.keepIn K (.ref f3) = true)
    {od4 an4 : Option Addr} {sl4 : Array (Option Value)} {oc4 kV4 dc4 pm4 cd4 ct4 : Value}
    (a4 : PySem.W.nsIn K mainGlobals "_law_cell_at" = some (some (.ref f4))) (l4 : K.lookup f4 = some ⟨oc4, od4, .func (PySem.W.fnOf "_law_cell_at" "_law_cell_at" (defArgs s_cell_at) (defBody s_cell_at) (defScope s_cell_at) .none kV4 dc4 pm4 an4 cd4 ct4), sl4⟩) (c4 : PySem.W.codeIn K cd4 "_law_cell_at" = true) (k4 : PySem.W.keepIn K (.ref f4) = true)
    {od5 an5 : Option Addr} {sl5 : Array (Option Value)} {oc5 kV5 dc5 pm5 cd5 ct5 : Value}
    (a5 : PySem.W.nsIn K mainGlobals "_law_box" = some (some (.ref f5))) (l5 : K.lookup f5 = some ⟨oc5, od5, .func (PySem.W.fnOf "_law_box" "_law_box" (defArgs s_box) (defBody s_box) (defScope s_box) .none kV5 dc5 pm5 an5 cd5 ct5), sl5⟩) (c5 : PySem.W.codeIn K cd5 "_law_box" = true) (k5 : PySem.W.keepIn K (.ref f5) = true)
    {od6 an6 : Option Addr} {sl6 : Array (Option Value)} {oc6 kV6 dc6 pm6 cd6 ct6 : Value}
    (a6 : PySem.W.nsIn K mainGlobals "_law_take" = some (some (.ref f6))) (l6 : K.lookup f6 = some ⟨oc6, od6, .func (PySem.W.fnOf "_law_take" "_law_take" (defArgs s_take) (defBody s_take) (defScope s_take) .none kV6 dc6 pm6 an6 cd6 ct6), sl6⟩) (c6 : PySem.W.codeIn K cd6 "_law_take" = true) (k6 : PySem.W.keepIn K (.ref f6) = true)
    {od7 an7 : Option Addr} {sl7 : Array (Option Value)} {oc7 kV7 dc7 pm7 cd7 ct7 : Value}
    (a7 : PySem.W.nsIn K mainGlobals "_law_same" = some (some (.ref f7))) (l7 : K.lookup f7 = some ⟨oc7, od7, .func (PySem.W.fnOf "_law_same" "_law_same" (defArgs s_same) (defBody s_same) (defScope s_same) .none kV7 dc7 pm7 an7 cd7 ct7), sl7⟩) (c7 : PySem.W.codeIn K cd7 "_law_same" = true) (k7 : PySem.W.keepIn K (.ref f7) = true)
    {od8 an8 : Option Addr} {sl8 : Array (Option Value)} {oc8 kV8 dc8 pm8 cd8 ct8 : Value}
    (a8 : PySem.W.nsIn K mainGlobals "_law_of" = some (some (.ref f8))) (l8 : K.lookup f8 = some ⟨oc8, od8, .func (PySem.W.fnOf "_law_of" "_law_of" (defArgs s_of) (defBody s_of) (defScope s_of) .none kV8 dc8 pm8 an8 cd8 ct8), sl8⟩) (c8 : PySem.W.codeIn K cd8 "_law_of" = true) (k8 : PySem.W.keepIn K (.ref f8) = true)
    {od9 an9 : Option Addr} {sl9 : Array (Option Value)} {oc9 kV9 dc9 pm9 cd9 ct9 : Value}
    (a9 : PySem.W.nsIn K mainGlobals "_law_bytes" = some (some (.ref f9))) (l9 : K.lookup f9 = some ⟨oc9, od9, .func (PySem.W.fnOf "_law_bytes" "_law_bytes" (defArgs s_bytes) (defBody s_bytes) (defScope s_bytes) .none kV9 dc9 pm9 an9 cd9 ct9), sl9⟩) (c9 : PySem.W.codeIn K cd9 "_law_bytes" = true) (k9 : PySem.W.keepIn K (.ref f9) = true)
    {od10 an10 : Option Addr} {sl10 : Array (Option Value)} {oc10 kV10 dc10 pm10 cd10 ct10 : Value}
    (a10 : PySem.W.nsIn K mainGlobals "_law_due" = some (some (.ref f10))) (l10 : K.lookup f10 = some ⟨oc10, od10, .func (PySem.W.fnOf "_law_due" "_law_due" (defArgs s_due) (defBody s_due) (defScope s_due) .none kV10 dc10 pm10 an10 cd10 ct10), sl10⟩) (c10 : PySem.W.codeIn K cd10 "_law_due" = true) (k10 : PySem.W.keepIn K (.ref f10) = true)
    {od11 an11 : Option Addr} {sl11 : Array (Option Value)} {oc11 kV11 dc11 pm11 cd11 ct11 : Value}
    (a11 : PySem.W.nsIn K mainGlobals "_law_is_mask" = some (some (.ref f11))) (l11 : K.lookup f11 = some ⟨oc11, od11, .func (PySem.W.fnOf "_law_is_mask" "_law_is_mask" (defArgs s_l_is_mask) (defBody s_l_is_mask) (defScope s_l_is_mask) .none kV11 dc11 pm11 an11 cd11 ct11), sl11⟩) (c11 : PySem.W.codeIn K cd11 "_law_is_mask" = true) (k11 : PySem.W.keepIn K (.ref f11) = true)
    {od12 an12 : Option Addr} {sl12 : Array (Option Value)} {oc12 kV12 dc12 pm12 cd12 ct12 : Value}
    (a12 : PySem.W.nsIn K mainGlobals "_law_bent" = some (some (.ref f12))) (l12 : K.lookup f12 = some ⟨oc12, od12, .func (PySem.W.fnOf "_law_bent" "_law_bent" (defArgs s_bent) (defBody s_bent) (defScope s_bent) .none kV12 dc12 pm12 an12 cd12 ct12), sl12⟩) (c12 : PySem.W.codeIn K cd12 "_law_bent" = true) (k12 : PySem.W.keepIn K (.ref f12) = true)
    {od13 an13 : Option Addr} {sl13 : Array (Option Value)} {oc13 kV13 dc13 pm13 cd13 ct13 : Value}
    (a13 : PySem.W.nsIn K mainGlobals "law" = some (some (.ref f13))) (l13 : K.lookup f13 = some ⟨oc13, od13, .func (PySem.W.fnOf "law" "law" (defArgs s_law) (defBody s_law) (defScope s_law) .none kV13 dc13 pm13 an13 cd13 ct13), sl13⟩) (c13 : PySem.W.codeIn K cd13 "law" = true) (k13 : PySem.W.keepIn K (.ref f13) = true)
    {ad_STEPS : Addr} {od_STEPS : Option Addr} {sl_STEPS : Array (Option Value)} {n_STEPS : Nat} {t_STEPS_0 t_STEPS_1 t_STEPS_2 t_STEPS_3 : Tok} (a_STEPS : PySem.W.nsIn K mainGlobals "STEPS" = some (some (.ref ad_STEPS))) (l_STEPS : K.lookup ad_STEPS = some ⟨.type "tuple", od_STEPS, .seq #[.int 1 t_STEPS_0, .int 3 t_STEPS_1, .int 5 t_STEPS_2, .int 7 t_STEPS_3] n_STEPS, sl_STEPS⟩)
    (z_len : PySem.W.nsIn K mainGlobals "len" = some none) (z_abs : PySem.W.nsIn K mainGlobals "abs" = some none) (z_int : PySem.W.nsIn K mainGlobals "int" = some none) (z_bool : PySem.W.nsIn K mainGlobals "bool" = some none) (z_list : PySem.W.nsIn K mainGlobals "list" = some none) (z_tuple : PySem.W.nsIn K mainGlobals "tuple" = some none) (z_str : PySem.W.nsIn K mainGlobals "str" = some none) (z_isinstance : PySem.W.nsIn K mainGlobals "isinstance" = some none) (z_all : PySem.W.nsIn K mainGlobals "all" = some none) (z_zip : PySem.W.nsIn K mainGlobals "zip" = some none) (z_min : PySem.W.nsIn K mainGlobals "min" = some none) (z_range : PySem.W.nsIn K mainGlobals "range" = some none) (z_repr : PySem.W.nsIn K mainGlobals "repr" = some none) :
    ∃ fd : FuncData, (∀ (s : Shared) (v : Value), BindsTo s fd ⟨[v], []⟩ [("_law_script", v)]) ∧ ∀ base : Heap, K.In base → base.Ns mainGlobals mg → FnG l.prog w K mg base 6 fa fd ["_law_script"] (spLaw K) := by
  have e := hfa.symm.trans (PySem.W.mg_of X G a13)
  cases e
  have F0 := fun_mk (st := s_is_number) l0 c0 k0
  have F1 := fun_mk (st := s_is_byte) l1 c1 k1
  have F2 := fun_mk (st := s_is_mask) l2 c2 k2
  have F3 := fun_mk (st := s_mask_of) l3 c3 k3
  have F4 := fun_mk (st := s_cell_at) l4 c4 k4
  have F5 := fun_mk (st := s_box) l5 c5 k5
  have F6 := fun_mk (st := s_take) l6 c6 k6
  have F7 := fun_mk (st := s_same) l7 c7 k7
  have F8 := fun_mk (st := s_of) l8 c8 k8
  have F9 := fun_mk (st := s_bytes) l9 c9 k9
  have F10 := fun_mk (st := s_due) l10 c10 k10
  have F11 := fun_mk (st := s_l_is_mask) l11 c11 k11
  have F12 := fun_mk (st := s_bent) l12 c12 k12
  have F13 := fun_mk (st := s_law) l13 c13 k13
  have b0 := F0.binds (ps := ["thing"]) fun _ _ _ _ _ _ us hl => match us, hl with | [_], _ => rfl
  have b1 := F1.binds (ps := ["thing"]) fun _ _ _ _ _ _ us hl => match us, hl with | [_], _ => rfl
  have b2 := F2.binds (ps := ["thing"]) fun _ _ _ _ _ _ us hl => match us, hl with | [_], _ => rfl
  have b3 := F3.binds (ps := ["first", "number"]) fun _ _ _ _ _ _ us hl => match us, hl with | [_, _], _ => rfl
  have b4 := F4.binds (ps := ["_law_script", "_law_k"]) fun _ _ _ _ _ _ us hl => match us, hl with | [_, _], _ => rfl
  have b5 := F5.binds (ps := ["_law_script", "_law_k"]) fun _ _ _ _ _ _ us hl => match us, hl with | [_, _], _ => rfl
  have b6 := F6.binds (ps := ["_law_box_here", "_law_count"]) fun _ _ _ _ _ _ us hl => match us, hl with | [_, _], _ => rfl
  have b7 := F7.binds (ps := ["_law_found", "_law_due_here"]) fun _ _ _ _ _ _ us hl => match us, hl with | [_, _], _ => rfl
  have b8 := F8.binds (ps := ["_law_box_here", "_law_some"]) fun _ _ _ _ _ _ us hl => match us, hl with | [_, _], _ => rfl
  have b9 := F9.binds (ps := ["_law_box_here", "_law_count"]) fun _ _ _ _ _ _ us hl => match us, hl with | [_, _], _ => rfl
  have b10 := F10.binds (ps := ["_law_veil", "_law_count"]) fun _ _ _ _ _ _ us hl => match us, hl with | [_, _], _ => rfl
  have b11 := F11.binds (ps := ["_law_some"]) fun _ _ _ _ _ _ us hl => match us, hl with | [_], _ => rfl
  have b12 := F12.binds (ps := ["_law_box_here", "_law_veil"]) fun _ _ _ _ _ _ us hl => match us, hl with | [_, _], _ => rfl
  have T : Tx K mg := { f_is_number := f0, fd_is_number := _, F_is_number := F0, g_is_number := PySem.W.mg_of X G a0, b_is_number := b0, f_is_byte := f1, fd_is_byte := _, F_is_byte := F1, g_is_byte := PySem.W.mg_of X G a1, b_is_byte := b1, f_is_mask := f2, fd_is_mask := _, F_is_mask := F2, g_is_mask := PySem.W.mg_of X G a2, b_is_mask := b2, f_mask_of := f3, fd_mask_of := _, F_mask_of := F3, g_mask_of := PySem.W.mg_of X G a3, b_mask_of := b3, f_cell_at := f4, fd_cell_at := _, F_cell_at := F4, g_cell_at := PySem.W.mg_of X G a4, b_cell_at := b4, f_box := f5, fd_box := _, F_box := F5, g_box := PySem.W.mg_of X G a5, b_box := b5, f_take := f6, fd_take := _, F_take := F6, g_take := PySem.W.mg_of X G a6, b_take := b6, f_same := f7, fd_same := _, F_same := F7, g_same := PySem.W.mg_of X G a7, b_same := b7, f_of := f8, fd_of := _, F_of := F8, g_of := PySem.W.mg_of X G a8, b_of := b8, f_bytes := f9, fd_bytes := _, F_bytes := F9, g_bytes := PySem.W.mg_of X G a9, b_bytes := b9, f_due := f10, fd_due := _, F_due := F10, g_due := PySem.W.mg_of X G a10, b_due := b10, f_l_is_mask := f11, fd_l_is_mask := _, F_l_is_mask := F11, g_l_is_mask := PySem.W.mg_of X G a11, b_l_is_mask := b11, f_bent := f12, fd_bent := _, F_bent := F12, g_bent := PySem.W.mg_of X G a12, b_bent := b12, kb_mask_of_0_number_first := mk_kb_mask_of_0_number_first F3, kb_is_mask_0_thing := mk_kb_is_mask_0_thing F2, a_STEPS := ad_STEPS, g_STEPS := PySem.W.mg_of X G a_STEPS, q_STEPS := fun H => .inr ⟨_, _, _, l_STEPS, rfl, rfl, (by show 4 ≤ sizeLine; decide), (.cons ⟨_, rfl⟩ (.cons ⟨_, rfl⟩ (.cons ⟨_, rfl⟩ (.cons ⟨_, rfl⟩ .nil))))⟩, m_len := PySem.W.mg_none_of X G z_len, m_abs := PySem.W.mg_none_of X G z_abs, m_int := PySem.W.mg_none_of X G z_int, m_bool := PySem.W.mg_none_of X G z_bool, m_list := PySem.W.mg_none_of X G z_list, m_tuple := PySem.W.mg_none_of X G z_tuple, m_str := PySem.W.mg_none_of X G z_str, m_isinstance := PySem.W.mg_none_of X G z_isinstance, m_all := PySem.W.mg_none_of X G z_all, m_zip := PySem.W.mg_none_of X G z_zip, m_min := PySem.W.mg_none_of X G z_min, m_range := PySem.W.mg_none_of X G z_range, m_repr := PySem.W.mg_none_of X G z_repr }
  exact ⟨PySem.W.fnOf "law" "law" (defArgs s_law) (defBody s_law) (defScope s_law) .none kV13 dc13 pm13 an13 cd13 ct13, fun s v => .of_eq rfl, fun base _ _ => ok_law T F13⟩
end K2
open PySem PySem.W PyProof.Rows
set_option maxHeartbeats 0 in
theorem PySem.Challenge.cw_slipwire_k02_masks_of_slips_by_number_holds : PySem.Challenge.rw_slipwire_k02_masks_of_slips_by_number.Holds := by
  w_on; o_law; k_head; (case hw => w_witness2)
  k_fill
  refine L2.walk_ofG (l := PySem.Challenge.rw_slipwire_k02_masks_of_slips_by_number) (n := 63) (k := 6) (x := "_law_script") (sp := fun w => K2.spLaw _) rfl (by decide) rfl ⟨rfl, by decide, by decide⟩ (fun w h Y => PySem.W.kIn_of Y) ?F (fun _ _ a ns hl _ hS => ⟨a, ns, rfl, hS, hl, fun _ => rfl⟩)
  case F =>
    intro w mg fa h KX G hmg
    refine' K2.all_mk KX G hmg ?a0 ?l0 ?c0 ?k0 ?a1 ?l1 ?c1 ?k1 ?a2 ?l2 ?c2 ?k2 ?a3 ?l3 ?c3 ?k3 ?a4 ?l4 ?c4 ?k4 ?a5 ?l5 ?c5 ?k5 ?a6 ?l6 ?c6 ?k6 ?a7 ?l7 ?c7 ?k7 ?a8 ?l8 ?c8 ?k8 ?a9 ?l9 ?c9 ?k9 ?a10 ?l10 ?c10 ?k10 ?a11 ?l11 ?c11 ?k11 ?a12 ?l12 ?c12 ?k12 ?a13 ?l13 ?c13 ?k13 ?a_STEPS ?l_STEPS ?z_len ?z_abs ?z_int ?z_bool ?z_list ?z_tuple ?z_str ?z_isinstance ?z_all ?z_zip ?z_min ?z_range ?z_repr
    (case a0 => k_is); (case l0 => k_is); (case c0 => k_is); (case k0 => k_is); (case a1 => k_is); (case l1 => k_is); (case c1 => k_is); (case k1 => k_is); (case a2 => k_is); (case l2 => k_is); (case c2 => k_is); (case k2 => k_is); (case a3 => k_is); (case l3 => k_is); (case c3 => k_is); (case k3 => k_is); (case a4 => k_is); (case l4 => k_is); (case c4 => k_is); (case k4 => k_is); (case a5 => k_is); (case l5 => k_is); (case c5 => k_is); (case k5 => k_is); (case a6 => k_is); (case l6 => k_is); (case c6 => k_is); (case k6 => k_is); (case a7 => k_is); (case l7 => k_is); (case c7 => k_is); (case k7 => k_is); (case a8 => k_is); (case l8 => k_is); (case c8 => k_is); (case k8 => k_is); (case a9 => k_is); (case l9 => k_is); (case c9 => k_is); (case k9 => k_is); (case a10 => k_is); (case l10 => k_is); (case c10 => k_is); (case k10 => k_is); (case a11 => k_is); (case l11 => k_is); (case c11 => k_is); (case k11 => k_is); (case a12 => k_is); (case l12 => k_is); (case c12 => k_is); (case k12 => k_is); (case a13 => k_is); (case l13 => k_is); (case c13 => k_is); (case k13 => k_is); (case a_STEPS => k_is); (case l_STEPS => k_is); (case z_len => k_is); (case z_abs => k_is); (case z_int => k_is); (case z_bool => k_is); (case z_list => k_is); (case z_tuple => k_is); (case z_str => k_is); (case z_isinstance => k_is); (case z_all => k_is); (case z_zip => k_is); (case z_min => k_is); (case z_range => k_is); (case z_repr => k_is)
