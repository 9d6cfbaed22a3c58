import PyProof.Rows.All
import Wide.All
import OpenK.AllK
import Wide.FinOn
import HandS.ForMost
import HandS.Walk
import HandS.IsInst
import HandS.Zip
import HandS.Defaults
import HandS.MakeKwOnly
import HandS.Style
import HandS.DeepEq
import KE.GoesMore
import KE.GoesEnum
import KE.GoesZip
import HandS.RaiseMore
import HandS.ExcInit
import HandS.ExcIs
import HandS.FStr
import KE.KExcPX
import HandS.TupAny
import HandS.Conv
import PySem.Challenge.RW_slipwire_k05_refusals_and_codes
set_option Elab.async false
set_option linter.all false
set_option maxRecDepth 100000
set_option maxHeartbeats 4000000
/-! my own rules over the hand layer: enumerate of a tuple, a call by keywords alone -/
namespace PySem
open Sem (wp)
set_option maxHeartbeats 1000000 in
theorem my_meets_enumT (t : Addr) (items : Array Value) :
    Meets (Builtin.«enumerate.__new__» ⟨[.type "enumerate", .ref t], []⟩) (fun _ R s => s.heap.IsTuple t items ∧
      R (.ok (.ret (.ref (s.heap.push { cls := .type "tuple_iterator", data := .fields #[.ref t, .int 0 0] }).objs.size)))
        { s with heap := (s.heap.push { cls := .type "tuple_iterator", data := .fields #[.ref t, .int 0 0] }).push { cls := .type "enumerate", data := .fields #[.none, .bool false, .ref s.heap.objs.size, rawInt 0, .none, .none] } }) :=
  .of_wp fun prog w A R s h => by
    obtain ⟨hp, g, d, tk, os⟩ := s
    obtain ⟨hl, h⟩ := h
    have hsub := sub_enumerate
    have hL : Heap.IsTuple (Shared.heap ⟨hp, g, d, tk, os⟩) t items := hl
    wp_walk using wpAny_pyIter_tuple hL
    refine wpAny_stack_any fun st => wpAny_pure ?_
    split
    · rename_i c _ _ _ _ _
      cases (c == Value.type "enumerate")
      · wp_walk using wpAny_pyIter_tuple hL
        exact ⟨_, rfl, h⟩
      · wp_walk using wpAny_pyIter_tuple hL
        exact ⟨_, rfl, h⟩
    · wp_walk using wpAny_pyIter_tuple hL
      exact ⟨_, rfl, h⟩
theorem my_call_enumT {prog : Program} {w : World} {A : Around} {E : Value → Shared → Prop} {s : Shared} {t : Addr} {items : Array Value} {Q : Value → Shared → Prop} (hL : s.heap.IsTuple t items)
    (h : ∀ h', IsEnum h' (s.heap.objs.size + 1) s.heap.objs.size 0 .none → h'.IsTupleIter s.heap.objs.size t 0 → h'.objs.size = s.heap.objs.size + 2 →
      (∀ b o, s.heap.get? b = some o → h'.get? b = some o) → Q (.ref (s.heap.objs.size + 1)) { s with heap := h' }) :
    wpAny (model prog w) A (call (.type "enumerate") [.ref t]) Q E s := by
  refine callType_new F.called_enumerate (by decide) (F.typeCall_enumerate_1 _) (F.newCall_enumerate_1 _) (fun obj => F.args_object_init_2 obj _) F.entry_enumerate_new
    (my_meets_enumT t items) ⟨hL, ?_⟩
  have hz : (s.heap.push { cls := .type "tuple_iterator", data := .fields #[.ref t, .int 0 0] }).objs.size = s.heap.objs.size + 1 := Heap.size_push ..
  show _ ∧ _
  rw [hz]
  have he : IsEnum ((s.heap.push { cls := .type "tuple_iterator", data := .fields #[.ref t, .int 0 0] }).push
      { cls := .type "enumerate", data := .fields #[.none, .bool false, .ref s.heap.objs.size, rawInt 0, .none, .none] }) (s.heap.objs.size + 1) s.heap.objs.size 0 .none := by
    have := Heap.get?_push_size (s.heap.push { cls := .type "tuple_iterator", data := .fields #[.ref t, .int 0 0] })
      (o := { cls := .type "enumerate", data := .fields #[.none, .bool false, .ref s.heap.objs.size, rawInt 0, .none, .none] }) rfl
    rw [hz] at this; exact this
  refine ⟨⟨_, he, rfl⟩, h _ he ⟨_, Heap.get?_push_of_some _ (Heap.get?_push_size _ rfl), rfl, rfl⟩ (by rw [Heap.size_push, hz]) fun b o x => Heap.get?_push_of_some _ (Heap.get?_push_of_some _ x)⟩
end PySem
namespace L2
open PySem PySem.Spec PyProof.Rows
/-! ### enumerate(tuple) -/
def IteT (K : PySem.W.Frag) (a : Addr) : It :=
  ⟨fun i H => ∃ (xs : List V) (x : V), SqT K H a xs ∧ xs[i]? = some x, fun i H v H' => ∃ T x, v = .ref T ∧ H T = none ∧ H' = upd H T (.tup [.int (i : Nat), x]) ∧ ∀ xs, SqT K H a xs → xs[i]? = some x, fun i H => ∃ xs : List V, SqT K H a xs ∧ xs.length = i⟩
theorem turn_enumT {P : Program} {w : World} {K : PySem.W.Frag} {elts : List Expr} {kk : Nat} {tpos : Pos} (a e it : Addr) :
    Turn P w K (.Tuple elts kk tpos) (IteT K a) [e, it] e (fun i h => (∃ old, IsEnum h e it ((i : Nat) : Int) old) ∧ h.IsTupleIter it a i ∧ e ≠ it ∧ a ≠ it ∧ a ≠ e) where
  mem := by simp
  obj := fun i h st b hb => by
    obtain ⟨⟨old, he⟩, ⟨o, ho, hc, hd⟩, _⟩ := st
    have e' : b = e ∨ b = it := by simpa using hb
    rcases e' with z | z
    · rw [z]; exact ⟨_, he, fun v q => nomatch q⟩
    · rw [z]; exact ⟨o, ho, fun v q => by rw [hd] at q; cases q⟩
  keep := fun i h h' st k => let ⟨⟨old, he⟩, hi, hne⟩ := st; ⟨⟨old, k e (by simp) _ he⟩, hi.at fun o q => k it (by simp) o q, hne⟩
  item := by
    intro X hP hw hK hc i pins s σ H E I hf st hg
    subst hP hw hK
    obtain ⟨⟨old, he⟩, hit, hne, hai, hae⟩ := st
    obtain ⟨xs, x, hq, hx⟩ := hg
    obtain ⟨its, rv, p, hz⟩ := I.tuple hq
    obtain ⟨u, hu, ru⟩ := rv.get hx
    have hel : e < s.heap.objs.size := Heap.lt_size he
    have hil : it < s.heap.objs.size := by obtain ⟨_, q, _⟩ := hit; exact Heap.lt_size q
    have hlt : i < its.toArray.size := by
      have h1 : i < its.length := (List.getElem?_eq_some_iff.mp hu).1
      rw [List.size_toArray]
      exact h1
    have D : Draws X.prog X.w X.A.in1 it [it, a] its.toArray.size (fun i v => its.toArray[i]? = some v) (fun i h => h.IsTupleIter it a i ∧ h.IsTuple a its.toArray) := Draws.tuple (show X.A.in1.handled = none from I.ok.hd hc) it a hai its.toArray
    refine wpAny_pyNext_enum_itemD D he ⟨hit, p⟩ hlt hne (by simp only [List.mem_cons, List.not_mem_nil, or_false, not_or]; exact ⟨hne, fun z => hae z.symm⟩) fun v h' tk hP ho hs' hT hsz hk => ?_
    obtain rfl : u = v := by
      have z : its.toArray[i]? = some u := by simpa using hu
      rw [z] at hP
      exact Option.some.inj hP
    refine ⟨_, rfl, wpAny_letOwnedTupleGo_enum (s := { s with heap := h', toks := tk + 1 }) ho fun h'' he' sb => ?_⟩
    have hT2 : h''.get? s.heap.objs.size = some { cls := .type "tuple", data := .seq #[.int i tk, u] } := (sb.2 _ (Nat.ne_of_gt hel)).trans hT
    have new : ObjOk X.prog X.w (upd H s.heap.objs.size (.tup [.int (i : Nat), x])) h'' s.heap.objs.size (.tup [.int (i : Nat), x]) :=
      ⟨by show 2 ≤ sizeLine; decide, [.int i tk, u], .cons ⟨_, rfl⟩ (.cons ru .nil), ⟨_, hT2, rfl, _, rfl⟩⟩
    have I1 : Inv X pins σ (upd H s.heap.objs.size (.tup [.int (i : Nat), x])) { s with heap := h'', toks := tk + 1 } :=
      I.turnedNew (ch := [e, it]) (fun b ob hb q => (sb.2 b (fun z => hb (by simp [z]))).trans (hk b ob (fun z => hb (by simp [z])) (fun z => hb (by simp [z])) q)) hf (Nat.le_refl _) new
    refine ⟨.ref s.heap.objs.size, _, I1, rfl, ⟨_, x, rfl, I.hok.fresh (Nat.le_refl _), rfl, fun ys hy => by rw [I.tuple_inj hy hq]; exact hx⟩, ⟨⟨u, ?_⟩, hs'.1.at fun o q => (sb.2 it (Ne.symm hne)).trans q, hne, hai, hae⟩, fun b hb => ?_⟩
    · have e1 : ((i + 1 : Nat) : Int) = (i : Int) + 1 := by omega
      rw [e1]; exact he'
    · have hb' : b < s.heap.objs.size := by
        have e' : b = e ∨ b = it := by simpa using hb
        rcases e' with z | z
        · rw [z]; exact hel
        · rw [z]; exact hil
      rw [upd_ne (Nat.ne_of_lt hb')]
      exact (hf b hb).1
  done := by
    intro X hP hw hK hc i pins s σ H E I hf st hg
    subst hP hw hK
    obtain ⟨⟨old, he⟩, hit, hne, hai, hae⟩ := st
    obtain ⟨xs, hq, hx⟩ := hg
    obtain ⟨its, rv, p, hz⟩ := I.tuple hq
    obtain ⟨f0, f1, f2, f3, f4, f5⟩ := hf it (by simp)
    have hl := rv.length
    have hi : i = its.toArray.size := by rw [List.size_toArray]; omega
    subst hi
    have D : Draws X.prog X.w X.A.in1 it [it, a] its.toArray.size (fun i v => its.toArray[i]? = some v) (fun i h => h.IsTupleIter it a i ∧ h.IsTuple a its.toArray) := Draws.tuple (show X.A.in1.handled = none from I.ok.hd hc) it a hai its.toArray
    exact wpAny_pyNext_enum_endD D he ⟨hit, p⟩ fun h' eb => ⟨rfl, I.turned (t' := s.toks) (fun b o hb q => eb b o hb q) f0 f1 f3 f4 f5⟩
  self := fun A i s Q E st h => let ⟨⟨_, he⟩, _⟩ := st; wpAny_pyIter_enum he h
/-- enumerate of a list or a tuple -/
def iEnumA (K : PySem.W.Frag) (ta : TA) : TI := fun σ H R => ta σ H fun vs H1 => ∃ a xs, vs = [.ref a] ∧ ((SqL K H1 a xs ∧ R (Ite K a) H1) ∨ (SqT K H1 a xs ∧ R (IteT K a) H1))
theorem pi_enumA {X : Cx} {e : Expr} {ta : TA} {p pos tpos : Pos} {elts : List Expr} {kk : Nat} (hg : Gl X "enumerate") (hm : X.mg "enumerate" = none) (ha : PA X [e] ta) (hs : starEach [e] X.env = [(false, eval e X.env)] := by rfl) :
    PI X (.Tuple elts kk tpos) (.Call (.Name "enumerate" p) [e] [] pos) (iEnumA X.K ta) := by
  refine ⟨fun pins s σ H R I h => ?_⟩
  refine Call_ (ld_blt I hg hm boot_enumerate (PyProof.Rows.callWith_type1 (thn (ha.run pos pins s σ H _ I h) fun us s1 ⟨vs, H1, I1, r1, q1⟩ => ?_) hs rfl))
  obtain ⟨a, xs, ex, q1⟩ := q1
  subst ex
  cases r1 with
  | cons r rr =>
    cases rr
    cases r
    have fresh2 : ∀ b, b ∈ [s1.heap.objs.size + 1, s1.heap.objs.size] → FpOk X pins H1 b := fun b hb => by
      have e' : b = s1.heap.objs.size + 1 ∨ b = s1.heap.objs.size := by simpa using hb
      have hle : s1.heap.objs.size ≤ b := by
        rcases e' with z | z
        · rw [z]; exact Nat.le_add_right _ _
        · rw [z]; exact Nat.le_refl _
      exact I1.fpOk hle (I1.hok.fresh hle)
    rcases q1 with ⟨hq, q⟩ | ⟨hq, q⟩
    · obtain ⟨its, rv, p', hz⟩ := I1.list hq
      refine call_enumerate_list p'.isList fun h' he hit hsz hk => wpAny_pyIter_enum he ?_
      have I2 : Inv X pins σ H1 { s1 with heap := h' } := I1.kept (t' := s1.toks) hk
      exact ⟨s1.heap.objs.size + 1, [s1.heap.objs.size + 1, s1.heap.objs.size], _, _, H1, rfl, I2, turn_enum a (s1.heap.objs.size + 1) s1.heap.objs.size, ⟨⟨.none, he⟩, hit, Nat.succ_ne_self _⟩, fresh2, q⟩
    · obtain ⟨its, rv, p', hz⟩ := I1.tuple hq
      obtain ⟨o1, ho1, _⟩ := id p'
      have hlt : a < s1.heap.objs.size := Heap.lt_size ho1
      refine my_call_enumT (show s1.heap.IsTuple a its.toArray from p') fun h' he hit hsz hk => wpAny_pyIter_enum he ?_
      have I2 : Inv X pins σ H1 { s1 with heap := h' } := I1.kept (t' := s1.toks) hk
      exact ⟨s1.heap.objs.size + 1, [s1.heap.objs.size + 1, s1.heap.objs.size], _, _, H1, rfl, I2, turn_enumT a (s1.heap.objs.size + 1) s1.heap.objs.size, ⟨⟨.none, he⟩, hit, Nat.succ_ne_self _, Nat.ne_of_lt hlt, Nat.ne_of_lt (Nat.lt_succ_of_lt hlt)⟩, fresh2, q⟩
theorem walk_enumT {K : PySem.W.Frag} {a : Addr} {xs : List V} : Walk (IteT K a) xs.length (fun H => SqT K H a xs) (YPair (fun i => some (.int (i : Nat))) (fun i => xs[i]?)) := by
  refine ⟨fun i _ hi q => ⟨xs, xs[i], q, by simp [hi]⟩, fun _ q => ⟨xs, q, rfl⟩, fun i H v H' _ q y => ?_⟩
  obtain ⟨T, x, h1, h2, h3, h4⟩ := y
  exact ⟨T, .int (i : Nat), x, h1, h2, h3, rfl, h4 xs q⟩
/-! ### a call by keywords alone -/
section
variable {X : Cx} {CX : CXT} {k n : Nat} {f : Addr} {fd : FuncData} {ps ks : List Str} {sp : Sp} {x : Str} {g : List Value → List Value → List Value} {gV : List V → List V → List V} {E : XK} {tk : TA} {kws : List Keyword} {p pos : Pos}
theorem pe_callN0 (F : FnOk X.prog X.w X.K X.mg X.base CX k f fd ps sp) (hr : Room k X.A) (hg : Gl X x) (hm : X.mg x = some (.ref f)) (hk : PySem.W.keepIn X.K (.ref f) = true) (hb : KBn X.K fd ps 0 ks g gV) (hx : Passes CX X E)
    (hkw : PK X kws tk) (hall : (backToKw pos (keywordEach kws X.env)).all (·.1.isSome) = true := by rfl) (hks : (backToKw pos (keywordEach kws X.env)).filterMap (·.1) = ks := by rfl)
    (hdb : (x == ("__debug__" : Str)) = false := by decide)
    (hpl : ((backTo pos (starEach [] X.env)).any (·.1) || (backToKw pos (keywordEach kws X.env)).any (·.1.isNone)) = false := by rfl) :
    PE X (.Call (.Name x p) [] kws pos) (tCallN 0 ks.length sp gV E tNil tk) := by
  refine ⟨fun pins s σ H Q I h => ?_⟩
  refine wpAny_Call_Name_kw (ld_glob I hg hm ?_ hdb)
  refine PySem.W.callWith_KW0 (h₀ := X.base) I.ok.mod.kin hk hall ?_ hpl
  refine thn (hkw.run pos pins s σ H _ I h) fun ws s2 ⟨zs, H2, I2, rz, l1, l2, q2⟩ => ⟨I2.kIn, ?_⟩
  rw [hks]
  exact run_fnN (us := []) (vs := []) F hr hb hx I2 .nil rz rfl l2 q2
end
end L2

set_option Elab.async false
set_option linter.all false
set_option maxRecDepth 100000
set_option maxHeartbeats 4000000
/-! my own rule: zip of two rows, each a list or a tuple (kind true: a tuple) -/
namespace L2
open PySem PySem.Spec PyProof.Rows
def SqX (K : PySem.W.Frag) (H : Hp) : Bool → Addr → List V → Prop
  | true, a, xs => SqT K H a xs
  | false, a, xs => SqL K H a xs
def ItX (h : Heap) : Bool → Addr → Addr → Nat → Prop
  | true, it, a, i => h.IsTupleIter it a i
  | false, it, a, i => h.IsListIter it a i
def SeX (h : Heap) : Bool → Addr → Array Value → Prop
  | true, a, its => h.IsTuple a its
  | false, a, its => h.IsList a its
theorem drawX {prog : Program} {w : World} {A : Around} (k : Bool) (hh : A.handled = none) (it a : Addr) (hne : a ≠ it) (its : Array Value) :
    Draws prog w A it [it, a] its.size (fun i v => its[i]? = some v) (fun i h => ItX h k it a i ∧ SeX h k a its) := by
  cases k with
  | true => exact Draws.tuple hh it a hne its
  | false => exact Draws.list hh it a hne its
theorem ItX.at {h h' : Heap} {k : Bool} {it a : Addr} {i : Nat} (x : ItX h k it a i) (e : ∀ o, h.get? it = some o → h'.get? it = some o) : ItX h' k it a i := by
  cases k with
  | true => exact Heap.IsTupleIter.at x e
  | false => exact Heap.IsListIter.at x e
theorem ItX.obj {h : Heap} {k : Bool} {it a : Addr} {i : Nat} (x : ItX h k it a i) : ∃ o, h.get? it = some o ∧ ∀ v, o.data ≠ .cell v := by
  cases k with
  | true =>
    obtain ⟨o, e, _, d⟩ := x
    exact ⟨o, e, fun v q => by rw [d] at q; cases q⟩
  | false =>
    obtain ⟨o, e, _, d⟩ := x
    exact ⟨o, e, fun v q => by rw [d] at q; cases q⟩
section
variable {X : Cx} {pins : List (Addr × Obj)} {σ : St} {H : Hp} {s : Shared} {k : Bool} {a : Addr} {xs ys : List V}
theorem sqx_get (I : Inv X pins σ H s) (h : SqX X.K H k a xs) : ∃ its : List Value, Vals xs its ∧ SeX s.heap k a its.toArray ∧ a < s.heap.objs.size := by
  cases k with
  | true =>
    obtain ⟨its, rv, p, _⟩ := I.tuple h
    obtain ⟨o, ho, _⟩ := id p
    exact ⟨its, rv, p, Heap.lt_size ho⟩
  | false =>
    obtain ⟨its, rv, p, _⟩ := I.list h
    exact ⟨its, rv, p.isList, p.lt⟩
theorem sqx_inj (I : Inv X pins σ H s) (h : SqX X.K H k a xs) (g : SqX X.K H k a ys) : xs = ys := by
  cases k with
  | true => exact I.tuple_inj h g
  | false => exact I.list_inj h g
end
theorem beginsX (k : Bool) (a : Addr) (its : Array Value) : ∃ o, Begins (.ref a) o (fun h => SeX h k a its) ∧ ∀ (h : Heap) (it : Addr), h.get? it = some o → ItX h k it a 0 := by
  cases k with
  | true => exact ⟨_, begins_tuple a its, fun h it e => ⟨_, e, rfl, rfl⟩⟩
  | false => exact ⟨_, begins_list a its, fun h it e => ⟨_, e, rfl, rfl⟩⟩
/-- two rows as they stand at each turn, the items in new pairs -/
def ItzG (K : PySem.W.Frag) (k1 k2 : Bool) (a b : Addr) : It :=
  ⟨fun i H => ∃ (xs ys : List V) (x y : V), SqX K H k1 a xs ∧ SqX K H k2 b ys ∧ xs[i]? = some x ∧ ys[i]? = some y,
    fun i H v H' => ∃ T x y, v = .ref T ∧ H T = none ∧ H' = upd H T (.tup [x, y]) ∧ (∀ xs, SqX K H k1 a xs → xs[i]? = some x) ∧ ∀ ys, SqX K H k2 b ys → ys[i]? = some y,
    fun i H => ∃ xs ys : List V, SqX K H k1 a xs ∧ SqX K H k2 b ys ∧ min xs.length ys.length = i⟩
theorem turn_zipG {P : Program} {w : World} {K : PySem.W.Frag} {elts : List Expr} {kk : Nat} {tpos : Pos} {k1 k2 : Bool} {a b z TI TO i1 i2 : Addr} (S : ZipSep2 z TI TO i1 i2 [i1, a] [i2, b]) (hi : i1 ≠ i2) (ha : a ≠ i1) (hb : b ≠ i2) :
    Turn P w K (.Tuple elts kk tpos) (ItzG K k1 k2 a b) [z, TI, TO, i1, i2] z (fun i h => IsZip h z TI TO .none ∧ IsTupOf2 h TI (.ref i1) (.ref i2) ∧ (∃ x y, IsTupOf2 h TO x y) ∧ ItX h k1 i1 a i ∧ ItX h k2 i2 b i) where
  mem := by simp
  obj := fun i h st c hc => by
    obtain ⟨q1, q2, ⟨x, y, q3⟩, q4, q5⟩ := st
    simp only [List.mem_cons, List.not_mem_nil, or_false] at hc
    rcases hc with rfl | rfl | rfl | rfl | rfl
    · exact ⟨_, q1, fun v q => nomatch q⟩
    · exact ⟨_, q2, fun v q => nomatch q⟩
    · exact ⟨_, q3, fun v q => nomatch q⟩
    · exact q4.obj
    · exact q5.obj
  keep := fun i h h' st kp => by
    obtain ⟨q1, q2, ⟨x, y, q3⟩, q4, q5⟩ := st
    exact ⟨kp z (by simp) _ q1, kp TI (by simp) _ q2, ⟨x, y, kp TO (by simp) _ q3⟩, q4.at fun o q => kp i1 (by simp) o q, q5.at fun o q => kp i2 (by simp) o q⟩
  item := by
    intro X hP hw hK hc i pins s σ H E I hf st hg
    subst hP hw hK
    obtain ⟨q1, q2, ⟨x0, y0, q3⟩, q4, q5⟩ := st
    obtain ⟨xs, ys, x, y, hqx, hqy, hx, hy⟩ := hg
    obtain ⟨its, rv, pa, la⟩ := sqx_get I hqx
    obtain ⟨jts, rw', pb, lb⟩ := sqx_get I hqy
    obtain ⟨u, hu, ru⟩ := rv.get hx
    obtain ⟨v, hv, rv'⟩ := rw'.get hy
    have lz : z < s.heap.objs.size := Heap.lt_size q1
    have n1 : i < its.toArray.size := by
      rw [List.size_toArray]
      exact (List.getElem?_eq_some_iff.mp hu).1
    have n2 : i < jts.toArray.size := by
      rw [List.size_toArray]
      exact (List.getElem?_eq_some_iff.mp hv).1
    have hh : X.A.in1.handled = none := I.ok.hd hc
    refine wpAny_pyNext_zipD2_item S (drawX k1 hh i1 a ha its.toArray) (drawX k2 hh i2 b hb jts.toArray) q1 q2 q3 ⟨q4, pa⟩ ⟨q5, pb⟩ n1 n2 fun u' v' h' tk hu' hv' z1 t1 d1 d2 hT hsz hk => ?_
    obtain rfl : u = u' := by
      have e : its.toArray[i]? = some u := by simpa using hu
      exact Option.some.inj (e.symm.trans hu')
    obtain rfl : v = v' := by
      have e : jts.toArray[i]? = some v := by simpa using hv
      exact Option.some.inj (e.symm.trans hv')
    refine ⟨_, rfl, wpAny_letOwnedTupleGo_zip (s := { s with heap := h', toks := tk }) z1 fun h'' z2 sb => ?_⟩
    have up : ∀ c o, c ≠ z → h'.get? c = some o → h''.get? c = some o := fun c o hc' e => (sb.2 c hc').trans e
    have tupN : h''.get? s.heap.objs.size = some { cls := .type "tuple", data := .seq #[u, v] } := up _ _ (Nat.ne_of_gt lz) hT
    have fresh : ObjOk X.prog X.w (upd H s.heap.objs.size (.tup [x, y])) h'' s.heap.objs.size (.tup [x, y]) :=
      ⟨by show 2 ≤ sizeLine; decide, [u, v], .cons ru (.cons rv' .nil), ⟨_, tupN, rfl, _, rfl⟩⟩
    have J : Inv X pins σ (upd H s.heap.objs.size (.tup [x, y])) { s with heap := h'', toks := tk } :=
      I.turnedNew (t' := tk) (ch := [z, TI, TO, i1, i2]) (fun c o hb' e => up c o (fun q => hb' (by simp [q])) (hk c o (fun q => hb' (by simp [q])) (fun q => hb' (by simp [q])) (fun q => hb' (by simp [q])) (fun q => hb' (by simp [q])) e)) hf (Nat.le_refl _) fresh
    refine ⟨.ref s.heap.objs.size, _, J, rfl, ⟨_, x, y, rfl, I.hok.fresh (Nat.le_refl _), rfl, fun l hl => by rw [sqx_inj I hl hqx]; exact hx, fun l hl => by rw [sqx_inj I hl hqy]; exact hy⟩, ⟨z2, ?_, ⟨u, v, ?_⟩, ?_, ?_⟩, fun c hcm => ?_⟩
    · exact up _ _ S.TIz (hk _ _ S.TIz S.TITO S.TIi1 S.TIi2 q2)
    · exact up _ _ S.TOz t1
    · exact d1.1.at fun o e => up _ o (Ne.symm S.zi1) e
    · exact d2.1.at fun o e => up _ o (Ne.symm S.zi2) e
    · have lc : c < s.heap.objs.size := by
        simp only [List.mem_cons, List.not_mem_nil, or_false] at hcm
        rcases hcm with rfl | rfl | rfl | rfl | rfl
        · exact lz
        · exact Heap.lt_size q2
        · exact Heap.lt_size q3
        · obtain ⟨o, e, _⟩ := q4.obj
          exact Heap.lt_size e
        · obtain ⟨o, e, _⟩ := q5.obj
          exact Heap.lt_size e
      rw [upd_ne (Nat.ne_of_lt lc)]
      exact (hf c hcm).1
  done := by
    intro X hP hw hK hc i pins s σ H E I hf st hg
    subst hP hw hK
    obtain ⟨q1, q2, ⟨x0, y0, q3⟩, q4, q5⟩ := st
    obtain ⟨xs, ys, hqx, hqy, hend⟩ := hg
    obtain ⟨its, rv, pa, _⟩ := sqx_get I hqx
    obtain ⟨jts, rw', pb, _⟩ := sqx_get I hqy
    have l1 := rv.length
    have l2 := rw'.length
    have hh : X.A.in1.handled = none := I.ok.hd hc
    exact wpAny_pyNext_zipD2_end (i := i) S (drawX k1 hh i1 a ha its.toArray) (drawX k2 hh i2 b hb jts.toArray) q1 q2 q3 ⟨q4, pa⟩ ⟨q5, pb⟩ (by rw [List.size_toArray]; omega) (by rw [List.size_toArray]; omega) (by rw [List.size_toArray, List.size_toArray]; omega)
      fun h' tk hk => ⟨rfl, I.turnedL (t' := tk) (ch := [z, TI, TO, i1, i2]) (fun c o hb' e => hk c o (fun q => hb' (by simp [q])) (fun q => hb' (by simp [q])) (fun q => hb' (by simp [q])) (fun q => hb' (by simp [q])) e) hf⟩
  self := fun A i s Q E st h => wpAny_pyIter_zip st.1 h
def iZipG (K : PySem.W.Frag) (ta : TA) : TI := fun σ H R => ta σ H fun vs H1 => ∃ (k1 k2 : Bool) (a b : Addr) (xs ys : List V), vs = [.ref a, .ref b] ∧ SqX K H1 k1 a xs ∧ SqX K H1 k2 b ys ∧ R (ItzG K k1 k2 a b) H1
theorem pi_zipG {X : Cx} {e e2 : Expr} {ta : TA} {p pos tpos : Pos} {elts : List Expr} {kk : Nat} (hg : Gl X "zip") (hm : X.mg "zip" = none) (ha : PA X [e, e2] ta)
    (hs : starEach [e, e2] X.env = (false, eval e X.env) :: starEach [e2] X.env := by rfl) (hpl : (backTo pos (starEach [e2] X.env)).any (·.1) = false := by rfl) :
    PI X (.Tuple elts kk tpos) (.Call (.Name "zip" p) [e, e2] [] pos) (iZipG X.K ta) := by
  refine ⟨fun pins s σ H R I h => ?_⟩
  refine Call_ (ld_blt I hg hm PyProof.Rows.boot_zip (PyProof.Rows.callWith_type1 (thn (ha.run pos pins s σ H _ I h) fun us s1 ⟨vs, H1, I1, r1, q1⟩ => ?_) hs hpl))
  obtain ⟨k1, k2, a, b, xs, ys, ex, hqx, hqy, q⟩ := q1
  subst ex
  obtain ⟨u1, u2, rfl, ra, rb⟩ := vals2 r1
  cases (show u1 = Value.ref a from ra)
  cases (show u2 = Value.ref b from rb)
  obtain ⟨its, rv, pa, la⟩ := sqx_get I1 hqx
  obtain ⟨jts, rw', pb, lb⟩ := sqx_get I1 hqy
  obtain ⟨o1, B1, i1⟩ := beginsX k1 a its.toArray
  obtain ⟨o2, B2, i2⟩ := beginsX k2 b jts.toArray
  refine zip_begins2 B1 B2 pa pb fun h' hz hTI hTO h1 h2 hsz hk => wpAny_pyIter_zip hz ?_
  have J : Inv X pins σ H1 { s1 with heap := h' } := I1.kept (t' := s1.toks) hk
  have sep := zip_sep2 (N := s1.heap.objs.size) (fp1 := [a]) (fp2 := [b]) (fun c hc => by rw [List.mem_singleton.mp hc]; exact la) (fun c hc => by rw [List.mem_singleton.mp hc]; exact lb)
  refine ⟨s1.heap.objs.size + 4, [s1.heap.objs.size + 4, s1.heap.objs.size + 2, s1.heap.objs.size + 3, s1.heap.objs.size, s1.heap.objs.size + 1], _, _, H1, rfl, J, turn_zipG sep (Nat.ne_of_lt (Nat.lt_succ_self _)) (Nat.ne_of_lt la) (Nat.ne_of_lt (Nat.lt_succ_of_lt lb)), ⟨hz, hTI, ⟨_, _, hTO⟩, i1 _ _ h1, i2 _ _ h2⟩, fun c hcm => ?_, q⟩
  have hle : s1.heap.objs.size ≤ c := by
    simp only [List.mem_cons, List.not_mem_nil, or_false] at hcm
    rcases hcm with rfl | rfl | rfl | rfl | rfl
    · exact Nat.le_add_right _ _
    · exact Nat.le_add_right _ _
    · exact Nat.le_add_right _ _
    · exact Nat.le_refl _
    · exact Nat.le_add_right _ _
  exact I1.fpOk hle (I1.hok.fresh hle)
theorem walk_zipG {K : PySem.W.Frag} {k1 k2 : Bool} {a b : Addr} {xs ys : List V} {n : Nat} (hn : n = min xs.length ys.length) : Walk (ItzG K k1 k2 a b) n (fun H => SqX K H k1 a xs ∧ SqX K H k2 b ys) (YPair (fun i => xs[i]?) (fun i => ys[i]?)) := by
  subst hn
  refine ⟨fun i _ hi q => ?_, fun _ q => ⟨xs, ys, q.1, q.2, rfl⟩, fun i H v H' _ q y => ?_⟩
  · have h1 : i < xs.length := by omega
    have h2 : i < ys.length := by omega
    exact ⟨xs, ys, xs[i], ys[i], q.1, q.2, by simp [h1], by simp [h2]⟩
  · obtain ⟨T, x, z, h1, h2, h3, h4, h5⟩ := y
    exact ⟨T, x, z, h1, h2, h3, h4 xs q.1, h5 ys q.2⟩
end L2

set_option Elab.async false
set_option linter.all false
set_option maxRecDepth 100000
set_option maxHeartbeats 4000000
/-! my own rules: repr of data, for defs that are called where no repr is under way -/
namespace L2
open PySem PySem.Spec PyProof.Rows
/-- a promise that is kept where no repr is under way -/
structure FnG (P : Program) (w : World) (K : PySem.W.Frag) (mg : Str → Option Value) (base : Heap) (k : Nat) (f : Addr) (fd : FuncData) (ps : List Str) (sp : Sp) : Prop where
  len : ∀ vs H Q E, sp vs H Q E → vs.length = ps.length
  run : ∀ (A : Around) (outer : List Env) (s : Shared) (H : Hp) (args : Args) (us : List Value) (vs : List V) (Q : VK) (E : XK), A.guards = some [] → Room k A → Env0 P w K mg base A outer s H →
    BindsTo s fd args (ps.zip us) → Vals vs us → sp vs H Q E → codeAny (model P w) A (.call (.ref f) args) (CR CX0 outer P w H s Q E) s
theorem FnOk.guarded {P : Program} {w : World} {K : PySem.W.Frag} {mg : Str → Option Value} {base : Heap} {k : Nat} {f : Addr} {fd : FuncData} {ps : List Str} {sp : Sp} (F : FnOk P w K mg base CX0 k f fd ps sp) : FnG P w K mg base k f fd ps sp :=
  ⟨F.len, fun A outer s H args us vs Q E _ hr e0 hb r h => F.run A outer s H args us vs Q E hr e0 hb r h⟩
/-- the rule for such a def -/
theorem Fun.okG {P : Program} {w : World} {K : PySem.W.Frag} {mg : Str → Option Value} {base : Heap} {x qual : Str} {st : Stmt} {f : Addr} {fd : FuncData} {N ps : List Str} {k : Nat} {sp : Sp} (F : Fun K x qual st f fd) (S : FnScope N ps (defScope st))
    (len : ∀ vs H Q E, sp vs H Q E → vs.length = ps.length)
    (hbody : ∀ (cdv : Value) (A : Around) (outer : List Env) (s : Shared) (H : Hp) (vs : List V) (Q : VK) (E : XK), A.guards = some [] → Room k (A.deeper (envOfC qual (defScope st) s.heap.objs.size f cdv)) → sp vs H Q E →
      ∃ t, PSs (cxOf CX0 P w K mg base N qual (defScope st) f cdv A outer s H E).nox (defBody st) t ∧ t { nx := fun _ H' => Q .non H', rt := Q } (start N vs) H) : FnG P w K mg base (k + 1) f fd ps sp := by
  obtain ⟨oc, od, kV, doc, pm, an, cdv, ct, osl, rfl, lk, hcd⟩ := F.ex
  refine ⟨len, fun A outer s H args us vs Q E hgd hr e0 hb r hsp => ?_⟩
  have many := len _ _ _ _ hsp
  have written : K.In s.heap := e0.mod.kin.keeps fun c oo z => (e0.bs c oo z).1
  have noLimit : s.heap.NoLimit := e0.mod.nolimit.keeps fun c oo z => (e0.bs c oo z).1
  have kinds : ∀ y ∈ ps.zip us, (defScope st).names.lookup y.1 = some .local ∨ ((defScope st).names.lookup y.1 = some .cell ∧ ((cellsFrom (s.heap.objs.size + 1) (defScope st).names []).lookup y.1).isSome = true) := fun ⟨n, v⟩ hy => by
    rcases S.par n (List.of_mem_zip hy).1 with z | z
    · exact .inl z
    · exact .inr ⟨z, PySem.W.cellsFrom_some _ _ _ (.inl z)⟩
  refine codeAny_call_function hr.depth (written _ _ lk) rfl S.co S.gen rfl (PySem.W.codeRec_of written hcd) (hb _ _ _ _ ?_)
  refine wpAny_newFunctionEnv_cells S.kind kinds fun env0 he s1 inside => ?_
  subst he
  refine ⟨noLimit.keeps inside.toInCall.keep, codeAny_func ?_⟩
  obtain ⟨t, ht, hq⟩ := hbody cdv A outer s H vs Q E hgd (hr.deeper _) hsp
  have J0 : Inv (cxOf CX0 P w K mg base N qual (defScope st) f cdv A outer s H E) [] (start N vs) H s1 := inv_start S hr.hd e0 many r inside
  refine wpAny_mono (ht.nox.run [] s1 (start N vs) H _ J0 hq) (fun flow s' hs => ?_) fun e s' hs => hs
  have close : ∀ {σ' : St} {H' : Hp} {v : V} {u : Value}, Inv (cxOf CX0 P w K mg base N qual (defScope st) f cdv A outer s H E) [] σ' H' s' → RelV v u → Q v H' → CE outer P w H s Q u s' :=
    fun {σ' H' v u} J rv z => ⟨v, H', J.os, J.bare, J.base, J.hok, rv, z⟩
  cases flow with
  | ret u =>
    obtain ⟨v, σ', H', J, rv, z⟩ := hs
    exact close J rv z
  | next =>
    obtain ⟨σ', H', J, z⟩ := hs
    exact close (v := V.non) (u := Value.none) J rfl z
  | brk =>
    obtain ⟨_, _, _, z⟩ := hs
    exact z.elim
  | cont =>
    obtain ⟨_, _, _, z⟩ := hs
    exact z.elim
/-- the law's own call -/
theorem law_callG {P : Program} {w : World} {K : PySem.W.Frag} {mg mb : Str → Option Value} {k : Nat} {fa a : Addr} {fd : FuncData} {x : Str} {sp : Sp} {s₁ : Shared} {vs : List Value} {ns : List Int}
    (KX : K.In s₁.heap) (hns : s₁.heap.Ns mainGlobals mg) (hb : s₁.heap.Ns builtinsNs mb) (hbb : ∀ x : Str, x ≠ "__name__" → mb x = bootBuiltins x) (hlim : s₁.heap.NoLimit) (hg : s₁.gens = #[])
    (ha : s₁.heap.get? a = some { cls := .type "list", data := .seq vs.toArray }) (hi : IntsAre vs ns) (hl : ns.length ≤ sizeLine) (hr : Room k callerA)
    (F : ∀ base : Heap, K.In base → base.Ns mainGlobals mg → FnG P w K mg base k fa fd [x] sp) (hbind : ∀ (s : Shared) (u : Value), BindsTo s fd ⟨[u], []⟩ [(x, u)])
    (hsp : ∀ H : Hp, Only H → SqL K H a (ns.map V.int) → sp [.ref a] H (fun v _ => v = .bl true) fun _ _ _ => False) :
    codeAny (model P w) callerA (.call (.ref fa) ⟨[.ref a], []⟩) (fun r s' => r = .ok (.ret (.bool true)) ∧ OldK s₁.heap s'.heap ∧ s'.os = s₁.os ∧ AllBare s'.gens) s₁ := by
  have pair := vals_ints hi
  have size := hi.length
  have from_ : ∀ H : Hp, Only H → SqL K H a (ns.map V.int) → HOk P w H s₁.heap → (∀ c, H c ≠ none → c = a) → (H a ≠ none → K.lookup a = none) →
      codeAny (model P w) callerA (.call (.ref fa) ⟨[.ref a], []⟩) (fun r s' => r = .ok (.ret (.bool true)) ∧ OldK s₁.heap s'.heap ∧ s'.os = s₁.os ∧ AllBare s'.gens) s₁ := by
    intro H only row held alone apart
    have below : ∀ {c : Addr} {oo : Obj}, s₁.heap.get? c = some oo → H c = none → (hidT s₁.heap H).get? c = some oo := fun z n => hidT_get z n
    have noDict : ∀ {c : Addr} {oo : Obj} {es : Array DictEntry} {ep : Nat}, s₁.heap.get? c = some oo → oo.data = .dict es ep → H c = none := fun {c oo es ep} z d => by
      cases hc : H c with
      | none => rfl
      | some u =>
        have same : c = a := alone c (by rw [hc]; simp)
        subst same
        rw [ha] at z
        cases z
        cases (show Data.seq vs.toArray _ = Data.dict es ep from d)
    have spaces : ∀ {c : Addr} {m : Str → Option Value}, s₁.heap.Ns c m → (hidT s₁.heap H).Ns c m := fun {c m} ⟨oo, es, ep, z, d, rest⟩ => ⟨oo, es, ep, below z (noDict z d), d, rest⟩
    have hidden : K.In (hidT s₁.heap H) := fun c oo z => below (KX c oo z) (by
      cases hc : H c with
      | none => rfl
      | some u =>
        have same : c = a := alone c (by rw [hc]; simp)
        subst same
        rw [apart (by rw [hc]; simp)] at z
        cases z)
    have module_ : Mod K mg (hidT s₁.heap H) := ⟨hidden, spaces hns, ⟨mb, spaces hb, hbb⟩, let ⟨mc, h1, h2⟩ := hlim; ⟨mc, spaces h1, h2⟩⟩
    have start_ : Env0 P w K mg (hidT s₁.heap H) callerA [] s₁ H := ⟨rfl, module_, fun c oo z => of_hidT z, Nat.le_of_eq (hidT_size _ _), trivial, fun c hc => absurd (show c ∈ ([] : List Addr) from hc) (by simp), held, .of_eq hg⟩
    refine codeAny_mono ((F _ hidden (spaces hns)).run callerA [] s₁ H ⟨[.ref a], []⟩ [.ref a] [.ref a] _ _ rfl hr start_ (hbind s₁ (.ref a)) (.cons rfl .nil) (hsp H only row)) fun r s' after => ?_
    cases r with
    | error e => exact after.elim
    | ok flow =>
      cases flow with
      | next => exact after.elim
      | brk => exact after.elim
      | cont => exact after.elim
      | ret u =>
        obtain ⟨v, H', os, bare, un, held', rel, z⟩ := after
        cases (show v = .bl true from z)
        obtain rfl : u = Value.bool true := rel
        refine ⟨rfl, OldK.of_keep fun c oo e => ?_, os, bare⟩
        cases hc : H c with
        | none => exact un.keep c oo e hc (fun y => absurd (show c ∈ ([] : List Addr) from y) (by simp)) (by simp)
        | some u =>
          rcases only c with y | ⟨ob, xs, y⟩
          · rw [hc] at y
            cases y
          · have y' := un.frzs c ob _ y
            obtain ⟨g1, _⟩ := held c _ y
            obtain ⟨g2, _⟩ := held' c _ y'
            rw [e] at g1
            cases g1
            exact g2
  cases look : K.lookup a with
  | some oo =>
    have e := KX a oo look
    rw [ha] at e
    cases e
    exact from_ (fun _ => none) (fun _ => .inl rfl) (.inr ⟨_, vs.toArray, _, look, rfl, rfl, rfl, by rw [List.size_toArray, size]; exact hl, by simpa using pair⟩) (fun c u z => by cases (show (none : Option HO) = some u from z)) (fun c z => absurd rfl z) fun z => absurd rfl z
  | none =>
    refine from_ (fun c => if c = a then some (.frz { cls := .type "list", data := .seq vs.toArray } (.lst (ns.map V.int))) else none) (fun c => ?_) (.inl (.inr ⟨{ cls := .type "list", data := .seq vs.toArray }, if_pos rfl⟩)) (fun c u z => ?_) (fun c z => ?_) fun _ => look
    · by_cases hc : c = a
      · exact .inr ⟨_, _, if_pos hc⟩
      · exact .inl (if_neg hc)
    · by_cases hc : c = a
      · cases (if_pos hc).symm.trans z
        subst hc
        exact ⟨ha, by rw [List.length_map]; exact hl, vs, _, pair, ha⟩
      · cases (if_neg hc).symm.trans z
    · by_cases hc : c = a
      · exact hc
      · exact absurd (if_neg hc) z
theorem walk_ofG {l : PySem.W.OpenLaw} {n k : Nat} {q : Program} {loose : List Str} {XP : (Str → Option Value) → Heap → Prop} {YP : World → Heap → Prop} {d : DefRec} {K : Params → PySem.W.Frag} {sp : World → Sp} {x : Str}
    (hn : l.most = some n) (hn2 : n ≤ sizeLine) (hdf : d.params.defaults = []) (hr : Room k callerA)
    (hY : ∀ (w : World) (h : Heap), YP w h → (K w.params).In h)
    (F : ∀ (w : World) (mg : Str → Option Value) (fa : Addr) (h : Heap), (K w.params).In h → h.Ns mainGlobals mg → mg d.name = some (.ref fa) →
      ∃ fd : FuncData, (∀ (s : Shared) (u : Value), BindsTo s fd ⟨[u], []⟩ [(x, u)]) ∧ ∀ base : Heap, (K w.params).In base → base.Ns mainGlobals mg → FnG l.prog w (K w.params) mg base k fa fd [x] (sp w))
    (hsp : ∀ (w : World) (H : Hp) (a : Addr) (ns : List Int), ns.length ≤ n → Only H → SqL (K w.params) H a (ns.map V.int) → sp w [.ref a] H (fun v _ => v = .bl true) fun _ _ _ => False) :
    PySem.W.WalkO q loose XP YP l.row.toRowW d [] (fun f vs => PySem.call f vs) := by
  refine Att.attach_call hn hdf fun w s₀ s₁ mg mb fa o pm cd doc a vs ns G Y ho hd hcd hmg hobj hints hlen hg => ?_
  obtain ⟨fd, hb, hF⟩ := F w mg fa _ (hY w _ Y) G.T.g hmg
  exact law_callG (hY w _ Y) G.T.g G.T.b G.T.builtins G.T.nolimit hg hobj hints (Nat.le_trans hlen hn2) hr hF hb fun H only row => hsp w H a ns hlen only row
/-! ### repr of data -/
mutual
theorem dp_noDict {K : PySem.W.Frag} {H : Hp} : ∀ (d : PyData) {v : V}, Dp K H v d → d.hasDict = false
  | .none, _, _ => rfl
  | .bool _, _, _ => rfl
  | .int _, _, _ => rfl
  | .str _, _, _ => rfl
  | .list ds, _, h => by
    cases h with
    | lst _ a => exact dpAll_noDict ds a
  | .tuple ds, _, h => by
    cases h with
    | tup _ a => exact dpAll_noDict ds a
  | .dict _, _, h => nomatch h
theorem dpAll_noDict {K : PySem.W.Frag} {H : Hp} : ∀ (ds : List PyData) {vs : List V}, DpAll K H vs ds → PyData.hasDictAll ds = false
  | [], _, _ => rfl
  | d :: ds, _, h => by
    cases h with
    | cons a b =>
      show (d.hasDict || PyData.hasDictAll ds) = false
      rw [dp_noDict d a, dpAll_noDict ds b]
      rfl
end
def rReprD (K : PySem.W.Frag) : List V → Hp → VK → Prop := fun xs H Q => ∃ (x : V) (d : PyData), xs = [x] ∧ Dp K H x d ∧ d.showable = true ∧ d.depth ≤ 60 ∧ d.shown.length ≤ sizeLine ∧ Q (.str d.shown) H
theorem call_reprD {X : Cx} (hg : X.A.guards = some []) (hu : X.A.units + 64 < cLine) : CallR X (.builtin "repr") (rReprD X.K) := by
  intro pins s σ H xs us Q I r h
  obtain ⟨x, d, rfl, hd, hs, hdep, hz, q⟩ := h
  obtain ⟨u, rfl, ru⟩ := vals1 r
  obtain ⟨as, rd⟩ := Dp.reads I d x u hd ru
  have nd := dp_noDict d hd
  cases hd with
  | non =>
    cases (show u = Value.none from ru)
    exact PySem.P.repr_of_none ⟨.str _, H, I.tok _, ⟨_, rfl⟩, q⟩
  | bl b =>
    cases (show u = Value.bool b from ru)
    exact PySem.P.repr_of_bool ⟨.str _, H, I.tok _, ⟨_, rfl⟩, q⟩
  | int i =>
    obtain ⟨t, rfl⟩ := ru
    exact PySem.P.repr_of_int (of_decide_eq_true hs) ⟨.str _, H, I.tok _, ⟨_, rfl⟩, q⟩
  | str y =>
    obtain ⟨t, rfl⟩ := ru
    exact PySem.P.repr_of_str ⟨.str _, H, I.tok _, ⟨_, rfl⟩, q⟩ (hsz := hz)
  | lst hq ha =>
    cases ru
    exact repr_of_reads' rd hs (fun z => by rw [nd] at z; cases z) hg (by omega) (fun _ _ e => e) (fun h' u tk hk => ⟨.str _, H, I.kept (t' := tk) hk, ⟨_, rfl⟩, q⟩) (hsz := hz)
  | tup hq ha =>
    cases ru
    exact repr_of_reads' rd hs (fun z => by rw [nd] at z; cases z) hg (by omega) (fun _ _ e => e) (fun h' u tk hk => ⟨.str _, H, I.kept (t' := tk) hk, ⟨_, rfl⟩, q⟩) (hsz := hz)
end L2

set_option Elab.async false
set_option linter.all false
set_option maxRecDepth 100000
set_option maxHeartbeats 4000000
/-! my own: how long a shown datum is at most; data that stand apart from one place -/
namespace Cm
open PySem PySem.Spec PyProof.Rows L2
mutual
/-- a bound of the shown text's length; ints and texts as far as they can be shown -/
def wt : PyData → Nat
  | .none => 4
  | .bool _ => 5
  | .int _ => 2000
  | .str x => 10 * x.length + 2
  | .list xs => wtAll xs + 4
  | .tuple xs => wtAll xs + 4
  | .dict _ => 0
def wtAll : List PyData → Nat
  | [] => 0
  | x :: xs => wt x + 2 + wtAll xs
end
mutual
def okD : PyData → Bool
  | .none => true
  | .bool _ => true
  | .int i => decide (i.natAbs.log2 < 1920)
  | .str x => x.cps.toList.all fun c => decide (c < 16 ^ 8)
  | .list xs => okAll xs
  | .tuple xs => okAll xs
  | .dict _ => false
def okAll : List PyData → Bool
  | [] => true
  | x :: xs => okD x && okAll xs
end
theorem listText_le (ts : List Str) : (listText ts).length ≤ piled ts + 2 := by
  unfold listText
  rw [Str.length_append]
  cases ts with
  | nil => exact (by decide : (textFrom 0 "[" []).length + ("]" : Str).length ≤ piled [] + 2)
  | cons t r =>
    show (textFrom 1 (("[" : Str) ++ (if 0 > 0 then ", " else "" : String) ++ t) r).length + ("]" : Str).length ≤ _
    rw [textFrom_length_pos r 1 _ (by decide), Str.length_append, Str.length_append]
    have e1 : ("[" : Str).length = 1 := rfl
    have e2 : (((if 0 > 0 then ", " else "" : String)) : Str).length = 0 := rfl
    have e3 : ("]" : Str).length = 1 := rfl
    have e4 : piled (t :: r) = t.length + 2 + piled r := by simp [piled]
    rw [e1, e2, e3, e4]
    omega
theorem tupleText_le (ts : List Str) : (tupleText ts).length ≤ piled ts + 2 := by
  unfold tupleText
  rw [Str.length_append, Str.length_append]
  cases ts with
  | nil => exact (by decide : ("(" : Str).length + (Str.join ", " []).length + (((if ([] : List Str).length == 1 then ",)" else ")" : String)) : Str).length ≤ piled [] + 2)
  | cons t r =>
    have j := join_length_add (t :: r) (by simp)
    have e1 : ("(" : Str).length = 1 := rfl
    have e2 : (((if (t :: r).length == 1 then ",)" else ")" : String)) : Str).length ≤ 2 := by
      split
      · exact (by decide : (((",)" : String)) : Str).length ≤ 2)
      · exact (by decide : (((")" : String)) : Str).length ≤ 2)
    omega
mutual
theorem shown_le : ∀ d : PyData, okD d = true → d.shown.length ≤ wt d
  | .none, _ => by decide
  | .bool b, _ => by cases b <;> decide
  | .int i, h => by
    have := int_text_len_1921 (i := i) (of_decide_eq_true h)
    show (Str.ofString (toString i)).length ≤ 2000
    omega
  | .str x, h => PySem.StrLaws.reprText_len x fun c hc => of_decide_eq_true (List.all_eq_true.mp h c hc)
  | .list xs, h => by
    have := shownAll_le xs h
    have := listText_le (PyData.shownAll xs)
    show (listText (PyData.shownAll xs)).length ≤ wtAll xs + 4
    omega
  | .tuple xs, h => by
    have := shownAll_le xs h
    have := tupleText_le (PyData.shownAll xs)
    show (tupleText (PyData.shownAll xs)).length ≤ wtAll xs + 4
    omega
  | .dict _, h => nomatch h
theorem shownAll_le : ∀ ds : List PyData, okAll ds = true → piled (PyData.shownAll ds) ≤ wtAll ds
  | [], _ => by decide
  | d :: ds, h => by
    have h' := Bool.and_eq_true_iff.mp h
    have a := shown_le d h'.1
    have b := shownAll_le ds h'.2
    have e : piled (PyData.shownAll (d :: ds)) = d.shown.length + 2 + piled (PyData.shownAll ds) := by simp [piled, PyData.shownAll]
    rw [e]
    show _ ≤ wt d + 2 + wtAll ds
    omega
end
mutual
theorem ok_showable : ∀ d : PyData, okD d = true → d.showable = true
  | .none, _ => rfl
  | .bool _, _ => rfl
  | .int _, h => h
  | .str _, _ => rfl
  | .list xs, h => okAll_showable xs h
  | .tuple xs, h => okAll_showable xs h
  | .dict _, h => nomatch h
theorem okAll_showable : ∀ ds : List PyData, okAll ds = true → PyData.showableAll ds = true
  | [], _ => rfl
  | d :: ds, h => by
    have h' := Bool.and_eq_true_iff.mp h
    show (d.showable && PyData.showableAll ds) = true
    rw [ok_showable d h'.1, okAll_showable ds h'.2]
    rfl
end
/-! ### data apart from some places -/
mutual
inductive Da (S : Addr → Prop) (H : Hp) : V → PyData → Prop
  | non : Da S H .non .none
  | bl (b : Bool) : Da S H (.bl b) (.bool b)
  | int (i : Int) : Da S H (.int i) (.int i)
  | str (x : Str) : Da S H (.str x) (.str x)
  | lst {a : Addr} {xs : List V} {ds : List PyData} : ¬ S a → H a = some (.lst xs) → DaAll S H xs ds → Da S H (.ref a) (.list ds)
  | tup {a : Addr} {xs : List V} {ds : List PyData} : ¬ S a → H a = some (.tup xs) → DaAll S H xs ds → Da S H (.ref a) (.tuple ds)
inductive DaAll (S : Addr → Prop) (H : Hp) : List V → List PyData → Prop
  | nil : DaAll S H [] []
  | cons {v : V} {vs : List V} {d : PyData} {ds : List PyData} : Da S H v d → DaAll S H vs ds → DaAll S H (v :: vs) (d :: ds)
end
mutual
theorem Da.dp {S : Addr → Prop} {H : Hp} {K : PySem.W.Frag} : ∀ (d : PyData) {v : V}, Da S H v d → Dp K H v d
  | .none, _, h => by cases h; exact .non
  | .bool b, _, h => by cases h; exact .bl b
  | .int i, _, h => by cases h; exact .int i
  | .str x, _, h => by cases h; exact .str x
  | .list ds, _, h => by
    cases h with
    | lst _ e a => exact .lst (.inl (.inl e)) (Da.dpAll ds a)
  | .tuple ds, _, h => by
    cases h with
    | tup _ e a => exact .tup (.inl (.inl e)) (Da.dpAll ds a)
  | .dict _, _, h => nomatch h
theorem Da.dpAll {S : Addr → Prop} {H : Hp} {K : PySem.W.Frag} : ∀ (ds : List PyData) {vs : List V}, DaAll S H vs ds → DpAll K H vs ds
  | [], _, h => by cases h; exact .nil
  | d :: ds, _, h => by
    cases h with
    | cons a b => exact .cons (Da.dp d a) (Da.dpAll ds b)
end
mutual
theorem Da.keep {S : Addr → Prop} {H H' : Hp} (k : ∀ b o, ¬ S b → H b = some o → H' b = some o) : ∀ (d : PyData) {v : V}, Da S H v d → Da S H' v d
  | .none, _, h => by cases h; exact .non
  | .bool b, _, h => by cases h; exact .bl b
  | .int i, _, h => by cases h; exact .int i
  | .str x, _, h => by cases h; exact .str x
  | .list ds, _, h => by
    cases h with
    | lst n e a => exact .lst n (k _ _ n e) (Da.keepAll k ds a)
  | .tuple ds, _, h => by
    cases h with
    | tup n e a => exact .tup n (k _ _ n e) (Da.keepAll k ds a)
  | .dict _, _, h => nomatch h
theorem Da.keepAll {S : Addr → Prop} {H H' : Hp} (k : ∀ b o, ¬ S b → H b = some o → H' b = some o) : ∀ (ds : List PyData) {vs : List V}, DaAll S H vs ds → DaAll S H' vs ds
  | [], _, h => by cases h; exact .nil
  | d :: ds, _, h => by
    cases h with
    | cons a b => exact .cons (Da.keep k d a) (Da.keepAll k ds b)
end
theorem DaAll.length {S : Addr → Prop} {H : Hp} : ∀ {vs : List V} {ds : List PyData}, DaAll S H vs ds → vs.length = ds.length
  | _, _, .nil => rfl
  | _, _, .cons _ t => congrArg Nat.succ (DaAll.length t)
theorem DaAll.get {S : Addr → Prop} {H : Hp} : ∀ {vs : List V} {ds : List PyData} {i : Nat} {v : V}, DaAll S H vs ds → vs[i]? = some v → ∃ d, ds[i]? = some d ∧ Da S H v d
  | _, _, _, _, .nil, e => by simp at e
  | _, _, 0, _, .cons a _, e => by simp at e; subst e; exact ⟨_, rfl, a⟩
  | _, _, i + 1, _, .cons _ t, e => by
    obtain ⟨d, h1, h2⟩ := DaAll.get (i := i) t (by simpa using e)
    exact ⟨d, by simpa using h1, h2⟩
theorem DaAll.append {S : Addr → Prop} {H : Hp} : ∀ {vs us : List V} {ds es : List PyData}, DaAll S H vs ds → DaAll S H us es → DaAll S H (vs ++ us) (ds ++ es)
  | _, _, _, _, .nil, s => s
  | _, _, _, _, .cons a t, s => .cons a (DaAll.append t s)
theorem DaAll.ints {S : Addr → Prop} {H : Hp} : ∀ ns : List Int, DaAll S H (ns.map V.int) (ns.map PyData.int)
  | [] => .nil
  | n :: ns => .cons (.int n) (DaAll.ints ns)
/-- the kinds of a datum -/
theorem Da.kit {S : Addr → Prop} {H : Hp} {K : PySem.W.Frag} {v : V} {d : PyData} (h : Da S H v d) : ∃ (n : String) (bi bb bt : Bool), TyX K H v (.type n) ∧ PySem.W.kitOne K (.type n) (.type "int") = some bi ∧ PySem.W.kitOne K (.type n) (.type "bool") = some bb ∧
    PySem.W.kitOne K (.type n) (.type "tuple") = some bt ∧ (bi && !bb) = (match d with | .int _ => true | _ => false) ∧ bt = (match d with | .tuple _ => true | _ => false) := by
  cases h with
  | non => exact ⟨"NoneType", false, false, false, .base .non, kit_ty (by decide +kernel), kit_ty (by decide +kernel), kit_ty (by decide +kernel), rfl, rfl⟩
  | bl y => exact ⟨"bool", true, true, false, .base (.bl y), kit_ty (by decide +kernel), kit_ty (by decide +kernel), kit_ty (by decide +kernel), rfl, rfl⟩
  | int y => exact ⟨"int", true, false, false, .base (.int y), kit_ty (by decide +kernel), kit_ty (by decide +kernel), kit_ty (by decide +kernel), rfl, rfl⟩
  | str y => exact ⟨"str", false, false, false, .base (.str y), kit_ty (by decide +kernel), kit_ty (by decide +kernel), kit_ty (by decide +kernel), rfl, rfl⟩
  | lst _ e _ => exact ⟨"list", false, false, false, .base (.lst e), kit_ty (by decide +kernel), kit_ty (by decide +kernel), kit_ty (by decide +kernel), rfl, rfl⟩
  | tup _ e _ => exact ⟨"tuple", false, false, true, .base (.tup e), kit_ty (by decide +kernel), kit_ty (by decide +kernel), kit_ty (by decide +kernel), rfl, rfl⟩
end Cm

set_option Elab.async false
set_option linter.all false
set_option maxRecDepth 100000
set_option maxHeartbeats 4000000
/-! my own rules: exceptions of own classes over any built-in class, made and kept as values: by place, by keywords; their fields; isinstance of them -/
namespace PySem
namespace MyX
open PySem.W PySem.Calls PyProof.Rows PySem.HandSPX Builtin Builtin.ObjectAttr
theorem pass_Index (self : Value) : refuseLoop self "__setattr__" [.type "IndexError", .type "LookupError", .type "Exception", .type "BaseException", .type "object"] = pure () := by kernel_rfl
theorem pass_Lookup (self : Value) : refuseLoop self "__setattr__" [.type "LookupError", .type "Exception", .type "BaseException", .type "object"] = pure () := by kernel_rfl
theorem pass_Runtime (self : Value) : refuseLoop self "__setattr__" [.type "RuntimeError", .type "Exception", .type "BaseException", .type "object"] = pure () := by kernel_rfl
theorem pass_Value (self : Value) : refuseLoop self "__setattr__" [.type "ValueError", .type "Exception", .type "BaseException", .type "object"] = pure () := F.store_ValueError.passes self
section
variable {M : Model} {A : Around} {E : Value → Shared → Prop} {h : Heap} {g : Array GenState} {d : Drawn} {t : Nat} {os : OsState}
variable {nm q : Str} {C N : Addr} {bs bm : List Value} {hdct : Bool} {sn : List Str} {sub : List Value} {ab : Bool} {col : Option Bool} {dd : Option Addr} {k0 k1 k2 k3 k5 : Option Value} {B newId initId : String}
/-- C.__new__(..) with keywords is let through -/
theorem check_newK (F : ExcBaseFacts B newId initId bm) {rest : List Value} {kw : List (Str × Value)} {Q : Unit → Shared → Prop}
    (hC : h.get? C = some (excClassObj nm q C N bs bm hdct sn sub ab col dd k0 k1 k2 k3 k5 newId)) (hq : Q () ⟨h, g, d, t, os⟩) : wpAny M A (checkBuiltinCall newId ⟨.ref C :: rest, kw⟩) Q E ⟨h, g, d, t, os⟩ := by
  have under : (Value.ref C :: bm).contains (.type B) = true := by rw [List.contains_cons, F.hasB, Bool.or_true]
  have star := F.noStar
  simp only [checkBuiltinCall, F.newKind, F.newSplit, F.newRow]
  repeat (first | refine wpAny_loadPart_at hC ?_ | (refine wpAny_isSubtype_exc hC ?_; rw [under]) | refine wpAny_staticBase_exc hC ?_ | refine wpAny_madeBy_exc hC ?_ | simp only [bne_self_eq_false, Bool.false_eq_true, if_false] | wp_step)
  exact hq
end
section
variable {prog : Program} {w : World} {A : Around} {E : Value → Shared → Prop} {R : Result → Shared → Prop} {h : Heap} {g : Array GenState} {d : Drawn} {t : Nat} {os : OsState}
variable {nm q : Str} {C N : Addr} {bs bm : List Value} {hdct : Bool} {sn : List Str} {sub : List Value} {ab : Bool} {col : Option Bool} {dd : Option Addr} {k0 k1 k2 k3 k5 : Option Value} {B newId initId : String}
theorem newK (F : ExcBaseFacts B newId initId bm) {rest : List Value} {kw : List (Str × Value)}
    (hC : h.get? C = some (excClassObj nm q C N bs bm hdct sn sub ab col dd k0 k1 k2 k3 k5 newId))
    (hq : R (.ok (.ret (.ref (h.objs.size + 1)))) ⟨(h.push { cls := .type "tuple", data := .seq rest.toArray }).push
      { cls := .ref C, data := .fields #[.ref h.objs.size, .none, .none, .none, .bool false, .none] }, g, d, t, os⟩) (hrest : rest.length ≤ sizeLine) :
    codeAny (model prog w) A (.builtin newId ⟨.ref C :: rest, kw⟩) R ⟨h, g, d, t, os⟩ := by
  have ends := F.ends
  have inB : (Value.ref C :: bm).contains (.type B) = true := by rw [List.contains_cons, F.hasB, Bool.or_true]
  have inA : (Value.ref C :: bm).contains (.type "AttributeError") = false := by rw [List.contains_cons, F.noAttr]; rfl
  have inN : (Value.ref C :: bm).contains (.type "NameError") = false := by rw [List.contains_cons, F.noName]; rfl
  refine codeAny_builtinAt F.entry ?_
  unfold Builtin.«BaseException.__new__»
  refine wpAt_bind ?_
  show wpAt _ _ _ (stack >>= _) _ _ _
  refine wpAt_bind (wpAt_stack fun p below => wpAt_of_wpAny ?_)
  wp_walk
  refine wpAt_of_wpAny ?_
  rw [F.owner]
  repeat (first | with_reducible refine wpAny_madeHere_exc F.canon hC ?_ | with_reducible refine wpAny_loadPart_at hC ?_ | (with_reducible refine wpAny_isSubtype_exc hC ?_; first | rw [inB] | rw [inA] | rw [inN]) | wp_step)
  show R _ _
  rw [Heap.size_push]
  exact hq
theorem type_callK (F : ExcBaseFacts B newId initId bm) {rest : List Value} {kw : List (Str × Value)} {fI : Addr} {Q : Fin → Shared → Prop}
    (hC : h.get? C = some (excClassObj nm q C N bs bm hdct sn sub ab col dd k0 k1 k2 k3 k5 newId))
    (hi : W.Looks (model prog w) h (typeLookup (.ref C) "__init__") (some (.ref fI))) (hb : ∀ self, W.Looks (model prog w) h (bindSpecial (.ref fI) self) (.ref fI, [self])) (hrest : rest.length ≤ sizeLine)
    (hq : codeAny (model prog w) A (.call (.ref fI) ⟨.ref (h.objs.size + 1) :: rest, kw⟩)
      (fun r s' => match r with | .ok (.ret v) => v = .none ∧ Q (.done (.ret (.ref (h.objs.size + 1)))) s' | .ok _ => False | .error e => E e s')
      ⟨(h.push (W.kdv_tup rest)).push (excO C h.objs.size), g, d, t, os⟩) :
    wpAny (model prog w) A (Builtin.«type.__call__» ⟨.ref C :: rest, kw⟩) Q E ⟨h, g, d, t, os⟩ := by
  repeat (first | with_reducible refine wpAny_loadPart_at hC ?_ | with_reducible refine wpAny_madeBy_exc hC ?_ | wp_step)
  refine codeAny_call_builtin_code (Code.quiet_builtin _ F.quiet) (check_newK F hC ?_)
  refine newK F hC ?_ hrest
  show wpAny _ _ _ _ _ _
  have kept : ∀ b o, h.get? b = some o → ((h.push (W.kdv_tup rest)).push (excO C h.objs.size)).get? b = some o := fun b o e => Heap.get?_push_of_some _ (Heap.get?_push_of_some _ e)
  have hC₁ := kept _ _ hC
  have made : ((h.push (W.kdv_tup rest)).push (excO C h.objs.size)).get? (h.objs.size + 1) = some (excO C h.objs.size) := by heap_get
  have self_ : (Value.ref C :: bm).contains (.ref C) = true := by simp
  have i1 := hi.keeps kept
  have b1 := (hb (.ref (h.objs.size + 1))).keeps kept
  unfold isInstance
  repeat (first | with_reducible refine wpAny_loadPart_at made ?_ | (with_reducible refine wpAny_isSubtype_exc hC₁ ?_; rw [self_]) | wp_step)
  show wpAny _ _ (typeLookup (.ref C) _) _ _ _
  refine i1.at ?_
  refine wpAny_holding (wpAny_bind (b1.at ?_))
  refine wpAny_bind (wpAny_call (codeAny_mono hq fun r s' z => ?_))
  rcases r with e | (v | _ | _ | _) <;> first | exact z | exact z.elim | skip
  obtain ⟨rfl, z⟩ := z
  first
    | exact wpAny_pure (wpAny_pure z)
    | (wp_walk; exact z)
/-- C(.., k = v, ..) -/
theorem callK (F : ExcBaseFacts B newId initId bm) {rest : List Value} {kw : List (Str × Value)} {fI : Addr}
    (hC : h.get? C = some (excClassObj nm q C N bs bm hdct sn sub ab col dd k0 k1 k2 k3 k5 newId))
    (hi : W.Looks (model prog w) h (typeLookup (.ref C) "__init__") (some (.ref fI))) (hb : ∀ self, W.Looks (model prog w) h (bindSpecial (.ref fI) self) (.ref fI, [self])) (hrest : rest.length ≤ sizeLine)
    (hq : codeAny (model prog w) (A.under (.builtin "type.__call__" ⟨.ref C :: rest, kw⟩)) (.call (.ref fI) ⟨.ref (h.objs.size + 1) :: rest, kw⟩) (W.InitBack (h.objs.size + 1) R)
      ⟨(h.push (W.kdv_tup rest)).push (excO C h.objs.size), g, d, t, os⟩) :
    codeAny (model prog w) A (.call (.ref C) ⟨rest, kw⟩) R ⟨h, g, d, t, os⟩ := by
  have f1 := tc_lookup
  have f2 := tc_bind (.ref C)
  have isType : (⟨h, g, d, t, os⟩ : Shared).TypeIs (.ref C) "type" := ⟨_, hC, rfl⟩
  refine codeAny_of_tree ?_
  show wpAny _ _ (callAny (.ref C) _) _ _ _
  repeat (any_goals (first | assumption | with_reducible refine wpAny_loadPart_at hC ?_ | wp_step))
  refine ⟨rfl, ?_⟩
  refine codeAny_call_builtin_at (Code.quiet_builtin _ (by decide +kernel)) entry_typeCall (wpAny_check_type_call_sub hC (type_callK F hC hi hb hrest ?_))
  refine codeAny_mono hq fun r s' z => ?_
  rcases r with e | (v | _ | _ | _) <;> exact z
end
/-! ### self.f = v -/
section
variable {prog : Program} {w : World} {A : Around} {E : Value → Shared → Prop} {R : Result → Shared → Prop} {hp : Heap} {g : Array GenState} {d : Drawn} {t : Nat} {os : OsState}
theorem put_new {K : W.Frag} {name : Str} {tk : Tok} {v : Value} {x C : Addr} {fv : Array Value} {cd : ClassData}
    (X : K.In hp) (hx : hp.get? x = some { cls := .ref C, data := .fields fv }) (hcd : W.clsIn K C = some cd) (ne : cd.mro.isEmpty = false) (hob : cd.mro.contains (.type "object") = true) (hps : ∀ self, refuseLoop self "__setattr__" cd.mro = pure ())
    (hh : cd.hasDict = true) (ha : W.findIn K (.ref C) name = some none)
    (hq : ∀ h' tk' dx, (∀ b o, b ≠ x → hp.get? b = some o → h'.get? b = some o) → hp.objs.size ≤ dx → dx ≠ x → h'.get? x = some { cls := .ref C, dict := some dx, data := .fields fv } →
      h'.Ns1 dx (fun y => if y = name then some v else none) → R (.ok (.ret .none)) ⟨h', g, d, tk', os⟩) :
    codeAny (model prog w) A (.call (.builtin "object.__setattr__") ⟨[.ref x, .str name tk, v], []⟩) R ⟨hp, g, d, t, os⟩ := by
  have inst : W.InstAt hp x { cls := .ref C, data := .fields fv } C none := ⟨hx, rfl, rfl, trivial⟩
  have SF := F.store_object
  have apart : x ≠ hp.objs.size := Nat.ne_of_lt (Heap.lt_size hx)
  have under : W.Looks (model prog w) hp (isInstance (.ref x) (.type "object")) true := inst.type.andThen (W.looks_mroIn X (by unfold W.mroIn; rw [hcd, Option.bind_some, if_neg (by rw [ne]; decide), hob]))
  refine codeAny_call_builtin SF.slot.plain SF.entry (@W.check_slot (model prog w) _ _ ⟨hp, g, d, t, os⟩ "object.__setattr__" "object" "__setattr__" (.ref x) [.str name tk, v] [] _ SF.kind SF.split under (SF.args (.ref x) (.str name tk) v) ?_)
  have mros : W.Looks (model prog w) hp (mroOf (.ref C)) cd.mro := (W.looks_clsIn X hcd).andThen .now
  have takes : W.Looks (model prog w) hp (storeTaker? none) none := .now
  have datas : W.Looks (model prog w) hp (classData C) cd := W.looks_clsIn X hcd
  rw [W.osa_eq, refuse_eq]
  refine wpAny_bind (wpAny_bind (inst.type.at (wpAny_bind (mros.at ?_))))
  rw [hps]
  refine wpAny_pure (wpAny_bind (inst.type.at (wpAny_bind ((W.looks_findIn X ha).at (wpAny_bind (takes.at ?_))))))
  show wpAny _ _ (storeInOwnDict (.ref x) (.ref C) (.str name tk) name v false) _ _ _
  obtain ⟨nm, bs, mro, ns, qn, hd, sn, sb, ab, col, del⟩ := cd
  dsimp only at hh
  subst hh
  unfold storeInOwnDict ownDictForStores
  repeat (first | with_reducible refine store_in_new ?_ ?_ | with_reducible refine wpAny_loadPart_at hx ?_ | with_reducible refine datas.at ?_ | wp_step)
  · exact ⟨_, #[], _, (Heap.get?_update_ne _ _ _ _ apart.symm).trans (Heap.get?_push_at rfl rfl), rfl, fun e he => absurd he (by simp), fun _ => rfl⟩
  · intro h' tk' hn' hs
    have hx₁ : (hp.push { cls := .type "dict", data := .dict #[] }).get? x = some { cls := .ref C, data := .fields fv } := Heap.get?_push_of_some _ hx
    refine hq h' tk' hp.objs.size (fun b o hb ho => ?_) (Nat.le_refl _) apart.symm ?_ hn'
    · exact (hs.2 b (Nat.ne_of_lt (Heap.lt_size ho))).trans ((Heap.get?_update_ne _ _ _ _ hb).trans (Heap.get?_push_of_some _ ho))
    · exact (hs.2 x apart).trans (Heap.get?_update_self _ hx₁ rfl)
theorem put_old {K : W.Frag} {name : Str} {tk : Tok} {v : Value} {x C dx : Addr} {fv : Array Value} {cd : ClassData} {m0 : Str → Option Value} {nl : List Str}
    (X : K.In hp) (hx : hp.get? x = some { cls := .ref C, dict := some dx, data := .fields fv }) (hns : hp.Ns1 dx m0) (hw : Within m0 nl) (hz : nl.length ≤ 1000) (hcd : W.clsIn K C = some cd)
    (ne : cd.mro.isEmpty = false) (hob : cd.mro.contains (.type "object") = true) (hps : ∀ self, refuseLoop self "__setattr__" cd.mro = pure ()) (hh : cd.hasDict = true) (ha : W.findIn K (.ref C) name = some none)
    (hq : ∀ h' tk', (∀ b o, b ≠ dx → hp.get? b = some o → h'.get? b = some o) → h'.Ns1 dx (fun y => if y = name then some v else m0 y) → R (.ok (.ret .none)) ⟨h', g, d, tk', os⟩) :
    codeAny (model prog w) A (.call (.builtin "object.__setattr__") ⟨[.ref x, .str name tk, v], []⟩) R ⟨hp, g, d, t, os⟩ := by
  obtain ⟨oD, esD, epD, hoD, hdD, _⟩ := hns.count hw
  have inst : W.InstAt hp x { cls := .ref C, dict := some dx, data := .fields fv } C (some oD) := ⟨hx, rfl, rfl, hoD⟩
  have SF := F.store_object
  have under : W.Looks (model prog w) hp (isInstance (.ref x) (.type "object")) true := inst.type.andThen (W.looks_mroIn X (by unfold W.mroIn; rw [hcd, Option.bind_some, if_neg (by rw [ne]; decide), hob]))
  refine codeAny_call_builtin SF.slot.plain SF.entry (@W.check_slot (model prog w) _ _ ⟨hp, g, d, t, os⟩ "object.__setattr__" "object" "__setattr__" (.ref x) [.str name tk, v] [] _ SF.kind SF.split under (SF.args (.ref x) (.str name tk) v) ?_)
  have mros : W.Looks (model prog w) hp (mroOf (.ref C)) cd.mro := (W.looks_clsIn X hcd).andThen .now
  have takes : W.Looks (model prog w) hp (storeTaker? none) none := .now
  have datas : W.Looks (model prog w) hp (classData C) cd := W.looks_clsIn X hcd
  rw [W.osa_eq, refuse_eq]
  refine wpAny_bind (wpAny_bind (inst.type.at (wpAny_bind (mros.at ?_))))
  rw [hps]
  refine wpAny_pure (wpAny_bind (inst.type.at (wpAny_bind ((W.looks_findIn X ha).at (wpAny_bind (takes.at ?_))))))
  show wpAny _ _ (storeInOwnDict (.ref x) (.ref C) (.str name tk) name v false) _ _ _
  obtain ⟨nm, bs, mro, ns, qn, hd, sn, sb, ab, col, del⟩ := cd
  dsimp only at hh
  subst hh
  unfold storeInOwnDict ownDictForStores
  repeat (first | with_reducible refine OEX.store_in_old hns hw hz ?_ | with_reducible refine wpAny_loadPart_at hx ?_ | with_reducible refine datas.at ?_ | wp_step)
  intro h' tk' hn' hs
  exact hq h' tk' (fun b o hb ho => (hs.2 b hb).trans ho) hn'
end
end MyX
end PySem

set_option Elab.async false
set_option linter.all false
set_option maxRecDepth 100000
set_option maxHeartbeats 4000000
namespace PySem.W
open PySem PySem.Spec PySem.Calls PyProof.Rows
section
variable {prog : Program} {w : World} {A : Around} {E : Value → Shared → Prop} {s : Shared} {K : Frag} {x D : Addr} {ox : Obj} {od : Option Obj}
theorem my_findData {C : Addr} {name : Str} {a g : Value} (hc : (clsIn K C).isSome = true) (ha : findIn K (.ref C) name = some (some a)) (hg : specialIn K a "__get__" = some (some g)) (ht : takesIn K a = some true) : findObj K C od name = some (.bind g a) := by
  obtain ⟨cd, hc⟩ := Option.isSome_iff_exists.mp hc
  unfold findObj
  rw [hc, Option.bind_some, ha, Option.bind_some]
  simp [hg, ht]
/-- x.__class__ of an exception, with fields of its own or without -/
theorem my_class {Q : Option Value → Shared → Prop} (C : L2.ExcC K D) (X : K.In s.heap) (I : InstAt s.heap x ox D od) (h : Q (some (.ref D)) { s with toks := s.toks + 1 }) : wpAny (model prog w) A (getAttr? (.ref x) "__class__") Q E s := by
  have found : findObj K D od "__class__" = some (.bind (.builtin "getset_descriptor.__get__") (.builtin "object.__class__")) := my_findData (by obtain ⟨cd, hc, _⟩ := any_some C.hd; rw [hc]; rfl) C.ha C.hn C.ht
  obtain ⟨hp, g, d, t, os⟩ := s
  have l0 := I.type (M := model prog w)
  have l1 := looks_findIn (M := model prog w) X C.hg
  have l2 := looks_findIn (M := model prog w) X C.hk
  have l3 := looks_find (M := model prog w) X I found
  have under : Looks (model prog w) hp (isInstance (.ref x) (.type "BaseException")) true := l0.andThen (looks_subIn X C.hs)
  have z0 : (false && onTheHeap (Value.builtin "BaseException.__getattribute__")) = false := rfl
  have z2 : (Value.builtin "BaseException.__getattribute__" == Value.builtin "object.__getattribute__") = false := by decide +kernel
  have z1 : (onTheHeap (Value.ref D) && Value.builtin "BaseException.__getattribute__" == Value.builtin "object.__getattribute__") = false := by rw [z2]; rfl
  unfold getAttr? getAttrBy? getAttrBy
  refine wpAny_bind (wpAny_mkText (wpAny_bind (wpAny_attempt (wpAny_holding (wpAny_bind (l0.at (wpAny_bind (l1.at ?_))))))))
  show wpAny _ _ (if (onTheHeap (Value.ref D) && Value.builtin "BaseException.__getattribute__" == Value.builtin "object.__getattribute__") = true then _ else _) _ _ _
  rw [z1, if_neg Bool.false_ne_true]
  unfold getAttrByItsOwn hookBefore
  refine wpAny_bind ?_
  rw [if_pos (show onTheHeap (Value.ref D) = true from rfl)]
  refine l2.at ?_
  refine wpAny_bind (wpAny_attempt (wpAny_holding ?_))
  unfold callGetattribute
  rw [z0, if_neg Bool.false_ne_true]
  unfold boundAndCalled
  rw [PySem.F.excAttr_ValueError.ga.bind (.ref x)]
  refine wpAny_bind (wpAny_pure ?_)
  show wpAny _ _ (call (.builtin "BaseException.__getattribute__") [.ref x, .str "__class__" t]) _ _ _
  refine wpAny_call (codeAny_call_builtin PySem.F.excAttr_ValueError.ga.plain PySem.F.entry_bexc_ga ?_)
  refine @check_slot (model prog w) _ _ ⟨hp, g, d, t + 1, os⟩ "BaseException.__getattribute__" "BaseException" "__getattribute__" (.ref x) [.str "__class__" t] [] _ (by decide +kernel) (by decide +kernel) under (PySem.F.args_bexc_ga (.ref x) (.str "__class__" t)) ?_
  unfold Builtin.«object.__getattribute__»
  refine wpAny_bind (wpAny_of_eq (a := ((Value.ref x : Value), [Value.str "__class__" t])) (by first | rfl | (simp only [slotArgs]; rfl)) ?_)
  refine wpAny_bind (wpAny_pure (wpAny_bind (l0.at (wpAny_bind (l3.at ?_)))))
  show wpAny _ _ (holding [Value.builtin "object.__class__"] (call (.builtin "getset_descriptor.__get__") [.builtin "object.__class__", .ref x, .ref D]) >>= ret) _ _ _
  refine wpAny_bind (wpAny_holding (wpAny_call (class_get (s := ⟨hp, g, d, t + 1, os⟩) (ox := ox) (od := od) X I C.hm ?_)))
  refine wpAny_pure ?_
  show wpAny _ _ (handedOut (.ref D)) _ _ _
  rw [handedOut_of (v := .ref D) rfl]
  first
    | exact wpAny_pure (wpAny_pure h)
    | exact wpAny_pure h
    | exact wpAny_pure (wpAny_bind (wpAny_pure (wpAny_pure h)))
theorem my_kitx (C : L2.ExcC K D) : KitX K (.ref x) (.ref D) (fun h => InstAt h x ox D od) where
  ty := fun _ _ _ I => I.type
  it := fun _ _ X _ => by
    obtain ⟨cdD, hcD, _⟩ := any_some C.hd
    unfold clsIn at hcD
    split at hcD
    · rename_i c' d' cd' sl' ho
      intro A' Q' E' s' k q
      unfold isType loadHead
      exact wpAny_bind (wpAny_loadPart (k _ _ (X _ _ ho)) (wpAny_pure q))
    · cases hcD
  ne := fun h tp dd its n sl X htp => by
    obtain ⟨cdD, hcD, _⟩ := any_some C.hd
    refine Bool.eq_false_iff.mpr fun q => ?_
    have e : D = tp := Value.ref.inj (beq_iff_eq.mp q)
    subst e
    unfold clsIn at hcD
    split at hcD
    · rename_i c' d' cd' sl' ho
      cases (X _ _ ho).symm.trans htp
    · cases hcD
  ca := fun X I k => my_class C X I k
end
end PySem.W
namespace L2
open PySem PySem.Spec PyProof.Rows Builtin Builtin.ObjectAttr
/-- what the written part says of an own class over the built-in class B -/
structure OeC (K : PySem.W.Frag) (C : Addr) (B newId initId : String) (bm : List Value) : Prop where
  base : ExcBaseFacts B newId initId bm
  pass : ∀ self, refuseLoop self "__setattr__" bm = pure ()
  ob : bm.contains (.type "object") = true
  cls : ∃ nm q N bs sn sub ab col dd k0 k1 k2 k3 k5, K.lookup C = some (excClassObj nm q C N bs bm true sn sub ab col dd k0 k1 k2 k3 k5 newId)
  sa : PySem.W.findIn K (.ref C) "__setattr__" = some (some (.builtin "object.__setattr__"))
  is_ : ExcC K C
  ty : PySem.W.typeIn K (.ref C) = some (.type "type")
  kC : PySem.W.keepIn K (.ref C) = true
section
variable {X : Cx} {pins : List (Addr × Obj)} {σ : St} {H : Hp} {s : Shared} {a C dx : Addr} {f : Str} {y : V} {u : Value} {fs : List (Str × V)} {Q : Unit → Shared → Prop} {E : Value → Shared → Prop} {A : Around} {B newId initId : String} {bm : List Value}
theorem oe_new (T : OeC X.K C B newId initId bm) (I : Inv X pins σ H s) (e : H a = some (exo a C none)) (hno : PySem.W.findIn X.K (.ref C) f = some none) (ry : RelV y u)
    (h : ∀ dx s', H dx = none → dx ≠ a → Inv X pins σ (upd (upd H dx (exd dx [(f, y)])) a (exo a C (some dx))) s' → Q () s') : wpAny (model X.prog X.w) A (setAttr (.ref a) f u) Q E s := by
  obtain ⟨nm, q, N, bs, sn, sub, ab, col, dd, k0, k1, k2, k3, k5, hC⟩ := T.cls
  have data : PySem.W.clsIn X.K C = some { name := nm, bases := bs, mro := .ref C :: bm, ns := N, qualname := q, hasDict := true, slotNames := sn, subclasses := sub, abstract := ab, collection := col, hasDel := false } := by unfold PySem.W.clsIn; rw [hC] <;> rfl
  obtain ⟨t1, ho⟩ := exo_at I.hok e
  obtain ⟨hp, g, d, t, os⟩ := s
  refine PySem.W.set_plain I.kIn (ox := { cls := .ref C, dict := none, data := .fields #[.ref t1, .none, .none, .none, .bool false, .none] }) (od := none) ⟨ho, rfl, rfl, trivial⟩ T.sa ?_
  refine PySem.MyX.put_new I.kIn ho data rfl (by rw [List.contains_cons, T.ob, Bool.or_true]) (fun self => by rw [refuseLoop_ref]; exact T.pass self) rfl hno (fun h' tk' dx k dn dne hx hn => ?_)
  have free : H dx = none := I.hok.fresh dn
  have away : ∀ {b : Addr} {o : Obj}, hp.get? b = some o → b ≠ dx := fun {b o} z => Nat.ne_of_lt (Nat.lt_of_lt_of_le (Heap.lt_size z) dn)
  have other : ∀ {b : Addr}, H b = none → b ≠ a := fun {b} n z => by
    rw [z, e] at n
    cases n
  have un : Un X.fs [] H (upd (upd H dx (exd dx [(f, y)])) a (exo a C (some dx))) hp h' := {
    keep := fun b o z n _ _ => k b o (other n) z
    slot := fun b o z n _ _ => ⟨o.slots, k b o (other n) z⟩
    free := fun b o z n _ => by rw [upd_ne (other n), upd_ne (away z)]; exact n
    there := fun b o z _ => by
      by_cases hb : b = a
      · exact ⟨_, by rw [hb]; exact hx⟩
      · exact ⟨o, k b o hb z⟩
    tups := fun b xs z => by rw [upd_ne (at_ne e z exo_tup), upd_ne (ne_of_none z free)]; exact z
    frzs := fun b o v z => by rw [upd_ne (at_ne e z exo_frz), upd_ne (ne_of_none z free)]; exact z
    tbls := fun b ps z => ⟨#[], by rw [upd_ne (at_ne e z exo_tbl), upd_ne (ne_of_none z free), z]; simp⟩ }
  refine h dx _ free dne (I.un (t' := tk') un fun b o z => ?_)
  by_cases hb : b = a
  · subst hb
    rw [upd_same] at z
    cases z
    exact exo_ok hx
  · rw [upd_ne hb] at z
    by_cases hd : b = dx
    · subst hd
      rw [upd_same] at z
      cases z
      exact exd_ok hn (relO_put (fs := []) ry fun g => True.intro)
    · rw [upd_ne hd] at z
      exact (I.hok b o z).stay (fun c v hc r => k c v (by
          rcases hc with hc | hc
          · rw [hc]
            exact hb
          · exact at_ne e hc exo_own) r)
        (fun c hc => by rw [upd_ne (at_ne e hc exo_own), upd_ne (ne_of_none hc free)]; exact hc) (fun c xs hc => by rw [upd_ne (at_ne e hc exo_tup), upd_ne (ne_of_none hc free)]; exact hc)
theorem oe_old (T : OeC X.K C B newId initId bm) (I : Inv X pins σ H s) (e : H a = some (exo a C (some dx))) (ed : H dx = some (exd dx fs)) (hl : fs.length ≤ 900) (hno : PySem.W.findIn X.K (.ref C) f = some none) (ry : RelV y u)
    (h : ∀ s', Inv X pins σ (upd H dx (exd dx ((f, y) :: fs))) s' → Q () s') : wpAny (model X.prog X.w) A (setAttr (.ref a) f u) Q E s := by
  obtain ⟨nm, q, N, bs, sn, sub, ab, col, dd, k0, k1, k2, k3, k5, hC⟩ := T.cls
  have data : PySem.W.clsIn X.K C = some { name := nm, bases := bs, mro := .ref C :: bm, ns := N, qualname := q, hasDict := true, slotNames := sn, subclasses := sub, abstract := ab, collection := col, hasDel := false } := by unfold PySem.W.clsIn; rw [hC] <;> rfl
  obtain ⟨t1, ho⟩ := exo_at I.hok e
  obtain ⟨mA, hns, rel⟩ := exd_at I.hok ed
  have wi := within_of rel
  obtain ⟨hp, g, d, t, os⟩ := s
  obtain ⟨oD, _, _, hoD, _, _⟩ := hns.count wi
  refine PySem.W.set_plain I.kIn (ox := { cls := .ref C, dict := some dx, data := .fields #[.ref t1, .none, .none, .none, .bool false, .none] }) (od := some oD) ⟨ho, rfl, rfl, hoD⟩ T.sa ?_
  refine PySem.MyX.put_old I.kIn ho hns wi (by rw [List.length_map]; omega) data rfl (by rw [List.contains_cons, T.ob, Bool.or_true]) (fun self => by rw [refuseLoop_ref]; exact T.pass self) rfl hno (fun h' tk' k hn => ?_)
  have there : ∃ o, h'.get? dx = some o := by
    obtain ⟨o, _, _, z, _⟩ := hn
    exact ⟨o, z⟩
  exact h _ (I.write (t' := tk') (x := dx) (e := dx) (o := exd dx ((f, y) :: fs)) (by rw [ed]; exact True.intro) (.inl rfl) k there (exd_ok hn (relO_put ry rel)))
theorem oe_init {us : List Value} {Q : Value → Shared → Prop} (T : OeC X.K C B newId initId bm) (I : Inv X pins σ H s) (e : H a = some (exo a C none)) (hl : us.length ≤ sizeLine) (h : ∀ s', Inv X pins σ H s' → Q .none s') :
    wpAny (model X.prog X.w) A (call (.builtin initId) (.ref a :: us)) Q E s := by
  obtain ⟨nm, q, N, bs, sn, sub, ab, col, dd, k0, k1, k2, k3, k5, hC⟩ := T.cls
  obtain ⟨t1, ho⟩ := exo_at I.hok e
  obtain ⟨hp, g, d, t, os⟩ := s
  refine wpAny_call (PySem.HandSPX.init_base T.base (fun _ => rfl) (I.kIn _ _ hC) ho hl fun h' t2 k hx => ?_)
  have J := I.write (t' := t) (x := a) (e := a) (o := exo a C none) (by rw [e]; exact True.intro) (.inl rfl) k ⟨_, hx⟩ (exo_ok hx)
  have same : upd H a (exo a C none) = H := by
    funext b
    by_cases hb : b = a
    · rw [hb, upd_same, e]
    · rw [upd_ne hb]
  rw [same] at J
  exact h _ J
end
/-! ### readings and rules -/
/-- B.__init__(self, ..), B the built-in class above -/
def tEi (K : PySem.W.Frag) (B newId initId : String) (bm : List Value) (ta : TA) : TE := fun σ H Q => ta σ H fun vs H1 => ∃ (a C : Addr) (ws : List V), vs = .ref a :: ws ∧ ws.length ≤ 1000 ∧ OeC K C B newId initId bm ∧ H1 a = some (exo a C none) ∧ Q .non H1
/-- self.f = e -/
def tOe (K : PySem.W.Frag) (B newId initId : String) (bm : List Value) (f : Str) (to te : TE) : TS := fun D σ H => te σ H fun y H1 => to σ H1 fun x H2 => ∃ a C : Addr, x = .ref a ∧ OeC K C B newId initId bm ∧ PySem.W.findIn K (.ref C) f = some none ∧
  ((H2 a = some (exo a C none) ∧ ∀ dx, H2 dx = none → dx ≠ a → D.nx σ (upd (upd H2 dx (exd dx [(f, y)])) a (exo a C (some dx)))) ∨
    ∃ (dx : Addr) (fs : List (Str × V)), H2 a = some (exo a C (some dx)) ∧ H2 dx = some (exd dx fs) ∧ fs.length ≤ 900 ∧ D.nx σ (upd H2 dx (exd dx ((f, y) :: fs))))
/-- C(..), kept as a value -/
def tMkV (C : Addr) (sp : Sp) (ta : TA) : TE := fun σ H Q => ta σ H fun vs H1 => vs.length ≤ 1000 ∧ ∀ a, H1 a = none → sp (.ref a :: vs) (upd H1 a (exo a C none)) (fun v H2 => v = .non ∧ Q (.ref a) H2) E0
def tMkVK (C : Addr) (m : Nat) (sp : Sp) (gV : List V → List V → List V) (tk : TA) : TE := fun σ H Q => tk σ H fun zs H1 => zs.length = m ∧ ∀ a, H1 a = none → sp (gV [.ref a] zs) (upd H1 a (exo a C none)) (fun v H2 => v = .non ∧ Q (.ref a) H2) E0
/-- e.f of a made exception -/
def tEf (K : PySem.W.Frag) (f : Str) (te : TE) : TE := fun σ H Q => te σ H fun x H1 => ∃ (a C d : Addr) (fs : List (Str × V)) (v : V), x = .ref a ∧ H1 a = some (exo a C (some d)) ∧ H1 d = some (exd d fs) ∧ ExcC K C ∧ PySem.W.findIn K (.ref C) f = some none ∧ fs.lookup f = some v ∧ Q v H1
/-- isinstance(e, c) of a made exception -/
def rIsX (K : PySem.W.Frag) : List V → Hp → VK → Prop := fun xs H Q => ∃ (a C d : Addr) (fs : List (Str × V)) (c : V) (u : Value) (b : Bool), xs = [.ref a, c] ∧ H a = some (exo a C (some d)) ∧ H d = some (exd d fs) ∧ ExcC K C ∧ ClsV c u ∧ PySem.W.kitOne K (.ref C) u = some b ∧ Q (.bl b) H
section
variable {X : Cx} {o e : Expr} {es : List Expr} {to te : TE} {ta tk : TA} {f x : Str} {p p' p1 p2 pos : Pos} {B newId initId : String} {bm : List Value} {kws : List Keyword}
theorem pe_einit {pl : Sem Bool} (hg : Gl X x) (hm : X.mg x = none) (hv : bootBuiltins x = some (.type B)) (typ : typeOf (.type B) = pure (.type "type")) (stub : Manifest.isStub B = false)
    (vV : PySem.W.findCls X.K (.type B) (.type "type") "__init__" = some (.val (.builtin initId))) (hnd : PySem.W.handedIn (.builtin initId) = true) (ha : PA X (e :: es) ta) (hn : x ≠ "__name__" := by decide) (hdb : (x == ("__debug__" : Str)) = false := by decide)
    (hc : eval (.Call (.Attribute (.Name x p1) "__init__" p2) (e :: es) [] pos) X.env = (do
      let ov ← eval (.Name x p1) X.env
      standAt p2.atName
      let (f, first) ← holding [ov] (getMethod ov "__init__" pl)
      callWith pos f first (backTo pos (starEach (e :: es) X.env)) (backToKw pos (keywordEach [] X.env))) := by rfl)
    (he : starEach (e :: es) X.env = (false, eval e X.env) :: starEach es X.env := by rfl) (hpl : (backTo pos (starEach es X.env)).any (·.1) = false := by rfl) :
    PE X (.Call (.Attribute (.Name x p1) "__init__" p2) (e :: es) [] pos) (tEi X.K B newId initId bm ta) := by
  refine ⟨fun pins s σ H Q I h => ?_⟩
  refine PySem.W.methodCall_KW (ld_blt I hg hm hv ?_ hn hdb) hc
  obtain ⟨m, fr⟩ := I.fr
  refine PySem.W.method_type fr I.ok.mod.kin typ stub vV hnd ?_
  show wpAny _ _ (callWith pos (Value.builtin initId) [] (backTo pos (starEach (e :: es) X.env)) []) _ _ _
  refine PyProof.Rows.callWith_method1 (thn (ha.run pos pins _ σ H _ (I.tok _) h) fun us s1 ⟨vs, H1, I1, r1, a, C, ws, ev, hl, T, ea, q⟩ => ?_) he hpl
  subst ev
  cases r1 with
  | @cons _ u0 _ ur ra rw' =>
    obtain rfl : u0 = Value.ref a := ra
    have size : ur.length ≤ sizeLine := by
      rw [← Paired.length rw', sizeLine_eq]
      omega
    exact oe_init T I1 ea size fun s' J => ⟨.non, H1, J, rfl, q⟩
theorem ps_oe (ho : PE X o to) (he : PE X e te) (hs : swapsWith e (some (.Attribute o f p')) pos.line X.env = pure false := by rfl) : PS X (.Assign [.Attribute o f p'] e pos) (tOe X.K B newId initId bm f to te) := by
  refine ⟨fun pins s σ H D I h => ?_⟩
  refine plainObj_wpAny_Assign_Attribute (thn (he.run pins s σ H _ I h) fun v s1 ⟨y, H1, I1, r1, q1⟩ => thn (ho.run pins s1 σ H1 _ I1 q1) fun u s2 ⟨x, H2, I2, r2, a, C, ex, T, hno, q⟩ => ?_) hs
  subst ex
  obtain rfl : u = Value.ref a := r2
  rcases q with ⟨ea, q⟩ | ⟨dx, fs, ea, ed, hl, q⟩
  · exact oe_new T I2 ea hno r1 fun dx s' n ne J => ⟨σ, _, J, q dx n ne⟩
  · exact oe_old T I2 ea ed hl hno r1 fun s' J => ⟨σ, _, J, q⟩
theorem pe_mkV {C fI : Addr} {k : Nat} {fd : FuncData} {ps : List Str} {sp : Sp} (T : OeC X.K C B newId initId bm) (iC : PySem.W.findIn X.K (.ref C) "__init__" = some (some (.ref fI))) (tI : PySem.W.typeIn X.K (.ref fI) = some (.type "function"))
    (F1 : FnOk X.prog X.w X.K X.mg X.base CX0 k fI fd ps sp) (hr : Room (k + 1) X.A) (hb : Binds X.K fd ps []) (hg : Gl X x) (hm : X.mg x = some (.ref C)) (ha : PA X (e :: es) ta)
    (hdb : (x == ("__debug__" : Str)) = false := by decide) (he : starEach (e :: es) X.env = (false, eval e X.env) :: starEach es X.env := by rfl) (hpl : (backTo pos (starEach es X.env)).any (·.1) = false := by rfl) :
    PE X (.Call (.Name x p) (e :: es) [] pos) (tMkV C sp ta) := by
  refine ⟨fun pins s σ H Q I h => ?_⟩
  obtain ⟨nm, q, N, bs, sn, sub, ab, col, dd, k0, k1, k2, k3, k5, hC⟩ := T.cls
  refine wpAny_Call_Name_kw (ld_glob I hg hm ?_ hdb)
  refine PySem.W.callWith_K (h₀ := X.base) I.ok.mod.kin T.kC (thn (ha.run pos pins s σ H _ I h) fun us s1 ⟨vs, H1, I1, r1, hz, q1⟩ => ⟨I1.kIn, ?_⟩) he hpl
  show wpAny _ _ (call (.ref C) us) _ _ _
  obtain ⟨hp, g, dr, tk, os⟩ := s1
  have up : hp.objs.size ≤ hp.objs.size + 1 := Nat.le_succ _
  have hq := q1 (hp.objs.size + 1) (I1.hok.fresh up)
  have kept : ∀ b o, hp.get? b = some o → ((hp.push (PySem.W.kdv_tup us)).push (PySem.HandSPX.excO C hp.objs.size)).get? b = some o := fun b o z => Heap.get?_push_of_some _ (Heap.get?_push_of_some _ z)
  have made : ((hp.push (PySem.W.kdv_tup us)).push (PySem.HandSPX.excO C hp.objs.size)).get? (hp.objs.size + 1) = some (PySem.HandSPX.excO C hp.objs.size) := by heap_get
  have I2 : Inv X pins σ (upd H1 (hp.objs.size + 1) (exo (hp.objs.size + 1) C none)) ⟨(hp.push (PySem.W.kdv_tup us)).push (PySem.HandSPX.excO C hp.objs.size), g, dr, tk, os⟩ :=
    I1.laid (t' := tk) (a := hp.objs.size + 1) (o := exo (hp.objs.size + 1) C none) (h' := (hp.push (PySem.W.kdv_tup us)).push (PySem.HandSPX.excO C hp.objs.size)) kept up (exo_ok made)
  have r2 : Vals (V.ref (hp.objs.size + 1) :: vs) (Value.ref (hp.objs.size + 1) :: us) := .cons rfl r1
  have many : (Value.ref (hp.objs.size + 1) :: us ++ []).length = ps.length := by
    have z := r2.length
    rw [F1.len _ _ _ _ hq] at z
    rw [List.append_nil]
    exact z.symm
  have size : us.length ≤ sizeLine := by
    rw [← Paired.length r1, sizeLine_eq]
    omega
  have bnd := hb _ (Value.ref (hp.objs.size + 1) :: us) I2.kIn many
  rw [List.append_nil] at bnd
  refine wpAny_call (PySem.MyX.callK T.base (I1.kIn _ _ hC) (PySem.W.looks_findIn I1.kIn iC) (fun self => PySem.W.bind_fn I1.kIn self tI) size
    (codeAny_mono (F1.run _ X.stack _ _ ⟨Value.ref (hp.objs.size + 1) :: us, []⟩ (Value.ref (hp.objs.size + 1) :: us) _ _ E0 (hr.make C us []) (I2.env0.make C us []) bnd r2 hq) fun r s' after => ?_))
  cases r with
  | error er => exact after.elim
  | ok fl =>
    cases fl with
    | ret u =>
      obtain ⟨v, H', J, rv, ev, z⟩ := I2.after after
      subst ev
      exact ⟨rv, ⟨.ref (hp.objs.size + 1), H', J, rfl, z⟩⟩
    | next => exact after.elim
    | brk => exact after.elim
    | cont => exact after.elim
theorem pe_mkVK {C fI : Addr} {k : Nat} {fd : FuncData} {ps ks : List Str} {sp : Sp} {gg : List Value → List Value → List Value} {gV : List V → List V → List V} (T : OeC X.K C B newId initId bm) (iC : PySem.W.findIn X.K (.ref C) "__init__" = some (some (.ref fI))) (tI : PySem.W.typeIn X.K (.ref fI) = some (.type "function"))
    (F1 : FnOk X.prog X.w X.K X.mg X.base CX0 k fI fd ps sp) (hr : Room (k + 1) X.A) (hb : KBn X.K fd ps 1 ks gg gV) (hg : Gl X x) (hm : X.mg x = some (.ref C)) (hkw : PK X kws tk)
    (hall : (backToKw pos (keywordEach kws X.env)).all (·.1.isSome) = true := by rfl) (hks : (backToKw pos (keywordEach kws X.env)).filterMap (·.1) = ks := by rfl) (hdb : (x == ("__debug__" : Str)) = false := by decide)
    (hpl : ((backTo pos (starEach [] X.env)).any (·.1) || (backToKw pos (keywordEach kws X.env)).any (·.1.isNone)) = false := by rfl) :
    PE X (.Call (.Name x p) [] kws pos) (tMkVK C ks.length sp gV tk) := by
  refine ⟨fun pins s σ H Q I h => ?_⟩
  obtain ⟨nm, q, N, bs, sn, sub, ab, col, dd, k0, k1, k2, k3, k5, hC⟩ := T.cls
  refine wpAny_Call_Name_kw (ld_glob I hg hm ?_ hdb)
  refine PySem.W.callWith_KW0 (h₀ := X.base) I.ok.mod.kin T.kC hall ?_ hpl
  refine thn (hkw.run pos pins s σ H _ I h) fun ws s1 ⟨zs, H1, I1, rz, hz, q1⟩ => ⟨I1.kIn, ?_⟩
  rw [hks]
  obtain ⟨hp, g, dr, tk, os⟩ := s1
  have up : hp.objs.size ≤ hp.objs.size + 1 := Nat.le_succ _
  have hq := q1 (hp.objs.size + 1) (I1.hok.fresh up)
  have kept : ∀ b o, hp.get? b = some o → ((hp.push (PySem.W.kdv_tup [])).push (PySem.HandSPX.excO C hp.objs.size)).get? b = some o := fun b o z => Heap.get?_push_of_some _ (Heap.get?_push_of_some _ z)
  have made : ((hp.push (PySem.W.kdv_tup [])).push (PySem.HandSPX.excO C hp.objs.size)).get? (hp.objs.size + 1) = some (PySem.HandSPX.excO C hp.objs.size) := by heap_get
  have I2 : Inv X pins σ (upd H1 (hp.objs.size + 1) (exo (hp.objs.size + 1) C none)) ⟨(hp.push (PySem.W.kdv_tup [])).push (PySem.HandSPX.excO C hp.objs.size), g, dr, tk, os⟩ :=
    I1.laid (t' := tk) (a := hp.objs.size + 1) (o := exo (hp.objs.size + 1) C none) (h' := (hp.push (PySem.W.kdv_tup [])).push (PySem.HandSPX.excO C hp.objs.size)) kept up (exo_ok made)
  have r2 := hb.rel (vs := [V.ref (hp.objs.size + 1)]) (us := [Value.ref (hp.objs.size + 1)]) (.cons rfl .nil) rz
  have bnd := hb.to ⟨(hp.push (PySem.W.kdv_tup [])).push (PySem.HandSPX.excO C hp.objs.size), g, dr, tk, os⟩ [Value.ref (hp.objs.size + 1)] ws I2.kIn rfl (rz.length.symm.trans hz)
  refine wpAny_call (PySem.MyX.callK (rest := []) (kw := ks.zip ws) T.base (I1.kIn _ _ hC) (PySem.W.looks_findIn I1.kIn iC) (fun self => PySem.W.bind_fn I1.kIn self tI) (Nat.zero_le _)
    (codeAny_mono (F1.run _ X.stack _ _ ⟨[Value.ref (hp.objs.size + 1)], ks.zip ws⟩ (gg [Value.ref (hp.objs.size + 1)] ws) _ _ E0 (hr.make C [] (ks.zip ws)) (I2.env0.make C [] (ks.zip ws)) bnd r2 hq) fun r s' after => ?_))
  cases r with
  | error er => exact after.elim
  | ok fl =>
    cases fl with
    | ret u =>
      obtain ⟨v, H', J, rv, ev, z⟩ := I2.after after
      subst ev
      exact ⟨rv, ⟨.ref (hp.objs.size + 1), H', J, rfl, z⟩⟩
    | next => exact after.elim
    | brk => exact after.elim
    | cont => exact after.elim
theorem exc_inst {pins : List (Addr × Obj)} {σ : St} {H : Hp} {s : Shared} {a C d : Addr} {fs : List (Str × V)} (I : Inv X pins σ H s) (ea : H a = some (exo a C (some d))) (ed : H d = some (exd d fs)) :
    ∃ (ox od : Obj) (mA : Str → Option Value), PySem.W.InstAt s.heap a ox C (some od) ∧ (∀ g, RelO (fs.lookup g) (mA g)) ∧ ∀ n, PySem.W.lookIn n od = some (mA n) := by
  obtain ⟨t1, ho⟩ := exo_at I.hok ea
  obtain ⟨mA, hns, rel⟩ := exd_at I.hok ed
  obtain ⟨od, hod, hl⟩ := lookIn_ns hns
  exact ⟨_, od, mA, ⟨ho, rfl, rfl, hod⟩, rel, fun n => hl n⟩
theorem pe_ef (he : PE X e te) (hb : attributeBase e f X.env (eval e X.env) = eval e X.env := by rfl) : PE X (.Attribute e f pos) (tEf X.K f te) := by
  refine ⟨fun pins s σ H Q I h => ?_⟩
  refine attr_of hb (thn (he.run pins s σ H _ I h) fun u s1 hh => ?_)
  obtain ⟨x, H1, I1, rx, a, C, d, fs, v, ex, ea, ed, T, hno, l, q⟩ := hh
  subst ex
  obtain rfl : u = Value.ref a := rx
  obtain ⟨ox, od, mA, J, rel, hl⟩ := exc_inst I1 ea ed
  obtain ⟨u, hu, ru⟩ := RelO.some_of (v := v) (o := mA f) (by rw [← l]; exact rel f)
  exact HandSPX.exc_get I1.kIn J T.hg T.hk T.hs (PySem.W.findObj_own T.hd hno rfl (by rw [hl, hu])) (handed_of ru) ⟨v, H1, I1.tok _, ru, q⟩
theorem call_isX : CallR X (.builtin "isinstance") (rIsX X.K) := by
  intro pins s σ H xs us Q I r h
  obtain ⟨a, C, d, fs, c, u, b, rfl, ea, ed, T, k, e, q⟩ := h
  obtain ⟨u1, u2, rfl, r1, r2⟩ := vals2 r
  cases (show u1 = Value.ref a from r1)
  have e2 := k.eq r2
  subst e2
  obtain ⟨ox, od, mA, J, rel, hl⟩ := exc_inst I ea ed
  exact PySem.W.kia_one (PySem.W.my_kitx T) I.kIn J e (fun z => nomatch z) fun tk => ⟨.bl b, H, I.tok tk, rfl, q⟩
end
/-- which class an own exception's class stands under -/
theorem oe_mro {K : PySem.W.Frag} {C : Addr} {B newId initId : String} {bm : List Value} (T : OeC K C B newId initId bm) (u : Value) : PySem.W.subIn K (.ref C) u = some ((Value.ref C :: bm).contains u) := by
  obtain ⟨nm, q, N, bs, sn, sub, ab, col, dd, k0, k1, k2, k3, k5, hC⟩ := T.cls
  show PySem.W.mroIn K C u = _
  unfold PySem.W.mroIn PySem.W.clsIn
  rw [hC]
  rfl
theorem oe_cls {K : PySem.W.Frag} {C : Addr} {B newId initId : String} {bm : List Value} (T : OeC K C B newId initId bm) : (PySem.W.clsIn K C).isSome = true := by
  obtain ⟨nm, q, N, bs, sn, sub, ab, col, dd, k0, k1, k2, k3, k5, hC⟩ := T.cls
  unfold PySem.W.clsIn
  rw [hC]
  rfl
theorem oe_own {K : PySem.W.Frag} {C D : Addr} {B newId initId B' newId' initId' : String} {bm bm' : List Value} (T : OeC K C B newId initId bm) (S : OeC K D B' newId' initId' bm') (nr : bm.contains (.ref D) = false) :
    PySem.W.kitOne K (.ref C) (.ref D) = some (decide (C = D)) := by
  unfold PySem.W.kitOne
  by_cases e : C = D
  · subst e
    simp
  · have e1 : (Value.ref C == Value.ref D) = false := beq_eq_false_iff_ne.mpr fun z => e (Value.ref.inj z)
    rw [e1, if_neg Bool.false_ne_true]
    show (if ((PySem.W.clsIn K D).isSome && PySem.W.typeIn K (.ref D) == some (.type "type")) = true then PySem.W.subIn K (.ref C) (.ref D) else none) = _
    rw [oe_cls S, S.ty, if_pos (by simp), oe_mro T, decide_eq_false e, List.contains_cons, nr]
    have e2 : (Value.ref D == Value.ref C) = false := beq_eq_false_iff_ne.mpr fun z => e (Value.ref.inj z).symm
    rw [e2]
    rfl
theorem oe_blt {K : PySem.W.Frag} {C : Addr} {B newId initId t : String} {bm : List Value} (T : OeC K C B newId initId bm) (m : PySem.W.kitMeta t = true) : PySem.W.kitOne K (.ref C) (.type t) = some (bm.contains (.type t)) := by
  unfold PySem.W.kitOne
  have e1 : (Value.ref C == Value.type t) = false := beq_eq_false_iff_ne.mpr fun z => nomatch z
  rw [e1, if_neg Bool.false_ne_true]
  show (if PySem.W.kitMeta t = true then PySem.W.subIn K (.ref C) (.type t) else none) = _
  rw [if_pos m, oe_mro T, List.contains_cons]
  have e2 : (Value.type t == Value.ref C) = false := beq_eq_false_iff_ne.mpr fun z => nomatch z
  rw [e2, Bool.false_or]
end L2

set_option Elab.async false
set_option linter.all false
set_option maxRecDepth 100000
set_option maxHeartbeats 4000000
namespace K5
open PySem PySem.Spec PyProof.Rows L2
/-! ### the text -/
def topS (i : Nat) : Stmt := PySem.Challenge.pw_slipwire_k05_refusals_and_codes.main.body.getD i (.Pass ⟨0, 0, 0, 0⟩)
abbrev s_is_number : Stmt := topS 1
abbrev s_is_fault : Stmt := topS 13
abbrev s_cell_at : Stmt := topS 26
abbrev s_box : Stmt := topS 27
abbrev s_take : Stmt := topS 28
abbrev s_same : Stmt := topS 29
abbrev s_of : Stmt := topS 30
abbrev s_kinds : Stmt := topS 31
abbrev s_due : Stmt := topS 32
abbrev s_made_right : Stmt := topS 33
abbrev s_law : Stmt := topS 34
theorem sc_is_number : FnScope ["thing"] ["thing"] (defScope s_is_number) := ⟨rfl, rfl, rfl, by decide +kernel, rfl, by decide +kernel, by decide +kernel⟩
theorem sc_is_fault : FnScope ["thing"] ["thing"] (defScope s_is_fault) := ⟨rfl, rfl, rfl, by decide +kernel, rfl, by decide +kernel, by decide +kernel⟩
theorem sc_cell_at : FnScope ["_law_script", "_law_k"] ["_law_script", "_law_k"] (defScope s_cell_at) := ⟨rfl, rfl, rfl, by decide +kernel, rfl, by decide +kernel, by decide +kernel⟩
theorem sc_box : FnScope ["_law_script", "_law_k", "_law_cell"] ["_law_script", "_law_k"] (defScope s_box) := ⟨rfl, rfl, rfl, by decide +kernel, rfl, by decide +kernel, by decide +kernel⟩
theorem sc_take : FnScope ["_law_box_here", "_law_count", "_law_found", "_law_once", "_law_twice"] ["_law_box_here", "_law_count"] (defScope s_take) := ⟨rfl, rfl, rfl, by decide +kernel, rfl, by decide +kernel, by decide +kernel⟩
theorem sc_same : FnScope ["_law_found", "_law_due_here", "_law_one", "_law_two"] ["_law_found", "_law_due_here"] (defScope s_same) := ⟨rfl, rfl, rfl, by decide +kernel, rfl, by decide +kernel, by decide +kernel⟩
theorem sc_of : FnScope ["_law_box_here", "_law_some"] ["_law_box_here", "_law_some"] (defScope s_of) := ⟨rfl, rfl, rfl, by decide +kernel, rfl, by decide +kernel, by decide +kernel⟩
theorem sc_kinds : FnScope ["_law_error", "_law_found"] ["_law_error"] (defScope s_kinds) := ⟨rfl, rfl, rfl, by decide +kernel, rfl, by decide +kernel, by decide +kernel⟩
theorem sc_due : FnScope ["_law_place", "_law_own", "_law_k"] ["_law_place"] (defScope s_due) := ⟨rfl, rfl, rfl, by decide +kernel, rfl, by decide +kernel, by decide +kernel⟩
theorem sc_made_right : FnScope ["_law_box_here", "_law_one", "_law_two", "_law_word", "_law_made", "_law_named", "_law_some", "_law_told", "_law_error", "_law_place"] ["_law_box_here"] (defScope s_made_right) := ⟨rfl, rfl, rfl, by decide +kernel, rfl, by decide +kernel, by decide +kernel⟩
theorem sc_law : FnScope ["_law_script", "_law_told", "_law_k", "_law_box_here", "_law_some", "_law_thing_now", "_law_found", "_law_one"] ["_law_script"] (defScope s_law) := ⟨rfl, rfl, rfl, by decide +kernel, rfl, by decide +kernel, by decide +kernel⟩
abbrev s_BadSlip : Stmt := inClass (topS 15) 0
theorem sc_BadSlip : FnScope ["self", "part"] ["self", "part"] (defScope s_BadSlip) := ⟨rfl, rfl, rfl, by decide +kernel, rfl, by decide +kernel, by decide +kernel⟩
abbrev s_BadLetter : Stmt := inClass (topS 16) 0
theorem sc_BadLetter : FnScope ["self", "part"] ["self", "part"] (defScope s_BadLetter) := ⟨rfl, rfl, rfl, by decide +kernel, rfl, by decide +kernel, by decide +kernel⟩
abbrev s_BadEnd : Stmt := inClass (topS 17) 0
theorem sc_BadEnd : FnScope ["self", "part"] ["self", "part"] (defScope s_BadEnd) := ⟨rfl, rfl, rfl, by decide +kernel, rfl, by decide +kernel, by decide +kernel⟩
abbrev s_BadText : Stmt := inClass (topS 18) 0
theorem sc_BadText : FnScope ["self", "text"] ["self", "text"] (defScope s_BadText) := ⟨rfl, rfl, rfl, by decide +kernel, rfl, by decide +kernel, by decide +kernel⟩
abbrev s_BadRow : Stmt := inClass (topS 19) 0
theorem sc_BadRow : FnScope ["self", "row"] ["self", "row"] (defScope s_BadRow) := ⟨rfl, rfl, rfl, by decide +kernel, rfl, by decide +kernel, by decide +kernel⟩
abbrev s_Fault : Stmt := inClass (topS 20) 0
theorem sc_Fault : FnScope ["self", "code", "at"] ["self", "code", "at"] (defScope s_Fault) := ⟨rfl, rfl, rfl, by decide +kernel, rfl, by decide +kernel, by decide +kernel⟩
abbrev s_NoSlip : Stmt := inClass (topS 21) 0
theorem sc_NoSlip : FnScope ["self", "number"] ["self", "number"] (defScope s_NoSlip) := ⟨rfl, rfl, rfl, by decide +kernel, rfl, by decide +kernel, by decide +kernel⟩
abbrev s_NoByte : Stmt := inClass (topS 22) 0
theorem sc_NoByte : FnScope ["self", "at"] ["self", "at"] (defScope s_NoByte) := ⟨rfl, rfl, rfl, by decide +kernel, rfl, by decide +kernel, by decide +kernel⟩
abbrev s_NoDeed : Stmt := inClass (topS 23) 0
theorem sc_NoDeed : FnScope ["self", "many"] ["self", "many"] (defScope s_NoDeed) := ⟨rfl, rfl, rfl, by decide +kernel, rfl, by decide +kernel, by decide +kernel⟩
abbrev s_Ended : Stmt := inClass (topS 24) 0
theorem sc_Ended : FnScope ["self", "talk"] ["self", "talk"] (defScope s_Ended) := ⟨rfl, rfl, rfl, by decide +kernel, rfl, by decide +kernel, by decide +kernel⟩
abbrev bm_IndexError : List Value := [.type "IndexError", .type "LookupError", .type "Exception", .type "BaseException", .type "object"]
theorem typ_IndexError : typeOf (.type "IndexError") = pure (.type "type") := by first | rfl | kernel_rfl
abbrev bm_LookupError : List Value := [.type "LookupError", .type "Exception", .type "BaseException", .type "object"]
theorem typ_LookupError : typeOf (.type "LookupError") = pure (.type "type") := by first | rfl | kernel_rfl
abbrev bm_RuntimeError : List Value := [.type "RuntimeError", .type "Exception", .type "BaseException", .type "object"]
theorem typ_RuntimeError : typeOf (.type "RuntimeError") = pure (.type "type") := by first | rfl | kernel_rfl
abbrev bm_ValueError : List Value := [.type "ValueError", .type "Exception", .type "BaseException", .type "object"]
theorem typ_ValueError : typeOf (.type "ValueError") = pure (.type "type") := by first | rfl | kernel_rfl
/-! ### what stands behind the top -/
structure Tx (K : PySem.W.Frag) (mg : Str → Option Value) where
  f_is_number : Addr
  fd_is_number : FuncData
  F_is_number : Fun K "is_number" "is_number" s_is_number f_is_number fd_is_number
  g_is_number : mg "is_number" = some (.ref f_is_number)
  b_is_number : Binds K fd_is_number ["thing"] []
  f_is_fault : Addr
  fd_is_fault : FuncData
  F_is_fault : Fun K "is_fault" "is_fault" s_is_fault f_is_fault fd_is_fault
  g_is_fault : mg "is_fault" = some (.ref f_is_fault)
  b_is_fault : Binds K fd_is_fault ["thing"] []
  f_cell_at : Addr
  fd_cell_at : FuncData
  F_cell_at : Fun K "_law_cell_at" "_law_cell_at" s_cell_at f_cell_at fd_cell_at
  g_cell_at : mg "_law_cell_at" = some (.ref f_cell_at)
  b_cell_at : Binds K fd_cell_at ["_law_script", "_law_k"] []
  f_box : Addr
  fd_box : FuncData
  F_box : Fun K "_law_box" "_law_box" s_box f_box fd_box
  g_box : mg "_law_box" = some (.ref f_box)
  b_box : Binds K fd_box ["_law_script", "_law_k"] []
  f_take : Addr
  fd_take : FuncData
  F_take : Fun K "_law_take" "_law_take" s_take f_take fd_take
  g_take : mg "_law_take" = some (.ref f_take)
  b_take : Binds K fd_take ["_law_box_here", "_law_count"] []
  f_same : Addr
  fd_same : FuncData
  F_same : Fun K "_law_same" "_law_same" s_same f_same fd_same
  g_same : mg "_law_same" = some (.ref f_same)
  b_same : Binds K fd_same ["_law_found", "_law_due_here"] []
  f_of : Addr
  fd_of : FuncData
  F_of : Fun K "_law_of" "_law_of" s_of f_of fd_of
  g_of : mg "_law_of" = some (.ref f_of)
  b_of : Binds K fd_of ["_law_box_here", "_law_some"] []
  f_kinds : Addr
  fd_kinds : FuncData
  F_kinds : Fun K "_law_kinds" "_law_kinds" s_kinds f_kinds fd_kinds
  g_kinds : mg "_law_kinds" = some (.ref f_kinds)
  b_kinds : Binds K fd_kinds ["_law_error"] []
  f_due : Addr
  fd_due : FuncData
  F_due : Fun K "_law_due" "_law_due" s_due f_due fd_due
  g_due : mg "_law_due" = some (.ref f_due)
  b_due : Binds K fd_due ["_law_place"] []
  f_made_right : Addr
  fd_made_right : FuncData
  F_made_right : Fun K "_law_made_right" "_law_made_right" s_made_right f_made_right fd_made_right
  g_made_right : mg "_law_made_right" = some (.ref f_made_right)
  b_made_right : Binds K fd_made_right ["_law_box_here"] []
  tk_HEAD : Tok
  g_HEAD : mg "HEAD" = some (.int 10 tk_HEAD)
  tk_TALK : Tok
  g_TALK : mg "TALK" = some (.int 11 tk_TALK)
  tk_SIZE : Tok
  g_SIZE : mg "SIZE" = some (.int 12 tk_SIZE)
  tk_ORDER : Tok
  g_ORDER : mg "ORDER" = some (.int 13 tk_ORDER)
  tk_SIGNS : Tok
  g_SIGNS : mg "SIGNS" = some (.int 14 tk_SIGNS)
  tk_GREAT : Tok
  g_GREAT : mg "GREAT" = some (.int 15 tk_GREAT)
  tk_END : Tok
  g_END : mg "END" = some (.int 16 tk_END)
  tk_DONE : Tok
  g_DONE : mg "DONE" = some (.int 1 tk_DONE)
  tk_MOST : Tok
  g_MOST : mg "MOST" = some (.int 4096 tk_MOST)
  tk_EVERY : Tok
  g_EVERY : mg "EVERY" = some (.int 100 tk_EVERY)
  C_BadSlip : Addr
  f_BadSlip : Addr
  fd_BadSlip : FuncData
  F_BadSlip : Fun K "__init__" "BadSlip.__init__" s_BadSlip f_BadSlip fd_BadSlip
  g_BadSlip : mg "BadSlip" = some (.ref C_BadSlip)
  oe_BadSlip : OeC K C_BadSlip "ValueError" "ValueError.__new__" "ValueError.__init__" bm_ValueError
  i_BadSlip : PySem.W.findIn K (.ref C_BadSlip) "__init__" = some (some (.ref f_BadSlip))
  t_BadSlip : PySem.W.typeIn K (.ref f_BadSlip) = some (.type "function")
  b_BadSlip : Binds K fd_BadSlip ["self", "part"] []
  n_BadSlip_part : PySem.W.findIn K (.ref C_BadSlip) "part" = some none
  C_BadLetter : Addr
  f_BadLetter : Addr
  fd_BadLetter : FuncData
  F_BadLetter : Fun K "__init__" "BadLetter.__init__" s_BadLetter f_BadLetter fd_BadLetter
  g_BadLetter : mg "BadLetter" = some (.ref C_BadLetter)
  oe_BadLetter : OeC K C_BadLetter "ValueError" "ValueError.__new__" "ValueError.__init__" bm_ValueError
  i_BadLetter : PySem.W.findIn K (.ref C_BadLetter) "__init__" = some (some (.ref f_BadLetter))
  t_BadLetter : PySem.W.typeIn K (.ref f_BadLetter) = some (.type "function")
  b_BadLetter : Binds K fd_BadLetter ["self", "part"] []
  n_BadLetter_part : PySem.W.findIn K (.ref C_BadLetter) "part" = some none
  C_BadEnd : Addr
  f_BadEnd : Addr
  fd_BadEnd : FuncData
  F_BadEnd : Fun K "__init__" "BadEnd.__init__" s_BadEnd f_BadEnd fd_BadEnd
  g_BadEnd : mg "BadEnd" = some (.ref C_BadEnd)
  oe_BadEnd : OeC K C_BadEnd "ValueError" "ValueError.__new__" "ValueError.__init__" bm_ValueError
  i_BadEnd : PySem.W.findIn K (.ref C_BadEnd) "__init__" = some (some (.ref f_BadEnd))
  t_BadEnd : PySem.W.typeIn K (.ref f_BadEnd) = some (.type "function")
  b_BadEnd : Binds K fd_BadEnd ["self", "part"] []
  n_BadEnd_part : PySem.W.findIn K (.ref C_BadEnd) "part" = some none
  C_BadText : Addr
  f_BadText : Addr
  fd_BadText : FuncData
  F_BadText : Fun K "__init__" "BadText.__init__" s_BadText f_BadText fd_BadText
  g_BadText : mg "BadText" = some (.ref C_BadText)
  oe_BadText : OeC K C_BadText "ValueError" "ValueError.__new__" "ValueError.__init__" bm_ValueError
  i_BadText : PySem.W.findIn K (.ref C_BadText) "__init__" = some (some (.ref f_BadText))
  t_BadText : PySem.W.typeIn K (.ref f_BadText) = some (.type "function")
  b_BadText : Binds K fd_BadText ["self", "text"] []
  n_BadText_text : PySem.W.findIn K (.ref C_BadText) "text" = some none
  C_BadRow : Addr
  f_BadRow : Addr
  fd_BadRow : FuncData
  F_BadRow : Fun K "__init__" "BadRow.__init__" s_BadRow f_BadRow fd_BadRow
  g_BadRow : mg "BadRow" = some (.ref C_BadRow)
  oe_BadRow : OeC K C_BadRow "ValueError" "ValueError.__new__" "ValueError.__init__" bm_ValueError
  i_BadRow : PySem.W.findIn K (.ref C_BadRow) "__init__" = some (some (.ref f_BadRow))
  t_BadRow : PySem.W.typeIn K (.ref f_BadRow) = some (.type "function")
  b_BadRow : Binds K fd_BadRow ["self", "row"] []
  n_BadRow_row : PySem.W.findIn K (.ref C_BadRow) "row" = some none
  C_Fault : Addr
  f_Fault : Addr
  fd_Fault : FuncData
  F_Fault : Fun K "__init__" "Fault.__init__" s_Fault f_Fault fd_Fault
  g_Fault : mg "Fault" = some (.ref C_Fault)
  oe_Fault : OeC K C_Fault "ValueError" "ValueError.__new__" "ValueError.__init__" bm_ValueError
  i_Fault : PySem.W.findIn K (.ref C_Fault) "__init__" = some (some (.ref f_Fault))
  t_Fault : PySem.W.typeIn K (.ref f_Fault) = some (.type "function")
  b_Fault : Binds K fd_Fault ["self", "code", "at"] []
  n_Fault_code : PySem.W.findIn K (.ref C_Fault) "code" = some none
  n_Fault_at : PySem.W.findIn K (.ref C_Fault) "at" = some none
  C_NoSlip : Addr
  f_NoSlip : Addr
  fd_NoSlip : FuncData
  F_NoSlip : Fun K "__init__" "NoSlip.__init__" s_NoSlip f_NoSlip fd_NoSlip
  g_NoSlip : mg "NoSlip" = some (.ref C_NoSlip)
  oe_NoSlip : OeC K C_NoSlip "IndexError" "IndexError.__new__" "IndexError.__init__" bm_IndexError
  i_NoSlip : PySem.W.findIn K (.ref C_NoSlip) "__init__" = some (some (.ref f_NoSlip))
  t_NoSlip : PySem.W.typeIn K (.ref f_NoSlip) = some (.type "function")
  b_NoSlip : Binds K fd_NoSlip ["self", "number"] []
  n_NoSlip_number : PySem.W.findIn K (.ref C_NoSlip) "number" = some none
  C_NoByte : Addr
  f_NoByte : Addr
  fd_NoByte : FuncData
  F_NoByte : Fun K "__init__" "NoByte.__init__" s_NoByte f_NoByte fd_NoByte
  g_NoByte : mg "NoByte" = some (.ref C_NoByte)
  oe_NoByte : OeC K C_NoByte "IndexError" "IndexError.__new__" "IndexError.__init__" bm_IndexError
  i_NoByte : PySem.W.findIn K (.ref C_NoByte) "__init__" = some (some (.ref f_NoByte))
  t_NoByte : PySem.W.typeIn K (.ref f_NoByte) = some (.type "function")
  b_NoByte : Binds K fd_NoByte ["self", "at"] []
  n_NoByte_at : PySem.W.findIn K (.ref C_NoByte) "at" = some none
  C_NoDeed : Addr
  f_NoDeed : Addr
  fd_NoDeed : FuncData
  F_NoDeed : Fun K "__init__" "NoDeed.__init__" s_NoDeed f_NoDeed fd_NoDeed
  g_NoDeed : mg "NoDeed" = some (.ref C_NoDeed)
  oe_NoDeed : OeC K C_NoDeed "LookupError" "LookupError.__new__" "LookupError.__init__" bm_LookupError
  i_NoDeed : PySem.W.findIn K (.ref C_NoDeed) "__init__" = some (some (.ref f_NoDeed))
  t_NoDeed : PySem.W.typeIn K (.ref f_NoDeed) = some (.type "function")
  b_NoDeed : Binds K fd_NoDeed ["self", "many"] []
  n_NoDeed_many : PySem.W.findIn K (.ref C_NoDeed) "many" = some none
  C_Ended : Addr
  f_Ended : Addr
  fd_Ended : FuncData
  F_Ended : Fun K "__init__" "Ended.__init__" s_Ended f_Ended fd_Ended
  g_Ended : mg "Ended" = some (.ref C_Ended)
  oe_Ended : OeC K C_Ended "RuntimeError" "RuntimeError.__new__" "RuntimeError.__init__" bm_RuntimeError
  i_Ended : PySem.W.findIn K (.ref C_Ended) "__init__" = some (some (.ref f_Ended))
  t_Ended : PySem.W.typeIn K (.ref f_Ended) = some (.type "function")
  b_Ended : Binds K fd_Ended ["self", "talk"] []
  n_Ended_talk : PySem.W.findIn K (.ref C_Ended) "talk" = some none
  kb_BadSlip_part : KBn K fd_BadSlip ["self", "part"] 1 ["part"] (fun us ws => us ++ ws) (fun vs zs => vs ++ zs)
  kb_BadLetter_part : KBn K fd_BadLetter ["self", "part"] 1 ["part"] (fun us ws => us ++ ws) (fun vs zs => vs ++ zs)
  kb_BadEnd_part : KBn K fd_BadEnd ["self", "part"] 1 ["part"] (fun us ws => us ++ ws) (fun vs zs => vs ++ zs)
  kb_BadText_text : KBn K fd_BadText ["self", "text"] 1 ["text"] (fun us ws => us ++ ws) (fun vs zs => vs ++ zs)
  kb_BadRow_row : KBn K fd_BadRow ["self", "row"] 1 ["row"] (fun us ws => us ++ ws) (fun vs zs => vs ++ zs)
  kb_Fault_at_code : KBn K fd_Fault ["self", "code", "at"] 1 ["at", "code"] (fun us ws => us ++ ws.reverse) (fun vs zs => vs ++ zs.reverse)
  kb_NoSlip_number : KBn K fd_NoSlip ["self", "number"] 1 ["number"] (fun us ws => us ++ ws) (fun vs zs => vs ++ zs)
  kb_NoByte_at : KBn K fd_NoByte ["self", "at"] 1 ["at"] (fun us ws => us ++ ws) (fun vs zs => vs ++ zs)
  kb_NoDeed_many : KBn K fd_NoDeed ["self", "many"] 1 ["many"] (fun us ws => us ++ ws) (fun vs zs => vs ++ zs)
  kb_Ended_talk : KBn K fd_Ended ["self", "talk"] 1 ["talk"] (fun us ws => us ++ ws) (fun vs zs => vs ++ zs)
  lt_BadSlip : C_BadSlip < C_BadLetter
  lt_BadLetter : C_BadLetter < C_BadEnd
  lt_BadEnd : C_BadEnd < C_BadText
  lt_BadText : C_BadText < C_BadRow
  lt_BadRow : C_BadRow < C_Fault
  lt_Fault : C_Fault < C_NoSlip
  lt_NoSlip : C_NoSlip < C_NoByte
  lt_NoByte : C_NoByte < C_NoDeed
  lt_NoDeed : C_NoDeed < C_Ended
  v_IndexError : PySem.W.findCls K (.type "IndexError") (.type "type") "__init__" = some (.val (.builtin "IndexError.__init__"))
  v_LookupError : PySem.W.findCls K (.type "LookupError") (.type "type") "__init__" = some (.val (.builtin "LookupError.__init__"))
  v_RuntimeError : PySem.W.findCls K (.type "RuntimeError") (.type "type") "__init__" = some (.val (.builtin "RuntimeError.__init__"))
  v_ValueError : PySem.W.findCls K (.type "ValueError") (.type "type") "__init__" = some (.val (.builtin "ValueError.__init__"))
  m_len : mg "len" = none
  m_abs : mg "abs" = none
  m_int : mg "int" = none
  m_bool : mg "bool" = none
  m_list : mg "list" = none
  m_tuple : mg "tuple" = none
  m_isinstance : mg "isinstance" = none
  m_all : mg "all" = none
  m_any : mg "any" = none
  m_zip : mg "zip" = none
  m_min : mg "min" = none
  m_range : mg "range" = none
  m_ValueError : mg "ValueError" = none
  m_IndexError : mg "IndexError" = none
  m_LookupError : mg "LookupError" = none
  m_RuntimeError : mg "RuntimeError" = none
  m_KeyError : mg "KeyError" = none
end K5

set_option Elab.async false
set_option linter.all false
set_option maxRecDepth 100000
set_option maxHeartbeats 4000000
namespace K5
open PySem PySem.Spec PyProof.Rows L2
/-! ### heaps and bytes -/
def Bts (ns : List Int) : Prop := ∀ x ∈ ns, 0 ≤ x ∧ x < 256
/-- all but p is as it was -/
def Keep (p : Addr) (H H' : Hp) : Prop := ∀ b o, b ≠ p → H b = some o → H' b = some o
theorem same_upd {H : Hp} {p : Addr} {o : HO} (h : H p = none) : Same H (upd H p o) := fun b x e => by
  rw [upd_ne (ne_of_none e h)]
  exact e
theorem sq1 {K : PySem.W.Frag} {H : Hp} {a : Addr} {xs : List V} (h : H a = some (.lst xs)) : SqL K H a xs := .inl (.inl h)
theorem st1 {K : PySem.W.Frag} {H : Hp} {a : Addr} {xs : List V} (h : H a = some (.tup xs)) : SqT K H a xs := .inl (.inl h)
/-- an item of a list of ints -/
theorem atI_ints {xs : List Int} {r : Int} (h0 : 0 ≤ r) (h1 : r < xs.length) : ∃ x, x ∈ xs ∧ atI (xs.map V.int) r = some (.int x) := by
  obtain ⟨j, rfl⟩ := Int.eq_ofNat_of_zero_le h0
  have hj : j < xs.length := by omega
  refine ⟨xs[j], List.getElem_mem hj, atI_nat ?_⟩
  rw [List.getElem?_map, List.getElem?_eq_getElem hj]
  rfl
theorem Keep.upd {p : Addr} {H H' : Hp} {o : HO} (k : Keep p H H') : Keep p H (upd H' p o) := fun b x hb e => by
  rw [upd_ne hb]
  exact k b x hb e
theorem Keep.refl (p : Addr) (H : Hp) : Keep p H H := fun _ _ _ e => e
theorem Keep.trans {p : Addr} {H H1 H2 : Hp} (a : Keep p H H1) (b : Keep p H1 H2) : Keep p H H2 := fun c o hc e => b c o hc (a c o hc e)
theorem Keep.new {p q : Addr} {H H' : Hp} {o : HO} (k : Keep p H H') (hq : H' q = none) : Keep p H (L2.upd H' q o) := fun b x hb e => by
  rw [upd_ne (ne_of_none (k b x hb e) hq)]
  exact k b x hb e
theorem Same.seqT {K : PySem.W.Frag} {H H' : Hp} {a : Addr} {xs : List V} (e : Same H H') (h : SqT K H a xs) : SqT K H' a xs := by
  rcases h with (h | ⟨o, h⟩) | h
  · exact .inl (.inl (e _ _ h))
  · exact .inl (.inr ⟨o, e _ _ h⟩)
  · exact .inr h
theorem Same.new {H H' : Hp} {p : Addr} {o : HO} (s : Same H H') (h : H' p = none) : Same H (L2.upd H' p o) := s.trans (same_upd h)
/-- a change at a place that was free -/
theorem Same.mut {H H' : Hp} {p : Addr} {o : HO} (s : Same H H') (h : H p = none) : Same H (L2.upd H' p o) := fun b x e => by
  rw [upd_ne (ne_of_none e h)]
  exact s b x e
theorem walk_zipT {K : PySem.W.Frag} {a b : Addr} {xs ys : List V} {n : Nat} (hn : n = min xs.length ys.length) : Walk (RZ.ItzT K a b) n (fun H => SqT K H a xs ∧ SqT K H b ys) (YPair (fun i => xs[i]?) (fun i => ys[i]?)) := by
  subst hn
  refine ⟨fun i _ hi q => ?_, fun _ q => ⟨xs, ys, q.1, q.2, by omega⟩, fun i H v H' _ q y => ?_⟩
  · have h1 : i < xs.length := by omega
    have h2 : i < ys.length := by omega
    exact ⟨xs, ys, xs[i], ys[i], q.1, q.2, by simp [h1], by simp [h2]⟩
  · obtain ⟨T, x, z, h1, h2, h3, h4, h5⟩ := y
    exact ⟨T, x, z, h1, h2, h3, h4 xs q.1, h5 ys q.2⟩
theorem Same.keep {p : Addr} {H H1 H2 : Hp} (s : Same H H1) (k : Keep p H1 H2) (h : H p = none) : Same H H2 := fun b o e => k b o (ne_of_none e h) (s b o e)

section
variable {P : Program} {w : World} {K : PySem.W.Frag} {mg : Str → Option Value} {base : Heap}
/-! ### the cells and the draws -/
def spCell (K : PySem.W.Frag) : Sp := fun vs H Q _ => ∃ (a : Addr) (ns : List Int) (k : Int), vs = [.ref a, .int k] ∧ SqL K H a (ns.map V.int) ∧ 0 ≤ k ∧ ∀ z : Int, Q (.int z) H
theorem ok_cell_at (T : Tx K mg) : FnOk P w K mg base CX0 1 T.f_cell_at T.fd_cell_at ["_law_script", "_law_k"] (spCell K) := by
  refine T.F_cell_at.ok sc_cell_at (fun vs H Q E h => ?_) (fun cdv A outer s H vs Q E hr h => ?_)
  · obtain ⟨a, ns, k, rfl, _⟩ := h
    rfl
  · obtain ⟨a, ns, k, rfl, hS, h0, q⟩ := h
    refine ⟨_, (pss_cons (ps_if (pt_cmpR op_lt (pv 1) (pe_callB call_len_seq (by rfl) T.m_len (by decide +kernel) (pa_cons (pv 0) pa_nil)) (nomark _)) (pss_one (ps_ret (pe_ix (r := rIxL K) ix_list (pv 0) (pv 1) (fun _ _ => rfl)))) pss_nil)
      (pss_one (ps_ret pe_int))), ?_⟩
    refine ⟨.int k, rfl, .ref a, rfl, a, ns.map V.int, rfl, .inl hS, k, _, rfl, rfl, _, rfl, ite2 (fun e => ?_) (fun e => ?_)⟩
    · have e1 : k < ((ns.map V.int).length : Int) := of_decide_eq_true e
      rw [List.length_map] at e1
      obtain ⟨x, _, hx⟩ := atI_ints h0 e1
      exact ⟨.ref a, rfl, .int k, rfl, a, _, k, .int x, rfl, rfl, hS, hx, q x⟩
    · exact q 0
def spBox (K : PySem.W.Frag) : Sp := fun vs H Q _ => ∃ (a : Addr) (ns : List Int) (k : Int), vs = [.ref a, .int k] ∧ SqL K H a (ns.map V.int) ∧ 0 ≤ k ∧ k ≤ 1000 ∧
  ∀ (p : Addr) (x y : Int), H p = none → 0 ≤ x → 0 ≤ y → y < 2 ^ 62 → Q (.ref p) (upd H p (.lst [.int x, .int y, .int 0]))
theorem ok_box (T : Tx K mg) : FnOk P w K mg base CX0 2 T.f_box T.fd_box ["_law_script", "_law_k"] (spBox K) := by
  refine T.F_box.ok sc_box (fun vs H Q E h => ?_) (fun cdv A outer s H vs Q E hr h => ?_)
  · obtain ⟨a, ns, k, rfl, _⟩ := h
    rfl
  · obtain ⟨a, ns, k, rfl, hS, h0, h1, q⟩ := h
    refine ⟨_, (pss_cons (ps_set (i := 2) sc_box.nd rfl (.inl rfl) (pe_call (ok_cell_at T) (hr.mono (by omega)) (by rfl) T.g_cell_at T.F_cell_at.kp T.b_cell_at .nil pass0 (pa_cons (pv 0) (pa_cons (pv 1) pa_nil))))
      (pss_one (ps_ret (pe_lst (pa_cons (pe_op op_mul (pe_callB call_abs (by rfl) T.m_abs (by decide +kernel) (pa_cons (pv 2) pa_nil)) (pe_callTy call_int1 (by rfl) T.m_int (by decide +kernel) (pa_cons (pe_cmpR op_ge (pe_callB call_abs (by rfl) T.m_abs (by decide +kernel) (pa_cons (pv 2) pa_nil)) (pe_op op_pow pe_int pe_int) (nomark _)) pa_nil))) (pa_cons (pe_op op_add (pe_op op_add (pe_op op_mod (pv 2) pe_int) (pe_op op_mul pe_int (pv 1))) pe_int) (pa_cons pe_int pa_nil))))))), ?_⟩
    refine ⟨.ref a, rfl, .int k, rfl, a, ns, k, rfl, hS, h0, fun z => ?_⟩
    -- abs(cell) * int(abs(cell) >= 10 ** 18)
    refine ⟨.int z, rfl, z, rfl, .int z, rfl, z, rfl, 10, 18, rfl, rfl, ⟨by decide, by decide, by decide⟩, _, _, rfl, rfl, .inr ⟨_, rfl, _, _, rfl, rfl, ?_, ?_⟩⟩
    · refine .inr ?_
      constructor <;> (repeat' split) <;> decide
    · refine ⟨.int z, rfl, z, 2305843009213693951, rfl, rfl, (by show (0 : Int) < _; decide), .int k, rfl, 39373, k, rfl, rfl, .inl ⟨by decide, by decide⟩, _, _, rfl, rfl, _, _, rfl, rfl, by show 3 ≤ sizeLine; decide, fun p hp => ?_⟩
      refine q p _ _ hp ?_ ?_ ?_
      · refine Int.mul_nonneg ?_ ?_
        · split <;> omega
        · split <;> omega
      · have := Int.emod_nonneg z (b := 2305843009213693951) (by decide)
        omega
      · have := Int.emod_lt_of_pos z (b := 2305843009213693951) (by decide)
        omega
/-- a draw: the box at p keeps its form, the answer lies below the count -/
def spTake : Sp := fun vs H Q _ => ∃ (p : Addr) (a b c m : Int), vs = [.ref p, .int m] ∧ H p = some (.lst [.int a, .int b, .int c]) ∧ 0 ≤ a ∧ 0 ≤ b ∧ b < 2 ^ 62 ∧ 0 ≤ c ∧ c < 2 ^ 40 ∧ 0 < m ∧ m < 1073741824 ∧
  ∀ a' c' r : Int, 0 ≤ a' → c ≤ c' → c' ≤ c + 1 → 0 ≤ r → r < m → Q (.int r) (upd H p (.lst [.int a', .int b, .int c']))
theorem ok_take (T : Tx K mg) : FnOk P w K mg base CX0 1 T.f_take T.fd_take ["_law_box_here", "_law_count"] spTake := by
  refine T.F_take.ok sc_take (fun vs H Q E h => ?_) (fun cdv A outer s H vs Q E hr h => ?_)
  · obtain ⟨p, a, b, c, m, rfl, _⟩ := h
    rfl
  · obtain ⟨p, a, b, c, m, rfl, hB, a0, b0, b1, c0, c1, m0, m1, q⟩ := h
    refine ⟨_, (pss_cons (ps_if (pt_cmpR op_gt (pe_ix (r := rIxL K) ix_list (pv 0) pe_int (fun _ _ => rfl)) pe_int (nomark _)) (pss_cons (ps_set (i := 2) sc_take.nd rfl (.inl rfl) (pe_op op_mod (pe_ix (r := rIxL K) ix_list (pv 0) pe_int (fun _ _ => rfl)) (pv 1)))
      (pss_cons (ps_asg (pe_op op_fdiv (pe_ix (r := rIxL K) ix_list (pv 0) pe_int (fun _ _ => rfl)) (pv 1)) (pg_sub (pv 0) pe_int set_list))
      (pss_one (ps_ret (pv 2))))) pss_nil)
      (pss_cons (ps_asg (pe_op op_add (pe_ix (r := rIxL K) ix_list (pv 0) pe_int (fun _ _ => rfl)) pe_int) (pg_sub (pv 0) pe_int set_list))
      (pss_cons (ps_set (i := 3) sc_take.nd rfl (.inl rfl) (pe_op op_mod (pe_op op_mul (pe_op op_add (pe_ix (r := rIxL K) ix_list (pv 0) pe_int (fun _ _ => rfl)) (pe_op op_mul pe_int (pe_ix (r := rIxL K) ix_list (pv 0) pe_int (fun _ _ => rfl)))) (pe_op op_add pe_int (pe_ix (r := rIxL K) ix_list (pv 0) pe_int (fun _ _ => rfl)))) pe_int))
      (pss_cons (ps_set (i := 4) sc_take.nd rfl (.inl rfl) (pe_op op_mod (pe_op op_mul (pe_op op_add (pe_op op_add (pv 3) (pe_ix (r := rIxL K) ix_list (pv 0) pe_int (fun _ _ => rfl))) (pe_op op_fdiv (pe_ix (r := rIxL K) ix_list (pv 0) pe_int (fun _ _ => rfl)) pe_int)) (pe_op op_add (pe_op op_mod (pv 3) pe_int) pe_int)) pe_int))
      (pss_one (ps_ret (pe_op op_mod (pe_op op_fdiv (pe_op op_mod (pe_op op_add (pe_op op_mul (pv 4) pe_int) (pv 3)) pe_int) pe_int) (pv 1)))))))), ?_⟩
    refine ⟨.ref p, rfl, p, _, 0, .int a, rfl, rfl, sq1 hB, rfl, _, _, rfl, rfl, _, rfl, ite2 (fun e => ?_) (fun e => ?_)⟩
    · -- found = box[0] % count; box[0] = box[0] // count
      refine ⟨.ref p, rfl, p, _, 0, .int a, rfl, rfl, sq1 hB, rfl, .int m, rfl, a, m, rfl, rfl, m0, ?_⟩
      refine ⟨.ref p, rfl, p, _, 0, .int a, rfl, rfl, sq1 hB, rfl, .int m, rfl, a, m, rfl, rfl, ⟨m0, m1⟩, ?_⟩
      refine ⟨.ref p, rfl, p, _, 0, 0, rfl, rfl, hB, rfl, ?_⟩
      refine ⟨.int (a % m), rfl, ?_⟩
      exact q _ _ _ (Int.ediv_nonneg a0 (by omega)) (Int.le_refl _) (by omega) (Int.emod_nonneg _ (by omega)) (Int.emod_lt_of_pos _ m0)
    · -- box[2] = box[2] + 1
      refine ⟨.ref p, rfl, p, _, 2, .int c, rfl, rfl, sq1 hB, rfl, c, 1, rfl, rfl, .ref p, rfl, p, _, 2, 2, rfl, rfl, hB, rfl, ?_⟩
      have hB1 : (upd H p (.lst [.int a, .int b, .int (c + 1)])) p = some (.lst [.int a, .int b, .int (c + 1)]) := upd_same
      show (tSeq _ _) _ _ (upd H p (.lst [.int a, .int b, .int (c + 1)]))
      -- once
      refine ⟨.ref p, rfl, p, _, 1, .int b, rfl, rfl, sq1 hB1, rfl, .ref p, rfl, p, _, 2, .int (c + 1), rfl, rfl, sq1 hB1, rfl, 48271, c + 1, rfl, rfl, .inl ⟨by decide, by decide⟩, b, _, rfl, rfl,
        .ref p, rfl, p, _, 2, .int (c + 1), rfl, rfl, sq1 hB1, rfl, 39373, c + 1, rfl, rfl, _, _, rfl, rfl, .inr ⟨by omega, by omega⟩, _, 2147483647, rfl, rfl, (by show (0 : Int) < _; decide), ?_⟩
      -- twice
      have o2 := Int.emod_nonneg ((b + 48271 * (c + 1)) * (39373 + (c + 1)) % 2147483647) (b := 40009) (by decide)
      have o3 := Int.emod_lt_of_pos ((b + 48271 * (c + 1)) * (39373 + (c + 1)) % 2147483647) (b := 40009) (by decide)
      refine ⟨_, rfl, .ref p, rfl, p, _, 2, .int (c + 1), rfl, rfl, sq1 hB1, rfl, _, c + 1, rfl, rfl, .ref p, rfl, p, _, 1, .int b, rfl, rfl, sq1 hB1, rfl, b, 1000003, rfl, rfl, ⟨by decide, by decide⟩, _, _, rfl, rfl,
        _, rfl, _, 40009, rfl, rfl, (by show (0 : Int) < _; decide), _, 7, rfl, rfl, _, _, rfl, rfl, .inr ⟨?_, ?_⟩, _, 2147483629, rfl, rfl, (by show (0 : Int) < _; decide), ?_⟩
      · exact Int.lt_of_lt_of_le (by decide) (Int.add_le_add_right o2 7)
      · exact Int.lt_trans (Int.add_lt_add_right o3 7) (by decide)
      -- the answer
      refine ⟨_, rfl, _, 48271, rfl, rfl, .inr ⟨by decide, by decide⟩, _, rfl, _, _, rfl, rfl, _, 2147483587, rfl, rfl, (by show (0 : Int) < _; decide), _, 64, rfl, rfl, ⟨by decide, by decide⟩, .int m, rfl, _, m, rfl, rfl, m0, ?_⟩
      exact q _ _ _ a0 (by omega) (Int.le_refl _) (Int.emod_nonneg _ (by omega)) (Int.emod_lt_of_pos _ m0)
end

/-! ### the same, kind by kind -/
/-- x and y are the same data, at most n deep -/
def Sm (H : Hp) : Nat → V → V → Prop
  | 0, x, y => x = y ∧ flatV x = true
  | n + 1, x, y => (x = y ∧ flatV x = true) ∨ ∃ (a b : Addr) (xs ys : List V), x = .ref a ∧ y = .ref b ∧ xs.length = ys.length ∧ xs.length ≤ 1000000 ∧ (∀ (i : Nat) u v, xs[i]? = some u → ys[i]? = some v → Sm H n u v) ∧
      ((H a = some (.lst xs) ∧ H b = some (.lst ys)) ∨ (H a = some (.tup xs) ∧ H b = some (.tup ys)))
theorem Sm.mono {H H' : Hp} (s : Same H H') : ∀ {n : Nat} {x y : V}, Sm H n x y → Sm H' n x y
  | 0, _, _, h => h
  | n + 1, _, _, .inl h => .inl h
  | n + 1, _, _, .inr ⟨a, b, xs, ys, e1, e2, l, hl, hi, h⟩ => .inr ⟨a, b, xs, ys, e1, e2, l, hl, fun i u v hu hv => Sm.mono s (hi i u v hu hv), by
    rcases h with ⟨h1, h2⟩ | ⟨h1, h2⟩
    · exact .inl ⟨s _ _ h1, s _ _ h2⟩
    · exact .inr ⟨s _ _ h1, s _ _ h2⟩⟩
theorem Sm.flat {H : Hp} {n : Nat} {x : V} (h : flatV x = true) : Sm H n x x := by
  cases n with
  | zero => exact ⟨rfl, h⟩
  | succ n => exact .inl ⟨rfl, h⟩
/-- two lists of the same ints -/
theorem Sm.ints {H : Hp} {n : Nat} {a b : Addr} {ns : List Int} (h1 : H a = some (.lst (ns.map V.int))) (h2 : H b = some (.lst (ns.map V.int))) (hl : ns.length ≤ 1000000) : Sm H (n + 1) (.ref a) (.ref b) :=
  .inr ⟨a, b, _, _, rfl, rfl, rfl, by rw [List.length_map]; exact hl, fun i u v hu hv => by
    rw [hu] at hv
    cases hv
    rw [List.getElem?_map] at hu
    obtain ⟨z, _, rfl⟩ := Option.map_eq_some_iff.mp hu
    exact Sm.flat rfl, .inl ⟨h1, h2⟩⟩
theorem leaf_kit {K : PySem.W.Frag} {H : Hp} {x : V} (h : flatV x = true) : ∃ (n : String) (bb bi : Bool), (∀ H', TyX K H' x (.type n)) ∧ PySem.W.kitAny K (.type n) [.type "list", .type "tuple"] = some false ∧
    PySem.W.kitOne K (.type n) (.type "bool") = some bb ∧ PySem.W.kitOne K (.type n) (.type "int") = some bi := by
  cases x with
  | non => exact ⟨"NoneType", false, false, fun _ => .base .non, kitAny_cons (b := false) (kit_ty (by decide +kernel)) (fun _ => kitAny_cons (b := false) (kit_ty (by decide +kernel)) (fun _ => rfl) (fun z => nomatch z)) (fun z => nomatch z), kit_ty (by decide +kernel), kit_ty (by decide +kernel)⟩
  | bl y => exact ⟨"bool", true, true, fun _ => .base (.bl y), kitAny_cons (b := false) (kit_ty (by decide +kernel)) (fun _ => kitAny_cons (b := false) (kit_ty (by decide +kernel)) (fun _ => rfl) (fun z => nomatch z)) (fun z => nomatch z), kit_ty (by decide +kernel), kit_ty (by decide +kernel)⟩
  | int y => exact ⟨"int", false, true, fun _ => .base (.int y), kitAny_cons (b := false) (kit_ty (by decide +kernel)) (fun _ => kitAny_cons (b := false) (kit_ty (by decide +kernel)) (fun _ => rfl) (fun z => nomatch z)) (fun z => nomatch z), kit_ty (by decide +kernel), kit_ty (by decide +kernel)⟩
  | str y => exact ⟨"str", false, false, fun _ => .base (.str y), kitAny_cons (b := false) (kit_ty (by decide +kernel)) (fun _ => kitAny_cons (b := false) (kit_ty (by decide +kernel)) (fun _ => rfl) (fun z => nomatch z)) (fun z => nomatch z), kit_ty (by decide +kernel), kit_ty (by decide +kernel)⟩
  | byt _ => cases h
  | flt _ => cases h
  | ref _ => cases h
  | ty _ => cases h
theorem seq_kit {K : PySem.W.Frag} {H : Hp} {a b : Addr} {xs ys : List V} (h : (H a = some (.lst xs) ∧ H b = some (.lst ys)) ∨ (H a = some (.tup xs) ∧ H b = some (.tup ys))) :
    ∃ (n : String) (bl bt : Bool), (∀ H', Same H H' → TyX K H' (.ref a) (.type n) ∧ TyX K H' (.ref b) (.type n)) ∧ PySem.W.kitAny K (.type n) [.type "list", .type "tuple"] = some true ∧
      PySem.W.kitOne K (.type n) (.type "list") = some bl ∧ PySem.W.kitOne K (.type n) (.type "tuple") = some bt := by
  rcases h with ⟨h1, h2⟩ | ⟨h1, h2⟩
  · exact ⟨"list", true, false, fun H' s => ⟨.base (.lst (s _ _ h1)), .base (.lst (s _ _ h2))⟩, kitAny_cons (b := true) (kit_ty (by decide +kernel)) (fun z => nomatch z) (fun _ => rfl), kit_ty (by decide +kernel), kit_ty (by decide +kernel)⟩
  · exact ⟨"tuple", false, true, fun H' s => ⟨.base (.tup (s _ _ h1)), .base (.tup (s _ _ h2))⟩, kitAny_cons (b := false) (kit_ty (by decide +kernel)) (fun _ => kitAny_cons (b := true) (kit_ty (by decide +kernel)) (fun z => nomatch z) (fun _ => rfl)) (fun z => nomatch z), kit_ty (by decide +kernel), kit_ty (by decide +kernel)⟩
theorem rep_all (n : Nat) : (List.replicate n true).all id = true := by
  induction n with
  | zero => rfl
  | succ n ih => rw [List.replicate_succ, List.all_cons, ih]; rfl
section
variable {P : Program} {w : World} {K : PySem.W.Frag} {mg : Str → Option Value} {base : Heap}
def spSame : Nat → Sp
  | 0 => fun _ _ _ _ => False
  | n + 1 => fun vs H Q _ => ∃ (x y : V), vs = [x, y] ∧ Sm H n x y ∧ ∀ H', Same H H' → Q (.bl true) H'
theorem ok_same (T : Tx K mg) : ∀ n : Nat, FnOk P w K mg base CX0 n T.f_same T.fd_same ["_law_found", "_law_due_here"] (spSame n)
  | 0 => ⟨fun _ _ _ _ h => h.elim, fun _ _ _ _ _ _ _ _ _ _ _ _ _ h => h.elim⟩
  | n + 1 => by
    have ih := ok_same T n
    refine T.F_same.ok sc_same (fun vs H Q E h => ?_) (fun cdv A outer s H vs Q E hr h => ?_)
    · obtain ⟨x, y, rfl, _⟩ := h
      rfl
    · obtain ⟨x, y, rfl, h, q⟩ := h
      refine ⟨_, (pss_cons (ps_if (pt_val (pe_callB (r := rIsiT K) call_isiT (by rfl) T.m_isinstance (by decide +kernel) (pa_cons (pv 1) (pa_cons (pe_tup (pa_cons (pe_bltn (v := .ty "list") (u := .type "list") (by rfl) T.m_list (by decide +kernel) rfl) (pa_cons (pe_bltn (v := .ty "tuple") (u := .type "tuple") (by rfl) T.m_tuple (by decide +kernel) rfl) pa_nil))) pa_nil)))) (pss_cons (ps_if (pw_or (pt_cmpR op_ne (pe_callB (r := rIsi K) call_isi (by rfl) T.m_isinstance (by decide +kernel) (pa_cons (pv 0) (pa_cons (pe_bltn (v := .ty "list") (u := .type "list") (by rfl) T.m_list (by decide +kernel) rfl) pa_nil))) (pe_callB (r := rIsi K) call_isi (by rfl) T.m_isinstance (by decide +kernel) (pa_cons (pv 1) (pa_cons (pe_bltn (v := .ty "list") (u := .type "list") (by rfl) T.m_list (by decide +kernel) rfl) pa_nil))) (nomark _)) (pw_or1 (pt_cmpR op_ne (pe_callB (r := rIsi K) call_isi (by rfl) T.m_isinstance (by decide +kernel) (pa_cons (pv 0) (pa_cons (pe_bltn (v := .ty "tuple") (u := .type "tuple") (by rfl) T.m_tuple (by decide +kernel) rfl) pa_nil))) (pe_callB (r := rIsi K) call_isi (by rfl) T.m_isinstance (by decide +kernel) (pa_cons (pv 1) (pa_cons (pe_bltn (v := .ty "tuple") (u := .type "tuple") (by rfl) T.m_tuple (by decide +kernel) rfl) pa_nil))) (nomark _)))).pt (pss_one (ps_ret pe_bl)) pss_nil)
      (pss_one (ps_ret (pe_and (pe_cmpR op_eq (pe_callB call_len_seq (by rfl) T.m_len (by decide +kernel) (pa_cons (pv 0) pa_nil)) (pe_callB call_len_seq (by rfl) T.m_len (by decide +kernel) (pa_cons (pv 1) pa_nil)) (nomark _)) (pe_one (pe_callB (cr_all rfl) (by rfl) T.m_all (by decide +kernel) (pa_cons (pe_lc (own := [("_law_one", 2), ("_law_two", 3)]) (g := gTup K 2 (gCons (gName 2) (gCons (gName 3) gNil))) (tt := tYes) rfl sc_same.nd (RZ.pi_zipA (by rfl) T.m_zip (pa_cons (pv 0) (pa_cons (pv 1) pa_nil))) (blkOk_by (N := ["_law_found", "_law_due_here", "_law_one", "_law_two"]) (sc := defScope s_same) (by decide +kernel)) (fun _ _ _ _ _ => (pg_tup rfl (pgs_cons (pg_name (i := 2) sc_same.nd rfl (.inl rfl)) (pgs_cons (pg_name (i := 3) sc_same.nd rfl (.inl rfl)) pgs_nil)))) (fun _ _ _ _ _ => pts_nil) (fun _ _ _ _ _ => (pe_call ih (hr.mono (by omega)) (by rfl) T.g_same T.F_same.kp T.b_same .nil pass0 (pa_cons (pv 2) (pa_cons (pv 3) pa_nil))))) pa_nil))))))) pss_nil)
      (pss_cons (ps_if (pw_or (pt_cmpR op_ne (pe_callB (r := rIsi K) call_isi (by rfl) T.m_isinstance (by decide +kernel) (pa_cons (pv 0) (pa_cons (pe_bltn (v := .ty "bool") (u := .type "bool") (by rfl) T.m_bool (by decide +kernel) rfl) pa_nil))) (pe_callB (r := rIsi K) call_isi (by rfl) T.m_isinstance (by decide +kernel) (pa_cons (pv 1) (pa_cons (pe_bltn (v := .ty "bool") (u := .type "bool") (by rfl) T.m_bool (by decide +kernel) rfl) pa_nil))) (nomark _)) (pw_or1 (pt_cmpR op_ne (pe_callB (r := rIsi K) call_isi (by rfl) T.m_isinstance (by decide +kernel) (pa_cons (pv 0) (pa_cons (pe_bltn (v := .ty "int") (u := .type "int") (by rfl) T.m_int (by decide +kernel) rfl) pa_nil))) (pe_callB (r := rIsi K) call_isi (by rfl) T.m_isinstance (by decide +kernel) (pa_cons (pv 1) (pa_cons (pe_bltn (v := .ty "int") (u := .type "int") (by rfl) T.m_int (by decide +kernel) rfl) pa_nil))) (nomark _)))).pt (pss_one (ps_ret pe_bl)) pss_nil)
      (pss_one (ps_ret (pe_cmpR op_eq (pv 0) (pv 1) (nomark _)))))), ?_⟩
      have hc : (x = y ∧ flatV x = true) ∨ ∃ (a b : Addr) (xs ys : List V), x = .ref a ∧ y = .ref b ∧ xs.length = ys.length ∧ xs.length ≤ 1000000 ∧ (∀ (i : Nat) u v, xs[i]? = some u → ys[i]? = some v → n ≠ 0 ∧ Sm H (n - 1) u v) ∧
          ((H a = some (.lst xs) ∧ H b = some (.lst ys)) ∨ (H a = some (.tup xs) ∧ H b = some (.tup ys))) := by
        cases n with
        | zero => exact .inl h
        | succ n =>
          rcases h with h | ⟨a, b, xs, ys, e1, e2, l, hl, hi, h⟩
          · exact .inl h
          · exact .inr ⟨a, b, xs, ys, e1, e2, l, hl, fun i u v hu hv => ⟨Nat.succ_ne_zero _, hi i u v hu hv⟩, h⟩
      rcases hc with ⟨rfl, hf⟩ | ⟨a, b, xs, ys, rfl, rfl, hl, hlm, hi2, hh⟩
      · -- a leaf
        obtain ⟨t, bb, bi, ty, k1, k2, k3⟩ := leaf_kit (K := K) (H := H) hf
        refine ⟨x, rfl, by show 2 ≤ sizeLine; decide, fun p hp => ?_⟩
        refine ⟨x, p, _, _, _, false, rfl, upd_same, .cons (.ty _) (.cons (.ty _) .nil), ty _, k1, _, rfl, ?_⟩
        refine ⟨x, rfl, x, _, _, _, bb, rfl, .ty _, ty _, k2, x, rfl, x, _, _, _, bb, rfl, .ty _, ty _, k2, rfl, _, rfl, ?_⟩
        rw [decide_eq_true rfl]
        refine ⟨x, rfl, x, _, _, _, bi, rfl, .ty _, ty _, k3, x, rfl, x, _, _, _, bi, rfl, .ty _, ty _, k3, rfl, _, rfl, ?_⟩
        rw [decide_eq_true rfl]
        refine ⟨x, rfl, x, rfl, ?_, ?_⟩
        · cases x <;> first | rfl | cases hf
        · rw [decide_eq_true rfl]
          exact q _ (same_upd hp)
      · -- two rows
        obtain ⟨t, bl, bt, ty, k1, k2, k3⟩ := seq_kit (K := K) hh
        refine ⟨.ref b, rfl, by show 2 ≤ sizeLine; decide, fun p hp => ?_⟩
        have s1 : Same H (upd H p (.tup [.ty "list", .ty "tuple"])) := same_upd hp
        obtain ⟨ta, tb⟩ := ty _ s1
        refine ⟨.ref b, p, _, _, _, true, rfl, upd_same, .cons (.ty _) (.cons (.ty _) .nil), tb, k1, _, rfl, ?_⟩
        refine ⟨.ref a, rfl, .ref a, _, _, _, bl, rfl, .ty _, ta, k2, .ref b, rfl, .ref b, _, _, _, bl, rfl, .ty _, tb, k2, rfl, _, rfl, ?_⟩
        rw [decide_eq_true rfl]
        refine ⟨.ref a, rfl, .ref a, _, _, _, bt, rfl, .ty _, ta, k3, .ref b, rfl, .ref b, _, _, _, bt, rfl, .ty _, tb, k3, rfl, _, rfl, ?_⟩
        rw [decide_eq_true rfl]
        have hsq : ∀ Hc, Same H Hc → (SqL K Hc a xs ∧ SqL K Hc b ys) ∨ (SqT K Hc a xs ∧ SqT K Hc b ys) := fun Hc s => by
          rcases hh with ⟨h1, h2⟩ | ⟨h1, h2⟩
          · exact .inl ⟨sq1 (s _ _ h1), sq1 (s _ _ h2)⟩
          · exact .inr ⟨st1 (s _ _ h1), st1 (s _ _ h2)⟩
        have hla : SqL K (upd H p (.tup [.ty "list", .ty "tuple"])) a xs ∨ SqT K (upd H p (.tup [.ty "list", .ty "tuple"])) a xs := by
          rcases hsq _ s1 with h | h
          · exact .inl h.1
          · exact .inr h.1
        have hlb : SqL K (upd H p (.tup [.ty "list", .ty "tuple"])) b ys ∨ SqT K (upd H p (.tup [.ty "list", .ty "tuple"])) b ys := by
          rcases hsq _ s1 with h | h
          · exact .inl h.2
          · exact .inr h.2
        refine ⟨.ref a, rfl, a, xs, rfl, hla, .ref b, rfl, b, ys, rfl, hlb, rfl, true, ?_, ?_⟩
        · rw [hl, decide_eq_true rfl]
        refine ⟨.ref a, rfl, .ref b, rfl, a, b, xs, ys, rfl, ?_⟩
        rcases hh with ⟨h1, h2⟩ | ⟨h1, h2⟩
        · refine .inl ⟨sq1 (s1 _ _ h1), sq1 (s1 _ _ h2), fun D hD => lc_it (walk_zip (xs := xs) (ys := ys) (n := xs.length) (by omega)) (fun i Hc => Same (upd H p (.tup [.ty "list", .ty "tuple"])) Hc ∧ Hc D = some (.lst ((List.replicate i true).map V.bl))) ?_ ?_ ?_ ?_⟩
          · refine ⟨same_upd hD, ?_⟩
            rw [upd_same]
            rfl
          · rintro i Hc hi ⟨sm, _⟩
            exact ⟨sq1 (sm _ _ (s1 _ _ h1)), sq1 (sm _ _ (s1 _ _ h2))⟩
          · rintro i x Hc H' hi ⟨sm, eD⟩ ⟨T', v1, v2, rfl, hT, rfl, e1, e2⟩
            have sm2 : Same (upd H p (.tup [.ty "list", .ty "tuple"])) (upd Hc T' (.tup [v1, v2])) := sm.trans (same_upd hT)
            have nDT : D ≠ T' := ne_of_none eD hT
            refine ⟨T', [v1, v2], rfl, .inl (.inl upd_same), rfl, _, _, rfl, _, _, rfl, rfl, rfl, ?_⟩
            refine ⟨_, rfl, _, rfl, ?_⟩
            obtain ⟨hn, hS⟩ := hi2 i v1 v2 e1 e2
            cases n with
            | zero => exact absurd rfl hn
            | succ n =>
              refine ⟨v1, v2, rfl, Sm.mono (s1.trans sm2) hS, fun H3 s3 => ?_⟩
              refine ⟨_, s3 _ _ (by rw [upd_ne nDT]; exact eD), ?_, ?_, ?_⟩
              · rw [List.length_map, List.length_replicate]
                exact Nat.lt_of_le_of_lt (show i ≤ 1000000 by omega) (by decide)
              · exact Same.mut (sm2.trans s3) hD
              · rw [upd_same, List.replicate_succ', List.map_append]
                rfl
          · rintro Hc ⟨sm, eD⟩
            refine ⟨D, List.replicate xs.length true, rfl, sq1 eD, ?_⟩
            rw [rep_all]
            exact q Hc (s1.trans sm)
        · refine .inr ⟨st1 (s1 _ _ h1), st1 (s1 _ _ h2), fun D hD => lc_it (walk_zipT (xs := xs) (ys := ys) (n := xs.length) (by omega)) (fun i Hc => Same (upd H p (.tup [.ty "list", .ty "tuple"])) Hc ∧ Hc D = some (.lst ((List.replicate i true).map V.bl))) ?_ ?_ ?_ ?_⟩
          · refine ⟨same_upd hD, ?_⟩
            rw [upd_same]
            rfl
          · rintro i Hc hi ⟨sm, _⟩
            exact ⟨st1 (sm _ _ (s1 _ _ h1)), st1 (sm _ _ (s1 _ _ h2))⟩
          · rintro i x Hc H' hi ⟨sm, eD⟩ ⟨T', v1, v2, rfl, hT, rfl, e1, e2⟩
            have sm2 : Same (upd H p (.tup [.ty "list", .ty "tuple"])) (upd Hc T' (.tup [v1, v2])) := sm.trans (same_upd hT)
            have nDT : D ≠ T' := ne_of_none eD hT
            refine ⟨T', [v1, v2], rfl, .inl (.inl upd_same), rfl, _, _, rfl, _, _, rfl, rfl, rfl, ?_⟩
            refine ⟨_, rfl, _, rfl, ?_⟩
            obtain ⟨hn, hS⟩ := hi2 i v1 v2 e1 e2
            cases n with
            | zero => exact absurd rfl hn
            | succ n =>
              refine ⟨v1, v2, rfl, Sm.mono (s1.trans sm2) hS, fun H3 s3 => ?_⟩
              refine ⟨_, s3 _ _ (by rw [upd_ne nDT]; exact eD), ?_, ?_, ?_⟩
              · rw [List.length_map, List.length_replicate]
                exact Nat.lt_of_le_of_lt (show i ≤ 1000000 by omega) (by decide)
              · exact Same.mut (sm2.trans s3) hD
              · rw [upd_same, List.replicate_succ', List.map_append]
                rfl
          · rintro Hc ⟨sm, eD⟩
            refine ⟨D, List.replicate xs.length true, rfl, sq1 eD, ?_⟩
            rw [rep_all]
            exact q Hc (s1.trans sm)
end
end K5

set_option Elab.async false
set_option linter.all false
set_option maxRecDepth 100000
set_option maxHeartbeats 4000000
namespace K5
open PySem PySem.Spec PyProof.Rows L2
open Cm (Da DaAll)
/-! ### texts of refusals -/
/-- a text or a number that can be written -/
def Fm (x : V) : Prop := (∃ y : Str, x = .str y ∧ y.length ≤ 1000) ∨ ∃ i : Int, x = .int i ∧ 0 ≤ i ∧ i < 10 ^ 10
def Pc (t : TE) (σ : L2.St) (H : Hp) : Prop := ∃ y : Str, y.length ≤ 1000 ∧ ∀ Q : VK, Q (.str y) H → t σ H Q
def PcAll : List TE → L2.St → Hp → Prop
  | [], _, _ => True
  | t :: ts, σ, H => Pc t σ H ∧ PcAll ts σ H
theorem js_fit {σ : L2.St} {H : Hp} {Q : Str → Hp → Prop} : ∀ {ts : List TE} {acc : Str} {n : Nat}, PcAll ts σ H → acc.length ≤ n → n + 1000 * ts.length ≤ 16777216 → (∀ out, Q out H) → tJs ts acc σ H Q
  | [], acc, n, _, _, _, q => q acc
  | t :: ts, acc, n, ⟨⟨y, hy, k⟩, r⟩, hn, hl, q => by
    refine k _ ⟨y, rfl, ?_, js_fit (n := n + 1000) r ?_ ?_ q⟩
    · rw [PySem.Str.length_append, sizeLine_eq]
      rw [List.length_cons] at hl
      omega
    · rw [PySem.Str.length_append]
      omega
    · rw [List.length_cons] at hl
      omega
theorem pc_lit {σ : L2.St} {H : Hp} {y : Str} (h : y.length ≤ 1000) : Pc (tC (.str y)) σ H := ⟨y, h, fun _ q => q⟩
theorem pc_fmt {σ : L2.St} {H : Hp} {i : Nat} {x : V} (fx : Fm x) (e : σ[i]? = some (some x)) : Pc (tFmt (tVar i)) σ H := by
  rcases fx with ⟨y, rfl, hy⟩ | ⟨n, rfl, h0, h1⟩
  · exact ⟨y, hy, fun Q q => ⟨_, e, .inl ⟨y, rfl, by rw [sizeLine_eq]; omega, q⟩⟩⟩
  · have l : (Str.ofString (toString n)).length ≤ 10 := toString_length_le h0 (by decide) h1
    have lg : n.natAbs.log2 < 1920 := by
      by_cases z : n.natAbs = 0
      · rw [z]
        decide
      · refine (Nat.log2_lt z).mpr (Nat.lt_of_lt_of_le (show n.natAbs < 2 ^ 40 by omega) (Nat.pow_le_pow_right (by decide) (by decide)))
    exact ⟨Str.ofString (toString n), by omega, fun Q q => ⟨_, e, .inr ⟨n, rfl, lg, q⟩⟩⟩
/-- a made exception of the class at C, with these fields -/
def Ex (H : Hp) (C : Addr) (fs : List (Str × V)) (x : V) : Prop := ∃ a d : Addr, x = .ref a ∧ H a = some (exo a C (some d)) ∧ H d = some (exd d fs)
theorem Ex.same {H H' : Hp} {C : Addr} {fs : List (Str × V)} {x : V} (e : Ex H C fs x) (s : Same H H') : Ex H' C fs x := by
  obtain ⟨a, d, rfl, h1, h2⟩ := e
  exact ⟨a, d, rfl, s _ _ h1, s _ _ h2⟩
def spI1 (C : Addr) (f : Str) : Sp := fun vs H Q _ => ∃ (a : Addr) (x : V), vs = [.ref a, x] ∧ H a = some (exo a C none) ∧ Fm x ∧ ∀ (H' : Hp) (d : Addr), Keep a H H' → H' a = some (exo a C (some d)) → H' d = some (exd d [(f, x)]) → Q .non H'
def spI2 (C : Addr) (f g : Str) : Sp := fun vs H Q _ => ∃ (a : Addr) (x y : V), vs = [.ref a, x, y] ∧ H a = some (exo a C none) ∧ Fm x ∧ Fm y ∧ ∀ (H' : Hp) (d : Addr), Keep a H H' → H' a = some (exo a C (some d)) → H' d = some (exd d [(g, y), (f, x)]) → Q .non H'
theorem keep_same {a : Addr} {H H' : Hp} {o : HO} (hn : H a = none) (k : Keep a (upd H a o) H') : Same H H' := fun b x e => k b x (fun z => by rw [z, hn] at e; cases e) (by rw [upd_ne (fun z => by rw [z, hn] at e; cases e)]; exact e)
/-- C(x), C(f = x) -/
theorem mk1 {C : Addr} {f : Str} {x : V} {H : Hp} {Q : VK} (fx : Fm x) (q : ∀ H' e, Same H H' → Ex H' C [(f, x)] e → Q e H') : ∀ a, H a = none → spI1 C f [.ref a, x] (upd H a (exo a C none)) (fun v H2 => v = .non ∧ Q (.ref a) H2) E0 :=
  fun a hn => ⟨a, x, rfl, upd_same, fx, fun H' d k e1 e2 => ⟨rfl, q H' _ (keep_same hn k) ⟨a, d, rfl, e1, e2⟩⟩⟩
theorem mk2 {C : Addr} {f g : Str} {x y : V} {H : Hp} {Q : VK} (fx : Fm x) (fy : Fm y) (q : ∀ H' e, Same H H' → Ex H' C [(g, y), (f, x)] e → Q e H') : ∀ a, H a = none → spI2 C f g [.ref a, x, y] (upd H a (exo a C none)) (fun v H2 => v = .non ∧ Q (.ref a) H2) E0 :=
  fun a hn => ⟨a, x, y, rfl, upd_same, fx, fy, fun H' d k e1 e2 => ⟨rfl, q H' _ (keep_same hn k) ⟨a, d, rfl, e1, e2⟩⟩⟩

section
variable {P : Program} {w : World} {K : PySem.W.Frag} {mg : Str → Option Value} {base : Heap}
theorem ok_BadSlip (T : Tx K mg) : FnOk P w K mg base CX0 1 T.f_BadSlip T.fd_BadSlip ["self", "part"] (spI1 T.C_BadSlip "part") := by
  refine T.F_BadSlip.ok sc_BadSlip (fun vs H Q E h => ?_) (fun cdv A outer s H vs Q E hr h => ?_)
  · obtain ⟨a, x, rfl, _⟩ := h
    rfl
  · obtain ⟨a, x, rfl, ea, fx, q⟩ := h
    refine ⟨_, (pss_cons (ps_expr (pe_einit (B := "ValueError") (newId := "ValueError.__new__") (initId := "ValueError.__init__") (bm := bm_ValueError) (by rfl) T.m_ValueError (by decide +kernel) typ_ValueError (by decide +kernel) T.v_ValueError (by decide +kernel) (pa_cons (pv 0) (pa_cons (pe_joined (.cons pe_str (.cons (pe_fmt (pv 1)) .nil))) pa_nil))))
      (pss_one (ps_oe (B := "ValueError") (newId := "ValueError.__new__") (initId := "ValueError.__init__") (bm := bm_ValueError) (pv 0) (pv 1)))), ?_⟩
    refine ⟨.ref a, rfl, ?_⟩
    show tJs _ _ _ _ _
    refine js_fit (n := 0) (show PcAll _ _ _ from ⟨pc_lit (by decide +kernel), pc_fmt fx rfl, trivial⟩) (by decide) (by decide) fun out => ⟨a, T.C_BadSlip, [.str out], rfl, (by decide : 1 ≤ 1000), T.oe_BadSlip, ea, ?_⟩
    refine ⟨x, rfl, .ref a, rfl, a, T.C_BadSlip, rfl, T.oe_BadSlip, T.n_BadSlip_part, .inl ⟨ea, fun dx hdx ne => ?_⟩⟩
    exact q _ dx (((Keep.refl a H).new hdx).upd) upd_same (by rw [upd_ne ne]; exact upd_same)
theorem ok_BadLetter (T : Tx K mg) : FnOk P w K mg base CX0 1 T.f_BadLetter T.fd_BadLetter ["self", "part"] (spI1 T.C_BadLetter "part") := by
  refine T.F_BadLetter.ok sc_BadLetter (fun vs H Q E h => ?_) (fun cdv A outer s H vs Q E hr h => ?_)
  · obtain ⟨a, x, rfl, _⟩ := h
    rfl
  · obtain ⟨a, x, rfl, ea, fx, q⟩ := h
    refine ⟨_, (pss_cons (ps_expr (pe_einit (B := "ValueError") (newId := "ValueError.__new__") (initId := "ValueError.__init__") (bm := bm_ValueError) (by rfl) T.m_ValueError (by decide +kernel) typ_ValueError (by decide +kernel) T.v_ValueError (by decide +kernel) (pa_cons (pv 0) (pa_cons (pe_joined (.cons pe_str (.cons (pe_fmt (pv 1)) .nil))) pa_nil))))
      (pss_one (ps_oe (B := "ValueError") (newId := "ValueError.__new__") (initId := "ValueError.__init__") (bm := bm_ValueError) (pv 0) (pv 1)))), ?_⟩
    refine ⟨.ref a, rfl, ?_⟩
    show tJs _ _ _ _ _
    refine js_fit (n := 0) (show PcAll _ _ _ from ⟨pc_lit (by decide +kernel), pc_fmt fx rfl, trivial⟩) (by decide) (by decide) fun out => ⟨a, T.C_BadLetter, [.str out], rfl, (by decide : 1 ≤ 1000), T.oe_BadLetter, ea, ?_⟩
    refine ⟨x, rfl, .ref a, rfl, a, T.C_BadLetter, rfl, T.oe_BadLetter, T.n_BadLetter_part, .inl ⟨ea, fun dx hdx ne => ?_⟩⟩
    exact q _ dx (((Keep.refl a H).new hdx).upd) upd_same (by rw [upd_ne ne]; exact upd_same)
theorem ok_BadEnd (T : Tx K mg) : FnOk P w K mg base CX0 1 T.f_BadEnd T.fd_BadEnd ["self", "part"] (spI1 T.C_BadEnd "part") := by
  refine T.F_BadEnd.ok sc_BadEnd (fun vs H Q E h => ?_) (fun cdv A outer s H vs Q E hr h => ?_)
  · obtain ⟨a, x, rfl, _⟩ := h
    rfl
  · obtain ⟨a, x, rfl, ea, fx, q⟩ := h
    refine ⟨_, (pss_cons (ps_expr (pe_einit (B := "ValueError") (newId := "ValueError.__new__") (initId := "ValueError.__init__") (bm := bm_ValueError) (by rfl) T.m_ValueError (by decide +kernel) typ_ValueError (by decide +kernel) T.v_ValueError (by decide +kernel) (pa_cons (pv 0) (pa_cons (pe_joined (.cons pe_str (.cons (pe_fmt (pv 1)) .nil))) pa_nil))))
      (pss_one (ps_oe (B := "ValueError") (newId := "ValueError.__new__") (initId := "ValueError.__init__") (bm := bm_ValueError) (pv 0) (pv 1)))), ?_⟩
    refine ⟨.ref a, rfl, ?_⟩
    show tJs _ _ _ _ _
    refine js_fit (n := 0) (show PcAll _ _ _ from ⟨pc_lit (by decide +kernel), pc_fmt fx rfl, trivial⟩) (by decide) (by decide) fun out => ⟨a, T.C_BadEnd, [.str out], rfl, (by decide : 1 ≤ 1000), T.oe_BadEnd, ea, ?_⟩
    refine ⟨x, rfl, .ref a, rfl, a, T.C_BadEnd, rfl, T.oe_BadEnd, T.n_BadEnd_part, .inl ⟨ea, fun dx hdx ne => ?_⟩⟩
    exact q _ dx (((Keep.refl a H).new hdx).upd) upd_same (by rw [upd_ne ne]; exact upd_same)
theorem ok_BadText (T : Tx K mg) : FnOk P w K mg base CX0 1 T.f_BadText T.fd_BadText ["self", "text"] (spI1 T.C_BadText "text") := by
  refine T.F_BadText.ok sc_BadText (fun vs H Q E h => ?_) (fun cdv A outer s H vs Q E hr h => ?_)
  · obtain ⟨a, x, rfl, _⟩ := h
    rfl
  · obtain ⟨a, x, rfl, ea, fx, q⟩ := h
    refine ⟨_, (pss_cons (ps_expr (pe_einit (B := "ValueError") (newId := "ValueError.__new__") (initId := "ValueError.__init__") (bm := bm_ValueError) (by rfl) T.m_ValueError (by decide +kernel) typ_ValueError (by decide +kernel) T.v_ValueError (by decide +kernel) (pa_cons (pv 0) (pa_cons (pe_joined (.cons pe_str (.cons (pe_fmt (pv 1)) .nil))) pa_nil))))
      (pss_one (ps_oe (B := "ValueError") (newId := "ValueError.__new__") (initId := "ValueError.__init__") (bm := bm_ValueError) (pv 0) (pv 1)))), ?_⟩
    refine ⟨.ref a, rfl, ?_⟩
    show tJs _ _ _ _ _
    refine js_fit (n := 0) (show PcAll _ _ _ from ⟨pc_lit (by decide +kernel), pc_fmt fx rfl, trivial⟩) (by decide) (by decide) fun out => ⟨a, T.C_BadText, [.str out], rfl, (by decide : 1 ≤ 1000), T.oe_BadText, ea, ?_⟩
    refine ⟨x, rfl, .ref a, rfl, a, T.C_BadText, rfl, T.oe_BadText, T.n_BadText_text, .inl ⟨ea, fun dx hdx ne => ?_⟩⟩
    exact q _ dx (((Keep.refl a H).new hdx).upd) upd_same (by rw [upd_ne ne]; exact upd_same)
theorem ok_BadRow (T : Tx K mg) : FnOk P w K mg base CX0 1 T.f_BadRow T.fd_BadRow ["self", "row"] (spI1 T.C_BadRow "row") := by
  refine T.F_BadRow.ok sc_BadRow (fun vs H Q E h => ?_) (fun cdv A outer s H vs Q E hr h => ?_)
  · obtain ⟨a, x, rfl, _⟩ := h
    rfl
  · obtain ⟨a, x, rfl, ea, fx, q⟩ := h
    refine ⟨_, (pss_cons (ps_expr (pe_einit (B := "ValueError") (newId := "ValueError.__new__") (initId := "ValueError.__init__") (bm := bm_ValueError) (by rfl) T.m_ValueError (by decide +kernel) typ_ValueError (by decide +kernel) T.v_ValueError (by decide +kernel) (pa_cons (pv 0) (pa_cons (pe_joined (.cons pe_str (.cons (pe_fmt (pv 1)) (.cons pe_str .nil)))) pa_nil))))
      (pss_one (ps_oe (B := "ValueError") (newId := "ValueError.__new__") (initId := "ValueError.__init__") (bm := bm_ValueError) (pv 0) (pv 1)))), ?_⟩
    refine ⟨.ref a, rfl, ?_⟩
    show tJs _ _ _ _ _
    refine js_fit (n := 0) (show PcAll _ _ _ from ⟨pc_lit (by decide +kernel), pc_fmt fx rfl, pc_lit (by decide +kernel), trivial⟩) (by decide) (by decide) fun out => ⟨a, T.C_BadRow, [.str out], rfl, (by decide : 1 ≤ 1000), T.oe_BadRow, ea, ?_⟩
    refine ⟨x, rfl, .ref a, rfl, a, T.C_BadRow, rfl, T.oe_BadRow, T.n_BadRow_row, .inl ⟨ea, fun dx hdx ne => ?_⟩⟩
    exact q _ dx (((Keep.refl a H).new hdx).upd) upd_same (by rw [upd_ne ne]; exact upd_same)
theorem ok_NoSlip (T : Tx K mg) : FnOk P w K mg base CX0 1 T.f_NoSlip T.fd_NoSlip ["self", "number"] (spI1 T.C_NoSlip "number") := by
  refine T.F_NoSlip.ok sc_NoSlip (fun vs H Q E h => ?_) (fun cdv A outer s H vs Q E hr h => ?_)
  · obtain ⟨a, x, rfl, _⟩ := h
    rfl
  · obtain ⟨a, x, rfl, ea, fx, q⟩ := h
    refine ⟨_, (pss_cons (ps_expr (pe_einit (B := "IndexError") (newId := "IndexError.__new__") (initId := "IndexError.__init__") (bm := bm_IndexError) (by rfl) T.m_IndexError (by decide +kernel) typ_IndexError (by decide +kernel) T.v_IndexError (by decide +kernel) (pa_cons (pv 0) (pa_cons (pe_joined (.cons pe_str (.cons (pe_fmt (pv 1)) (.cons pe_str .nil)))) pa_nil))))
      (pss_one (ps_oe (B := "IndexError") (newId := "IndexError.__new__") (initId := "IndexError.__init__") (bm := bm_IndexError) (pv 0) (pv 1)))), ?_⟩
    refine ⟨.ref a, rfl, ?_⟩
    show tJs _ _ _ _ _
    refine js_fit (n := 0) (show PcAll _ _ _ from ⟨pc_lit (by decide +kernel), pc_fmt fx rfl, pc_lit (by decide +kernel), trivial⟩) (by decide) (by decide) fun out => ⟨a, T.C_NoSlip, [.str out], rfl, (by decide : 1 ≤ 1000), T.oe_NoSlip, ea, ?_⟩
    refine ⟨x, rfl, .ref a, rfl, a, T.C_NoSlip, rfl, T.oe_NoSlip, T.n_NoSlip_number, .inl ⟨ea, fun dx hdx ne => ?_⟩⟩
    exact q _ dx (((Keep.refl a H).new hdx).upd) upd_same (by rw [upd_ne ne]; exact upd_same)
theorem ok_NoByte (T : Tx K mg) : FnOk P w K mg base CX0 1 T.f_NoByte T.fd_NoByte ["self", "at"] (spI1 T.C_NoByte "at") := by
  refine T.F_NoByte.ok sc_NoByte (fun vs H Q E h => ?_) (fun cdv A outer s H vs Q E hr h => ?_)
  · obtain ⟨a, x, rfl, _⟩ := h
    rfl
  · obtain ⟨a, x, rfl, ea, fx, q⟩ := h
    refine ⟨_, (pss_cons (ps_expr (pe_einit (B := "IndexError") (newId := "IndexError.__new__") (initId := "IndexError.__init__") (bm := bm_IndexError) (by rfl) T.m_IndexError (by decide +kernel) typ_IndexError (by decide +kernel) T.v_IndexError (by decide +kernel) (pa_cons (pv 0) (pa_cons (pe_joined (.cons pe_str (.cons (pe_fmt (pv 1)) (.cons pe_str .nil)))) pa_nil))))
      (pss_one (ps_oe (B := "IndexError") (newId := "IndexError.__new__") (initId := "IndexError.__init__") (bm := bm_IndexError) (pv 0) (pv 1)))), ?_⟩
    refine ⟨.ref a, rfl, ?_⟩
    show tJs _ _ _ _ _
    refine js_fit (n := 0) (show PcAll _ _ _ from ⟨pc_lit (by decide +kernel), pc_fmt fx rfl, pc_lit (by decide +kernel), trivial⟩) (by decide) (by decide) fun out => ⟨a, T.C_NoByte, [.str out], rfl, (by decide : 1 ≤ 1000), T.oe_NoByte, ea, ?_⟩
    refine ⟨x, rfl, .ref a, rfl, a, T.C_NoByte, rfl, T.oe_NoByte, T.n_NoByte_at, .inl ⟨ea, fun dx hdx ne => ?_⟩⟩
    exact q _ dx (((Keep.refl a H).new hdx).upd) upd_same (by rw [upd_ne ne]; exact upd_same)
theorem ok_NoDeed (T : Tx K mg) : FnOk P w K mg base CX0 1 T.f_NoDeed T.fd_NoDeed ["self", "many"] (spI1 T.C_NoDeed "many") := by
  refine T.F_NoDeed.ok sc_NoDeed (fun vs H Q E h => ?_) (fun cdv A outer s H vs Q E hr h => ?_)
  · obtain ⟨a, x, rfl, _⟩ := h
    rfl
  · obtain ⟨a, x, rfl, ea, fx, q⟩ := h
    refine ⟨_, (pss_cons (ps_expr (pe_einit (B := "LookupError") (newId := "LookupError.__new__") (initId := "LookupError.__init__") (bm := bm_LookupError) (by rfl) T.m_LookupError (by decide +kernel) typ_LookupError (by decide +kernel) T.v_LookupError (by decide +kernel) (pa_cons (pv 0) (pa_cons (pe_joined (.cons pe_str (.cons (pe_fmt (pv 1)) (.cons pe_str .nil)))) pa_nil))))
      (pss_one (ps_oe (B := "LookupError") (newId := "LookupError.__new__") (initId := "LookupError.__init__") (bm := bm_LookupError) (pv 0) (pv 1)))), ?_⟩
    refine ⟨.ref a, rfl, ?_⟩
    show tJs _ _ _ _ _
    refine js_fit (n := 0) (show PcAll _ _ _ from ⟨pc_lit (by decide +kernel), pc_fmt fx rfl, pc_lit (by decide +kernel), trivial⟩) (by decide) (by decide) fun out => ⟨a, T.C_NoDeed, [.str out], rfl, (by decide : 1 ≤ 1000), T.oe_NoDeed, ea, ?_⟩
    refine ⟨x, rfl, .ref a, rfl, a, T.C_NoDeed, rfl, T.oe_NoDeed, T.n_NoDeed_many, .inl ⟨ea, fun dx hdx ne => ?_⟩⟩
    exact q _ dx (((Keep.refl a H).new hdx).upd) upd_same (by rw [upd_ne ne]; exact upd_same)
theorem ok_Ended (T : Tx K mg) : FnOk P w K mg base CX0 1 T.f_Ended T.fd_Ended ["self", "talk"] (spI1 T.C_Ended "talk") := by
  refine T.F_Ended.ok sc_Ended (fun vs H Q E h => ?_) (fun cdv A outer s H vs Q E hr h => ?_)
  · obtain ⟨a, x, rfl, _⟩ := h
    rfl
  · obtain ⟨a, x, rfl, ea, fx, q⟩ := h
    refine ⟨_, (pss_cons (ps_expr (pe_einit (B := "RuntimeError") (newId := "RuntimeError.__new__") (initId := "RuntimeError.__init__") (bm := bm_RuntimeError) (by rfl) T.m_RuntimeError (by decide +kernel) typ_RuntimeError (by decide +kernel) T.v_RuntimeError (by decide +kernel) (pa_cons (pv 0) (pa_cons (pe_joined (.cons pe_str (.cons (pe_fmt (pv 1)) (.cons pe_str .nil)))) pa_nil))))
      (pss_one (ps_oe (B := "RuntimeError") (newId := "RuntimeError.__new__") (initId := "RuntimeError.__init__") (bm := bm_RuntimeError) (pv 0) (pv 1)))), ?_⟩
    refine ⟨.ref a, rfl, ?_⟩
    show tJs _ _ _ _ _
    refine js_fit (n := 0) (show PcAll _ _ _ from ⟨pc_lit (by decide +kernel), pc_fmt fx rfl, pc_lit (by decide +kernel), trivial⟩) (by decide) (by decide) fun out => ⟨a, T.C_Ended, [.str out], rfl, (by decide : 1 ≤ 1000), T.oe_Ended, ea, ?_⟩
    refine ⟨x, rfl, .ref a, rfl, a, T.C_Ended, rfl, T.oe_Ended, T.n_Ended_talk, .inl ⟨ea, fun dx hdx ne => ?_⟩⟩
    exact q _ dx (((Keep.refl a H).new hdx).upd) upd_same (by rw [upd_ne ne]; exact upd_same)
theorem ok_Fault (T : Tx K mg) : FnOk P w K mg base CX0 1 T.f_Fault T.fd_Fault ["self", "code", "at"] (spI2 T.C_Fault "code" "at") := by
  refine T.F_Fault.ok sc_Fault (fun vs H Q E h => ?_) (fun cdv A outer s H vs Q E hr h => ?_)
  · obtain ⟨a, x, y, rfl, _⟩ := h
    rfl
  · obtain ⟨a, x, y, rfl, ea, fx, fy, q⟩ := h
    refine ⟨_, (pss_cons (ps_expr (pe_einit (B := "ValueError") (newId := "ValueError.__new__") (initId := "ValueError.__init__") (bm := bm_ValueError) (by rfl) T.m_ValueError (by decide +kernel) typ_ValueError (by decide +kernel) T.v_ValueError (by decide +kernel) (pa_cons (pv 0) (pa_cons (pe_joined (.cons pe_str (.cons (pe_fmt (pv 1)) (.cons pe_str (.cons (pe_fmt (pv 2)) .nil))))) pa_nil))))
      (pss_cons (ps_oe (B := "ValueError") (newId := "ValueError.__new__") (initId := "ValueError.__init__") (bm := bm_ValueError) (pv 0) (pv 1))
      (pss_one (ps_oe (B := "ValueError") (newId := "ValueError.__new__") (initId := "ValueError.__init__") (bm := bm_ValueError) (pv 0) (pv 2))))), ?_⟩
    refine ⟨.ref a, rfl, ?_⟩
    show tJs _ _ _ _ _
    refine js_fit (n := 0) (show PcAll _ _ _ from ⟨pc_lit (by decide +kernel), pc_fmt fx rfl, pc_lit (by decide +kernel), pc_fmt fy rfl, trivial⟩) (by decide) (by decide) fun out => ⟨a, T.C_Fault, [.str out], rfl, (by decide : 1 ≤ 1000), T.oe_Fault, ea, ?_⟩
    refine ⟨x, rfl, .ref a, rfl, a, T.C_Fault, rfl, T.oe_Fault, T.n_Fault_code, .inl ⟨ea, fun dx hdx ne => ?_⟩⟩
    have e1 : (upd (upd H dx (exd dx [("code", x)])) a (exo a T.C_Fault (some dx))) a = some (exo a T.C_Fault (some dx)) := upd_same
    have e2 : (upd (upd H dx (exd dx [("code", x)])) a (exo a T.C_Fault (some dx))) dx = some (exd dx [("code", x)]) := by rw [upd_ne ne]; exact upd_same
    have k : Keep a H (upd (upd H dx (exd dx [("code", x)])) a (exo a T.C_Fault (some dx))) := ((Keep.refl a H).new hdx).upd
    refine ⟨y, rfl, .ref a, rfl, a, T.C_Fault, rfl, T.oe_Fault, T.n_Fault_at, .inr ⟨dx, _, e1, e2, (show 1 ≤ 900 by decide), ?_⟩⟩
    refine q _ dx (fun b o hb e => ?_) (by rw [upd_ne (Ne.symm ne)]; exact e1) upd_same
    rw [upd_ne (fun z => by rw [z, hdx] at e; cases e)]
    exact k b o hb e
end
end K5

set_option Elab.async false
set_option linter.all false
set_option maxRecDepth 100000
set_option maxHeartbeats 4000000
namespace K5
open PySem PySem.Spec PyProof.Rows L2
open Cm (Da DaAll)
/-! ### what is asked of things, of exceptions, and what is due -/
def numD : PyData → Bool
  | .int _ => true
  | _ => false
def faultD : PyData → Bool
  | .int i => decide (10 ≤ i) && decide (i ≤ 16)
  | _ => false
/-- the answers of kinds: a class at C, over bm -/
def knd {K : PySem.W.Frag} {mg : Str → Option Value} (T : Tx K mg) (C : Addr) (bm : List Value) : List Bool :=
  [decide (C = T.C_BadSlip), decide (C = T.C_BadLetter), decide (C = T.C_BadEnd)] ++ [decide (C = T.C_BadText), decide (C = T.C_BadRow), decide (C = T.C_Fault)] ++ [decide (C = T.C_NoSlip), decide (C = T.C_NoByte), decide (C = T.C_NoDeed)] ++
    [decide (C = T.C_Ended), bm.contains (.type "ValueError"), bm.contains (.type "IndexError")] ++ [bm.contains (.type "LookupError"), bm.contains (.type "RuntimeError"), bm.contains (.type "KeyError")]
def dueL (k : Int) : List Bool := (List.range 10).map (fun j : Nat => decide (V.int (0 + (j : Int)) = V.int k)) ++ [decide (k < 6), inV (.int k) [.int 6, .int 7], inV (.int k) [.int 6, .int 7, .int 8], decide (V.int k = V.int 9), false]
theorem none_of {H H' : Hp} (s : Same H H') {b : Addr} (h : H' b = none) : H b = none := by
  cases e : H b with
  | none => rfl
  | some o => rw [s _ _ e] at h; cases h
section
variable {P : Program} {w : World} {K : PySem.W.Frag} {mg : Str → Option Value} {base : Heap}
/-- one of a list, drawn -/
def spOf : Sp := fun vs H Q _ => ∃ (p l : Addr) (a b c : Int) (xs : List V), vs = [.ref p, .ref l] ∧ H p = some (.lst [.int a, .int b, .int c]) ∧ 0 ≤ a ∧ 0 ≤ b ∧ b < 2 ^ 62 ∧ 0 ≤ c ∧ c < 2 ^ 40 ∧ l ≠ p ∧ H l = some (.lst xs) ∧ 0 < xs.length ∧ xs.length < 1000 ∧
  ∀ (a' c' : Int) (x : V), 0 ≤ a' → c ≤ c' → c' ≤ c + 1 → x ∈ xs → Q x (upd H p (.lst [.int a', .int b, .int c']))
theorem ok_of (T : Tx K mg) : FnOk P w K mg base CX0 2 T.f_of T.fd_of ["_law_box_here", "_law_some"] spOf := by
  refine T.F_of.ok sc_of (fun vs H Q E h => ?_) (fun cdv A outer s H vs Q E hr h => ?_)
  · obtain ⟨p, l, a, b, c, xs, rfl, _⟩ := h
    rfl
  · obtain ⟨p, l, a, b, c, xs, rfl, hB, a0, b0, b1, c0, c1, npl, hL, l0, l1, q⟩ := h
    refine ⟨_, (pss_one (ps_ret (pe_ix (r := rIxL K) ix_list (pv 1) (pe_call (ok_take T) (hr.mono (by omega)) (by rfl) T.g_take T.F_take.kp T.b_take .nil pass0 (pa_cons (pv 0) (pa_cons (pe_callB call_len_seq (by rfl) T.m_len (by decide +kernel) (pa_cons (pv 1) pa_nil)) pa_nil))) (fun _ _ => rfl)))), ?_⟩
    refine ⟨.ref l, rfl, .ref p, rfl, .ref l, rfl, l, xs, rfl, .inl (sq1 hL), p, a, b, c, _, rfl, hB, a0, b0, b1, c0, c1, by omega, by omega, fun a' c' r a'0 cl cu r0 r1 => ?_⟩
    obtain ⟨j, rfl⟩ := Int.eq_ofNat_of_zero_le r0
    have hj : j < xs.length := by omega
    exact ⟨l, xs, _, xs[j], rfl, rfl, sq1 (by rw [upd_ne npl]; exact hL), atI_nat (List.getElem?_eq_getElem hj), q a' c' _ a'0 cl cu (List.getElem_mem hj)⟩
def spNum : Sp := fun vs H Q _ => ∃ (S : Addr → Prop) (x : V) (d : PyData), vs = [x] ∧ Da S H x d ∧ Q (.bl (numD d)) H
theorem ok_is_number (T : Tx K mg) : FnOk P w K mg base CX0 1 T.f_is_number T.fd_is_number ["thing"] spNum := by
  refine T.F_is_number.ok sc_is_number (fun vs H Q E h => ?_) (fun cdv A outer s H vs Q E hr h => ?_)
  · obtain ⟨S, x, d, rfl, _⟩ := h
    rfl
  · obtain ⟨S, x, d, rfl, hd, q⟩ := h
    obtain ⟨n, bi, bb, bt, ty, k1, k2, k3, e1, e2⟩ := hd.kit (K := K)
    have e1' : (bi && !bb) = numD d := by rw [e1]; cases d <;> rfl
    refine ⟨_, (pss_one (ps_ret (pe_and (pe_callB (r := rIsi K) call_isi (by rfl) T.m_isinstance (by decide +kernel) (pa_cons (pv 0) (pa_cons (pe_bltn (v := .ty "int") (u := .type "int") (by rfl) T.m_int (by decide +kernel) rfl) pa_nil))) (pe_one (pe_not (pe_callB (r := rIsi K) call_isi (by rfl) T.m_isinstance (by decide +kernel) (pa_cons (pv 0) (pa_cons (pe_bltn (v := .ty "bool") (u := .type "bool") (by rfl) T.m_bool (by decide +kernel) rfl) pa_nil)))))))), ?_⟩
    refine ⟨x, rfl, x, _, _, _, bi, rfl, .ty _, ty, k1, bi, rfl, ?_⟩
    cases bi with
    | true =>
      refine ⟨x, rfl, x, _, _, _, bb, rfl, .ty _, ty, k2, bb, rfl, ?_⟩
      rw [← e1'] at q
      exact q
    | false =>
      rw [← e1'] at q
      exact q
def spFault : Sp := fun vs H Q _ => ∃ (S : Addr → Prop) (x : V) (d : PyData), vs = [x] ∧ Da S H x d ∧ Q (.bl (faultD d)) H
theorem ok_is_fault (T : Tx K mg) : FnOk P w K mg base CX0 2 T.f_is_fault T.fd_is_fault ["thing"] spFault := by
  refine T.F_is_fault.ok sc_is_fault (fun vs H Q E h => ?_) (fun cdv A outer s H vs Q E hr h => ?_)
  · obtain ⟨S, x, d, rfl, _⟩ := h
    rfl
  · obtain ⟨S, x, d, rfl, hd, q⟩ := h
    refine ⟨_, (pss_one (ps_ret (pe_and (pe_call (ok_is_number T) (hr.mono (by omega)) (by rfl) T.g_is_number T.F_is_number.kp T.b_is_number .nil pass0 (pa_cons (pv 0) pa_nil)) (pe_one (pe_chain op_le op_le (pe_glob (v := .int 10) (by rfl) T.g_HEAD ⟨_, rfl⟩) (pv 0) (pe_glob (v := .int 16) (by rfl) T.g_END ⟨_, rfl⟩)))))), ?_⟩
    refine ⟨x, rfl, S, x, d, rfl, hd, numD d, rfl, ?_⟩
    cases hd with
    | int i =>
      refine ⟨.int i, rfl, 10, i, rfl, rfl, _, rfl, ite2 (fun e => ?_) (fun e => ?_)⟩
      · refine ⟨i, 16, rfl, rfl, ?_⟩
        have e' : faultD (.int i) = decide (i ≤ 16) := by
          show (decide (10 ≤ i) && decide (i ≤ 16)) = _
          rw [e]
          rfl
        rw [e'] at q
        exact q
      · have e' : faultD (.int i) = false := by
          show (decide (10 ≤ i) && decide (i ≤ 16)) = _
          rw [Bool.eq_false_iff.mpr e]
          rfl
        rw [e'] at q
        exact q
    | non => exact q
    | bl _ => exact q
    | str _ => exact q
    | lst _ _ _ => exact q
    | tup _ _ _ => exact q
/-- which classes an exception stands under -/
def spKinds (T : Tx K mg) : Sp := fun vs H Q _ => ∃ (x : V) (C : Addr) (fs : List (Str × V)) (B newId initId : String) (bm : List Value), vs = [x] ∧ Ex H C fs x ∧ OeC K C B newId initId bm ∧ (∀ D, bm.contains (.ref D) = false) ∧
  ∀ (H' : Hp) (l : Addr), Same H H' → H l = none → H' l = some (.lst ((knd T C bm).map V.bl)) → Q (.ref l) H'
end

section
variable {P : Program} {w : World} {K : PySem.W.Frag} {mg : Str → Option Value} {base : Heap}
theorem ok_kinds (T : Tx K mg) : FnOk P w K mg base CX0 1 T.f_kinds T.fd_kinds ["_law_error"] (spKinds T) := by
  refine T.F_kinds.ok sc_kinds (fun vs H Q E h => ?_) (fun cdv A outer s H vs Q E hr h => ?_)
  · obtain ⟨x, C, fs, B, ni, ii, bm, rfl, _⟩ := h
    rfl
  · obtain ⟨x, C, fs, B, ni, ii, bm, rfl, ⟨a, d, rfl, ea, ed⟩, O, nr, q⟩ := h
    refine ⟨_, (pss_cons (ps_set (i := 1) sc_kinds.nd rfl (.inl rfl) (pe_lst (pa_cons (pe_callB (r := rIsX K) call_isX (by rfl) T.m_isinstance (by decide +kernel) (pa_cons (pv 0) (pa_cons (pe_glob (v := .ref T.C_BadSlip) (by rfl) T.g_BadSlip rfl) pa_nil))) (pa_cons (pe_callB (r := rIsX K) call_isX (by rfl) T.m_isinstance (by decide +kernel) (pa_cons (pv 0) (pa_cons (pe_glob (v := .ref T.C_BadLetter) (by rfl) T.g_BadLetter rfl) pa_nil))) (pa_cons (pe_callB (r := rIsX K) call_isX (by rfl) T.m_isinstance (by decide +kernel) (pa_cons (pv 0) (pa_cons (pe_glob (v := .ref T.C_BadEnd) (by rfl) T.g_BadEnd rfl) pa_nil))) pa_nil)))))
      (pss_cons (ps_set (i := 1) sc_kinds.nd rfl (.inl rfl) (pe_op op_cat (pv 1) (pe_lst (pa_cons (pe_callB (r := rIsX K) call_isX (by rfl) T.m_isinstance (by decide +kernel) (pa_cons (pv 0) (pa_cons (pe_glob (v := .ref T.C_BadText) (by rfl) T.g_BadText rfl) pa_nil))) (pa_cons (pe_callB (r := rIsX K) call_isX (by rfl) T.m_isinstance (by decide +kernel) (pa_cons (pv 0) (pa_cons (pe_glob (v := .ref T.C_BadRow) (by rfl) T.g_BadRow rfl) pa_nil))) (pa_cons (pe_callB (r := rIsX K) call_isX (by rfl) T.m_isinstance (by decide +kernel) (pa_cons (pv 0) (pa_cons (pe_glob (v := .ref T.C_Fault) (by rfl) T.g_Fault rfl) pa_nil))) pa_nil))))))
      (pss_cons (ps_set (i := 1) sc_kinds.nd rfl (.inl rfl) (pe_op op_cat (pv 1) (pe_lst (pa_cons (pe_callB (r := rIsX K) call_isX (by rfl) T.m_isinstance (by decide +kernel) (pa_cons (pv 0) (pa_cons (pe_glob (v := .ref T.C_NoSlip) (by rfl) T.g_NoSlip rfl) pa_nil))) (pa_cons (pe_callB (r := rIsX K) call_isX (by rfl) T.m_isinstance (by decide +kernel) (pa_cons (pv 0) (pa_cons (pe_glob (v := .ref T.C_NoByte) (by rfl) T.g_NoByte rfl) pa_nil))) (pa_cons (pe_callB (r := rIsX K) call_isX (by rfl) T.m_isinstance (by decide +kernel) (pa_cons (pv 0) (pa_cons (pe_glob (v := .ref T.C_NoDeed) (by rfl) T.g_NoDeed rfl) pa_nil))) pa_nil))))))
      (pss_cons (ps_set (i := 1) sc_kinds.nd rfl (.inl rfl) (pe_op op_cat (pv 1) (pe_lst (pa_cons (pe_callB (r := rIsX K) call_isX (by rfl) T.m_isinstance (by decide +kernel) (pa_cons (pv 0) (pa_cons (pe_glob (v := .ref T.C_Ended) (by rfl) T.g_Ended rfl) pa_nil))) (pa_cons (pe_callB (r := rIsX K) call_isX (by rfl) T.m_isinstance (by decide +kernel) (pa_cons (pv 0) (pa_cons (pe_bltn (v := .ty "ValueError") (u := .type "ValueError") (by rfl) T.m_ValueError (by decide +kernel) rfl) pa_nil))) (pa_cons (pe_callB (r := rIsX K) call_isX (by rfl) T.m_isinstance (by decide +kernel) (pa_cons (pv 0) (pa_cons (pe_bltn (v := .ty "IndexError") (u := .type "IndexError") (by rfl) T.m_IndexError (by decide +kernel) rfl) pa_nil))) pa_nil))))))
      (pss_one (ps_ret (pe_op op_cat (pv 1) (pe_lst (pa_cons (pe_callB (r := rIsX K) call_isX (by rfl) T.m_isinstance (by decide +kernel) (pa_cons (pv 0) (pa_cons (pe_bltn (v := .ty "LookupError") (u := .type "LookupError") (by rfl) T.m_LookupError (by decide +kernel) rfl) pa_nil))) (pa_cons (pe_callB (r := rIsX K) call_isX (by rfl) T.m_isinstance (by decide +kernel) (pa_cons (pv 0) (pa_cons (pe_bltn (v := .ty "RuntimeError") (u := .type "RuntimeError") (by rfl) T.m_RuntimeError (by decide +kernel) rfl) pa_nil))) (pa_cons (pe_callB (r := rIsX K) call_isX (by rfl) T.m_isinstance (by decide +kernel) (pa_cons (pv 0) (pa_cons (pe_bltn (v := .ty "KeyError") (u := .type "KeyError") (by rfl) T.m_KeyError (by decide +kernel) rfl) pa_nil))) pa_nil))))))))))), ?_⟩
    have s0 := Same.refl H
    obtain ⟨bBadSlip, hBadSlip, kBadSlip⟩ : ∃ b, b = decide (C = T.C_BadSlip) ∧ PySem.W.kitOne K (.ref C) (.ref T.C_BadSlip) = some b := ⟨_, rfl, oe_own O T.oe_BadSlip (nr _)⟩
    obtain ⟨bBadLetter, hBadLetter, kBadLetter⟩ : ∃ b, b = decide (C = T.C_BadLetter) ∧ PySem.W.kitOne K (.ref C) (.ref T.C_BadLetter) = some b := ⟨_, rfl, oe_own O T.oe_BadLetter (nr _)⟩
    obtain ⟨bBadEnd, hBadEnd, kBadEnd⟩ : ∃ b, b = decide (C = T.C_BadEnd) ∧ PySem.W.kitOne K (.ref C) (.ref T.C_BadEnd) = some b := ⟨_, rfl, oe_own O T.oe_BadEnd (nr _)⟩
    obtain ⟨bBadText, hBadText, kBadText⟩ : ∃ b, b = decide (C = T.C_BadText) ∧ PySem.W.kitOne K (.ref C) (.ref T.C_BadText) = some b := ⟨_, rfl, oe_own O T.oe_BadText (nr _)⟩
    obtain ⟨bBadRow, hBadRow, kBadRow⟩ : ∃ b, b = decide (C = T.C_BadRow) ∧ PySem.W.kitOne K (.ref C) (.ref T.C_BadRow) = some b := ⟨_, rfl, oe_own O T.oe_BadRow (nr _)⟩
    obtain ⟨bFault, hFault, kFault⟩ : ∃ b, b = decide (C = T.C_Fault) ∧ PySem.W.kitOne K (.ref C) (.ref T.C_Fault) = some b := ⟨_, rfl, oe_own O T.oe_Fault (nr _)⟩
    obtain ⟨bNoSlip, hNoSlip, kNoSlip⟩ : ∃ b, b = decide (C = T.C_NoSlip) ∧ PySem.W.kitOne K (.ref C) (.ref T.C_NoSlip) = some b := ⟨_, rfl, oe_own O T.oe_NoSlip (nr _)⟩
    obtain ⟨bNoByte, hNoByte, kNoByte⟩ : ∃ b, b = decide (C = T.C_NoByte) ∧ PySem.W.kitOne K (.ref C) (.ref T.C_NoByte) = some b := ⟨_, rfl, oe_own O T.oe_NoByte (nr _)⟩
    obtain ⟨bNoDeed, hNoDeed, kNoDeed⟩ : ∃ b, b = decide (C = T.C_NoDeed) ∧ PySem.W.kitOne K (.ref C) (.ref T.C_NoDeed) = some b := ⟨_, rfl, oe_own O T.oe_NoDeed (nr _)⟩
    obtain ⟨bEnded, hEnded, kEnded⟩ : ∃ b, b = decide (C = T.C_Ended) ∧ PySem.W.kitOne K (.ref C) (.ref T.C_Ended) = some b := ⟨_, rfl, oe_own O T.oe_Ended (nr _)⟩
    obtain ⟨bValueError, hValueError, kValueError⟩ : ∃ b, b = bm.contains (.type "ValueError") ∧ PySem.W.kitOne K (.ref C) (.type "ValueError") = some b := ⟨_, rfl, oe_blt O (by decide +kernel)⟩
    obtain ⟨bIndexError, hIndexError, kIndexError⟩ : ∃ b, b = bm.contains (.type "IndexError") ∧ PySem.W.kitOne K (.ref C) (.type "IndexError") = some b := ⟨_, rfl, oe_blt O (by decide +kernel)⟩
    obtain ⟨bLookupError, hLookupError, kLookupError⟩ : ∃ b, b = bm.contains (.type "LookupError") ∧ PySem.W.kitOne K (.ref C) (.type "LookupError") = some b := ⟨_, rfl, oe_blt O (by decide +kernel)⟩
    obtain ⟨bRuntimeError, hRuntimeError, kRuntimeError⟩ : ∃ b, b = bm.contains (.type "RuntimeError") ∧ PySem.W.kitOne K (.ref C) (.type "RuntimeError") = some b := ⟨_, rfl, oe_blt O (by decide +kernel)⟩
    obtain ⟨bKeyError, hKeyError, kKeyError⟩ : ∃ b, b = bm.contains (.type "KeyError") ∧ PySem.W.kitOne K (.ref C) (.type "KeyError") = some b := ⟨_, rfl, oe_blt O (by decide +kernel)⟩
    unfold knd at q
    rw [← hBadSlip, ← hBadLetter, ← hBadEnd, ← hBadText, ← hBadRow, ← hFault, ← hNoSlip, ← hNoByte, ← hNoDeed, ← hEnded, ← hValueError, ← hIndexError, ← hLookupError, ← hRuntimeError, ← hKeyError] at q
    refine ⟨.ref a, rfl, a, C, d, fs, _, _, bBadSlip, rfl, s0 _ _ ea, s0 _ _ ed, O.is_, .own _, kBadSlip, .ref a, rfl, a, C, d, fs, _, _, bBadLetter, rfl, s0 _ _ ea, s0 _ _ ed, O.is_, .own _, kBadLetter, .ref a, rfl, a, C, d, fs, _, _, bBadEnd, rfl, s0 _ _ ea, s0 _ _ ed, O.is_, .own _, kBadEnd, by show 3 ≤ sizeLine; decide, fun l1 h1 => ?_⟩
    have s1 : Same H (upd H l1 (.lst [.bl bBadSlip, .bl bBadLetter, .bl bBadEnd])) := Same.new s0 h1
    have e1 : (upd H l1 (.lst [.bl bBadSlip, .bl bBadLetter, .bl bBadEnd])) l1 = some (.lst [.bl bBadSlip, .bl bBadLetter, .bl bBadEnd]) := upd_same
    generalize upd H l1 (.lst [.bl bBadSlip, .bl bBadLetter, .bl bBadEnd]) = H1 at *
    refine ⟨.ref l1, rfl, .ref a, rfl, a, C, d, fs, _, _, bBadText, rfl, s1 _ _ ea, s1 _ _ ed, O.is_, .own _, kBadText, .ref a, rfl, a, C, d, fs, _, _, bBadRow, rfl, s1 _ _ ea, s1 _ _ ed, O.is_, .own _, kBadRow, .ref a, rfl, a, C, d, fs, _, _, bFault, rfl, s1 _ _ ea, s1 _ _ ed, O.is_, .own _, kFault, by show 3 ≤ sizeLine; decide, fun m2 hm2 => ?_⟩
    have t2 : Same H1 (upd H1 m2 (.lst [.bl bBadText, .bl bBadRow, .bl bFault])) := same_upd hm2
    have u2 : (upd H1 m2 (.lst [.bl bBadText, .bl bBadRow, .bl bFault])) m2 = some (.lst [.bl bBadText, .bl bBadRow, .bl bFault]) := upd_same
    refine ⟨l1, m2, _, _, rfl, rfl, t2 _ _ e1, u2, (by show 3 + 3 ≤ sizeLine; decide), fun l2 h2 => ?_⟩
    have v2 : Same H1 (upd (upd H1 m2 (.lst [.bl bBadText, .bl bBadRow, .bl bFault])) l2 (.lst ([.bl bBadSlip, .bl bBadLetter, .bl bBadEnd] ++ [.bl bBadText, .bl bBadRow, .bl bFault]))) := Same.new t2 h2
    have e2 : (upd (upd H1 m2 (.lst [.bl bBadText, .bl bBadRow, .bl bFault])) l2 (.lst ([.bl bBadSlip, .bl bBadLetter, .bl bBadEnd] ++ [.bl bBadText, .bl bBadRow, .bl bFault]))) l2 = some (.lst ([.bl bBadSlip, .bl bBadLetter, .bl bBadEnd] ++ [.bl bBadText, .bl bBadRow, .bl bFault])) := upd_same
    have s2 := s1.trans v2
    have n2 : H l2 = none := none_of (s1.trans t2) h2
    generalize upd (upd H1 m2 (.lst [.bl bBadText, .bl bBadRow, .bl bFault])) l2 (.lst ([.bl bBadSlip, .bl bBadLetter, .bl bBadEnd] ++ [.bl bBadText, .bl bBadRow, .bl bFault])) = H2 at *
    refine ⟨.ref l2, rfl, .ref a, rfl, a, C, d, fs, _, _, bNoSlip, rfl, s2 _ _ ea, s2 _ _ ed, O.is_, .own _, kNoSlip, .ref a, rfl, a, C, d, fs, _, _, bNoByte, rfl, s2 _ _ ea, s2 _ _ ed, O.is_, .own _, kNoByte, .ref a, rfl, a, C, d, fs, _, _, bNoDeed, rfl, s2 _ _ ea, s2 _ _ ed, O.is_, .own _, kNoDeed, by show 3 ≤ sizeLine; decide, fun m3 hm3 => ?_⟩
    have t3 : Same H2 (upd H2 m3 (.lst [.bl bNoSlip, .bl bNoByte, .bl bNoDeed])) := same_upd hm3
    have u3 : (upd H2 m3 (.lst [.bl bNoSlip, .bl bNoByte, .bl bNoDeed])) m3 = some (.lst [.bl bNoSlip, .bl bNoByte, .bl bNoDeed]) := upd_same
    refine ⟨l2, m3, _, _, rfl, rfl, t3 _ _ e2, u3, (by show 6 + 3 ≤ sizeLine; decide), fun l3 h3 => ?_⟩
    have v3 : Same H2 (upd (upd H2 m3 (.lst [.bl bNoSlip, .bl bNoByte, .bl bNoDeed])) l3 (.lst ([.bl bBadSlip, .bl bBadLetter, .bl bBadEnd] ++ [.bl bBadText, .bl bBadRow, .bl bFault] ++ [.bl bNoSlip, .bl bNoByte, .bl bNoDeed]))) := Same.new t3 h3
    have e3 : (upd (upd H2 m3 (.lst [.bl bNoSlip, .bl bNoByte, .bl bNoDeed])) l3 (.lst ([.bl bBadSlip, .bl bBadLetter, .bl bBadEnd] ++ [.bl bBadText, .bl bBadRow, .bl bFault] ++ [.bl bNoSlip, .bl bNoByte, .bl bNoDeed]))) l3 = some (.lst ([.bl bBadSlip, .bl bBadLetter, .bl bBadEnd] ++ [.bl bBadText, .bl bBadRow, .bl bFault] ++ [.bl bNoSlip, .bl bNoByte, .bl bNoDeed])) := upd_same
    have s3 := s2.trans v3
    have n3 : H l3 = none := none_of (s2.trans t3) h3
    generalize upd (upd H2 m3 (.lst [.bl bNoSlip, .bl bNoByte, .bl bNoDeed])) l3 (.lst ([.bl bBadSlip, .bl bBadLetter, .bl bBadEnd] ++ [.bl bBadText, .bl bBadRow, .bl bFault] ++ [.bl bNoSlip, .bl bNoByte, .bl bNoDeed])) = H3 at *
    refine ⟨.ref l3, rfl, .ref a, rfl, a, C, d, fs, _, _, bEnded, rfl, s3 _ _ ea, s3 _ _ ed, O.is_, .own _, kEnded, .ref a, rfl, a, C, d, fs, _, _, bValueError, rfl, s3 _ _ ea, s3 _ _ ed, O.is_, .ty _, kValueError, .ref a, rfl, a, C, d, fs, _, _, bIndexError, rfl, s3 _ _ ea, s3 _ _ ed, O.is_, .ty _, kIndexError, by show 3 ≤ sizeLine; decide, fun m4 hm4 => ?_⟩
    have t4 : Same H3 (upd H3 m4 (.lst [.bl bEnded, .bl bValueError, .bl bIndexError])) := same_upd hm4
    have u4 : (upd H3 m4 (.lst [.bl bEnded, .bl bValueError, .bl bIndexError])) m4 = some (.lst [.bl bEnded, .bl bValueError, .bl bIndexError]) := upd_same
    refine ⟨l3, m4, _, _, rfl, rfl, t4 _ _ e3, u4, (by show 9 + 3 ≤ sizeLine; decide), fun l4 h4 => ?_⟩
    have v4 : Same H3 (upd (upd H3 m4 (.lst [.bl bEnded, .bl bValueError, .bl bIndexError])) l4 (.lst ([.bl bBadSlip, .bl bBadLetter, .bl bBadEnd] ++ [.bl bBadText, .bl bBadRow, .bl bFault] ++ [.bl bNoSlip, .bl bNoByte, .bl bNoDeed] ++ [.bl bEnded, .bl bValueError, .bl bIndexError]))) := Same.new t4 h4
    have e4 : (upd (upd H3 m4 (.lst [.bl bEnded, .bl bValueError, .bl bIndexError])) l4 (.lst ([.bl bBadSlip, .bl bBadLetter, .bl bBadEnd] ++ [.bl bBadText, .bl bBadRow, .bl bFault] ++ [.bl bNoSlip, .bl bNoByte, .bl bNoDeed] ++ [.bl bEnded, .bl bValueError, .bl bIndexError]))) l4 = some (.lst ([.bl bBadSlip, .bl bBadLetter, .bl bBadEnd] ++ [.bl bBadText, .bl bBadRow, .bl bFault] ++ [.bl bNoSlip, .bl bNoByte, .bl bNoDeed] ++ [.bl bEnded, .bl bValueError, .bl bIndexError])) := upd_same
    have s4 := s3.trans v4
    have n4 : H l4 = none := none_of (s3.trans t4) h4
    generalize upd (upd H3 m4 (.lst [.bl bEnded, .bl bValueError, .bl bIndexError])) l4 (.lst ([.bl bBadSlip, .bl bBadLetter, .bl bBadEnd] ++ [.bl bBadText, .bl bBadRow, .bl bFault] ++ [.bl bNoSlip, .bl bNoByte, .bl bNoDeed] ++ [.bl bEnded, .bl bValueError, .bl bIndexError])) = H4 at *
    refine ⟨.ref l4, rfl, .ref a, rfl, a, C, d, fs, _, _, bLookupError, rfl, s4 _ _ ea, s4 _ _ ed, O.is_, .ty _, kLookupError, .ref a, rfl, a, C, d, fs, _, _, bRuntimeError, rfl, s4 _ _ ea, s4 _ _ ed, O.is_, .ty _, kRuntimeError, .ref a, rfl, a, C, d, fs, _, _, bKeyError, rfl, s4 _ _ ea, s4 _ _ ed, O.is_, .ty _, kKeyError, by show 3 ≤ sizeLine; decide, fun m5 hm5 => ?_⟩
    have t5 : Same H4 (upd H4 m5 (.lst [.bl bLookupError, .bl bRuntimeError, .bl bKeyError])) := same_upd hm5
    have u5 : (upd H4 m5 (.lst [.bl bLookupError, .bl bRuntimeError, .bl bKeyError])) m5 = some (.lst [.bl bLookupError, .bl bRuntimeError, .bl bKeyError]) := upd_same
    refine ⟨l4, m5, _, _, rfl, rfl, t5 _ _ e4, u5, (by show 12 + 3 ≤ sizeLine; decide), fun l5 h5 => ?_⟩
    have v5 : Same H4 (upd (upd H4 m5 (.lst [.bl bLookupError, .bl bRuntimeError, .bl bKeyError])) l5 (.lst ([.bl bBadSlip, .bl bBadLetter, .bl bBadEnd] ++ [.bl bBadText, .bl bBadRow, .bl bFault] ++ [.bl bNoSlip, .bl bNoByte, .bl bNoDeed] ++ [.bl bEnded, .bl bValueError, .bl bIndexError] ++ [.bl bLookupError, .bl bRuntimeError, .bl bKeyError]))) := Same.new t5 h5
    have e5 : (upd (upd H4 m5 (.lst [.bl bLookupError, .bl bRuntimeError, .bl bKeyError])) l5 (.lst ([.bl bBadSlip, .bl bBadLetter, .bl bBadEnd] ++ [.bl bBadText, .bl bBadRow, .bl bFault] ++ [.bl bNoSlip, .bl bNoByte, .bl bNoDeed] ++ [.bl bEnded, .bl bValueError, .bl bIndexError] ++ [.bl bLookupError, .bl bRuntimeError, .bl bKeyError]))) l5 = some (.lst ([.bl bBadSlip, .bl bBadLetter, .bl bBadEnd] ++ [.bl bBadText, .bl bBadRow, .bl bFault] ++ [.bl bNoSlip, .bl bNoByte, .bl bNoDeed] ++ [.bl bEnded, .bl bValueError, .bl bIndexError] ++ [.bl bLookupError, .bl bRuntimeError, .bl bKeyError])) := upd_same
    have s5 := s4.trans v5
    have n5 : H l5 = none := none_of (s4.trans t5) h5
    generalize upd (upd H4 m5 (.lst [.bl bLookupError, .bl bRuntimeError, .bl bKeyError])) l5 (.lst ([.bl bBadSlip, .bl bBadLetter, .bl bBadEnd] ++ [.bl bBadText, .bl bBadRow, .bl bFault] ++ [.bl bNoSlip, .bl bNoByte, .bl bNoDeed] ++ [.bl bEnded, .bl bValueError, .bl bIndexError] ++ [.bl bLookupError, .bl bRuntimeError, .bl bKeyError])) = H5 at *
    exact q _ l5 s5 n5 e5
end
end K5

set_option Elab.async false
set_option linter.all false
set_option maxRecDepth 100000
set_option maxHeartbeats 4000000
namespace K5
open PySem PySem.Spec PyProof.Rows L2
section
variable {P : Program} {w : World} {K : PySem.W.Frag} {mg : Str → Option Value} {base : Heap}
def spDue : Sp := fun vs H Q _ => ∃ k : Int, vs = [.int k] ∧ ∀ (H' : Hp) (l : Addr), Same H H' → H l = none → H' l = some (.lst ((dueL k).map V.bl)) → Q (.ref l) H'
theorem ok_due (T : Tx K mg) : FnOk P w K mg base CX0 1 T.f_due T.fd_due ["_law_place"] spDue := by
  refine T.F_due.ok sc_due (fun vs H Q E h => ?_) (fun cdv A outer s H vs Q E hr h => ?_)
  · obtain ⟨k, rfl, _⟩ := h
    rfl
  · obtain ⟨k, rfl, q⟩ := h
    refine ⟨_, (pss_cons (ps_setLc (i := 1) rfl sc_due.nd rfl rfl (sw_true rfl rfl rfl (by decide +kernel)) (own := [("_law_k", 2)]) (g := gName 2) (tt := tYes) (pi_range1 (by rfl) T.m_range (pa_cons pe_int pa_nil)) (blkOk_by (N := ["_law_place", "_law_own", "_law_k"]) (sc := defScope s_due) (by decide +kernel)) (fun _ _ _ _ _ => (pg_name (i := 2) sc_due.nd rfl (.inl rfl))) (fun _ _ _ _ _ => pts_nil) (fun _ _ _ _ _ => (pe_cmpR op_eq (pv 2) (pv 0) (nomark _))))
      (pss_one (ps_ret (pe_op op_cat (pv 1) (pe_lst (pa_cons (pe_cmpR op_lt (pv 0) pe_int (nomark _)) (pa_cons (pe_cmpR op_in_seq (pv 0) (pe_tup (pa_cons pe_int (pa_cons pe_int pa_nil))) rfl) (pa_cons (pe_cmpR op_in_seq (pv 0) (pe_tup (pa_cons pe_int (pa_cons pe_int (pa_cons pe_int pa_nil)))) rfl) (pa_cons (pe_cmpR op_eq (pv 0) pe_int (nomark _)) (pa_cons pe_bl pa_nil)))))))))), ?_⟩
    refine ⟨10, rfl, by decide, by decide, fun D hD => lc_it walk_range (fun i Hc => Same H Hc ∧ Hc D = some (.lst (((List.range i).map (fun j : Nat => decide (V.int (0 + (j : Int)) = V.int k))).map V.bl))) ?_ (fun _ _ _ _ => trivial) ?_ ?_⟩
    · exact ⟨same_upd hD, upd_same⟩
    · rintro i x Hc H' hi ⟨sm, eD⟩ ⟨rfl, rfl⟩
      refine ⟨rfl, ?_⟩
      refine ⟨_, rfl, _, rfl, rfl, _, eD, ?_, ?_, ?_⟩
      · have h10 : i < 10 := hi
        rw [List.length_map, List.length_map, List.length_range, sizeLine_eq]
        omega
      · exact Same.mut sm hD
      · rw [upd_same, List.range_succ, List.map_append, List.map_append]
        rfl
    · rintro Hc ⟨sm, eD⟩
      unfold dueL at q
      have eD : Hc D = some (.lst (((List.range 10).map (fun j : Nat => decide (V.int (0 + (j : Int)) = V.int k))).map V.bl)) := eD
      have lo : ((List.range 10).map (fun j : Nat => decide (V.int (0 + (j : Int)) = V.int k))).length = 10 := by rw [List.length_map, List.length_range]
      generalize (List.range 10).map (fun j : Nat => decide (V.int (0 + (j : Int)) = V.int k)) = own at *
      refine ⟨.ref D, rfl, .int k, rfl, k, 6, rfl, rfl, .int k, rfl, by show 2 ≤ sizeLine; decide, fun p1 hp1 => ?_⟩
      have s1 : Same Hc (upd Hc p1 (.tup [.int 6, .int 7])) := same_upd hp1
      have e1 : (upd Hc p1 (.tup [.int 6, .int 7])) p1 = some (.tup [.int 6, .int 7]) := upd_same
      generalize upd Hc p1 (.tup [.int 6, .int 7]) = H1 at *
      refine ⟨p1, _, rfl, .inr (st1 e1), rfl, rfl, .int k, rfl, by show 3 ≤ sizeLine; decide, fun p2 hp2 => ?_⟩
      have s2 : Same H1 (upd H1 p2 (.tup [.int 6, .int 7, .int 8])) := same_upd hp2
      have e2 : (upd H1 p2 (.tup [.int 6, .int 7, .int 8])) p2 = some (.tup [.int 6, .int 7, .int 8]) := upd_same
      generalize upd H1 p2 (.tup [.int 6, .int 7, .int 8]) = H2 at *
      refine ⟨p2, _, rfl, .inr (st1 e2), rfl, rfl, .int k, rfl, rfl, by show 5 ≤ sizeLine; decide, fun p3 hp3 => ?_⟩
      have s3 := ((sm.trans s1).trans s2)
      refine ⟨D, p3, own.map V.bl, _, rfl, rfl, ?_, upd_same, ?_, fun l hl => ?_⟩
      · exact same_upd hp3 _ _ (s2 _ _ (s1 _ _ eD))
      · rw [List.length_map, lo, sizeLine_eq]
        show 10 + 5 ≤ 16777216
        decide
      · refine q _ l (Same.new (s3.trans (same_upd hp3)) hl) (none_of (s3.trans (same_upd hp3)) hl) ?_
        rw [upd_same, List.map_append]
        rfl
end

section
variable {K : PySem.W.Frag} {mg : Str → Option Value}
theorem knd_BadSlip (T : Tx K mg) : knd T T.C_BadSlip bm_ValueError = dueL 0 := by
  have hBadSlip : T.C_BadSlip < T.C_BadLetter := T.lt_BadSlip
  have hBadLetter : T.C_BadLetter < T.C_BadEnd := T.lt_BadLetter
  have hBadEnd : T.C_BadEnd < T.C_BadText := T.lt_BadEnd
  have hBadText : T.C_BadText < T.C_BadRow := T.lt_BadText
  have hBadRow : T.C_BadRow < T.C_Fault := T.lt_BadRow
  have hFault : T.C_Fault < T.C_NoSlip := T.lt_Fault
  have hNoSlip : T.C_NoSlip < T.C_NoByte := T.lt_NoSlip
  have hNoByte : T.C_NoByte < T.C_NoDeed := T.lt_NoByte
  have hNoDeed : T.C_NoDeed < T.C_Ended := T.lt_NoDeed
  unfold knd
  rw [decide_eq_true (show T.C_BadSlip = T.C_BadSlip from rfl), decide_eq_false (show ¬ T.C_BadSlip = T.C_BadLetter from Nat.ne_of_lt hBadSlip), decide_eq_false (show ¬ T.C_BadSlip = T.C_BadEnd from Nat.ne_of_lt (Nat.lt_trans hBadSlip hBadLetter)), decide_eq_false (show ¬ T.C_BadSlip = T.C_BadText from Nat.ne_of_lt (Nat.lt_trans hBadSlip (Nat.lt_trans hBadLetter hBadEnd))), decide_eq_false (show ¬ T.C_BadSlip = T.C_BadRow from Nat.ne_of_lt (Nat.lt_trans hBadSlip (Nat.lt_trans hBadLetter (Nat.lt_trans hBadEnd hBadText)))), decide_eq_false (show ¬ T.C_BadSlip = T.C_Fault from Nat.ne_of_lt (Nat.lt_trans hBadSlip (Nat.lt_trans hBadLetter (Nat.lt_trans hBadEnd (Nat.lt_trans hBadText hBadRow))))), decide_eq_false (show ¬ T.C_BadSlip = T.C_NoSlip from Nat.ne_of_lt (Nat.lt_trans hBadSlip (Nat.lt_trans hBadLetter (Nat.lt_trans hBadEnd (Nat.lt_trans hBadText (Nat.lt_trans hBadRow hFault)))))), decide_eq_false (show ¬ T.C_BadSlip = T.C_NoByte from Nat.ne_of_lt (Nat.lt_trans hBadSlip (Nat.lt_trans hBadLetter (Nat.lt_trans hBadEnd (Nat.lt_trans hBadText (Nat.lt_trans hBadRow (Nat.lt_trans hFault hNoSlip))))))), decide_eq_false (show ¬ T.C_BadSlip = T.C_NoDeed from Nat.ne_of_lt (Nat.lt_trans hBadSlip (Nat.lt_trans hBadLetter (Nat.lt_trans hBadEnd (Nat.lt_trans hBadText (Nat.lt_trans hBadRow (Nat.lt_trans hFault (Nat.lt_trans hNoSlip hNoByte)))))))), decide_eq_false (show ¬ T.C_BadSlip = T.C_Ended from Nat.ne_of_lt (Nat.lt_trans hBadSlip (Nat.lt_trans hBadLetter (Nat.lt_trans hBadEnd (Nat.lt_trans hBadText (Nat.lt_trans hBadRow (Nat.lt_trans hFault (Nat.lt_trans hNoSlip (Nat.lt_trans hNoByte hNoDeed)))))))))]
  decide +kernel
theorem knd_BadLetter (T : Tx K mg) : knd T T.C_BadLetter bm_ValueError = dueL 1 := by
  have hBadSlip : T.C_BadSlip < T.C_BadLetter := T.lt_BadSlip
  have hBadLetter : T.C_BadLetter < T.C_BadEnd := T.lt_BadLetter
  have hBadEnd : T.C_BadEnd < T.C_BadText := T.lt_BadEnd
  have hBadText : T.C_BadText < T.C_BadRow := T.lt_BadText
  have hBadRow : T.C_BadRow < T.C_Fault := T.lt_BadRow
  have hFault : T.C_Fault < T.C_NoSlip := T.lt_Fault
  have hNoSlip : T.C_NoSlip < T.C_NoByte := T.lt_NoSlip
  have hNoByte : T.C_NoByte < T.C_NoDeed := T.lt_NoByte
  have hNoDeed : T.C_NoDeed < T.C_Ended := T.lt_NoDeed
  unfold knd
  rw [decide_eq_false (show ¬ T.C_BadLetter = T.C_BadSlip from Nat.ne_of_gt hBadSlip), decide_eq_true (show T.C_BadLetter = T.C_BadLetter from rfl), decide_eq_false (show ¬ T.C_BadLetter = T.C_BadEnd from Nat.ne_of_lt hBadLetter), decide_eq_false (show ¬ T.C_BadLetter = T.C_BadText from Nat.ne_of_lt (Nat.lt_trans hBadLetter hBadEnd)), decide_eq_false (show ¬ T.C_BadLetter = T.C_BadRow from Nat.ne_of_lt (Nat.lt_trans hBadLetter (Nat.lt_trans hBadEnd hBadText))), decide_eq_false (show ¬ T.C_BadLetter = T.C_Fault from Nat.ne_of_lt (Nat.lt_trans hBadLetter (Nat.lt_trans hBadEnd (Nat.lt_trans hBadText hBadRow)))), decide_eq_false (show ¬ T.C_BadLetter = T.C_NoSlip from Nat.ne_of_lt (Nat.lt_trans hBadLetter (Nat.lt_trans hBadEnd (Nat.lt_trans hBadText (Nat.lt_trans hBadRow hFault))))), decide_eq_false (show ¬ T.C_BadLetter = T.C_NoByte from Nat.ne_of_lt (Nat.lt_trans hBadLetter (Nat.lt_trans hBadEnd (Nat.lt_trans hBadText (Nat.lt_trans hBadRow (Nat.lt_trans hFault hNoSlip)))))), decide_eq_false (show ¬ T.C_BadLetter = T.C_NoDeed from Nat.ne_of_lt (Nat.lt_trans hBadLetter (Nat.lt_trans hBadEnd (Nat.lt_trans hBadText (Nat.lt_trans hBadRow (Nat.lt_trans hFault (Nat.lt_trans hNoSlip hNoByte))))))), decide_eq_false (show ¬ T.C_BadLetter = T.C_Ended from Nat.ne_of_lt (Nat.lt_trans hBadLetter (Nat.lt_trans hBadEnd (Nat.lt_trans hBadText (Nat.lt_trans hBadRow (Nat.lt_trans hFault (Nat.lt_trans hNoSlip (Nat.lt_trans hNoByte hNoDeed))))))))]
  decide +kernel
theorem knd_BadEnd (T : Tx K mg) : knd T T.C_BadEnd bm_ValueError = dueL 2 := by
  have hBadSlip : T.C_BadSlip < T.C_BadLetter := T.lt_BadSlip
  have hBadLetter : T.C_BadLetter < T.C_BadEnd := T.lt_BadLetter
  have hBadEnd : T.C_BadEnd < T.C_BadText := T.lt_BadEnd
  have hBadText : T.C_BadText < T.C_BadRow := T.lt_BadText
  have hBadRow : T.C_BadRow < T.C_Fault := T.lt_BadRow
  have hFault : T.C_Fault < T.C_NoSlip := T.lt_Fault
  have hNoSlip : T.C_NoSlip < T.C_NoByte := T.lt_NoSlip
  have hNoByte : T.C_NoByte < T.C_NoDeed := T.lt_NoByte
  have hNoDeed : T.C_NoDeed < T.C_Ended := T.lt_NoDeed
  unfold knd
  rw [decide_eq_false (show ¬ T.C_BadEnd = T.C_BadSlip from Nat.ne_of_gt (Nat.lt_trans hBadSlip hBadLetter)), decide_eq_false (show ¬ T.C_BadEnd = T.C_BadLetter from Nat.ne_of_gt hBadLetter), decide_eq_true (show T.C_BadEnd = T.C_BadEnd from rfl), decide_eq_false (show ¬ T.C_BadEnd = T.C_BadText from Nat.ne_of_lt hBadEnd), decide_eq_false (show ¬ T.C_BadEnd = T.C_BadRow from Nat.ne_of_lt (Nat.lt_trans hBadEnd hBadText)), decide_eq_false (show ¬ T.C_BadEnd = T.C_Fault from Nat.ne_of_lt (Nat.lt_trans hBadEnd (Nat.lt_trans hBadText hBadRow))), decide_eq_false (show ¬ T.C_BadEnd = T.C_NoSlip from Nat.ne_of_lt (Nat.lt_trans hBadEnd (Nat.lt_trans hBadText (Nat.lt_trans hBadRow hFault)))), decide_eq_false (show ¬ T.C_BadEnd = T.C_NoByte from Nat.ne_of_lt (Nat.lt_trans hBadEnd (Nat.lt_trans hBadText (Nat.lt_trans hBadRow (Nat.lt_trans hFault hNoSlip))))), decide_eq_false (show ¬ T.C_BadEnd = T.C_NoDeed from Nat.ne_of_lt (Nat.lt_trans hBadEnd (Nat.lt_trans hBadText (Nat.lt_trans hBadRow (Nat.lt_trans hFault (Nat.lt_trans hNoSlip hNoByte)))))), decide_eq_false (show ¬ T.C_BadEnd = T.C_Ended from Nat.ne_of_lt (Nat.lt_trans hBadEnd (Nat.lt_trans hBadText (Nat.lt_trans hBadRow (Nat.lt_trans hFault (Nat.lt_trans hNoSlip (Nat.lt_trans hNoByte hNoDeed)))))))]
  decide +kernel
theorem knd_BadText (T : Tx K mg) : knd T T.C_BadText bm_ValueError = dueL 3 := by
  have hBadSlip : T.C_BadSlip < T.C_BadLetter := T.lt_BadSlip
  have hBadLetter : T.C_BadLetter < T.C_BadEnd := T.lt_BadLetter
  have hBadEnd : T.C_BadEnd < T.C_BadText := T.lt_BadEnd
  have hBadText : T.C_BadText < T.C_BadRow := T.lt_BadText
  have hBadRow : T.C_BadRow < T.C_Fault := T.lt_BadRow
  have hFault : T.C_Fault < T.C_NoSlip := T.lt_Fault
  have hNoSlip : T.C_NoSlip < T.C_NoByte := T.lt_NoSlip
  have hNoByte : T.C_NoByte < T.C_NoDeed := T.lt_NoByte
  have hNoDeed : T.C_NoDeed < T.C_Ended := T.lt_NoDeed
  unfold knd
  rw [decide_eq_false (show ¬ T.C_BadText = T.C_BadSlip from Nat.ne_of_gt (Nat.lt_trans hBadSlip (Nat.lt_trans hBadLetter hBadEnd))), decide_eq_false (show ¬ T.C_BadText = T.C_BadLetter from Nat.ne_of_gt (Nat.lt_trans hBadLetter hBadEnd)), decide_eq_false (show ¬ T.C_BadText = T.C_BadEnd from Nat.ne_of_gt hBadEnd), decide_eq_true (show T.C_BadText = T.C_BadText from rfl), decide_eq_false (show ¬ T.C_BadText = T.C_BadRow from Nat.ne_of_lt hBadText), decide_eq_false (show ¬ T.C_BadText = T.C_Fault from Nat.ne_of_lt (Nat.lt_trans hBadText hBadRow)), decide_eq_false (show ¬ T.C_BadText = T.C_NoSlip from Nat.ne_of_lt (Nat.lt_trans hBadText (Nat.lt_trans hBadRow hFault))), decide_eq_false (show ¬ T.C_BadText = T.C_NoByte from Nat.ne_of_lt (Nat.lt_trans hBadText (Nat.lt_trans hBadRow (Nat.lt_trans hFault hNoSlip)))), decide_eq_false (show ¬ T.C_BadText = T.C_NoDeed from Nat.ne_of_lt (Nat.lt_trans hBadText (Nat.lt_trans hBadRow (Nat.lt_trans hFault (Nat.lt_trans hNoSlip hNoByte))))), decide_eq_false (show ¬ T.C_BadText = T.C_Ended from Nat.ne_of_lt (Nat.lt_trans hBadText (Nat.lt_trans hBadRow (Nat.lt_trans hFault (Nat.lt_trans hNoSlip (Nat.lt_trans hNoByte hNoDeed))))))]
  decide +kernel
theorem knd_BadRow (T : Tx K mg) : knd T T.C_BadRow bm_ValueError = dueL 4 := by
  have hBadSlip : T.C_BadSlip < T.C_BadLetter := T.lt_BadSlip
  have hBadLetter : T.C_BadLetter < T.C_BadEnd := T.lt_BadLetter
  have hBadEnd : T.C_BadEnd < T.C_BadText := T.lt_BadEnd
  have hBadText : T.C_BadText < T.C_BadRow := T.lt_BadText
  have hBadRow : T.C_BadRow < T.C_Fault := T.lt_BadRow
  have hFault : T.C_Fault < T.C_NoSlip := T.lt_Fault
  have hNoSlip : T.C_NoSlip < T.C_NoByte := T.lt_NoSlip
  have hNoByte : T.C_NoByte < T.C_NoDeed := T.lt_NoByte
  have hNoDeed : T.C_NoDeed < T.C_Ended := T.lt_NoDeed
  unfold knd
  rw [decide_eq_false (show ¬ T.C_BadRow = T.C_BadSlip from Nat.ne_of_gt (Nat.lt_trans hBadSlip (Nat.lt_trans hBadLetter (Nat.lt_trans hBadEnd hBadText)))), decide_eq_false (show ¬ T.C_BadRow = T.C_BadLetter from Nat.ne_of_gt (Nat.lt_trans hBadLetter (Nat.lt_trans hBadEnd hBadText))), decide_eq_false (show ¬ T.C_BadRow = T.C_BadEnd from Nat.ne_of_gt (Nat.lt_trans hBadEnd hBadText)), decide_eq_false (show ¬ T.C_BadRow = T.C_BadText from Nat.ne_of_gt hBadText), decide_eq_true (show T.C_BadRow = T.C_BadRow from rfl), decide_eq_false (show ¬ T.C_BadRow = T.C_Fault from Nat.ne_of_lt hBadRow), decide_eq_false (show ¬ T.C_BadRow = T.C_NoSlip from Nat.ne_of_lt (Nat.lt_trans hBadRow hFault)), decide_eq_false (show ¬ T.C_BadRow = T.C_NoByte from Nat.ne_of_lt (Nat.lt_trans hBadRow (Nat.lt_trans hFault hNoSlip))), decide_eq_false (show ¬ T.C_BadRow = T.C_NoDeed from Nat.ne_of_lt (Nat.lt_trans hBadRow (Nat.lt_trans hFault (Nat.lt_trans hNoSlip hNoByte)))), decide_eq_false (show ¬ T.C_BadRow = T.C_Ended from Nat.ne_of_lt (Nat.lt_trans hBadRow (Nat.lt_trans hFault (Nat.lt_trans hNoSlip (Nat.lt_trans hNoByte hNoDeed)))))]
  decide +kernel
theorem knd_Fault (T : Tx K mg) : knd T T.C_Fault bm_ValueError = dueL 5 := by
  have hBadSlip : T.C_BadSlip < T.C_BadLetter := T.lt_BadSlip
  have hBadLetter : T.C_BadLetter < T.C_BadEnd := T.lt_BadLetter
  have hBadEnd : T.C_BadEnd < T.C_BadText := T.lt_BadEnd
  have hBadText : T.C_BadText < T.C_BadRow := T.lt_BadText
  have hBadRow : T.C_BadRow < T.C_Fault := T.lt_BadRow
  have hFault : T.C_Fault < T.C_NoSlip := T.lt_Fault
  have hNoSlip : T.C_NoSlip < T.C_NoByte := T.lt_NoSlip
  have hNoByte : T.C_NoByte < T.C_NoDeed := T.lt_NoByte
  have hNoDeed : T.C_NoDeed < T.C_Ended := T.lt_NoDeed
  unfold knd
  rw [decide_eq_false (show ¬ T.C_Fault = T.C_BadSlip from Nat.ne_of_gt (Nat.lt_trans hBadSlip (Nat.lt_trans hBadLetter (Nat.lt_trans hBadEnd (Nat.lt_trans hBadText hBadRow))))), decide_eq_false (show ¬ T.C_Fault = T.C_BadLetter from Nat.ne_of_gt (Nat.lt_trans hBadLetter (Nat.lt_trans hBadEnd (Nat.lt_trans hBadText hBadRow)))), decide_eq_false (show ¬ T.C_Fault = T.C_BadEnd from Nat.ne_of_gt (Nat.lt_trans hBadEnd (Nat.lt_trans hBadText hBadRow))), decide_eq_false (show ¬ T.C_Fault = T.C_BadText from Nat.ne_of_gt (Nat.lt_trans hBadText hBadRow)), decide_eq_false (show ¬ T.C_Fault = T.C_BadRow from Nat.ne_of_gt hBadRow), decide_eq_true (show T.C_Fault = T.C_Fault from rfl), decide_eq_false (show ¬ T.C_Fault = T.C_NoSlip from Nat.ne_of_lt hFault), decide_eq_false (show ¬ T.C_Fault = T.C_NoByte from Nat.ne_of_lt (Nat.lt_trans hFault hNoSlip)), decide_eq_false (show ¬ T.C_Fault = T.C_NoDeed from Nat.ne_of_lt (Nat.lt_trans hFault (Nat.lt_trans hNoSlip hNoByte))), decide_eq_false (show ¬ T.C_Fault = T.C_Ended from Nat.ne_of_lt (Nat.lt_trans hFault (Nat.lt_trans hNoSlip (Nat.lt_trans hNoByte hNoDeed))))]
  decide +kernel
theorem knd_NoSlip (T : Tx K mg) : knd T T.C_NoSlip bm_IndexError = dueL 6 := by
  have hBadSlip : T.C_BadSlip < T.C_BadLetter := T.lt_BadSlip
  have hBadLetter : T.C_BadLetter < T.C_BadEnd := T.lt_BadLetter
  have hBadEnd : T.C_BadEnd < T.C_BadText := T.lt_BadEnd
  have hBadText : T.C_BadText < T.C_BadRow := T.lt_BadText
  have hBadRow : T.C_BadRow < T.C_Fault := T.lt_BadRow
  have hFault : T.C_Fault < T.C_NoSlip := T.lt_Fault
  have hNoSlip : T.C_NoSlip < T.C_NoByte := T.lt_NoSlip
  have hNoByte : T.C_NoByte < T.C_NoDeed := T.lt_NoByte
  have hNoDeed : T.C_NoDeed < T.C_Ended := T.lt_NoDeed
  unfold knd
  rw [decide_eq_false (show ¬ T.C_NoSlip = T.C_BadSlip from Nat.ne_of_gt (Nat.lt_trans hBadSlip (Nat.lt_trans hBadLetter (Nat.lt_trans hBadEnd (Nat.lt_trans hBadText (Nat.lt_trans hBadRow hFault)))))), decide_eq_false (show ¬ T.C_NoSlip = T.C_BadLetter from Nat.ne_of_gt (Nat.lt_trans hBadLetter (Nat.lt_trans hBadEnd (Nat.lt_trans hBadText (Nat.lt_trans hBadRow hFault))))), decide_eq_false (show ¬ T.C_NoSlip = T.C_BadEnd from Nat.ne_of_gt (Nat.lt_trans hBadEnd (Nat.lt_trans hBadText (Nat.lt_trans hBadRow hFault)))), decide_eq_false (show ¬ T.C_NoSlip = T.C_BadText from Nat.ne_of_gt (Nat.lt_trans hBadText (Nat.lt_trans hBadRow hFault))), decide_eq_false (show ¬ T.C_NoSlip = T.C_BadRow from Nat.ne_of_gt (Nat.lt_trans hBadRow hFault)), decide_eq_false (show ¬ T.C_NoSlip = T.C_Fault from Nat.ne_of_gt hFault), decide_eq_true (show T.C_NoSlip = T.C_NoSlip from rfl), decide_eq_false (show ¬ T.C_NoSlip = T.C_NoByte from Nat.ne_of_lt hNoSlip), decide_eq_false (show ¬ T.C_NoSlip = T.C_NoDeed from Nat.ne_of_lt (Nat.lt_trans hNoSlip hNoByte)), decide_eq_false (show ¬ T.C_NoSlip = T.C_Ended from Nat.ne_of_lt (Nat.lt_trans hNoSlip (Nat.lt_trans hNoByte hNoDeed)))]
  decide +kernel
theorem knd_NoByte (T : Tx K mg) : knd T T.C_NoByte bm_IndexError = dueL 7 := by
  have hBadSlip : T.C_BadSlip < T.C_BadLetter := T.lt_BadSlip
  have hBadLetter : T.C_BadLetter < T.C_BadEnd := T.lt_BadLetter
  have hBadEnd : T.C_BadEnd < T.C_BadText := T.lt_BadEnd
  have hBadText : T.C_BadText < T.C_BadRow := T.lt_BadText
  have hBadRow : T.C_BadRow < T.C_Fault := T.lt_BadRow
  have hFault : T.C_Fault < T.C_NoSlip := T.lt_Fault
  have hNoSlip : T.C_NoSlip < T.C_NoByte := T.lt_NoSlip
  have hNoByte : T.C_NoByte < T.C_NoDeed := T.lt_NoByte
  have hNoDeed : T.C_NoDeed < T.C_Ended := T.lt_NoDeed
  unfold knd
  rw [decide_eq_false (show ¬ T.C_NoByte = T.C_BadSlip from Nat.ne_of_gt (Nat.lt_trans hBadSlip (Nat.lt_trans hBadLetter (Nat.lt_trans hBadEnd (Nat.lt_trans hBadText (Nat.lt_trans hBadRow (Nat.lt_trans hFault hNoSlip))))))), decide_eq_false (show ¬ T.C_NoByte = T.C_BadLetter from Nat.ne_of_gt (Nat.lt_trans hBadLetter (Nat.lt_trans hBadEnd (Nat.lt_trans hBadText (Nat.lt_trans hBadRow (Nat.lt_trans hFault hNoSlip)))))), decide_eq_false (show ¬ T.C_NoByte = T.C_BadEnd from Nat.ne_of_gt (Nat.lt_trans hBadEnd (Nat.lt_trans hBadText (Nat.lt_trans hBadRow (Nat.lt_trans hFault hNoSlip))))), decide_eq_false (show ¬ T.C_NoByte = T.C_BadText from Nat.ne_of_gt (Nat.lt_trans hBadText (Nat.lt_trans hBadRow (Nat.lt_trans hFault hNoSlip)))), decide_eq_false (show ¬ T.C_NoByte = T.C_BadRow from Nat.ne_of_gt (Nat.lt_trans hBadRow (Nat.lt_trans hFault hNoSlip))), decide_eq_false (show ¬ T.C_NoByte = T.C_Fault from Nat.ne_of_gt (Nat.lt_trans hFault hNoSlip)), decide_eq_false (show ¬ T.C_NoByte = T.C_NoSlip from Nat.ne_of_gt hNoSlip), decide_eq_true (show T.C_NoByte = T.C_NoByte from rfl), decide_eq_false (show ¬ T.C_NoByte = T.C_NoDeed from Nat.ne_of_lt hNoByte), decide_eq_false (show ¬ T.C_NoByte = T.C_Ended from Nat.ne_of_lt (Nat.lt_trans hNoByte hNoDeed))]
  decide +kernel
theorem knd_NoDeed (T : Tx K mg) : knd T T.C_NoDeed bm_LookupError = dueL 8 := by
  have hBadSlip : T.C_BadSlip < T.C_BadLetter := T.lt_BadSlip
  have hBadLetter : T.C_BadLetter < T.C_BadEnd := T.lt_BadLetter
  have hBadEnd : T.C_BadEnd < T.C_BadText := T.lt_BadEnd
  have hBadText : T.C_BadText < T.C_BadRow := T.lt_BadText
  have hBadRow : T.C_BadRow < T.C_Fault := T.lt_BadRow
  have hFault : T.C_Fault < T.C_NoSlip := T.lt_Fault
  have hNoSlip : T.C_NoSlip < T.C_NoByte := T.lt_NoSlip
  have hNoByte : T.C_NoByte < T.C_NoDeed := T.lt_NoByte
  have hNoDeed : T.C_NoDeed < T.C_Ended := T.lt_NoDeed
  unfold knd
  rw [decide_eq_false (show ¬ T.C_NoDeed = T.C_BadSlip from Nat.ne_of_gt (Nat.lt_trans hBadSlip (Nat.lt_trans hBadLetter (Nat.lt_trans hBadEnd (Nat.lt_trans hBadText (Nat.lt_trans hBadRow (Nat.lt_trans hFault (Nat.lt_trans hNoSlip hNoByte)))))))), decide_eq_false (show ¬ T.C_NoDeed = T.C_BadLetter from Nat.ne_of_gt (Nat.lt_trans hBadLetter (Nat.lt_trans hBadEnd (Nat.lt_trans hBadText (Nat.lt_trans hBadRow (Nat.lt_trans hFault (Nat.lt_trans hNoSlip hNoByte))))))), decide_eq_false (show ¬ T.C_NoDeed = T.C_BadEnd from Nat.ne_of_gt (Nat.lt_trans hBadEnd (Nat.lt_trans hBadText (Nat.lt_trans hBadRow (Nat.lt_trans hFault (Nat.lt_trans hNoSlip hNoByte)))))), decide_eq_false (show ¬ T.C_NoDeed = T.C_BadText from Nat.ne_of_gt (Nat.lt_trans hBadText (Nat.lt_trans hBadRow (Nat.lt_trans hFault (Nat.lt_trans hNoSlip hNoByte))))), decide_eq_false (show ¬ T.C_NoDeed = T.C_BadRow from Nat.ne_of_gt (Nat.lt_trans hBadRow (Nat.lt_trans hFault (Nat.lt_trans hNoSlip hNoByte)))), decide_eq_false (show ¬ T.C_NoDeed = T.C_Fault from Nat.ne_of_gt (Nat.lt_trans hFault (Nat.lt_trans hNoSlip hNoByte))), decide_eq_false (show ¬ T.C_NoDeed = T.C_NoSlip from Nat.ne_of_gt (Nat.lt_trans hNoSlip hNoByte)), decide_eq_false (show ¬ T.C_NoDeed = T.C_NoByte from Nat.ne_of_gt hNoByte), decide_eq_true (show T.C_NoDeed = T.C_NoDeed from rfl), decide_eq_false (show ¬ T.C_NoDeed = T.C_Ended from Nat.ne_of_lt hNoDeed)]
  decide +kernel
theorem knd_Ended (T : Tx K mg) : knd T T.C_Ended bm_RuntimeError = dueL 9 := by
  have hBadSlip : T.C_BadSlip < T.C_BadLetter := T.lt_BadSlip
  have hBadLetter : T.C_BadLetter < T.C_BadEnd := T.lt_BadLetter
  have hBadEnd : T.C_BadEnd < T.C_BadText := T.lt_BadEnd
  have hBadText : T.C_BadText < T.C_BadRow := T.lt_BadText
  have hBadRow : T.C_BadRow < T.C_Fault := T.lt_BadRow
  have hFault : T.C_Fault < T.C_NoSlip := T.lt_Fault
  have hNoSlip : T.C_NoSlip < T.C_NoByte := T.lt_NoSlip
  have hNoByte : T.C_NoByte < T.C_NoDeed := T.lt_NoByte
  have hNoDeed : T.C_NoDeed < T.C_Ended := T.lt_NoDeed
  unfold knd
  rw [decide_eq_false (show ¬ T.C_Ended = T.C_BadSlip from Nat.ne_of_gt (Nat.lt_trans hBadSlip (Nat.lt_trans hBadLetter (Nat.lt_trans hBadEnd (Nat.lt_trans hBadText (Nat.lt_trans hBadRow (Nat.lt_trans hFault (Nat.lt_trans hNoSlip (Nat.lt_trans hNoByte hNoDeed))))))))), decide_eq_false (show ¬ T.C_Ended = T.C_BadLetter from Nat.ne_of_gt (Nat.lt_trans hBadLetter (Nat.lt_trans hBadEnd (Nat.lt_trans hBadText (Nat.lt_trans hBadRow (Nat.lt_trans hFault (Nat.lt_trans hNoSlip (Nat.lt_trans hNoByte hNoDeed)))))))), decide_eq_false (show ¬ T.C_Ended = T.C_BadEnd from Nat.ne_of_gt (Nat.lt_trans hBadEnd (Nat.lt_trans hBadText (Nat.lt_trans hBadRow (Nat.lt_trans hFault (Nat.lt_trans hNoSlip (Nat.lt_trans hNoByte hNoDeed))))))), decide_eq_false (show ¬ T.C_Ended = T.C_BadText from Nat.ne_of_gt (Nat.lt_trans hBadText (Nat.lt_trans hBadRow (Nat.lt_trans hFault (Nat.lt_trans hNoSlip (Nat.lt_trans hNoByte hNoDeed)))))), decide_eq_false (show ¬ T.C_Ended = T.C_BadRow from Nat.ne_of_gt (Nat.lt_trans hBadRow (Nat.lt_trans hFault (Nat.lt_trans hNoSlip (Nat.lt_trans hNoByte hNoDeed))))), decide_eq_false (show ¬ T.C_Ended = T.C_Fault from Nat.ne_of_gt (Nat.lt_trans hFault (Nat.lt_trans hNoSlip (Nat.lt_trans hNoByte hNoDeed)))), decide_eq_false (show ¬ T.C_Ended = T.C_NoSlip from Nat.ne_of_gt (Nat.lt_trans hNoSlip (Nat.lt_trans hNoByte hNoDeed))), decide_eq_false (show ¬ T.C_Ended = T.C_NoByte from Nat.ne_of_gt (Nat.lt_trans hNoByte hNoDeed)), decide_eq_false (show ¬ T.C_Ended = T.C_NoDeed from Nat.ne_of_gt hNoDeed), decide_eq_true (show T.C_Ended = T.C_Ended from rfl)]
  decide +kernel
end
end K5

set_option Elab.async false
set_option linter.all false
set_option maxRecDepth 100000
set_option maxHeartbeats 4000000
namespace K5
open PySem PySem.Spec PyProof.Rows L2
open Cm (Da DaAll)
theorem get_app {xs : List V} {z y : V} {j : Nat} (h : (xs ++ [z])[j]? = some y) : xs[j]? = some y ∨ (j = xs.length ∧ y = z) := by
  rw [List.getElem?_append] at h
  split at h
  · exact .inl h
  · rename_i hl
    have hj : j - xs.length = 0 := by
      by_cases z0 : j - xs.length = 0
      · exact z0
      · rw [List.getElem?_eq_none (by simp; omega)] at h
        cases h
    rw [hj] at h
    exact .inr ⟨by omega, (Option.some.inj h).symm⟩
theorem Sm.lsts {H : Hp} {n : Nat} {a b : Addr} {xs : List V} (h1 : H a = some (.lst xs)) (h2 : H b = some (.lst xs)) (hl : xs.length ≤ 1000000) (hf : ∀ x ∈ xs, flatV x = true) : Sm H (n + 1) (.ref a) (.ref b) :=
  .inr ⟨a, b, _, _, rfl, rfl, rfl, hl, fun i u v hu hv => by
    rw [hu] at hv
    cases hv
    exact Sm.flat (hf _ (List.mem_of_getElem? hu)), .inl ⟨h1, h2⟩⟩
theorem dpAll_of {K : PySem.W.Frag} {H : Hp} : ∀ {xs : List V} {ds : List PyData}, xs.length = ds.length → (∀ (j : Nat) x d, xs[j]? = some x → ds[j]? = some d → Dp K H x d) → DpAll K H xs ds
  | [], [], _, _ => .nil
  | [], _ :: _, h, _ => by cases h
  | _ :: _, [], h, _ => by cases h
  | x :: xs, d :: ds, h, k => .cons (k 0 x d rfl rfl) (dpAll_of (by simpa using h) fun j y e hy he => k (j + 1) y e hy he)
theorem dp_bls {K : PySem.W.Frag} {H : Hp} : ∀ bs : List Bool, DpAll K H (bs.map V.bl) (bs.map PyData.bool)
  | [] => .nil
  | b :: bs => .cons (.bl b) (dp_bls bs)
def dueRows : PyData := .list ((List.range 10).map fun j : Nat => .list ((dueL (j : Int)).map PyData.bool))
theorem dp_rows {K : PySem.W.Frag} {H : Hp} {D : Addr} {xs : List V} (hD : H D = some (.lst xs)) (hl : xs.length = 10) (h : ∀ (j : Nat) (y : V), xs[j]? = some y → ∃ l : Addr, y = .ref l ∧ H l = some (.lst ((dueL (j : Int)).map V.bl))) : Dp K H (.ref D) dueRows := by
  refine .lst (sq1 hD) (dpAll_of (by rw [hl, List.length_map, List.length_range]) fun j x d hx hd => ?_)
  obtain ⟨l, rfl, e⟩ := h j x hx
  rw [List.getElem?_map] at hd
  obtain ⟨k, hk, rfl⟩ := Option.map_eq_some_iff.mp hd
  have hj : j < 10 := by
    have := (List.getElem?_eq_some_iff.mp hk).1
    rwa [List.length_range] at this
  rw [List.getElem?_range hj] at hk
  cases hk
  exact .lst (sq1 e) (dp_bls _)
theorem rows_shaped : SeqAt.shaped dueRows = true := by decide +kernel
theorem rows_same : PyData.eqv dueRows dueRows = true := by decide +kernel
theorem lk1 {f : Str} {v : V} {r : List (Str × V)} : List.lookup f ((f, v) :: r) = some v := by simp [List.lookup]
theorem lk2 {v u : V} : List.lookup ("code" : Str) [("at", u), ("code", v)] = some v := by
  have e : (("code" : Str) == ("at" : Str)) = false := by decide +kernel
  simp only [List.lookup, e, beq_self_eq_true]
/-- rows of truths so far -/
def Rws (D : Addr) (H : Hp) (xs : List V) : Prop := H D = some (.lst xs) ∧ ∀ (j : Nat) (y : V), xs[j]? = some y → ∃ l : Addr, y = .ref l ∧ l ≠ D ∧ H l = some (.lst ((dueL (j : Int)).map V.bl))
theorem Rws.same {D : Addr} {H H' : Hp} {xs : List V} (h : Rws D H xs) (s : Same H H') : Rws D H' xs := ⟨s _ _ h.1, fun j y e => by
  obtain ⟨l, e1, e2, e3⟩ := h.2 j y e
  exact ⟨l, e1, e2, s _ _ e3⟩⟩
theorem Rws.more {D l : Addr} {H H2 : Hp} {xs : List V} {i : Nat} (h : Rws D H xs) (s : Same H H2) (hl : H l = none) (el : H2 l = some (.lst ((dueL (i : Int)).map V.bl))) (hi : xs.length = i) : Rws D (upd H2 D (.lst (xs ++ [.ref l]))) (xs ++ [.ref l]) := by
  have nl : l ≠ D := fun z => by
    rw [z, h.1] at hl
    cases hl
  refine ⟨upd_same, fun j y e => ?_⟩
  rcases get_app e with e | ⟨rfl, rfl⟩
  · obtain ⟨l', e1, e2, e3⟩ := h.2 j y e
    exact ⟨l', e1, e2, by rw [upd_ne e2]; exact s _ _ e3⟩
  · exact ⟨l, rfl, nl, by rw [upd_ne nl, hi]; exact el⟩

section
variable {P : Program} {w : World} {K : PySem.W.Frag} {mg : Str → Option Value} {base : Heap}
/-- the ten that are made -/
def Made (T : Tx K mg) (H : Hp) (wd : Str) (one two : Int) (es : List V) : Prop := ∃ e0 e1 e2 e3 e4 e5 e6 e7 e8 e9 : V, es = [e0, e1, e2, e3, e4, e5, e6, e7, e8, e9] ∧ Ex H T.C_BadSlip [("part", .str wd)] e0 ∧ Ex H T.C_BadLetter [("part", .str (Str.ofString "data"))] e1 ∧ Ex H T.C_BadEnd [("part", .str (Str.ofString "code"))] e2 ∧ Ex H T.C_BadText [("text", .str wd)] e3 ∧ Ex H T.C_BadRow [("row", .int one)] e4 ∧ Ex H T.C_Fault [("at", .int one), ("code", .int two)] e5 ∧ Ex H T.C_NoSlip [("number", .int one)] e6 ∧ Ex H T.C_NoByte [("at", .int one)] e7 ∧ Ex H T.C_NoDeed [("many", .int one)] e8 ∧ Ex H T.C_Ended [("talk", .int two)] e9
theorem Made.same {T : Tx K mg} {H H' : Hp} {wd : Str} {one two : Int} {es : List V} (m : Made T H wd one two es) (s : Same H H') : Made T H' wd one two es := by
  obtain ⟨e0, e1, e2, e3, e4, e5, e6, e7, e8, e9, rfl, x0, x1, x2, x3, x4, x5, x6, x7, x8, x9⟩ := m
  exact ⟨e0, e1, e2, e3, e4, e5, e6, e7, e8, e9, rfl, x0.same s, x1.same s, x2.same s, x3.same s, x4.same s, x5.same s, x6.same s, x7.same s, x8.same s, x9.same s⟩
theorem Made.len {T : Tx K mg} {H : Hp} {wd : Str} {one two : Int} {es : List V} (m : Made T H wd one two es) : es.length = 10 := by
  obtain ⟨e0, e1, e2, e3, e4, e5, e6, e7, e8, e9, rfl, x0, x1, x2, x3, x4, x5, x6, x7, x8, x9⟩ := m
  rfl
theorem Made.kinds {T : Tx K mg} {H : Hp} {wd : Str} {one two : Int} {es : List V} (m : Made T H wd one two es) {j : Nat} {x : V} (h : es[j]? = some x) :
    ∃ (C : Addr) (fs : List (Str × V)) (B newId initId : String) (bm : List Value), Ex H C fs x ∧ OeC K C B newId initId bm ∧ (∀ D, bm.contains (.ref D) = false) ∧ knd T C bm = dueL (j : Int) := by
  obtain ⟨e0, e1, e2, e3, e4, e5, e6, e7, e8, e9, rfl, x0, x1, x2, x3, x4, x5, x6, x7, x8, x9⟩ := m
  match j, h with
  | 0, h => cases h; exact ⟨_, _, _, _, _, _, x0, T.oe_BadSlip, fun D => by simp, knd_BadSlip T⟩
  | 1, h => cases h; exact ⟨_, _, _, _, _, _, x1, T.oe_BadLetter, fun D => by simp, knd_BadLetter T⟩
  | 2, h => cases h; exact ⟨_, _, _, _, _, _, x2, T.oe_BadEnd, fun D => by simp, knd_BadEnd T⟩
  | 3, h => cases h; exact ⟨_, _, _, _, _, _, x3, T.oe_BadText, fun D => by simp, knd_BadText T⟩
  | 4, h => cases h; exact ⟨_, _, _, _, _, _, x4, T.oe_BadRow, fun D => by simp, knd_BadRow T⟩
  | 5, h => cases h; exact ⟨_, _, _, _, _, _, x5, T.oe_Fault, fun D => by simp, knd_Fault T⟩
  | 6, h => cases h; exact ⟨_, _, _, _, _, _, x6, T.oe_NoSlip, fun D => by simp, knd_NoSlip T⟩
  | 7, h => cases h; exact ⟨_, _, _, _, _, _, x7, T.oe_NoByte, fun D => by simp, knd_NoByte T⟩
  | 8, h => cases h; exact ⟨_, _, _, _, _, _, x8, T.oe_NoDeed, fun D => by simp, knd_NoDeed T⟩
  | 9, h => cases h; exact ⟨_, _, _, _, _, _, x9, T.oe_Ended, fun D => by simp, knd_Ended T⟩
  | j + 10, h => cases h
theorem wds_fm {x : V} (h : x ∈ ([.str (Str.ofString "kind"), .str (Str.ofString "talk"), .str (Str.ofString "data"), .str (Str.ofString "last"), .str (Str.ofString "mask")] : List V)) : ∃ y : Str, x = .str y ∧ y.length ≤ 1000 := by
  simp only [List.mem_cons, List.not_mem_nil, or_false] at h
  rcases h with rfl | rfl | rfl | rfl | rfl <;> exact ⟨_, rfl, by decide +kernel⟩
def spMade : Sp := fun vs H Q _ => ∃ (p : Addr) (a b c : Int), vs = [.ref p] ∧ H p = some (.lst [.int a, .int b, .int c]) ∧ 0 ≤ a ∧ 0 ≤ b ∧ b < 2 ^ 62 ∧ 0 ≤ c ∧ c < 2 ^ 39 ∧
  ∀ (H' : Hp) (a' c' : Int), Keep p H H' → H' p = some (.lst [.int a', .int b, .int c']) → 0 ≤ a' → c ≤ c' → c' ≤ c + 10 → Q (.bl true) H'
theorem ok_made_right (T : Tx K mg) : FnOk P w K mg base CX0 5 T.f_made_right T.fd_made_right ["_law_box_here"] spMade := by
  refine T.F_made_right.ok sc_made_right (fun vs H Q E h => ?_) (fun cdv A outer s H vs Q E hr h => ?_)
  · obtain ⟨p, a, b, c, rfl, _⟩ := h
    rfl
  · obtain ⟨p, a, b, c, rfl, hB, a0_, b0_, b1_, c0, c1, q⟩ := h
    refine ⟨_, (pss_cons (ps_par3 (i := 1) (j := 2) (l := 3) rfl sc_made_right.nd rfl rfl rfl (by decide) (by decide) (by decide) rfl rfl rfl (pa_cons (pe_call (ok_take T) (hr.mono (by omega)) (by rfl) T.g_take T.F_take.kp T.b_take .nil pass0 (pa_cons (pv 0) (pa_cons pe_int pa_nil))) (pa_cons (pe_call (ok_take T) (hr.mono (by omega)) (by rfl) T.g_take T.F_take.kp T.b_take .nil pass0 (pa_cons (pv 0) (pa_cons pe_int pa_nil))) (pa_cons (pe_call (ok_of T) (hr.mono (by omega)) (by rfl) T.g_of T.F_of.kp T.b_of .nil pass0 (pa_cons (pv 0) (pa_cons (pe_lst (pa_cons pe_str (pa_cons pe_str (pa_cons pe_str (pa_cons pe_str (pa_cons pe_str pa_nil)))))) pa_nil))) pa_nil))) rfl)
      (pss_cons (ps_set (i := 4) sc_made_right.nd rfl (.inl rfl) (pe_lst (pa_cons (pe_mkV T.oe_BadSlip T.i_BadSlip T.t_BadSlip (ok_BadSlip T) (hr.mono (by omega)) T.b_BadSlip (by rfl) T.g_BadSlip (pa_cons (pv 3) pa_nil)) (pa_cons (pe_mkV T.oe_BadLetter T.i_BadLetter T.t_BadLetter (ok_BadLetter T) (hr.mono (by omega)) T.b_BadLetter (by rfl) T.g_BadLetter (pa_cons pe_str pa_nil)) (pa_cons (pe_mkV T.oe_BadEnd T.i_BadEnd T.t_BadEnd (ok_BadEnd T) (hr.mono (by omega)) T.b_BadEnd (by rfl) T.g_BadEnd (pa_cons pe_str pa_nil)) (pa_cons (pe_mkV T.oe_BadText T.i_BadText T.t_BadText (ok_BadText T) (hr.mono (by omega)) T.b_BadText (by rfl) T.g_BadText (pa_cons (pv 3) pa_nil)) (pa_cons (pe_mkV T.oe_BadRow T.i_BadRow T.t_BadRow (ok_BadRow T) (hr.mono (by omega)) T.b_BadRow (by rfl) T.g_BadRow (pa_cons (pv 1) pa_nil)) (pa_cons (pe_mkV T.oe_Fault T.i_Fault T.t_Fault (ok_Fault T) (hr.mono (by omega)) T.b_Fault (by rfl) T.g_Fault (pa_cons (pv 2) (pa_cons (pv 1) pa_nil))) pa_nil))))))))
      (pss_cons (ps_set (i := 4) sc_made_right.nd rfl (.inl rfl) (pe_op op_cat (pv 4) (pe_lst (pa_cons (pe_mkV T.oe_NoSlip T.i_NoSlip T.t_NoSlip (ok_NoSlip T) (hr.mono (by omega)) T.b_NoSlip (by rfl) T.g_NoSlip (pa_cons (pv 1) pa_nil)) (pa_cons (pe_mkV T.oe_NoByte T.i_NoByte T.t_NoByte (ok_NoByte T) (hr.mono (by omega)) T.b_NoByte (by rfl) T.g_NoByte (pa_cons (pv 1) pa_nil)) (pa_cons (pe_mkV T.oe_NoDeed T.i_NoDeed T.t_NoDeed (ok_NoDeed T) (hr.mono (by omega)) T.b_NoDeed (by rfl) T.g_NoDeed (pa_cons (pv 1) pa_nil)) (pa_cons (pe_mkV T.oe_Ended T.i_Ended T.t_Ended (ok_Ended T) (hr.mono (by omega)) T.b_Ended (by rfl) T.g_Ended (pa_cons (pv 2) pa_nil)) pa_nil)))))))
      (pss_cons (ps_set (i := 5) sc_made_right.nd rfl (.inl rfl) (pe_lst (pa_cons (pe_mkVK T.oe_BadSlip T.i_BadSlip T.t_BadSlip (ok_BadSlip T) (hr.mono (by omega)) T.kb_BadSlip_part (by rfl) T.g_BadSlip (pk_cons (pv 3) pk_nil)) (pa_cons (pe_mkVK T.oe_BadLetter T.i_BadLetter T.t_BadLetter (ok_BadLetter T) (hr.mono (by omega)) T.kb_BadLetter_part (by rfl) T.g_BadLetter (pk_cons pe_str pk_nil)) (pa_cons (pe_mkVK T.oe_BadEnd T.i_BadEnd T.t_BadEnd (ok_BadEnd T) (hr.mono (by omega)) T.kb_BadEnd_part (by rfl) T.g_BadEnd (pk_cons pe_str pk_nil)) (pa_cons (pe_mkVK T.oe_BadText T.i_BadText T.t_BadText (ok_BadText T) (hr.mono (by omega)) T.kb_BadText_text (by rfl) T.g_BadText (pk_cons (pv 3) pk_nil)) (pa_cons (pe_mkVK T.oe_BadRow T.i_BadRow T.t_BadRow (ok_BadRow T) (hr.mono (by omega)) T.kb_BadRow_row (by rfl) T.g_BadRow (pk_cons (pv 1) pk_nil)) pa_nil)))))))
      (pss_cons (ps_set (i := 5) sc_made_right.nd rfl (.inl rfl) (pe_op op_cat (pv 5) (pe_lst (pa_cons (pe_mkVK T.oe_Fault T.i_Fault T.t_Fault (ok_Fault T) (hr.mono (by omega)) T.kb_Fault_at_code (by rfl) T.g_Fault (pk_cons (pv 1) (pk_cons (pv 2) pk_nil))) (pa_cons (pe_mkVK T.oe_NoSlip T.i_NoSlip T.t_NoSlip (ok_NoSlip T) (hr.mono (by omega)) T.kb_NoSlip_number (by rfl) T.g_NoSlip (pk_cons (pv 1) pk_nil)) (pa_cons (pe_mkVK T.oe_NoByte T.i_NoByte T.t_NoByte (ok_NoByte T) (hr.mono (by omega)) T.kb_NoByte_at (by rfl) T.g_NoByte (pk_cons (pv 1) pk_nil)) (pa_cons (pe_mkVK T.oe_NoDeed T.i_NoDeed T.t_NoDeed (ok_NoDeed T) (hr.mono (by omega)) T.kb_NoDeed_many (by rfl) T.g_NoDeed (pk_cons (pv 1) pk_nil)) (pa_cons (pe_mkVK T.oe_Ended T.i_Ended T.t_Ended (ok_Ended T) (hr.mono (by omega)) T.kb_Ended_talk (by rfl) T.g_Ended (pk_cons (pv 2) pk_nil)) pa_nil))))))))
      (pss_cons (ps_for PassesOwn.never rfl (pi_tup (pe_tup (pa_cons (pv 4) (pa_cons (pv 5) pa_nil)))) (pg_name (i := 6) sc_made_right.nd rfl (.inl rfl)) (pss_cons (ps_set (i := 7) sc_made_right.nd rfl (.inl rfl) (pe_lst (pa_cons (pe_ef (pe_ix (r := rIxL K) ix_list (pv 6) pe_int (fun _ _ => rfl))) (pa_cons (pe_ef (pe_ix (r := rIxL K) ix_list (pv 6) pe_int (fun _ _ => rfl))) (pa_cons (pe_ef (pe_ix (r := rIxL K) ix_list (pv 6) pe_int (fun _ _ => rfl))) (pa_cons (pe_ef (pe_ix (r := rIxL K) ix_list (pv 6) pe_int (fun _ _ => rfl))) (pa_cons (pe_ef (pe_ix (r := rIxL K) ix_list (pv 6) pe_int (fun _ _ => rfl))) (pa_cons (pe_ef (pe_ix (r := rIxL K) ix_list (pv 6) pe_int (fun _ _ => rfl))) (pa_cons (pe_ef (pe_ix (r := rIxL K) ix_list (pv 6) pe_int (fun _ _ => rfl))) pa_nil)))))))))
      (pss_cons (ps_set (i := 7) sc_made_right.nd rfl (.inl rfl) (pe_op op_cat (pv 7) (pe_lst (pa_cons (pe_ef (pe_ix (r := rIxL K) ix_list (pv 6) pe_int (fun _ _ => rfl))) (pa_cons (pe_ef (pe_ix (r := rIxL K) ix_list (pv 6) pe_int (fun _ _ => rfl))) (pa_cons (pe_ef (pe_ix (r := rIxL K) ix_list (pv 6) pe_int (fun _ _ => rfl))) (pa_cons (pe_ef (pe_ix (r := rIxL K) ix_list (pv 6) pe_int (fun _ _ => rfl))) pa_nil)))))))
      (pss_cons (ps_if (pt_not (pt_val (pe_call (ok_same T 2) (hr.mono (by omega)) (by rfl) T.g_same T.F_same.kp T.b_same .nil pass0 (pa_cons (pv 7) (pa_cons (pe_lst (pa_cons (pv 3) (pa_cons pe_str (pa_cons pe_str (pa_cons (pv 3) (pa_cons (pv 1) (pa_cons (pv 2) (pa_cons (pv 1) (pa_cons (pv 1) (pa_cons (pv 1) (pa_cons (pv 1) (pa_cons (pv 2) pa_nil)))))))))))) pa_nil))))) (pss_one (ps_ret pe_bl)) pss_nil)
      (pss_one (ps_if (pt_cmpR (op_neD hr.units) (pe_lc (own := [("_law_error", 8)]) (g := gName 8) (tt := tYes) rfl sc_made_right.nd (pi_list (pv 6)) (blkOk_by (N := ["_law_box_here", "_law_one", "_law_two", "_law_word", "_law_made", "_law_named", "_law_some", "_law_told", "_law_error", "_law_place"]) (sc := defScope s_made_right) (by decide +kernel)) (fun _ _ _ _ _ => (pg_name (i := 8) sc_made_right.nd rfl (.inl rfl))) (fun _ _ _ _ _ => pts_nil) (fun _ _ _ _ _ => (pe_call (ok_kinds T) (hr.mono (by omega)) (by rfl) T.g_kinds T.F_kinds.kp T.b_kinds .nil pass0 (pa_cons (pv 8) pa_nil)))) (pe_lc (own := [("_law_place", 9)]) (g := gName 9) (tt := tYes) rfl sc_made_right.nd (pi_range1 (by rfl) T.m_range (pa_cons pe_int pa_nil)) (blkOk_by (N := ["_law_box_here", "_law_one", "_law_two", "_law_word", "_law_made", "_law_named", "_law_some", "_law_told", "_law_error", "_law_place"]) (sc := defScope s_made_right) (by decide +kernel)) (fun _ _ _ _ _ => (pg_name (i := 9) sc_made_right.nd rfl (.inl rfl))) (fun _ _ _ _ _ => pts_nil) (fun _ _ _ _ _ => (pe_call (ok_due T) (hr.mono (by omega)) (by rfl) T.g_due T.F_due.kp T.b_due .nil pass0 (pa_cons (pv 9) pa_nil)))) (nomark _)) (pss_one (ps_ret pe_bl)) pss_nil))))))
      (pss_one (ps_ret pe_bl)))))))), ?_⟩
    -- one, two, word
    refine ⟨.ref p, rfl, p, a, b, c, 3000, rfl, hB, a0_, b0_, b1_, c0, by omega, by decide, by decide, fun a1_ c1_ one a1p c1l c1u one0 one1 => ?_⟩
    refine ⟨.ref p, rfl, p, a1_, b, c1_, 17, rfl, upd_same, a1p, b0_, b1_, by omega, by omega, by decide, by decide, fun a2_ c2_ two a2p c2l c2u two0 two1 => ?_⟩
    have kA : Keep p H (upd (upd H p (.lst [.int a1_, .int b, .int c1_])) p (.lst [.int a2_, .int b, .int c2_])) := ((Keep.refl p H).upd).upd
    have eA : (upd (upd H p (.lst [.int a1_, .int b, .int c1_])) p (.lst [.int a2_, .int b, .int c2_])) p = some (.lst [.int a2_, .int b, .int c2_]) := upd_same
    generalize upd (upd H p (.lst [.int a1_, .int b, .int c1_])) p (.lst [.int a2_, .int b, .int c2_]) = HA at kA eA ⊢
    refine ⟨.ref p, rfl, by show 5 ≤ sizeLine; decide, fun lw hlw => ?_⟩
    have nlp : lw ≠ p := fun z => by
      rw [z, eA] at hlw
      cases hlw
    refine ⟨p, lw, a2_, b, c2_, _, rfl, (by rw [upd_ne (Ne.symm nlp)]; exact eA), a2p, b0_, b1_, by omega, by omega, nlp, upd_same, (by show 0 < 5; decide), (by show 5 < 1000; decide), fun a3_ c3_ x a3p c3l c3u hx => ?_⟩
    obtain ⟨wd, rfl, wl⟩ := wds_fm hx
    have fw : Fm (.str wd) := .inl ⟨wd, rfl, wl⟩
    have f1 : Fm (.int one) := .inr ⟨one, rfl, one0, by omega⟩
    have f2 : Fm (.int two) := .inr ⟨two, rfl, two0, by omega⟩
    have fdat : Fm (.str (Str.ofString "data")) := .inl ⟨_, rfl, by decide +kernel⟩
    have fcod : Fm (.str (Str.ofString "code")) := .inl ⟨_, rfl, by decide +kernel⟩
    refine ⟨_, _, _, rfl, ?_⟩
    have kB := (kA.new (o := .lst [.str (Str.ofString "kind"), .str (Str.ofString "talk"), .str (Str.ofString "data"), .str (Str.ofString "last"), .str (Str.ofString "mask")]) hlw).upd (o := .lst [.int a3_, .int b, .int c3_])
    have eB : (upd (upd HA lw (.lst [.str (Str.ofString "kind"), .str (Str.ofString "talk"), .str (Str.ofString "data"), .str (Str.ofString "last"), .str (Str.ofString "mask")])) p (.lst [.int a3_, .int b, .int c3_])) p = some (.lst [.int a3_, .int b, .int c3_]) := upd_same
    generalize upd (upd HA lw (.lst [.str (Str.ofString "kind"), .str (Str.ofString "talk"), .str (Str.ofString "data"), .str (Str.ofString "last"), .str (Str.ofString "mask")])) p (.lst [.int a3_, .int b, .int c3_]) = G0 at kB eB ⊢
    refine ⟨.str wd, rfl, (show 1 ≤ 1000 by decide), fun a0 na0 => ⟨a0, _, rfl, upd_same, fw, fun G1 da0 ka0 xa0 ya0 => ⟨rfl, ?_⟩⟩⟩
    have S1 : Same G0 G1 := keep_same na0 ka0
    refine ⟨(show 1 ≤ 1000 by decide), fun a1 na1 => ⟨a1, _, rfl, upd_same, fdat, fun G2 da1 ka1 xa1 ya1 => ⟨rfl, ?_⟩⟩⟩
    have S2 : Same G1 G2 := keep_same na1 ka1
    refine ⟨(show 1 ≤ 1000 by decide), fun a2 na2 => ⟨a2, _, rfl, upd_same, fcod, fun G3 da2 ka2 xa2 ya2 => ⟨rfl, ?_⟩⟩⟩
    have S3 : Same G2 G3 := keep_same na2 ka2
    refine ⟨.str wd, rfl, (show 1 ≤ 1000 by decide), fun a3 na3 => ⟨a3, _, rfl, upd_same, fw, fun G4 da3 ka3 xa3 ya3 => ⟨rfl, ?_⟩⟩⟩
    have S4 : Same G3 G4 := keep_same na3 ka3
    refine ⟨.int one, rfl, (show 1 ≤ 1000 by decide), fun a4 na4 => ⟨a4, _, rfl, upd_same, f1, fun G5 da4 ka4 xa4 ya4 => ⟨rfl, ?_⟩⟩⟩
    have S5 : Same G4 G5 := keep_same na4 ka4
    refine ⟨.int two, rfl, .int one, rfl, (show 2 ≤ 1000 by decide), fun a5 na5 => ⟨a5, .int two, .int one, rfl, upd_same, f2, f1, fun G6 da5 ka5 xa5 ya5 => ⟨rfl, ?_⟩⟩⟩
    have S6 : Same G5 G6 := keep_same na5 ka5
    refine ⟨by show 6 ≤ sizeLine; decide, fun l1 hl1 => ?_⟩
    have S7 : Same G6 (upd G6 l1 (.lst ([.ref a0, .ref a1, .ref a2, .ref a3, .ref a4, .ref a5]))) := same_upd hl1
    have El1 : (upd G6 l1 (.lst ([.ref a0, .ref a1, .ref a2, .ref a3, .ref a4, .ref a5]))) l1 = some (.lst ([.ref a0, .ref a1, .ref a2, .ref a3, .ref a4, .ref a5])) := upd_same
    generalize upd G6 l1 (.lst ([.ref a0, .ref a1, .ref a2, .ref a3, .ref a4, .ref a5])) = G7 at S7 El1 ⊢
    refine ⟨.ref l1, rfl, ?_⟩
    refine ⟨.int one, rfl, (show 1 ≤ 1000 by decide), fun a6 na6 => ⟨a6, _, rfl, upd_same, f1, fun G8 da6 ka6 xa6 ya6 => ⟨rfl, ?_⟩⟩⟩
    have S8 : Same G7 G8 := keep_same na6 ka6
    refine ⟨.int one, rfl, (show 1 ≤ 1000 by decide), fun a7 na7 => ⟨a7, _, rfl, upd_same, f1, fun G9 da7 ka7 xa7 ya7 => ⟨rfl, ?_⟩⟩⟩
    have S9 : Same G8 G9 := keep_same na7 ka7
    refine ⟨.int one, rfl, (show 1 ≤ 1000 by decide), fun a8 na8 => ⟨a8, _, rfl, upd_same, f1, fun G10 da8 ka8 xa8 ya8 => ⟨rfl, ?_⟩⟩⟩
    have S10 : Same G9 G10 := keep_same na8 ka8
    refine ⟨.int two, rfl, (show 1 ≤ 1000 by decide), fun a9 na9 => ⟨a9, _, rfl, upd_same, f2, fun G11 da9 ka9 xa9 ya9 => ⟨rfl, ?_⟩⟩⟩
    have S11 : Same G10 G11 := keep_same na9 ka9
    refine ⟨by show 4 ≤ sizeLine; decide, fun m1 hm1 => ?_⟩
    have S12 : Same G11 (upd G11 m1 (.lst ([.ref a6, .ref a7, .ref a8, .ref a9]))) := same_upd hm1
    have Em1 : (upd G11 m1 (.lst ([.ref a6, .ref a7, .ref a8, .ref a9]))) m1 = some (.lst ([.ref a6, .ref a7, .ref a8, .ref a9])) := upd_same
    generalize upd G11 m1 (.lst ([.ref a6, .ref a7, .ref a8, .ref a9])) = G12 at S12 Em1 ⊢
    have Cl1 : Same G7 G12 := S8.trans (S9.trans (S10.trans (S11.trans (S12))))
    refine ⟨l1, m1, _, _, rfl, rfl, Cl1 _ _ El1, Em1, (by show 6 + 4 ≤ sizeLine; decide), fun l2 hl2 => ?_⟩
    have S13 : Same G12 (upd G12 l2 (.lst ([.ref a0, .ref a1, .ref a2, .ref a3, .ref a4, .ref a5] ++ [.ref a6, .ref a7, .ref a8, .ref a9]))) := same_upd hl2
    have El2 : (upd G12 l2 (.lst ([.ref a0, .ref a1, .ref a2, .ref a3, .ref a4, .ref a5] ++ [.ref a6, .ref a7, .ref a8, .ref a9]))) l2 = some (.lst ([.ref a0, .ref a1, .ref a2, .ref a3, .ref a4, .ref a5] ++ [.ref a6, .ref a7, .ref a8, .ref a9])) := upd_same
    generalize upd G12 l2 (.lst ([.ref a0, .ref a1, .ref a2, .ref a3, .ref a4, .ref a5] ++ [.ref a6, .ref a7, .ref a8, .ref a9])) = G13 at S13 El2 ⊢
    refine ⟨.str wd, rfl, rfl, fun b0 nb0 => ⟨b0, _, rfl, upd_same, fw, fun G14 db0 kb0 xb0 yb0 => ⟨rfl, ?_⟩⟩⟩
    have S14 : Same G13 G14 := keep_same nb0 kb0
    refine ⟨rfl, fun b1 nb1 => ⟨b1, _, rfl, upd_same, fdat, fun G15 db1 kb1 xb1 yb1 => ⟨rfl, ?_⟩⟩⟩
    have S15 : Same G14 G15 := keep_same nb1 kb1
    refine ⟨rfl, fun b2 nb2 => ⟨b2, _, rfl, upd_same, fcod, fun G16 db2 kb2 xb2 yb2 => ⟨rfl, ?_⟩⟩⟩
    have S16 : Same G15 G16 := keep_same nb2 kb2
    refine ⟨.str wd, rfl, rfl, fun b3 nb3 => ⟨b3, _, rfl, upd_same, fw, fun G17 db3 kb3 xb3 yb3 => ⟨rfl, ?_⟩⟩⟩
    have S17 : Same G16 G17 := keep_same nb3 kb3
    refine ⟨.int one, rfl, rfl, fun b4 nb4 => ⟨b4, _, rfl, upd_same, f1, fun G18 db4 kb4 xb4 yb4 => ⟨rfl, ?_⟩⟩⟩
    have S18 : Same G17 G18 := keep_same nb4 kb4
    refine ⟨by show 5 ≤ sizeLine; decide, fun l3 hl3 => ?_⟩
    have S19 : Same G18 (upd G18 l3 (.lst ([.ref b0, .ref b1, .ref b2, .ref b3, .ref b4]))) := same_upd hl3
    have El3 : (upd G18 l3 (.lst ([.ref b0, .ref b1, .ref b2, .ref b3, .ref b4]))) l3 = some (.lst ([.ref b0, .ref b1, .ref b2, .ref b3, .ref b4])) := upd_same
    generalize upd G18 l3 (.lst ([.ref b0, .ref b1, .ref b2, .ref b3, .ref b4])) = G19 at S19 El3 ⊢
    refine ⟨.ref l3, rfl, ?_⟩
    refine ⟨.int one, rfl, .int two, rfl, rfl, fun b5 nb5 => ⟨b5, .int two, .int one, rfl, upd_same, f2, f1, fun G20 db5 kb5 xb5 yb5 => ⟨rfl, ?_⟩⟩⟩
    have S20 : Same G19 G20 := keep_same nb5 kb5
    refine ⟨.int one, rfl, rfl, fun b6 nb6 => ⟨b6, _, rfl, upd_same, f1, fun G21 db6 kb6 xb6 yb6 => ⟨rfl, ?_⟩⟩⟩
    have S21 : Same G20 G21 := keep_same nb6 kb6
    refine ⟨.int one, rfl, rfl, fun b7 nb7 => ⟨b7, _, rfl, upd_same, f1, fun G22 db7 kb7 xb7 yb7 => ⟨rfl, ?_⟩⟩⟩
    have S22 : Same G21 G22 := keep_same nb7 kb7
    refine ⟨.int one, rfl, rfl, fun b8 nb8 => ⟨b8, _, rfl, upd_same, f1, fun G23 db8 kb8 xb8 yb8 => ⟨rfl, ?_⟩⟩⟩
    have S23 : Same G22 G23 := keep_same nb8 kb8
    refine ⟨.int two, rfl, rfl, fun b9 nb9 => ⟨b9, _, rfl, upd_same, f2, fun G24 db9 kb9 xb9 yb9 => ⟨rfl, ?_⟩⟩⟩
    have S24 : Same G23 G24 := keep_same nb9 kb9
    refine ⟨by show 5 ≤ sizeLine; decide, fun m2 hm2 => ?_⟩
    have S25 : Same G24 (upd G24 m2 (.lst ([.ref b5, .ref b6, .ref b7, .ref b8, .ref b9]))) := same_upd hm2
    have Em2 : (upd G24 m2 (.lst ([.ref b5, .ref b6, .ref b7, .ref b8, .ref b9]))) m2 = some (.lst ([.ref b5, .ref b6, .ref b7, .ref b8, .ref b9])) := upd_same
    generalize upd G24 m2 (.lst ([.ref b5, .ref b6, .ref b7, .ref b8, .ref b9])) = G25 at S25 Em2 ⊢
    have Cl3 : Same G19 G25 := S20.trans (S21.trans (S22.trans (S23.trans (S24.trans (S25)))))
    refine ⟨l3, m2, _, _, rfl, rfl, Cl3 _ _ El3, Em2, (by show 5 + 5 ≤ sizeLine; decide), fun l4 hl4 => ?_⟩
    have S26 : Same G25 (upd G25 l4 (.lst ([.ref b0, .ref b1, .ref b2, .ref b3, .ref b4] ++ [.ref b5, .ref b6, .ref b7, .ref b8, .ref b9]))) := same_upd hl4
    have El4 : (upd G25 l4 (.lst ([.ref b0, .ref b1, .ref b2, .ref b3, .ref b4] ++ [.ref b5, .ref b6, .ref b7, .ref b8, .ref b9]))) l4 = some (.lst ([.ref b0, .ref b1, .ref b2, .ref b3, .ref b4] ++ [.ref b5, .ref b6, .ref b7, .ref b8, .ref b9])) := upd_same
    generalize upd G25 l4 (.lst ([.ref b0, .ref b1, .ref b2, .ref b3, .ref b4] ++ [.ref b5, .ref b6, .ref b7, .ref b8, .ref b9])) = G26 at S26 El4 ⊢
    refine ⟨.ref l2, rfl, .ref l4, rfl, by show 2 ≤ sizeLine; decide, fun tp htp => ?_⟩
    have S27 : Same G26 (upd G26 tp (.tup [.ref l2, .ref l4])) := same_upd htp
    have Etp : (upd G26 tp (.tup [.ref l2, .ref l4])) tp = some (.tup [.ref l2, .ref l4]) := upd_same
    generalize upd G26 tp (.tup [.ref l2, .ref l4]) = G27 at S27 Etp ⊢
    have R27 : Same G27 G27 := Same.refl _
    have R26 : Same G26 G27 := S27.trans R27
    have R25 : Same G25 G27 := S26.trans R26
    have R24 : Same G24 G27 := S25.trans R25
    have R23 : Same G23 G27 := S24.trans R24
    have R22 : Same G22 G27 := S23.trans R23
    have R21 : Same G21 G27 := S22.trans R22
    have R20 : Same G20 G27 := S21.trans R21
    have R19 : Same G19 G27 := S20.trans R20
    have R18 : Same G18 G27 := S19.trans R19
    have R17 : Same G17 G27 := S18.trans R18
    have R16 : Same G16 G27 := S17.trans R17
    have R15 : Same G15 G27 := S16.trans R16
    have R14 : Same G14 G27 := S15.trans R15
    have R13 : Same G13 G27 := S14.trans R14
    have R12 : Same G12 G27 := S13.trans R13
    have R11 : Same G11 G27 := S12.trans R12
    have R10 : Same G10 G27 := S11.trans R11
    have R9 : Same G9 G27 := S10.trans R10
    have R8 : Same G8 G27 := S9.trans R9
    have R7 : Same G7 G27 := S8.trans R8
    have R6 : Same G6 G27 := S7.trans R7
    have R5 : Same G5 G27 := S6.trans R6
    have R4 : Same G4 G27 := S5.trans R5
    have R3 : Same G3 G27 := S4.trans R4
    have R2 : Same G2 G27 := S3.trans R3
    have R1 : Same G1 G27 := S2.trans R2
    have R0 : Same G0 G27 := S1.trans R1
    have M1 : Made T G27 wd one two [.ref a0, .ref a1, .ref a2, .ref a3, .ref a4, .ref a5, .ref a6, .ref a7, .ref a8, .ref a9] := ⟨.ref a0, .ref a1, .ref a2, .ref a3, .ref a4, .ref a5, .ref a6, .ref a7, .ref a8, .ref a9, rfl, ⟨a0, da0, rfl, R1 _ _ xa0, R1 _ _ ya0⟩, ⟨a1, da1, rfl, R2 _ _ xa1, R2 _ _ ya1⟩, ⟨a2, da2, rfl, R3 _ _ xa2, R3 _ _ ya2⟩, ⟨a3, da3, rfl, R4 _ _ xa3, R4 _ _ ya3⟩, ⟨a4, da4, rfl, R5 _ _ xa4, R5 _ _ ya4⟩, ⟨a5, da5, rfl, R6 _ _ xa5, R6 _ _ ya5⟩, ⟨a6, da6, rfl, R8 _ _ xa6, R8 _ _ ya6⟩, ⟨a7, da7, rfl, R9 _ _ xa7, R9 _ _ ya7⟩, ⟨a8, da8, rfl, R10 _ _ xa8, R10 _ _ ya8⟩, ⟨a9, da9, rfl, R11 _ _ xa9, R11 _ _ ya9⟩⟩
    have M2 : Made T G27 wd one two [.ref b0, .ref b1, .ref b2, .ref b3, .ref b4, .ref b5, .ref b6, .ref b7, .ref b8, .ref b9] := ⟨.ref b0, .ref b1, .ref b2, .ref b3, .ref b4, .ref b5, .ref b6, .ref b7, .ref b8, .ref b9, rfl, ⟨b0, db0, rfl, R14 _ _ xb0, R14 _ _ yb0⟩, ⟨b1, db1, rfl, R15 _ _ xb1, R15 _ _ yb1⟩, ⟨b2, db2, rfl, R16 _ _ xb2, R16 _ _ yb2⟩, ⟨b3, db3, rfl, R17 _ _ xb3, R17 _ _ yb3⟩, ⟨b4, db4, rfl, R18 _ _ xb4, R18 _ _ yb4⟩, ⟨b5, db5, rfl, R20 _ _ xb5, R20 _ _ yb5⟩, ⟨b6, db6, rfl, R21 _ _ xb6, R21 _ _ yb6⟩, ⟨b7, db7, rfl, R22 _ _ xb7, R22 _ _ yb7⟩, ⟨b8, db8, rfl, R23 _ _ xb8, R23 _ _ yb8⟩, ⟨b9, db9, rfl, R24 _ _ xb9, R24 _ _ yb9⟩⟩
    have L2 : G27 l2 = some (.lst [.ref a0, .ref a1, .ref a2, .ref a3, .ref a4, .ref a5, .ref a6, .ref a7, .ref a8, .ref a9]) := R13 _ _ El2
    have L4 : G27 l4 = some (.lst [.ref b0, .ref b1, .ref b2, .ref b3, .ref b4, .ref b5, .ref b6, .ref b7, .ref b8, .ref b9]) := R26 _ _ El4
    have Pr : ∀ (j : Nat) (x : V), ([.ref l2, .ref l4] : List V)[j]? = some x → ∃ (L : Addr) (es : List V), x = .ref L ∧ G27 L = some (.lst es) ∧ Made T G27 wd one two es := fun j x h => match j, h with
      | 0, h => (by cases h; exact ⟨l2, _, rfl, L2, M1⟩)
      | 1, h => (by cases h; exact ⟨l4, _, rfl, L4, M2⟩)
      | j + 2, h => (by cases h)
    -- for some in (made, named)
    refine ⟨tp, rfl, ⟨_, st1 Etp⟩, ?_⟩
    refine for_it (walk_tup (xs := [.ref l2, .ref l4])) (fun _ σ Hc => ∃ (y6 y7 y8 y9 : Option V), σ = [some (.ref p), some (.int one), some (.int two), some (.str wd), some (.ref l2), some (.ref l4), y6, y7, y8, y9] ∧ Same G27 Hc) ?_ ?_ ?_ ?_
    · exact ⟨_, _, _, _, rfl, Same.refl _⟩
    · rintro k σ Hc hk ⟨y6, y7, y8, y9, rfl, sc⟩
      exact st1 (sc _ _ Etp)
    · rintro j x σ Hc H' hj ⟨y6, y7, y8, y9, rfl, sc⟩ ⟨rfl, hx'⟩
      obtain ⟨L, es, rfl, eL, m⟩ := Pr j x hx'
      clear Pr M1 M2 L2 L4
      have eLc := sc _ _ eL
      have mc := m.same sc
      have mk := mc
      obtain ⟨q0, q1, q2, q3, q4, q5, q6, q7, q8, q9, rfl, ⟨p0, d0, rfl, u0, v0⟩, ⟨p1, d1, rfl, u1, v1⟩, ⟨p2, d2, rfl, u2, v2⟩, ⟨p3, d3, rfl, u3, v3⟩, ⟨p4, d4, rfl, u4, v4⟩, ⟨p5, d5, rfl, u5, v5⟩, ⟨p6, d6, rfl, u6, v6⟩, ⟨p7, d7, rfl, u7, v7⟩, ⟨p8, d8, rfl, u8, v8⟩, ⟨p9, d9, rfl, u9, v9⟩⟩ := mc
      refine ⟨.ref L, rfl, L, _, 0, _, rfl, rfl, sq1 eLc, rfl, p0, T.C_BadSlip, d0, _, _, rfl, u0, v0, T.oe_BadSlip.is_, T.n_BadSlip_part, lk1, .ref L, rfl, L, _, 1, _, rfl, rfl, sq1 eLc, rfl, p1, T.C_BadLetter, d1, _, _, rfl, u1, v1, T.oe_BadLetter.is_, T.n_BadLetter_part, lk1, .ref L, rfl, L, _, 2, _, rfl, rfl, sq1 eLc, rfl, p2, T.C_BadEnd, d2, _, _, rfl, u2, v2, T.oe_BadEnd.is_, T.n_BadEnd_part, lk1, .ref L, rfl, L, _, 3, _, rfl, rfl, sq1 eLc, rfl, p3, T.C_BadText, d3, _, _, rfl, u3, v3, T.oe_BadText.is_, T.n_BadText_text, lk1, .ref L, rfl, L, _, 4, _, rfl, rfl, sq1 eLc, rfl, p4, T.C_BadRow, d4, _, _, rfl, u4, v4, T.oe_BadRow.is_, T.n_BadRow_row, lk1, .ref L, rfl, L, _, 5, _, rfl, rfl, sq1 eLc, rfl, p5, T.C_Fault, d5, _, _, rfl, u5, v5, T.oe_Fault.is_, T.n_Fault_code, lk2, .ref L, rfl, L, _, 5, _, rfl, rfl, sq1 eLc, rfl, p5, T.C_Fault, d5, _, _, rfl, u5, v5, T.oe_Fault.is_, T.n_Fault_at, lk1, by show 7 ≤ sizeLine; decide, fun t1 ht1 => ?_⟩
      have s1 : Same H' (upd H' t1 (.lst [.str wd, .str (Str.ofString "data"), .str (Str.ofString "code"), .str wd, .int one, .int two, .int one])) := same_upd ht1
      have e1 : (upd H' t1 (.lst [.str wd, .str (Str.ofString "data"), .str (Str.ofString "code"), .str wd, .int one, .int two, .int one])) t1 = some (.lst [.str wd, .str (Str.ofString "data"), .str (Str.ofString "code"), .str wd, .int one, .int two, .int one]) := upd_same
      generalize upd H' t1 (.lst [.str wd, .str (Str.ofString "data"), .str (Str.ofString "code"), .str wd, .int one, .int two, .int one]) = H1 at s1 e1 ⊢
      refine ⟨.ref t1, rfl, .ref L, rfl, L, _, 6, _, rfl, rfl, sq1 (s1 _ _ eLc), rfl, p6, T.C_NoSlip, d6, _, _, rfl, (s1 _ _ u6), (s1 _ _ v6), T.oe_NoSlip.is_, T.n_NoSlip_number, lk1, .ref L, rfl, L, _, 7, _, rfl, rfl, sq1 (s1 _ _ eLc), rfl, p7, T.C_NoByte, d7, _, _, rfl, (s1 _ _ u7), (s1 _ _ v7), T.oe_NoByte.is_, T.n_NoByte_at, lk1, .ref L, rfl, L, _, 8, _, rfl, rfl, sq1 (s1 _ _ eLc), rfl, p8, T.C_NoDeed, d8, _, _, rfl, (s1 _ _ u8), (s1 _ _ v8), T.oe_NoDeed.is_, T.n_NoDeed_many, lk1, .ref L, rfl, L, _, 9, _, rfl, rfl, sq1 (s1 _ _ eLc), rfl, p9, T.C_Ended, d9, _, _, rfl, (s1 _ _ u9), (s1 _ _ v9), T.oe_Ended.is_, T.n_Ended_talk, lk1, by show 4 ≤ sizeLine; decide, fun t2 ht2 => ?_⟩
      have s2 : Same H1 (upd H1 t2 (.lst [.int one, .int one, .int one, .int two])) := same_upd ht2
      have e2 : (upd H1 t2 (.lst [.int one, .int one, .int one, .int two])) t2 = some (.lst [.int one, .int one, .int one, .int two]) := upd_same
      generalize upd H1 t2 (.lst [.int one, .int one, .int one, .int two]) = H2 at s2 e2 ⊢
      refine ⟨t1, t2, _, _, rfl, rfl, s2 _ _ e1, e2, (by show 7 + 4 ≤ sizeLine; decide), fun t3 ht3 => ?_⟩
      have s3 : Same H2 (upd H2 t3 (.lst ([.str wd, .str (Str.ofString "data"), .str (Str.ofString "code"), .str wd, .int one, .int two, .int one] ++ [.int one, .int one, .int one, .int two]))) := same_upd ht3
      have e3 : (upd H2 t3 (.lst ([.str wd, .str (Str.ofString "data"), .str (Str.ofString "code"), .str wd, .int one, .int two, .int one] ++ [.int one, .int one, .int one, .int two]))) t3 = some (.lst [.str wd, .str (Str.ofString "data"), .str (Str.ofString "code"), .str wd, .int one, .int two, .int one, .int one, .int one, .int one, .int two]) := upd_same
      generalize upd H2 t3 (.lst ([.str wd, .str (Str.ofString "data"), .str (Str.ofString "code"), .str wd, .int one, .int two, .int one] ++ [.int one, .int one, .int one, .int two])) = H3 at s3 e3 ⊢
      refine ⟨.ref t3, rfl, .str wd, rfl, .str wd, rfl, .int one, rfl, .int two, rfl, .int one, rfl, .int one, rfl, .int one, rfl, .int one, rfl, .int two, rfl, by show 11 ≤ sizeLine; decide, fun t4 ht4 => ?_⟩
      refine ⟨.ref t3, .ref t4, rfl, Sm.lsts (same_upd ht4 _ _ e3) upd_same (by show 11 ≤ 1000000; decide) (fun x hx => by
        simp only [List.mem_cons, List.not_mem_nil, or_false] at hx
        rcases hx with rfl | rfl | rfl | rfl | rfl | rfl | rfl | rfl | rfl | rfl | rfl <;> rfl), fun H5 s5 => ?_⟩
      have s4 : Same H' H5 := ((s1.trans s2).trans s3).trans ((same_upd ht4).trans s5)
      refine ⟨true, rfl, ?_⟩
      have eL5 := s4 _ _ eLc
      have m5 := mk.same s4
      have tk : Same G27 H5 := sc.trans s4
      clear u0 v0 u1 v1 u2 v2 u3 v3 u4 v4 u5 v5 u6 v6 u7 v7 u8 v8 u9 v9
      -- [kinds(error) for error in some] != [due(place) for place in range(10)]
      refine ⟨.ref L, rfl, L, rfl, ⟨_, sq1 eL5⟩, fun D hD => lc_it (walk_list (xs := [.ref p0, .ref p1, .ref p2, .ref p3, .ref p4, .ref p5, .ref p6, .ref p7, .ref p8, .ref p9])) (fun i Hx => ∃ xs : List V, Same H5 Hx ∧ Rws D Hx xs ∧ xs.length = i) ?_ ?_ ?_ ?_⟩
      · exact ⟨[], same_upd hD, ⟨upd_same, fun j y e => by simp at e⟩, rfl⟩
      · rintro i Hx hi ⟨xs, sx, _, _⟩
        exact sq1 (sx _ _ eL5)
      · rintro i x Hx H6 hi ⟨xs, sx, rws, xl⟩ ⟨rfl, hx6⟩
        have hi' : i < 10 := hi
        refine ⟨rfl, ?_⟩
        obtain ⟨C, fs, B, ni, ii, bm, ex, O, nr, kd⟩ := (m5.same sx).kinds hx6
        refine ⟨x, rfl, x, C, fs, B, ni, ii, bm, rfl, ex, O, nr, fun H7 l s7 hl el => ?_⟩
        rw [kd] at el
        exact ⟨xs, s7 _ _ rws.1, (by rw [xl, sizeLine_eq]; omega), xs ++ [.ref l], Same.mut (sx.trans s7) hD, rws.more s7 hl el xl, by rw [List.length_append, xl]; rfl⟩
      · rintro Hx ⟨xs, sx, rws, xl⟩
        refine ⟨10, rfl, by decide, by decide, fun D2 hD2 => lc_it walk_range (fun i Hy => ∃ ys : List V, Same Hx Hy ∧ Rws D2 Hy ys ∧ ys.length = i) ?_ (fun _ _ _ _ => trivial) ?_ ?_⟩
        · exact ⟨[], same_upd hD2, ⟨upd_same, fun j y e => by simp at e⟩, rfl⟩
        · rintro i x Hy H6 hi ⟨ys, sy, rw2, yl⟩ ⟨rfl, rfl⟩
          have hi' : i < 10 := hi
          refine ⟨rfl, ?_⟩
          refine ⟨_, rfl, 0 + (i : Int), rfl, fun H7 l s7 hl el => ?_⟩
          rw [Int.zero_add] at el
          exact ⟨ys, s7 _ _ rw2.1, (by rw [yl, sizeLine_eq]; omega), ys ++ [.ref l], Same.mut (sy.trans s7) hD2, rw2.more s7 hl el yl, by rw [List.length_append, yl]; rfl⟩
        · rintro Hy ⟨ys, sy, rw2, yl⟩
          have rw1 := rws.same sy
          refine ⟨dueRows, dueRows, dp_rows rw1.1 xl (fun j y e => ?_), dp_rows rw2.1 yl (fun j y e => ?_), rows_shaped, rows_shaped, ?_⟩
          · obtain ⟨l, h1, _, h3⟩ := rw1.2 j y e
            exact ⟨l, h1, h3⟩
          · obtain ⟨l, h1, _, h3⟩ := rw2.2 j y e
            exact ⟨l, h1, h3⟩
          rw [rows_same]
          refine ⟨_, rfl, ?_⟩
          exact ⟨_, _, _, _, rfl, (tk.trans sx).trans sy⟩
    · rintro σ Hc ⟨y6, y7, y8, y9, rfl, sc⟩
      have sz := R0.trans sc
      exact q _ a3_ c3_ (fun b o hb e => sz _ _ (kB b o hb e)) (sz _ _ eB) a3p (by omega) (by omega)

end
end K5

set_option Elab.async false
set_option linter.all false
set_option maxRecDepth 100000
set_option maxHeartbeats 4000000
namespace K5
open PySem PySem.Spec PyProof.Rows L2
open Cm (Da DaAll)
section
variable {P : Program} {w : World} {K : PySem.W.Frag} {mg : Str → Option Value} {base : Heap}
theorem rg_ints : rgV 0 200 = ((List.range 200).map fun i : Nat => (0 : Int) + i).map V.int := by
  unfold rgV
  rw [List.map_map]
  rfl
def spLaw (K : PySem.W.Frag) : Sp := fun vs H Q _ => ∃ (a : Addr) (ns : List Int), vs = [.ref a] ∧ SqL K H a (ns.map V.int) ∧ ns.length ≤ 63 ∧ ∀ H', Q (.bl true) H'
theorem ok_law {f : Addr} {fd : FuncData} (T : Tx K mg) (F : Fun K "law" "law" s_law f fd) : FnOk P w K mg base CX0 6 f fd ["_law_script"] (spLaw K) := by
  refine F.ok sc_law (fun vs H Q E h => ?_) (fun cdv A outer s H vs Q E hr h => ?_)
  · obtain ⟨a, ns, rfl, _⟩ := h
    rfl
  · obtain ⟨a, scr, rfl, hS, hlen, q⟩ := h
    refine ⟨_, (pss_cons (ps_set (i := 1) sc_law.nd rfl (.inl rfl) (pe_lst (pa_cons (pe_glob (v := .int 10) (by rfl) T.g_HEAD ⟨_, rfl⟩) (pa_cons (pe_glob (v := .int 11) (by rfl) T.g_TALK ⟨_, rfl⟩) (pa_cons (pe_glob (v := .int 12) (by rfl) T.g_SIZE ⟨_, rfl⟩) (pa_cons (pe_glob (v := .int 13) (by rfl) T.g_ORDER ⟨_, rfl⟩) (pa_cons (pe_glob (v := .int 14) (by rfl) T.g_SIGNS ⟨_, rfl⟩) (pa_cons (pe_glob (v := .int 15) (by rfl) T.g_GREAT ⟨_, rfl⟩) (pa_cons (pe_glob (v := .int 16) (by rfl) T.g_END ⟨_, rfl⟩) (pa_cons (pe_glob (v := .int 1) (by rfl) T.g_DONE ⟨_, rfl⟩) (pa_cons (pe_glob (v := .int 4096) (by rfl) T.g_MOST ⟨_, rfl⟩) (pa_cons (pe_glob (v := .int 100) (by rfl) T.g_EVERY ⟨_, rfl⟩) pa_nil))))))))))))
      (pss_cons (ps_if (pt_not (pt_val (pe_call (ok_same T 2) (hr.mono (by omega)) (by rfl) T.g_same T.F_same.kp T.b_same .nil pass0 (pa_cons (pv 1) (pa_cons (pe_lst (pa_cons pe_int (pa_cons pe_int (pa_cons pe_int (pa_cons pe_int (pa_cons pe_int (pa_cons pe_int (pa_cons pe_int (pa_cons pe_int (pa_cons pe_int (pa_cons pe_int pa_nil))))))))))) pa_nil))))) (pss_one (ps_ret pe_bl)) pss_nil)
      (pss_cons (ps_for PassesOwn.never rfl (pi_range1 (by rfl) T.m_range (pa_cons (pe_op op_add pe_int (pe_callB (call_min2 rfl) (by rfl) T.m_min (by decide +kernel) (pa_cons pe_int (pa_cons (pe_callB call_len_seq (by rfl) T.m_len (by decide +kernel) (pa_cons (pv 0) pa_nil)) pa_nil)))) pa_nil)) (pg_name (i := 2) sc_law.nd rfl (.inl rfl)) (pss_cons (ps_set (i := 3) sc_law.nd rfl (.inl rfl) (pe_call (ok_box T) (hr.mono (by omega)) (by rfl) T.g_box T.F_box.kp T.b_box .nil pass0 (pa_cons (pv 0) (pa_cons (pv 2) pa_nil))))
      (pss_cons (ps_if (pt_not (pt_val (pe_call (ok_made_right T) (hr.mono (by omega)) (by rfl) T.g_made_right T.F_made_right.kp T.b_made_right .nil pass0 (pa_cons (pv 3) pa_nil)))) (pss_one (ps_ret pe_bl)) pss_nil)
      (pss_cons (ps_set (i := 4) sc_law.nd rfl (.inl rfl) (pe_op op_cat (pe_listRg rfl (by rfl) T.m_list (prg_2 (by rfl) T.m_range pe_int pe_int)) (pe_lst (pa_cons (pe_un un_neg pe_int) (pa_cons (pe_un un_neg pe_int) (pa_cons (pe_call (ok_take T) (hr.mono (by omega)) (by rfl) T.g_take T.F_take.kp T.b_take .nil pass0 (pa_cons (pv 3) (pa_cons (pe_op op_pow pe_int pe_int) pa_nil))) (pa_cons (pe_op op_pow pe_int pe_int) pa_nil)))))))
      (pss_cons (ps_for PassesOwn.never rfl (pi_list (pv 4)) (pg_name (i := 5) sc_law.nd rfl (.inl rfl)) (pss_cons (ps_set (i := 6) sc_law.nd rfl (.inl rfl) (pe_call (ok_is_fault T) (hr.mono (by omega)) (by rfl) T.g_is_fault T.F_is_fault.kp T.b_is_fault .nil pass0 (pa_cons (pv 5) pa_nil)))
      (pss_one (ps_if (pw_or (pt_not (pt_val (pe_callB (r := rIsi K) call_isi (by rfl) T.m_isinstance (by decide +kernel) (pa_cons (pv 6) (pa_cons (pe_bltn (v := .ty "bool") (u := .type "bool") (by rfl) T.m_bool (by decide +kernel) rfl) pa_nil))))) (pw_or1 (pt_cmpR op_ne (pv 6) (pe_chain op_le op_lt pe_int (pv 5) pe_int) (nomark _)))).pt (pss_one (ps_ret pe_bl)) pss_nil))))
      (pss_one (ps_if (pt_val (pe_callB (cr_any rfl) (by rfl) T.m_any (by decide +kernel) (pa_cons (pe_lc (own := [("_law_one", 7)]) (g := gName 7) (tt := tYes) rfl sc_law.nd (pi_tup (pe_tup (pa_cons pe_non (pa_cons pe_bl (pa_cons pe_bl (pa_cons pe_str (pa_cons pe_str (pa_cons (pe_lst (pa_cons pe_int pa_nil)) (pa_cons (pe_tup (pa_cons pe_int pa_nil)) (pa_cons (pe_lst pa_nil) (pa_cons (pe_tup pa_nil) pa_nil))))))))))) (blkOk_by (N := ["_law_script", "_law_told", "_law_k", "_law_box_here", "_law_some", "_law_thing_now", "_law_found", "_law_one"]) (sc := defScope s_law) (by decide +kernel)) (fun _ _ _ _ _ => (pg_name (i := 7) sc_law.nd rfl (.inl rfl))) (fun _ _ _ _ _ => pts_nil) (fun _ _ _ _ _ => (pe_cmpR op_notBl (pe_call (ok_is_fault T) (hr.mono (by omega)) (by rfl) T.g_is_fault T.F_is_fault.kp T.b_is_fault .nil pass0 (pa_cons (pv 7) pa_nil)) pe_bl (nomark _)))) pa_nil))) (pss_one (ps_ret pe_bl)) pss_nil)))))))
      (pss_one (ps_ret pe_bl))))), ?_⟩
    refine ⟨by show 10 ≤ sizeLine; decide, fun t1 ht1 => ?_⟩
    have s1 : Same H (upd H t1 (.lst [.int 10, .int 11, .int 12, .int 13, .int 14, .int 15, .int 16, .int 1, .int 4096, .int 100])) := same_upd ht1
    have e1 : (upd H t1 (.lst [.int 10, .int 11, .int 12, .int 13, .int 14, .int 15, .int 16, .int 1, .int 4096, .int 100])) t1 = some (.lst [.int 10, .int 11, .int 12, .int 13, .int 14, .int 15, .int 16, .int 1, .int 4096, .int 100]) := upd_same
    generalize upd H t1 (.lst [.int 10, .int 11, .int 12, .int 13, .int 14, .int 15, .int 16, .int 1, .int 4096, .int 100]) = H1 at s1 e1 ⊢
    refine ⟨.ref t1, rfl, by show 10 ≤ sizeLine; decide, fun t2 ht2 => ?_⟩
    refine ⟨.ref t1, .ref t2, rfl, Sm.lsts (same_upd ht2 _ _ e1) upd_same (by show 10 ≤ 1000000; decide) (fun x hx => by
        simp only [List.mem_cons, List.not_mem_nil, or_false] at hx
        rcases hx with rfl | rfl | rfl | rfl | rfl | rfl | rfl | rfl | rfl | rfl <;> rfl), fun H2 s2 => ?_⟩
    refine ⟨true, rfl, ?_⟩
    have s02 : Same H H2 := s1.trans ((same_upd ht2).trans s2)
    have hS2 := s02.seq hS
    clear s1 e1 s2
    -- for k in range(1 + min(3, len(script)))
    refine ⟨.ref a, rfl, a, _, rfl, .inl hS2, _, _, rfl, 1, _, rfl, rfl, _, rfl, ?_, ?_, ?_⟩
    · split <;> omega
    · split <;> omega
    refine for_it walk_range (fun i σ Hc => ∃ (y2 y3 y4 y5 y6 y7 : Option V), σ = [some (.ref a), some (.ref t1), y2, y3, y4, y5, y6, y7] ∧ Same H2 Hc) ⟨none, none, none, none, none, none, rfl, Same.refl H2⟩ (fun _ _ _ _ _ => trivial) ?_ ?_
    · rintro i x σ Hc H' hi ⟨y2, y3, y4, y5, y6, y7, rfl, sm⟩ ⟨rfl, rfl⟩
      have hi4 : i ≤ 4 := by
        have : i < (1 + (if ((scr.map V.int).length : Int) < 3 then ((scr.map V.int).length : Int) else 3)).toNat := hi
        split at this <;> omega
      refine ⟨.ref a, rfl, .int (0 + (i : Int)), rfl, a, scr, _, rfl, sm.seq hS2, by omega, by omega, fun p x y hp x0 y0 y1 => ?_⟩
      have hHp : H2 p = none := Same.free sm hp
      -- if not made_right(box)
      refine ⟨.ref p, rfl, p, x, y, 0, rfl, upd_same, x0, y0, y1, by decide, by decide, fun H3 a3 c3 k3 e3 a30 cl3 cu3 => ?_⟩
      have s3 : Same H2 H3 := Same.keep (sm.trans (same_upd hp)) k3 hHp
      refine ⟨true, rfl, ?_⟩
      -- some = list(range(0, 200)) + [-1, -10, take(box, 10 ** 9), 2 ** 24]
      refine ⟨0, 200, rfl, rfl, RgOk.of_le (by decide) (by decide) (by decide) (by decide), fun r hr => ?_⟩
      rw [rg_ints]
      have lr : ((List.range 200).map fun i : Nat => (0 : Int) + i).length = 200 := by rw [List.length_map, List.length_range]
      generalize ((List.range 200).map fun i : Nat => (0 : Int) + i) = rs at lr ⊢
      have s4 : Same H3 (upd H3 r (.lst (rs.map V.int))) := same_upd hr
      have er : (upd H3 r (.lst (rs.map V.int))) r = some (.lst (rs.map V.int)) := upd_same
      have nrp : r ≠ p := fun z => by
        rw [z, e3] at hr
        cases hr
      generalize upd H3 r (.lst (rs.map V.int)) = H4 at s4 er ⊢
      refine ⟨1, rfl, 10, rfl, .ref p, rfl, 10, 9, rfl, rfl, ⟨by decide, by decide, by decide⟩, p, a3, y, c3, _, rfl, s4 _ _ e3, a30, y0, y1, by omega, by omega, by decide, by decide, fun a4 c4 z a40 cl4 cu4 z0 z1 => ?_⟩
      have s5 : Same H2 (upd H4 p (.lst [.int a4, .int y, .int c4])) := Same.mut (s3.trans s4) hHp
      have er5 : (upd H4 p (.lst [.int a4, .int y, .int c4])) r = some (.lst (rs.map V.int)) := by rw [upd_ne nrp]; exact er
      generalize upd H4 p (.lst [.int a4, .int y, .int c4]) = H5 at s5 er5 ⊢
      refine ⟨2, 24, rfl, rfl, ⟨by decide, by decide, by decide⟩, by show 4 ≤ sizeLine; decide, fun l hl => ?_⟩
      have e6 : (upd H5 l (.lst [.int (-1), .int (-10), .int z, .int (2 ^ (24 : Int).toNat)])) l = some (.lst (([-1, -10, z, 2 ^ (24 : Int).toNat] : List Int).map V.int)) := upd_same
      have s6 : Same H5 (upd H5 l (.lst [.int (-1), .int (-10), .int z, .int (2 ^ (24 : Int).toNat)])) := same_upd hl
      refine ⟨r, l, rs.map V.int, ([-1, -10, z, 2 ^ (24 : Int).toNat] : List Int).map V.int, rfl, rfl, s6 _ _ er5, e6, (by rw [List.length_map, lr]; show 200 + 4 ≤ sizeLine; decide), fun M hM => ?_⟩
      rw [← List.map_append]
      have lns : (rs ++ [-1, -10, z, 2 ^ (24 : Int).toNat]).length = 204 := by rw [List.length_append, lr]; rfl
      generalize (rs ++ [-1, -10, z, 2 ^ (24 : Int).toNat]) = ns at lns ⊢
      have s7 : Same H2 (upd (upd H5 l (.lst [.int (-1), .int (-10), .int z, .int (2 ^ (24 : Int).toNat)])) M (.lst (ns.map V.int))) := Same.new (s5.trans s6) hM
      have eM : (upd (upd H5 l (.lst [.int (-1), .int (-10), .int z, .int (2 ^ (24 : Int).toNat)])) M (.lst (ns.map V.int))) M = some (.lst (ns.map V.int)) := upd_same
      generalize (upd (upd H5 l (.lst [.int (-1), .int (-10), .int z, .int (2 ^ (24 : Int).toNat)])) M (.lst (ns.map V.int))) = H7 at s7 eM ⊢
      -- for thing in some
      refine ⟨.ref M, rfl, M, rfl, ⟨_, sq1 eM⟩, ?_⟩
      refine for_it (walk_list (xs := ns.map V.int)) (fun _ σ Hd => ∃ (z5 z6 z7 : Option V), σ = [some (.ref a), some (.ref t1), some (.int (0 + (i : Int))), some (.ref p), some (.ref M), z5, z6, z7] ∧ Same H7 Hd) ?_ ?_ ?_ ?_
      · exact ⟨_, _, _, rfl, Same.refl H7⟩
      · rintro k σ Hd hk ⟨z5, z6, z7, rfl, sd⟩
        exact sq1 (sd _ _ eM)
      · rintro k v σ Hd H' hk ⟨z5, z6, z7, rfl, sd⟩ ⟨rfl, hv⟩
        rw [List.getElem?_map] at hv
        obtain ⟨n, _, rfl⟩ := Option.map_eq_some_iff.mp hv
        refine ⟨.int n, rfl, (fun _ => False), .int n, .int n, rfl, .int n, ?_⟩
        refine ⟨.bl (faultD (.int n)), rfl, .bl (faultD (.int n)), _, _, _, true, rfl, .ty _, .base (.bl _), kit_ty (by decide +kernel), _, rfl, ?_⟩
        refine ⟨.bl (faultD (.int n)), rfl, .int n, rfl, 10, n, rfl, rfl, _, rfl, ite2 (fun e => ?_) (fun e => ?_)⟩
        · refine ⟨n, 17, rfl, rfl, rfl, _, rfl, ?_⟩
          have e' : faultD (.int n) = decide (n < 17) := by
            show (decide (10 ≤ n) && decide (n ≤ 16)) = _
            rw [e, Bool.true_and]
            exact decide_eq_decide.mpr (by omega)
          rw [e', decide_eq_true rfl]
          exact ⟨_, _, _, rfl, sd⟩
        · refine ⟨rfl, _, rfl, ?_⟩
          have e' : faultD (.int n) = false := by
            show (decide (10 ≤ n) && decide (n ≤ 16)) = _
            rw [Bool.eq_false_iff.mpr e]
            rfl
          rw [e', decide_eq_true rfl]
          exact ⟨_, _, _, rfl, sd⟩
      · rintro σ Hd ⟨z5, z6, z7, rfl, sd⟩
        have s8 := s7.trans sd
        clear s7 sd eM s6 e6
        -- if any([is_fault(one) is not False for one in (None, True, False, '10', '', [12], (12,), [], ())])
        refine ⟨by show 1 ≤ sizeLine; decide, fun g1 hg1 => ?_⟩
        have w1 : Same Hd (upd Hd g1 (.lst [.int 12])) := same_upd hg1
        have f1 : (upd Hd g1 (.lst [.int 12])) g1 = some (.lst [.int 12]) := upd_same
        generalize upd Hd g1 (.lst [.int 12]) = K1 at w1 f1 ⊢
        refine ⟨by show 1 ≤ sizeLine; decide, fun g2 hg2 => ?_⟩
        have w2 : Same K1 (upd K1 g2 (.tup [.int 12])) := same_upd hg2
        have f2 : (upd K1 g2 (.tup [.int 12])) g2 = some (.tup [.int 12]) := upd_same
        generalize upd K1 g2 (.tup [.int 12]) = K2 at w2 f2 ⊢
        refine ⟨Nat.zero_le _, fun g3 hg3 => ?_⟩
        have w3 : Same K2 (upd K2 g3 (.lst [])) := same_upd hg3
        have f3 : (upd K2 g3 (.lst [])) g3 = some (.lst []) := upd_same
        generalize upd K2 g3 (.lst []) = K3 at w3 f3 ⊢
        refine ⟨Nat.zero_le _, fun g4 hg4 => ?_⟩
        have w4 : Same K3 (upd K3 g4 (.tup [])) := same_upd hg4
        have f4 : (upd K3 g4 (.tup [])) g4 = some (.tup []) := upd_same
        generalize upd K3 g4 (.tup []) = K4 at w4 f4 ⊢
        refine ⟨by show 9 ≤ sizeLine; decide, fun g5 hg5 => ?_⟩
        have w5 : Same K4 (upd K4 g5 (.tup [.non, .bl true, .bl false, .str (Str.ofString "10"), .str (Str.ofString ""), .ref g1, .ref g2, .ref g3, .ref g4])) := same_upd hg5
        have f5 : (upd K4 g5 (.tup [.non, .bl true, .bl false, .str (Str.ofString "10"), .str (Str.ofString ""), .ref g1, .ref g2, .ref g3, .ref g4])) g5 = some (.tup [.non, .bl true, .bl false, .str (Str.ofString "10"), .str (Str.ofString ""), .ref g1, .ref g2, .ref g3, .ref g4]) := upd_same
        generalize upd K4 g5 (.tup [.non, .bl true, .bl false, .str (Str.ofString "10"), .str (Str.ofString ""), .ref g1, .ref g2, .ref g3, .ref g4]) = K5 at w5 f5 ⊢
        have f1' := ((w2.trans w3).trans (w4.trans w5)) _ _ f1
        have f2' := (w3.trans (w4.trans w5)) _ _ f2
        have f3' := (w4.trans w5) _ _ f3
        have f4' := w5 _ _ f4
        have s9 : Same H2 K5 := s8.trans ((w1.trans w2).trans (w3.trans (w4.trans w5)))
        have gd : ∀ x ∈ ([.non, .bl true, .bl false, .str (Str.ofString "10"), .str (Str.ofString ""), .ref g1, .ref g2, .ref g3, .ref g4] : List V), ∃ d, Da (fun _ => False) K5 x d ∧ faultD d = false := by
          intro x hx
          simp only [List.mem_cons, List.not_mem_nil, or_false] at hx
          rcases hx with rfl | rfl | rfl | rfl | rfl | rfl | rfl | rfl | rfl
          · exact ⟨_, .non, rfl⟩
          · exact ⟨_, .bl _, rfl⟩
          · exact ⟨_, .bl _, rfl⟩
          · exact ⟨_, .str _, rfl⟩
          · exact ⟨_, .str _, rfl⟩
          · exact ⟨_, .lst (fun z => z) f1' (.cons (.int 12) .nil), rfl⟩
          · exact ⟨_, .tup (fun z => z) f2' (.cons (.int 12) .nil), rfl⟩
          · exact ⟨_, .lst (fun z => z) f3' .nil, rfl⟩
          · exact ⟨_, .tup (fun z => z) f4' .nil, rfl⟩
        refine ⟨g5, rfl, ⟨_, st1 f5⟩, fun D hD => lc_it (walk_tup (xs := [.non, .bl true, .bl false, .str (Str.ofString "10"), .str (Str.ofString ""), .ref g1, .ref g2, .ref g3, .ref g4])) (fun i Hx => Same K5 Hx ∧ Hx D = some (.lst ((List.replicate i false).map V.bl))) ?_ ?_ ?_ ?_⟩
        · exact ⟨same_upd hD, upd_same⟩
        · rintro i Hx hi ⟨sx, _⟩
          exact st1 (sx _ _ f5)
        · rintro i x Hx H' hi ⟨sx, eD⟩ ⟨rfl, hx⟩
          have hi9 : i < 9 := hi
          obtain ⟨d, da, fd0⟩ := gd x (List.mem_of_getElem? hx)
          refine ⟨rfl, ?_⟩
          refine ⟨x, rfl, (fun _ => False), x, d, rfl, Da.keep (fun b o _ e => sx b o e) _ da, ?_⟩
          rw [fd0]
          refine ⟨false, false, rfl, rfl, _, eD, ?_, Same.mut sx hD, ?_⟩
          · rw [List.length_map, List.length_replicate, sizeLine_eq]
            omega
          · rw [upd_same, List.replicate_succ', List.map_append]
            rfl
        · rintro Hx ⟨sx, eD⟩
          refine ⟨D, List.replicate 9 false, rfl, sq1 eD, ?_⟩
          refine ⟨false, rfl, ?_⟩
          exact ⟨_, _, _, _, _, _, rfl, s9.trans sx⟩
    · rintro σ Hc ⟨y2, y3, y4, y5, y6, y7, rfl, sm⟩
      exact q _
end
end K5

set_option Elab.async false
set_option linter.all false
set_option maxRecDepth 100000
set_option maxHeartbeats 4000000
namespace K5
open PySem PySem.Spec PyProof.Rows L2

theorem vals_rev : ∀ {xs : List V} {us : List Value}, Vals xs us → Vals xs.reverse us.reverse
  | _, _, .nil => .nil
  | _, _, .cons r t => by
    rw [List.reverse_cons, List.reverse_cons]
    exact (vals_rev t).append (.cons r .nil)
theorem mk_kb_BadSlip_part {K : PySem.W.Frag} {f : Addr} {fd : FuncData} (F : Fun K "__init__" "BadSlip.__init__" s_BadSlip f fd) : KBn K fd ["self", "part"] 1 ["part"] (fun us ws => us ++ ws) (fun vs zs => vs ++ zs) := by
  obtain ⟨oc, od, kV, doc, pm, an, cdv, ct, osl, rfl, lk, hcd⟩ := F.ex
  exact ⟨fun s us ws _ h1 h2 => match us, ws, h1, h2 with | [_], [_], _, _ => .of_eq rfl, fun r1 r2 => r1.append r2⟩
theorem mk_kb_BadLetter_part {K : PySem.W.Frag} {f : Addr} {fd : FuncData} (F : Fun K "__init__" "BadLetter.__init__" s_BadLetter f fd) : KBn K fd ["self", "part"] 1 ["part"] (fun us ws => us ++ ws) (fun vs zs => vs ++ zs) := by
  obtain ⟨oc, od, kV, doc, pm, an, cdv, ct, osl, rfl, lk, hcd⟩ := F.ex
  exact ⟨fun s us ws _ h1 h2 => match us, ws, h1, h2 with | [_], [_], _, _ => .of_eq rfl, fun r1 r2 => r1.append r2⟩
theorem mk_kb_BadEnd_part {K : PySem.W.Frag} {f : Addr} {fd : FuncData} (F : Fun K "__init__" "BadEnd.__init__" s_BadEnd f fd) : KBn K fd ["self", "part"] 1 ["part"] (fun us ws => us ++ ws) (fun vs zs => vs ++ zs) := by
  obtain ⟨oc, od, kV, doc, pm, an, cdv, ct, osl, rfl, lk, hcd⟩ := F.ex
  exact ⟨fun s us ws _ h1 h2 => match us, ws, h1, h2 with | [_], [_], _, _ => .of_eq rfl, fun r1 r2 => r1.append r2⟩
theorem mk_kb_BadText_text {K : PySem.W.Frag} {f : Addr} {fd : FuncData} (F : Fun K "__init__" "BadText.__init__" s_BadText f fd) : KBn K fd ["self", "text"] 1 ["text"] (fun us ws => us ++ ws) (fun vs zs => vs ++ zs) := by
  obtain ⟨oc, od, kV, doc, pm, an, cdv, ct, osl, rfl, lk, hcd⟩ := F.ex
  exact ⟨fun s us ws _ h1 h2 => match us, ws, h1, h2 with | [_], [_], _, _ => .of_eq rfl, fun r1 r2 => r1.append r2⟩
theorem mk_kb_BadRow_row {K : PySem.W.Frag} {f : Addr} {fd : FuncData} (F : Fun K "__init__" "BadRow.__init__" s_BadRow f fd) : KBn K fd ["self", "row"] 1 ["row"] (fun us ws => us ++ ws) (fun vs zs => vs ++ zs) := by
  obtain ⟨oc, od, kV, doc, pm, an, cdv, ct, osl, rfl, lk, hcd⟩ := F.ex
  exact ⟨fun s us ws _ h1 h2 => match us, ws, h1, h2 with | [_], [_], _, _ => .of_eq rfl, fun r1 r2 => r1.append r2⟩
theorem mk_kb_Fault_at_code {K : PySem.W.Frag} {f : Addr} {fd : FuncData} (F : Fun K "__init__" "Fault.__init__" s_Fault f fd) : KBn K fd ["self", "code", "at"] 1 ["at", "code"] (fun us ws => us ++ ws.reverse) (fun vs zs => vs ++ zs.reverse) := by
  obtain ⟨oc, od, kV, doc, pm, an, cdv, ct, osl, rfl, lk, hcd⟩ := F.ex
  exact ⟨fun s us ws _ h1 h2 => match us, ws, h1, h2 with | [_], [_, _], _, _ => .of_eq rfl, fun r1 r2 => r1.append (vals_rev r2)⟩
theorem mk_kb_NoSlip_number {K : PySem.W.Frag} {f : Addr} {fd : FuncData} (F : Fun K "__init__" "NoSlip.__init__" s_NoSlip f fd) : KBn K fd ["self", "number"] 1 ["number"] (fun us ws => us ++ ws) (fun vs zs => vs ++ zs) := by
  obtain ⟨oc, od, kV, doc, pm, an, cdv, ct, osl, rfl, lk, hcd⟩ := F.ex
  exact ⟨fun s us ws _ h1 h2 => match us, ws, h1, h2 with | [_], [_], _, _ => .of_eq rfl, fun r1 r2 => r1.append r2⟩
theorem mk_kb_NoByte_at {K : PySem.W.Frag} {f : Addr} {fd : FuncData} (F : Fun K "__init__" "NoByte.__init__" s_NoByte f fd) : KBn K fd ["self", "at"] 1 ["at"] (fun us ws => us ++ ws) (fun vs zs => vs ++ zs) := by
  obtain ⟨oc, od, kV, doc, pm, an, cdv, ct, osl, rfl, lk, hcd⟩ := F.ex
  exact ⟨fun s us ws _ h1 h2 => match us, ws, h1, h2 with | [_], [_], _, _ => .of_eq rfl, fun r1 r2 => r1.append r2⟩
theorem mk_kb_NoDeed_many {K : PySem.W.Frag} {f : Addr} {fd : FuncData} (F : Fun K "__init__" "NoDeed.__init__" s_NoDeed f fd) : KBn K fd ["self", "many"] 1 ["many"] (fun us ws => us ++ ws) (fun vs zs => vs ++ zs) := by
  obtain ⟨oc, od, kV, doc, pm, an, cdv, ct, osl, rfl, lk, hcd⟩ := F.ex
  exact ⟨fun s us ws _ h1 h2 => match us, ws, h1, h2 with | [_], [_], _, _ => .of_eq rfl, fun r1 r2 => r1.append r2⟩
theorem mk_kb_Ended_talk {K : PySem.W.Frag} {f : Addr} {fd : FuncData} (F : Fun K "__init__" "Ended.__init__" s_Ended f fd) : KBn K fd ["self", "talk"] 1 ["talk"] (fun us ws => us ++ ws) (fun vs zs => vs ++ zs) := by
  obtain ⟨oc, od, kV, doc, pm, an, cdv, ct, osl, rfl, lk, hcd⟩ := F.ex
  exact ⟨fun s us ws _ h1 h2 => match us, ws, h1, h2 with | [_], [_], _, _ => .of_eq rfl, fun r1 r2 => r1.append r2⟩
theorem all_mk {l : PySem.W.OpenLaw} {w : World} {K : PySem.W.Frag} {h : Heap} {mg : Str → Option Value} {fa f0 f1 f2 f3 f4 f5 f6 f7 f8 f9 f10 : Addr} (X : K.In h) (G : h.Ns mainGlobals mg) (hfa : mg "law" = some (.ref fa))
    {od0 an0 : Option Addr} {sl0 : Array (Option Value)} {oc0 kV0 dc0 pm0 cd0 ct0 : Value}
    (a0 : PySem.W.nsIn K mainGlobals "is_number" = some (some (.ref f0))) (l0 : K.lookup f0 = some ⟨oc0, od0, .func (PySem.W.fnOf "is_number" "is_number" (defArgs s_is_number) (defBody s_is_number) (defScope s_is_number) .none kV0 dc0 pm0 an0 cd0 ct0), sl0⟩) (c0 : PySem.W.codeIn K cd0 "is_number" = true) (k0 : PySem.W.keepIn K (.ref f0) = true)
    {od1 an1 : Option Addr} {sl1 : Array (Option Value)} {oc1 kV1 dc1 pm1 cd1 ct1 : Value}
    (a1 : PySem.W.nsIn K mainGlobals "is_fault" = some (some (.ref f1))) (l1 : K.lookup f1 = some ⟨oc1, od1, .func (PySem.W.fnOf "is_fault" "is_fault" (defArgs s_is_fault) (defBody s_is_fault) (defScope s_is_fault) .none kV1 dc1 pm1 an1 cd1 ct1), sl1⟩) (c1 : PySem.W.codeIn K cd1 "is_fault" = true) (k1 : PySem.W.keepIn K (.ref f1) = true)
    {od2 an2 : Option Addr} {sl2 : Array (Option Value)} {oc2 kV2 dc2 pm2 cd2 ct2 : Value}
    (a2 : PySem.W.nsIn K mainGlobals "_law_cell_at" = some (some (.ref f2))) (l2 : K.lookup f2 = some ⟨oc2, od2, .func (PySem.W.fnOf "_law_cell_at" "_law_cell_at" (defArgs s_cell_at) (defBody s_cell_at) (defScope s_cell_at) .none kV2 dc2 pm2 an2 cd2 ct2), sl2⟩) (c2 : PySem.W.codeIn K cd2 "_law_cell_at" = true) (k2 : PySem.W.keepIn K (.ref f2) = true)
    {od3 an3 : Option Addr} {sl3 : Array (Option Value)} {oc3 kV3 dc3 pm3 cd3 ct3 : Value}
    (a3 : PySem.W.nsIn K mainGlobals "_law_box" = some (some (.ref f3))) (l3 : K.lookup f3 = some ⟨oc3, od3, .func (PySem.W.fnOf "_law_box" "_law_box" (defArgs s_box) (defBody s_box) (defScope s_box) .none kV3 dc3 pm3 an3 cd3 ct3), sl3⟩) (c3 : PySem.W.codeIn K cd3 "_law_box" = true) (k3 : PySem.W.keepIn K (.ref f3) = true)
    {od4 an4 : Option Addr} {sl4 : Array (Option Value)} {oc4 kV4 dc4 pm4 cd4 ct4 : Value}
    (a4 : PySem.W.nsIn K mainGlobals "_law_take" = some (some (.ref f4))) (l4 : K.lookup f4 = some ⟨oc4, od4, .func (PySem.W.fnOf "_law_take" "_law_take" (defArgs s_take) (defBody s_take) (defScope s_take) .none kV4 dc4 pm4 an4 cd4 ct4), sl4⟩) (c4 : PySem.W.codeIn K cd4 "_law_take" = true) (k4 : PySem.W.keepIn K (.ref f4) = true)
    {od5 an5 : Option Addr} {sl5 : Array (Option Value)} {oc5 kV5 dc5 pm5 cd5 ct5 : Value}
    (a5 : PySem.W.nsIn K mainGlobals "_law_same" = some (some (.ref f5))) (l5 : K.lookup f5 = some ⟨oc5, od5, .func (PySem.W.fnOf "_law_same" "_law_same" (defArgs s_same) (defBody s_same) (defScope s_same) .none kV5 dc5 pm5 an5 cd5 ct5), sl5⟩) (c5 : PySem.W.codeIn K cd5 "_law_same" = true) (k5 : PySem.W.keepIn K (.ref f5) = true)
    {od6 an6 : Option Addr} {sl6 : Array (Option Value)} {oc6 kV6 dc6 pm6 cd6 ct6 : Value}
    (a6 : PySem.W.nsIn K mainGlobals "_law_of" = some (some (.ref f6))) (l6 : K.lookup f6 = some ⟨oc6, od6, .func (PySem.W.fnOf "_law_of" "_law_of" (defArgs s_of) (defBody s_of) (defScope s_of) .none kV6 dc6 pm6 an6 cd6 ct6), sl6⟩) (c6 : PySem.W.codeIn K cd6 "_law_of" = true) (k6 : PySem.W.keepIn K (.ref f6) = true)
    {od7 an7 : Option Addr} {sl7 : Array (Option Value)} {oc7 kV7 dc7 pm7 cd7 ct7 : Value}
    (a7 : PySem.W.nsIn K mainGlobals "_law_kinds" = some (some (.ref f7))) (l7 : K.lookup f7 = some ⟨oc7, od7, .func (PySem.W.fnOf "_law_kinds" "_law_kinds" (defArgs s_kinds) (defBody s_kinds) (defScope s_kinds) .none kV7 dc7 pm7 an7 cd7 ct7), sl7⟩) (c7 : PySem.W.codeIn K cd7 "_law_kinds" = true) (k7 : PySem.W.keepIn K (.ref f7) = true)
    {od8 an8 : Option Addr} {sl8 : Array (Option Value)} {oc8 kV8 dc8 pm8 cd8 ct8 : Value}
    (a8 : PySem.W.nsIn K mainGlobals "_law_due" = some (some (.ref f8))) (l8 : K.lookup f8 = some ⟨oc8, od8, .func (PySem.W.fnOf "_law_due" "_law_due" (defArgs s_due) (defBody s_due) (defScope s_due) .none kV8 dc8 pm8 an8 cd8 ct8), sl8⟩) (c8 : PySem.W.codeIn K cd8 "_law_due" = true) (k8 : PySem.W.keepIn K (.ref f8) = true)
    {od9 an9 : Option Addr} {sl9 : Array (Option Value)} {oc9 kV9 dc9 pm9 cd9 ct9 : Value}
    (a9 : PySem.W.nsIn K mainGlobals "_law_made_right" = some (some (.ref f9))) (l9 : K.lookup f9 = some ⟨oc9, od9, .func (PySem.W.fnOf "_law_made_right" "_law_made_right" (defArgs s_made_right) (defBody s_made_right) (defScope s_made_right) .none kV9 dc9 pm9 an9 cd9 ct9), sl9⟩) (c9 : PySem.W.codeIn K cd9 "_law_made_right" = true) (k9 : PySem.W.keepIn K (.ref f9) = true)
    {od10 an10 : Option Addr} {sl10 : Array (Option Value)} {oc10 kV10 dc10 pm10 cd10 ct10 : Value}
    (a10 : PySem.W.nsIn K mainGlobals "law" = some (some (.ref f10))) (l10 : K.lookup f10 = some ⟨oc10, od10, .func (PySem.W.fnOf "law" "law" (defArgs s_law) (defBody s_law) (defScope s_law) .none kV10 dc10 pm10 an10 cd10 ct10), sl10⟩) (c10 : PySem.W.codeIn K cd10 "law" = true) (k10 : PySem.W.keepIn K (.ref f10) = true)
    {tk_HEAD : Tok} (a_HEAD : PySem.W.nsIn K mainGlobals "HEAD" = some (some (.int 10 tk_HEAD)))
    {tk_TALK : Tok} (a_TALK : PySem.W.nsIn K mainGlobals "TALK" = some (some (.int 11 tk_TALK)))
    {tk_SIZE : Tok} (a_SIZE : PySem.W.nsIn K mainGlobals "SIZE" = some (some (.int 12 tk_SIZE)))
    {tk_ORDER : Tok} (a_ORDER : PySem.W.nsIn K mainGlobals "ORDER" = some (some (.int 13 tk_ORDER)))
    {tk_SIGNS : Tok} (a_SIGNS : PySem.W.nsIn K mainGlobals "SIGNS" = some (some (.int 14 tk_SIGNS)))
    {tk_GREAT : Tok} (a_GREAT : PySem.W.nsIn K mainGlobals "GREAT" = some (some (.int 15 tk_GREAT)))
    {tk_END : Tok} (a_END : PySem.W.nsIn K mainGlobals "END" = some (some (.int 16 tk_END)))
    {tk_DONE : Tok} (a_DONE : PySem.W.nsIn K mainGlobals "DONE" = some (some (.int 1 tk_DONE)))
    {tk_MOST : Tok} (a_MOST : PySem.W.nsIn K mainGlobals "MOST" = some (some (.int 4096 tk_MOST)))
    {tk_EVERY : Tok} (a_EVERY : PySem.W.nsIn K mainGlobals "EVERY" = some (some (.int 100 tk_EVERY)))
    {C_BadSlip f_BadSlip N_BadSlip : Addr} {nm_BadSlip q_BadSlip : Str} {bs_BadSlip sub_BadSlip : List Value} {sn_BadSlip : List Str} {ab_BadSlip : Bool} {col_BadSlip : Option Bool} {dd_BadSlip : Option Addr} {k0_BadSlip k1_BadSlip k2_BadSlip k3_BadSlip k5_BadSlip : Option Value} {od_BadSlip an_BadSlip : Option Addr} {sl_BadSlip : Array (Option Value)} {oc_BadSlip kV_BadSlip dc_BadSlip pm_BadSlip cd_BadSlip ct_BadSlip : Value} (a_BadSlip : PySem.W.nsIn K mainGlobals "BadSlip" = some (some (.ref C_BadSlip))) (x_BadSlip : K.lookup C_BadSlip = some (excClassObj nm_BadSlip q_BadSlip C_BadSlip N_BadSlip bs_BadSlip bm_ValueError true sn_BadSlip sub_BadSlip ab_BadSlip col_BadSlip dd_BadSlip k0_BadSlip k1_BadSlip k2_BadSlip k3_BadSlip k5_BadSlip "ValueError.__new__")) (sa_BadSlip : PySem.W.findIn K (.ref C_BadSlip) "__setattr__" = some (some (.builtin "object.__setattr__"))) (ga_BadSlip : PySem.W.findIn K (.ref C_BadSlip) "__getattribute__" = some (some (.builtin "BaseException.__getattribute__"))) (gk_BadSlip : PySem.W.findIn K (.ref C_BadSlip) "__getattr__" = some none) (hs_BadSlip : PySem.W.subIn K (.ref C_BadSlip) (.type "BaseException") = some true) (hd_BadSlip : PySem.W.hasDictIn K C_BadSlip = true) (ha_BadSlip : PySem.W.findIn K (.ref C_BadSlip) "__class__" = some (some (.builtin "object.__class__"))) (hm_BadSlip : PySem.W.mroIn K C_BadSlip (.type "object") = some true) (ty_BadSlip : PySem.W.typeIn K (.ref C_BadSlip) = some (.type "type")) (kC_BadSlip : PySem.W.keepIn K (.ref C_BadSlip) = true) (i_BadSlip : PySem.W.findIn K (.ref C_BadSlip) "__init__" = some (some (.ref f_BadSlip))) (t_BadSlip : PySem.W.typeIn K (.ref f_BadSlip) = some (.type "function")) (l_BadSlip : K.lookup f_BadSlip = some ⟨oc_BadSlip, od_BadSlip, .func (PySem.W.fnOf "__init__" "BadSlip.__init__" (defArgs s_BadSlip) (defBody s_BadSlip) (defScope s_BadSlip) .none kV_BadSlip dc_BadSlip pm_BadSlip an_BadSlip cd_BadSlip ct_BadSlip), sl_BadSlip⟩) (c_BadSlip : PySem.W.codeIn K cd_BadSlip "BadSlip.__init__" = true) (k_BadSlip : PySem.W.keepIn K (.ref f_BadSlip) = true) (n_BadSlip_part : PySem.W.findIn K (.ref C_BadSlip) "part" = some none)
    {C_BadLetter f_BadLetter N_BadLetter : Addr} {nm_BadLetter q_BadLetter : Str} {bs_BadLetter sub_BadLetter : List Value} {sn_BadLetter : List Str} {ab_BadLetter : Bool} {col_BadLetter : Option Bool} {dd_BadLetter : Option Addr} {k0_BadLetter k1_BadLetter k2_BadLetter k3_BadLetter k5_BadLetter : Option Value} {od_BadLetter an_BadLetter : Option Addr} {sl_BadLetter : Array (Option Value)} {oc_BadLetter kV_BadLetter dc_BadLetter pm_BadLetter cd_BadLetter ct_BadLetter : Value} (a_BadLetter : PySem.W.nsIn K mainGlobals "BadLetter" = some (some (.ref C_BadLetter))) (x_BadLetter : K.lookup C_BadLetter = some (excClassObj nm_BadLetter q_BadLetter C_BadLetter N_BadLetter bs_BadLetter bm_ValueError true sn_BadLetter sub_BadLetter ab_BadLetter col_BadLetter dd_BadLetter k0_BadLetter k1_BadLetter k2_BadLetter k3_BadLetter k5_BadLetter "ValueError.__new__")) (sa_BadLetter : PySem.W.findIn K (.ref C_BadLetter) "__setattr__" = some (some (.builtin "object.__setattr__"))) (ga_BadLetter : PySem.W.findIn K (.ref C_BadLetter) "__getattribute__" = some (some (.builtin "BaseException.__getattribute__"))) (gk_BadLetter : PySem.W.findIn K (.ref C_BadLetter) "__getattr__" = some none) (hs_BadLetter : PySem.W.subIn K (.ref C_BadLetter) (.type "BaseException") = some true) (hd_BadLetter : PySem.W.hasDictIn K C_BadLetter = true) (ha_BadLetter : PySem.W.findIn K (.ref C_BadLetter) "__class__" = some (some (.builtin "object.__class__"))) (hm_BadLetter : PySem.W.mroIn K C_BadLetter (.type "object") = some true) (ty_BadLetter : PySem.W.typeIn K (.ref C_BadLetter) = some (.type "type")) (kC_BadLetter : PySem.W.keepIn K (.ref C_BadLetter) = true) (i_BadLetter : PySem.W.findIn K (.ref C_BadLetter) "__init__" = some (some (.ref f_BadLetter))) (t_BadLetter : PySem.W.typeIn K (.ref f_BadLetter) = some (.type "function")) (l_BadLetter : K.lookup f_BadLetter = some ⟨oc_BadLetter, od_BadLetter, .func (PySem.W.fnOf "__init__" "BadLetter.__init__" (defArgs s_BadLetter) (defBody s_BadLetter) (defScope s_BadLetter) .none kV_BadLetter dc_BadLetter pm_BadLetter an_BadLetter cd_BadLetter ct_BadLetter), sl_BadLetter⟩) (c_BadLetter : PySem.W.codeIn K cd_BadLetter "BadLetter.__init__" = true) (k_BadLetter : PySem.W.keepIn K (.ref f_BadLetter) = true) (n_BadLetter_part : PySem.W.findIn K (.ref C_BadLetter) "part" = some none)
    {C_BadEnd f_BadEnd N_BadEnd : Addr} {nm_BadEnd q_BadEnd : Str} {bs_BadEnd sub_BadEnd : List Value} {sn_BadEnd : List Str} {ab_BadEnd : Bool} {col_BadEnd : Option Bool} {dd_BadEnd : Option Addr} {k0_BadEnd k1_BadEnd k2_BadEnd k3_BadEnd k5_BadEnd : Option Value} {od_BadEnd an_BadEnd : Option Addr} {sl_BadEnd : Array (Option Value)} {oc_BadEnd kV_BadEnd dc_BadEnd pm_BadEnd cd_BadEnd ct_BadEnd : Value} (a_BadEnd : PySem.W.nsIn K mainGlobals "BadEnd" = some (some (.ref C_BadEnd))) (x_BadEnd : K.lookup C_BadEnd = some (excClassObj nm_BadEnd q_BadEnd C_BadEnd N_BadEnd bs_BadEnd bm_ValueError true sn_BadEnd sub_BadEnd ab_BadEnd col_BadEnd dd_BadEnd k0_BadEnd k1_BadEnd k2_BadEnd k3_BadEnd k5_BadEnd "ValueError.__new__")) (sa_BadEnd : PySem.W.findIn K (.ref C_BadEnd) "__setattr__" = some (some (.builtin "object.__setattr__"))) (ga_BadEnd : PySem.W.findIn K (.ref C_BadEnd) "__getattribute__" = some (some (.builtin "BaseException.__getattribute__"))) (gk_BadEnd : PySem.W.findIn K (.ref C_BadEnd) "__getattr__" = some none) (hs_BadEnd : PySem.W.subIn K (.ref C_BadEnd) (.type "BaseException") = some true) (hd_BadEnd : PySem.W.hasDictIn K C_BadEnd = true) (ha_BadEnd : PySem.W.findIn K (.ref C_BadEnd) "__class__" = some (some (.builtin "object.__class__"))) (hm_BadEnd : PySem.W.mroIn K C_BadEnd (.type "object") = some true) (ty_BadEnd : PySem.W.typeIn K (.ref C_BadEnd) = some (.type "type")) (kC_BadEnd : PySem.W.keepIn K (.ref C_BadEnd) = true) (i_BadEnd : PySem.W.findIn K (.ref C_BadEnd) "__init__" = some (some (.ref f_BadEnd))) (t_BadEnd : PySem.W.typeIn K (.ref f_BadEnd) = some (.type "function")) (l_BadEnd : K.lookup f_BadEnd = some ⟨oc_BadEnd, od_BadEnd, .func (PySem.W.fnOf "__init__" "BadEnd.__init__" (defArgs s_BadEnd) (defBody s_BadEnd) (defScope s_BadEnd) .none kV_BadEnd dc_BadEnd pm_BadEnd an_BadEnd cd_BadEnd ct_BadEnd), sl_BadEnd⟩) (c_BadEnd : PySem.W.codeIn K cd_BadEnd "BadEnd.__init__" = true) (k_BadEnd : PySem.W.keepIn K (.ref f_BadEnd) = true) (n_BadEnd_part : PySem.W.findIn K (.ref C_BadEnd) "part" = some none)
    {C_BadText f_BadText N_BadText : Addr} {nm_BadText q_BadText : Str} {bs_BadText sub_BadText : List Value} {sn_BadText : List Str} {ab_BadText : Bool} {col_BadText : Option Bool} {dd_BadText : Option Addr} {k0_BadText k1_BadText k2_BadText k3_BadText k5_BadText : Option Value} {od_BadText an_BadText : Option Addr} {sl_BadText : Array (Option Value)} {oc_BadText kV_BadText dc_BadText pm_BadText cd_BadText ct_BadText : Value} (a_BadText : PySem.W.nsIn K mainGlobals "BadText" = some (some (.ref C_BadText))) (x_BadText : K.lookup C_BadText = some (excClassObj nm_BadText q_BadText C_BadText N_BadText bs_BadText bm_ValueError true sn_BadText sub_BadText ab_BadText col_BadText dd_BadText k0_BadText k1_BadText k2_BadText k3_BadText k5_BadText "ValueError.__new__")) (sa_BadText : PySem.W.findIn K (.ref C_BadText) "__setattr__" = some (some (.builtin "object.__setattr__"))) (ga_BadText : PySem.W.findIn K (.ref C_BadText) "__getattribute__" = some (some (.builtin "BaseException.__getattribute__"))) (gk_BadText : PySem.W.findIn K (.ref C_BadText) "__getattr__" = some none) (hs_BadText : PySem.W.subIn K (.ref C_BadText) (.type "BaseException") = some true) (hd_BadText : PySem.W.hasDictIn K C_BadText = true) (ha_BadText : PySem.W.findIn K (.ref C_BadText) "__class__" = some (some (.builtin "object.__class__"))) (hm_BadText : PySem.W.mroIn K C_BadText (.type "object") = some true) (ty_BadText : PySem.W.typeIn K (.ref C_BadText) = some (.type "type")) (kC_BadText : PySem.W.keepIn K (.ref C_BadText) = true) (i_BadText : PySem.W.findIn K (.ref C_BadText) "__init__" = some (some (.ref f_BadText))) (t_BadText : PySem.W.typeIn K (.ref f_BadText) = some (.type "function")) (l_BadText : K.lookup f_BadText = some ⟨oc_BadText, od_BadText, .func (PySem.W.fnOf "__init__" "BadText.__init__" (defArgs s_BadText) (defBody s_BadText) (defScope s_BadText) .none kV_BadText dc_BadText pm_BadText an_BadText cd_BadText ct_BadText), sl_BadText⟩) (c_BadText : PySem.W.codeIn K cd_BadText "BadText.__init__" = true) (k_BadText : PySem.W.keepIn K (.ref f_BadText) = true) (n_BadText_text : PySem.W.findIn K (.ref C_BadText) "text" = some none)
    {C_BadRow f_BadRow N_BadRow : Addr} {nm_BadRow q_BadRow : Str} {bs_BadRow sub_BadRow : List Value} {sn_BadRow : List Str} {ab_BadRow : Bool} {col_BadRow : Option Bool} {dd_BadRow : Option Addr} {k0_BadRow k1_BadRow k2_BadRow k3_BadRow k5_BadRow : Option Value} {od_BadRow an_BadRow : Option Addr} {sl_BadRow : Array (Option Value)} {oc_BadRow kV_BadRow dc_BadRow pm_BadRow cd_BadRow ct_BadRow : Value} (a_BadRow : PySem.W.nsIn K mainGlobals "BadRow" = some (some (.ref C_BadRow))) (x_BadRow : K.lookup C_BadRow = some (excClassObj nm_BadRow q_BadRow C_BadRow N_BadRow bs_BadRow bm_ValueError true sn_BadRow sub_BadRow ab_BadRow col_BadRow dd_BadRow k0_BadRow k1_BadRow k2_BadRow k3_BadRow k5_BadRow "ValueError.__new__")) (sa_BadRow : PySem.W.findIn K (.ref C_BadRow) "__setattr__" = some (some (.builtin "object.__setattr__"))) (ga_BadRow : PySem.W.findIn K (.ref C_BadRow) "__getattribute__" = some (some (.builtin "BaseException.__getattribute__"))) (gk_BadRow : PySem.W.findIn K (.ref C_BadRow) "__getattr__" = some none) (hs_BadRow : PySem.W.subIn K (.ref C_BadRow) (.type "BaseException") = some true) (hd_BadRow : PySem.W.hasDictIn K C_BadRow = true) (ha_BadRow : PySem.W.findIn K (.ref C_BadRow) "__class__" = some (some (.builtin "object.__class__"))) (hm_BadRow : PySem.W.mroIn K C_BadRow (.type "object") = some true) (ty_BadRow : PySem.W.typeIn K (.ref C_BadRow) = some (.type "type")) (kC_BadRow : PySem.W.keepIn K (.ref C_BadRow) = true) (i_BadRow : PySem.W.findIn K (.ref C_BadRow) "__init__" = some (some (.ref f_BadRow))) (t_BadRow : PySem.W.typeIn K (.ref f_BadRow) = some (.type "function")) (l_BadRow : K.lookup f_BadRow = some ⟨oc_BadRow, od_BadRow, .func (PySem.W.fnOf "__init__" "BadRow.__init__" (defArgs s_BadRow) (defBody s_BadRow) (defScope s_BadRow) .none kV_BadRow dc_BadRow pm_BadRow an_BadRow cd_BadRow ct_BadRow), sl_BadRow⟩) (c_BadRow : PySem.W.codeIn K cd_BadRow "BadRow.__init__" = true) (k_BadRow : PySem.W.keepIn K (.ref f_BadRow) = true) (n_BadRow_row : PySem.W.findIn K (.ref C_BadRow) "row" = some none)
    {C_Fault f_Fault N_Fault : Addr} {nm_Fault q_Fault : Str} {bs_Fault sub_Fault : List Value} {sn_Fault : List Str} {ab_Fault : Bool} {col_Fault : Option Bool} {dd_Fault : Option Addr} {k0_Fault k1_Fault k2_Fault k3_Fault k5_Fault : Option Value} {od_Fault an_Fault : Option Addr} {sl_Fault : Array (Option Value)} {oc_Fault kV_Fault dc_Fault pm_Fault cd_Fault ct_Fault : Value} (a_Fault : PySem.W.nsIn K mainGlobals "Fault" = some (some (.ref C_Fault))) (x_Fault : K.lookup C_Fault = some (excClassObj nm_Fault q_Fault C_Fault N_Fault bs_Fault bm_ValueError true sn_Fault sub_Fault ab_Fault col_Fault dd_Fault k0_Fault k1_Fault k2_Fault k3_Fault k5_Fault "ValueError.__new__")) (sa_Fault : PySem.W.findIn K (.ref C_Fault) "__setattr__" = some (some (.builtin "object.__setattr__"))) (ga_Fault : PySem.W.findIn K (.ref C_Fault) "__getattribute__" = some (some (.builtin "BaseException.__getattribute__"))) (gk_Fault : PySem.W.findIn K (.ref C_Fault) "__getattr__" = some none) (hs_Fault : PySem.W.subIn K (.ref C_Fault) (.type "BaseException") = some true) (hd_Fault : PySem.W.hasDictIn K C_Fault = true) (ha_Fault : PySem.W.findIn K (.ref C_Fault) "__class__" = some (some (.builtin "object.__class__"))) (hm_Fault : PySem.W.mroIn K C_Fault (.type "object") = some true) (ty_Fault : PySem.W.typeIn K (.ref C_Fault) = some (.type "type")) (kC_Fault : PySem.W.keepIn K (.ref C_Fault) = true) (i_Fault : PySem.W.findIn K (.ref C_Fault) "__init__" = some (some (.ref f_Fault))) (t_Fault : PySem.W.typeIn K (.ref f_Fault) = some (.type "function")) (l_Fault : K.lookup f_Fault = some ⟨oc_Fault, od_Fault, .func (PySem.W.fnOf "__init__" "Fault.__init__" (defArgs s_Fault) (defBody s_Fault) (defScope s_Fault) .none kV_Fault dc_Fault pm_Fault an_Fault cd_Fault ct_Fault), sl_Fault⟩) (c_Fault : PySem.W.codeIn K cd_Fault "Fault.__init__" = true) (k_Fault : PySem.W.keepIn K (.ref f_Fault) = true) (n_Fault_code : PySem.W.findIn K (.ref C_Fault) "code" = some none) (n_Fault_at : PySem.W.findIn K (.ref C_Fault) "at" = some none)
    {C_NoSlip f_NoSlip N_NoSlip : Addr} {nm_NoSlip q_NoSlip : Str} {bs_NoSlip sub_NoSlip : List Value} {sn_NoSlip : List Str} {ab_NoSlip : Bool} {col_NoSlip : Option Bool} {dd_NoSlip : Option Addr} {k0_NoSlip k1_NoSlip k2_NoSlip k3_NoSlip k5_NoSlip : Option Value} {od_NoSlip an_NoSlip : Option Addr} {sl_NoSlip : Array (Option Value)} {oc_NoSlip kV_NoSlip dc_NoSlip pm_NoSlip cd_NoSlip ct_NoSlip : Value} (a_NoSlip : PySem.W.nsIn K mainGlobals "NoSlip" = some (some (.ref C_NoSlip))) (x_NoSlip : K.lookup C_NoSlip = some (excClassObj nm_NoSlip q_NoSlip C_NoSlip N_NoSlip bs_NoSlip bm_IndexError true sn_NoSlip sub_NoSlip ab_NoSlip col_NoSlip dd_NoSlip k0_NoSlip k1_NoSlip k2_NoSlip k3_NoSlip k5_NoSlip "IndexError.__new__")) (sa_NoSlip : PySem.W.findIn K (.ref C_NoSlip) "__setattr__" = some (some (.builtin "object.__setattr__"))) (ga_NoSlip : PySem.W.findIn K (.ref C_NoSlip) "__getattribute__" = some (some (.builtin "BaseException.__getattribute__"))) (gk_NoSlip : PySem.W.findIn K (.ref C_NoSlip) "__getattr__" = some none) (hs_NoSlip : PySem.W.subIn K (.ref C_NoSlip) (.type "BaseException") = some true) (hd_NoSlip : PySem.W.hasDictIn K C_NoSlip = true) (ha_NoSlip : PySem.W.findIn K (.ref C_NoSlip) "__class__" = some (some (.builtin "object.__class__"))) (hm_NoSlip : PySem.W.mroIn K C_NoSlip (.type "object") = some true) (ty_NoSlip : PySem.W.typeIn K (.ref C_NoSlip) = some (.type "type")) (kC_NoSlip : PySem.W.keepIn K (.ref C_NoSlip) = true) (i_NoSlip : PySem.W.findIn K (.ref C_NoSlip) "__init__" = some (some (.ref f_NoSlip))) (t_NoSlip : PySem.W.typeIn K (.ref f_NoSlip) = some (.type "function")) (l_NoSlip : K.lookup f_NoSlip = some ⟨oc_NoSlip, od_NoSlip, .func (PySem.W.fnOf "__init__" "NoSlip.__init__" (defArgs s_NoSlip) (defBody s_NoSlip) (defScope s_NoSlip) .none kV_NoSlip dc_NoSlip pm_NoSlip an_NoSlip cd_NoSlip ct_NoSlip), sl_NoSlip⟩) (c_NoSlip : PySem.W.codeIn K cd_NoSlip "NoSlip.__init__" = true) (k_NoSlip : PySem.W.keepIn K (.ref f_NoSlip) = true) (n_NoSlip_number : PySem.W.findIn K (.ref C_NoSlip) "number" = some none)
    {C_NoByte f_NoByte N_NoByte : Addr} {nm_NoByte q_NoByte : Str} {bs_NoByte sub_NoByte : List Value} {sn_NoByte : List Str} {ab_NoByte : Bool} {col_NoByte : Option Bool} {dd_NoByte : Option Addr} {k0_NoByte k1_NoByte k2_NoByte k3_NoByte k5_NoByte : Option Value} {od_NoByte an_NoByte : Option Addr} {sl_NoByte : Array (Option Value)} {oc_NoByte kV_NoByte dc_NoByte pm_NoByte cd_NoByte ct_NoByte : Value} (a_NoByte : PySem.W.nsIn K mainGlobals "NoByte" = some (some (.ref C_NoByte))) (x_NoByte : K.lookup C_NoByte = some (excClassObj nm_NoByte q_NoByte C_NoByte N_NoByte bs_NoByte bm_IndexError true sn_NoByte sub_NoByte ab_NoByte col_NoByte dd_NoByte k0_NoByte k1_NoByte k2_NoByte k3_NoByte k5_NoByte "IndexError.__new__")) (sa_NoByte : PySem.W.findIn K (.ref C_NoByte) "__setattr__" = some (some (.builtin "object.__setattr__"))) (ga_NoByte : PySem.W.findIn K (.ref C_NoByte) "__getattribute__" = some (some (.builtin "BaseException.__getattribute__"))) (gk_NoByte : PySem.W.findIn K (.ref C_NoByte) "__getattr__" = some none) (hs_NoByte : PySem.W.subIn K (.ref C_NoByte) (.type "BaseException") = some true) (hd_NoByte : PySem.W.hasDictIn K C_NoByte = true) (ha_NoByte : PySem.W.findIn K (.ref C_NoByte) "__class__" = some (some (.builtin "object.__class__"))) (hm_NoByte : PySem.W.mroIn K C_NoByte (.type "object") = some true) (ty_NoByte : PySem.W.typeIn K (.ref C_NoByte) = some (.type "type")) (kC_NoByte : PySem.W.keepIn K (.ref C_NoByte) = true) (i_NoByte : PySem.W.findIn K (.ref C_NoByte) "__init__" = some (some (.ref f_NoByte))) (t_NoByte : PySem.W.typeIn K (.ref f_NoByte) = some (.type "function")) (l_NoByte : K.lookup f_NoByte = some ⟨oc_NoByte, od_NoByte, .func (PySem.W.fnOf "__init__" "NoByte.__init__" (defArgs s_NoByte) (defBody s_NoByte) (defScope s_NoByte) .none kV_NoByte dc_NoByte pm_NoByte an_NoByte cd_NoByte ct_NoByte), sl_NoByte⟩) (c_NoByte : PySem.W.codeIn K cd_NoByte "NoByte.__init__" = true) (k_NoByte : PySem.W.keepIn K (.ref f_NoByte) = true) (n_NoByte_at : PySem.W.findIn K (.ref C_NoByte) "at" = some none)
    {C_NoDeed f_NoDeed N_NoDeed : Addr} {nm_NoDeed q_NoDeed : Str} {bs_NoDeed sub_NoDeed : List Value} {sn_NoDeed : List Str} {ab_NoDeed : Bool} {col_NoDeed : Option Bool} {dd_NoDeed : Option Addr} {k0_NoDeed k1_NoDeed k2_NoDeed k3_NoDeed k5_NoDeed : Option Value} {od_NoDeed an_NoDeed : Option Addr} {sl_NoDeed : Array (Option Value)} {oc_NoDeed kV_NoDeed dc_NoDeed pm_NoDeed cd_NoDeed ct_NoDeed : Value} (a_NoDeed : PySem.W.nsIn K mainGlobals "NoDeed" = some (some (.ref C_NoDeed))) (x_NoDeed : K.lookup C_NoDeed = some (excClassObj nm_NoDeed q_NoDeed C_NoDeed N_NoDeed bs_NoDeed bm_LookupError true sn_NoDeed sub_NoDeed ab_NoDeed col_NoDeed dd_NoDeed k0_NoDeed k1_NoDeed k2_NoDeed k3_NoDeed k5_NoDeed "LookupError.__new__")) (sa_NoDeed : PySem.W.findIn K (.ref C_NoDeed) "__setattr__" = some (some (.builtin "object.__setattr__"))) (ga_NoDeed : PySem.W.findIn K (.ref C_NoDeed) "__getattribute__" = some (some (.builtin "BaseException.__getattribute__"))) (gk_NoDeed : PySem.W.findIn K (.ref C_NoDeed) "__getattr__" = some none) (hs_NoDeed : PySem.W.subIn K (.ref C_NoDeed) (.type "BaseException") = some true) (hd_NoDeed : PySem.W.hasDictIn K C_NoDeed = true) (ha_NoDeed : PySem.W.findIn K (.ref C_NoDeed) "__class__" = some (some (.builtin "object.__class__"))) (hm_NoDeed : PySem.W.mroIn K C_NoDeed (.type "object") = some true) (ty_NoDeed : PySem.W.typeIn K (.ref C_NoDeed) = some (.type "type")) (kC_NoDeed : PySem.W.keepIn K (.ref C_NoDeed) = true) (i_NoDeed : PySem.W.findIn K (.ref C_NoDeed) "__init__" = some (some (.ref f_NoDeed))) (t_NoDeed : PySem.W.typeIn K (.ref f_NoDeed) = some (.type "function")) (l_NoDeed : K.lookup f_NoDeed = some ⟨oc_NoDeed, od_NoDeed, .func (PySem.W.fnOf "__init__" "NoDeed.__init__" (defArgs s_NoDeed) (defBody s_NoDeed) (defScope s_NoDeed) .none kV_NoDeed dc_NoDeed pm_NoDeed an_NoDeed cd_NoDeed ct_NoDeed), sl_NoDeed⟩) (c_NoDeed : PySem.W.codeIn K cd_NoDeed "NoDeed.__init__" = true) (k_NoDeed : PySem.W.keepIn K (.ref f_NoDeed) = true) (n_NoDeed_many : PySem.W.findIn K (.ref C_NoDeed) "many" = some none)
    {C_Ended f_Ended N_Ended : Addr} {nm_Ended q_Ended : Str} {bs_Ended sub_Ended : List Value} {sn_Ended : List Str} {ab_Ended : Bool} {col_Ended : Option Bool} {dd_Ended : Option Addr} {k0_Ended k1_Ended k2_Ended k3_Ended k5_Ended : Option Value} {od_Ended an_Ended : Option Addr} {sl_Ended : Array (Option Value)} {oc_Ended kV_Ended dc_Ended pm_Ended cd_Ended ct_Ended : Value} (a_Ended : PySem.W.nsIn K mainGlobals "Ended" = some (some (.ref C_Ended))) (x_Ended : K.lookup C_Ended = some (excClassObj nm_Ended q_Ended C_Ended N_Ended bs_Ended bm_RuntimeError true sn_Ended sub_Ended ab_Ended col_Ended dd_Ended k0_Ended k1_Ended k2_Ended k3_Ended k5_Ended "RuntimeError.__new__")) (sa_Ended : PySem.W.findIn K (.ref C_Ended) "__setattr__" = some (some (.builtin "object.__setattr__"))) (ga_Ended : PySem.W.findIn K (.ref C_Ended) "__getattribute__" = some (some (.builtin "BaseException.__getattribute__"))) (gk_Ended : PySem.W.findIn K (.ref C_Ended) "__getattr__" = some none) (hs_Ended : PySem.W.subIn K (.ref C_Ended) (.type "BaseException") = some true) (hd_Ended : PySem.W.hasDictIn K C_Ended = true) (ha_Ended : PySem.W.findIn K (.ref C_Ended) "__class__" = some (some (.builtin "object.__class__"))) (hm_Ended : PySem.W.mroIn K C_Ended (.type "object") = some true) (ty_Ended : PySem.W.typeIn K (.ref C_Ended) = some (.type "type")) (kC_Ended : PySem.W.keepIn K (.ref C_Ended) = true) (i_Ended : PySem.W.findIn K (.ref C_Ended) "__init__" = some (some (.ref f_Ended))) (t_Ended : PySem.W.typeIn K (.ref f_Ended) = some (.type "function")) (l_Ended : K.lookup f_Ended = some ⟨oc_Ended, od_Ended, .func (PySem.W.fnOf "__init__" "Ended.__init__" (defArgs s_Ended) (defBody s_Ended) (defScope s_Ended) .none kV_Ended dc_Ended pm_Ended an_Ended cd_Ended ct_Ended), sl_Ended⟩) (c_Ended : PySem.W.codeIn K cd_Ended "Ended.__init__" = true) (k_Ended : PySem.W.keepIn K (.ref f_Ended) = true) (n_Ended_talk : PySem.W.findIn K (.ref C_Ended) "talk" = some none)
    (hn_ : PySem.W.specialIn K (.builtin "object.__class__") "__get__" = some (some (.builtin "getset_descriptor.__get__"))) (ht_ : PySem.W.takesIn K (.builtin "object.__class__") = some true)
    (lt_BadSlip : C_BadSlip < C_BadLetter)
    (lt_BadLetter : C_BadLetter < C_BadEnd)
    (lt_BadEnd : C_BadEnd < C_BadText)
    (lt_BadText : C_BadText < C_BadRow)
    (lt_BadRow : C_BadRow < C_Fault)
    (lt_Fault : C_Fault < C_NoSlip)
    (lt_NoSlip : C_NoSlip < C_NoByte)
    (lt_NoByte : C_NoByte < C_NoDeed)
    (lt_NoDeed : C_NoDeed < C_Ended)
    (v_IndexError : PySem.W.findCls K (.type "IndexError") (.type "type") "__init__" = some (.val (.builtin "IndexError.__init__")))
    (v_LookupError : PySem.W.findCls K (.type "LookupError") (.type "type") "__init__" = some (.val (.builtin "LookupError.__init__")))
    (v_RuntimeError : PySem.W.findCls K (.type "RuntimeError") (.type "type") "__init__" = some (.val (.builtin "RuntimeError.__init__")))
    (v_ValueError : PySem.W.findCls K (.type "ValueError") (.type "type") "__init__" = some (.val (.builtin "ValueError.__init__")))
    (z_len : PySem.W.nsIn K mainGlobals "len" = some none) (z_abs : PySem.W.nsIn K mainGlobals "abs" = some none) (z_int : PySem.W.nsIn K mainGlobals "int" = some none) (z_bool : PySem.W.nsIn K mainGlobals "bool" = some none) (z_list : PySem.W.nsIn K mainGlobals "list" = some none) (z_tuple : PySem.W.nsIn K mainGlobals "tuple" = some none) (z_isinstance : PySem.W.nsIn K mainGlobals "isinstance" = some none) (z_all : PySem.W.nsIn K mainGlobals "all" = some none) (z_any : PySem.W.nsIn K mainGlobals "any" = some none) (z_zip : PySem.W.nsIn K mainGlobals "zip" = some none) (z_min : PySem.W.nsIn K mainGlobals "min" = some none) (z_range : PySem.W.nsIn K mainGlobals "range" = some none) (z_ValueError : PySem.W.nsIn K mainGlobals "ValueError" = some none) (z_IndexError : PySem.W.nsIn K mainGlobals "IndexError" = some none) (z_LookupError : PySem.W.nsIn K mainGlobals "LookupError" = some none) (z_RuntimeError : PySem.W.nsIn K mainGlobals "RuntimeError" = some none) (z_KeyError : PySem.W.nsIn K mainGlobals "KeyError" = some none) :
    ∃ fd : FuncData, (∀ (s : Shared) (v : Value), BindsTo s fd ⟨[v], []⟩ [("_law_script", v)]) ∧ ∀ base : Heap, K.In base → base.Ns mainGlobals mg → FnOk l.prog w K mg base CX0 6 fa fd ["_law_script"] (spLaw K) := by
  have e := hfa.symm.trans (PySem.W.mg_of X G a10)
  cases e
  have F0 := fun_mk (st := s_is_number) l0 c0 k0
  have F1 := fun_mk (st := s_is_fault) l1 c1 k1
  have F2 := fun_mk (st := s_cell_at) l2 c2 k2
  have F3 := fun_mk (st := s_box) l3 c3 k3
  have F4 := fun_mk (st := s_take) l4 c4 k4
  have F5 := fun_mk (st := s_same) l5 c5 k5
  have F6 := fun_mk (st := s_of) l6 c6 k6
  have F7 := fun_mk (st := s_kinds) l7 c7 k7
  have F8 := fun_mk (st := s_due) l8 c8 k8
  have F9 := fun_mk (st := s_made_right) l9 c9 k9
  have F10 := fun_mk (st := s_law) l10 c10 k10
  have b0 := F0.binds (ps := ["thing"]) fun _ _ _ _ _ _ us hl => match us, hl with | [_], _ => rfl
  have b1 := F1.binds (ps := ["thing"]) fun _ _ _ _ _ _ us hl => match us, hl with | [_], _ => rfl
  have b2 := F2.binds (ps := ["_law_script", "_law_k"]) fun _ _ _ _ _ _ us hl => match us, hl with | [_, _], _ => rfl
  have b3 := F3.binds (ps := ["_law_script", "_law_k"]) fun _ _ _ _ _ _ us hl => match us, hl with | [_, _], _ => rfl
  have b4 := F4.binds (ps := ["_law_box_here", "_law_count"]) fun _ _ _ _ _ _ us hl => match us, hl with | [_, _], _ => rfl
  have b5 := F5.binds (ps := ["_law_found", "_law_due_here"]) fun _ _ _ _ _ _ us hl => match us, hl with | [_, _], _ => rfl
  have b6 := F6.binds (ps := ["_law_box_here", "_law_some"]) fun _ _ _ _ _ _ us hl => match us, hl with | [_, _], _ => rfl
  have b7 := F7.binds (ps := ["_law_error"]) fun _ _ _ _ _ _ us hl => match us, hl with | [_], _ => rfl
  have b8 := F8.binds (ps := ["_law_place"]) fun _ _ _ _ _ _ us hl => match us, hl with | [_], _ => rfl
  have b9 := F9.binds (ps := ["_law_box_here"]) fun _ _ _ _ _ _ us hl => match us, hl with | [_], _ => rfl
  have F_BadSlip := fun_mk (st := s_BadSlip) l_BadSlip c_BadSlip k_BadSlip
  have b_BadSlip := F_BadSlip.binds (ps := ["self", "part"]) fun _ _ _ _ _ _ us hl => match us, hl with | [_, _], _ => rfl
  have oe_BadSlip : OeC K C_BadSlip "ValueError" "ValueError.__new__" "ValueError.__init__" bm_ValueError := { base := PySem.F.excBase_ValueError, pass := PySem.MyX.pass_Value, ob := by decide +kernel, cls := ⟨_, _, _, _, _, _, _, _, _, _, _, _, _, _, x_BadSlip⟩, sa := sa_BadSlip, is_ := ⟨ga_BadSlip, gk_BadSlip, hs_BadSlip, hd_BadSlip, ha_BadSlip, hn_, ht_, hm_BadSlip⟩, ty := ty_BadSlip, kC := kC_BadSlip }
  have F_BadLetter := fun_mk (st := s_BadLetter) l_BadLetter c_BadLetter k_BadLetter
  have b_BadLetter := F_BadLetter.binds (ps := ["self", "part"]) fun _ _ _ _ _ _ us hl => match us, hl with | [_, _], _ => rfl
  have oe_BadLetter : OeC K C_BadLetter "ValueError" "ValueError.__new__" "ValueError.__init__" bm_ValueError := { base := PySem.F.excBase_ValueError, pass := PySem.MyX.pass_Value, ob := by decide +kernel, cls := ⟨_, _, _, _, _, _, _, _, _, _, _, _, _, _, x_BadLetter⟩, sa := sa_BadLetter, is_ := ⟨ga_BadLetter, gk_BadLetter, hs_BadLetter, hd_BadLetter, ha_BadLetter, hn_, ht_, hm_BadLetter⟩, ty := ty_BadLetter, kC := kC_BadLetter }
  have F_BadEnd := fun_mk (st := s_BadEnd) l_BadEnd c_BadEnd k_BadEnd
  have b_BadEnd := F_BadEnd.binds (ps := ["self", "part"]) fun _ _ _ _ _ _ us hl => match us, hl with | [_, _], _ => rfl
  have oe_BadEnd : OeC K C_BadEnd "ValueError" "ValueError.__new__" "ValueError.__init__" bm_ValueError := { base := PySem.F.excBase_ValueError, pass := PySem.MyX.pass_Value, ob := by decide +kernel, cls := ⟨_, _, _, _, _, _, _, _, _, _, _, _, _, _, x_BadEnd⟩, sa := sa_BadEnd, is_ := ⟨ga_BadEnd, gk_BadEnd, hs_BadEnd, hd_BadEnd, ha_BadEnd, hn_, ht_, hm_BadEnd⟩, ty := ty_BadEnd, kC := kC_BadEnd }
  have F_BadText := fun_mk (st := s_BadText) l_BadText c_BadText k_BadText
  have b_BadText := F_BadText.binds (ps := ["self", "text"]) fun _ _ _ _ _ _ us hl => match us, hl with | [_, _], _ => rfl
  have oe_BadText : OeC K C_BadText "ValueError" "ValueError.__new__" "ValueError.__init__" bm_ValueError := { base := PySem.F.excBase_ValueError, pass := PySem.MyX.pass_Value, ob := by decide +kernel, cls := ⟨_, _, _, _, _, _, _, _, _, _, _, _, _, _, x_BadText⟩, sa := sa_BadText, is_ := ⟨ga_BadText, gk_BadText, hs_BadText, hd_BadText, ha_BadText, hn_, ht_, hm_BadText⟩, ty := ty_BadText, kC := kC_BadText }
  have F_BadRow := fun_mk (st := s_BadRow) l_BadRow c_BadRow k_BadRow
  have b_BadRow := F_BadRow.binds (ps := ["self", "row"]) fun _ _ _ _ _ _ us hl => match us, hl with | [_, _], _ => rfl
  have oe_BadRow : OeC K C_BadRow "ValueError" "ValueError.__new__" "ValueError.__init__" bm_ValueError := { base := PySem.F.excBase_ValueError, pass := PySem.MyX.pass_Value, ob := by decide +kernel, cls := ⟨_, _, _, _, _, _, _, _, _, _, _, _, _, _, x_BadRow⟩, sa := sa_BadRow, is_ := ⟨ga_BadRow, gk_BadRow, hs_BadRow, hd_BadRow, ha_BadRow, hn_, ht_, hm_BadRow⟩, ty := ty_BadRow, kC := kC_BadRow }
  have F_Fault := fun_mk (st := s_Fault) l_Fault c_Fault k_Fault
  have b_Fault := F_Fault.binds (ps := ["self", "code", "at"]) fun _ _ _ _ _ _ us hl => match us, hl with | [_, _, _], _ => rfl
  have oe_Fault : OeC K C_Fault "ValueError" "ValueError.__new__" "ValueError.__init__" bm_ValueError := { base := PySem.F.excBase_ValueError, pass := PySem.MyX.pass_Value, ob := by decide +kernel, cls := ⟨_, _, _, _, _, _, _, _, _, _, _, _, _, _, x_Fault⟩, sa := sa_Fault, is_ := ⟨ga_Fault, gk_Fault, hs_Fault, hd_Fault, ha_Fault, hn_, ht_, hm_Fault⟩, ty := ty_Fault, kC := kC_Fault }
  have F_NoSlip := fun_mk (st := s_NoSlip) l_NoSlip c_NoSlip k_NoSlip
  have b_NoSlip := F_NoSlip.binds (ps := ["self", "number"]) fun _ _ _ _ _ _ us hl => match us, hl with | [_, _], _ => rfl
  have oe_NoSlip : OeC K C_NoSlip "IndexError" "IndexError.__new__" "IndexError.__init__" bm_IndexError := { base := PySem.F.excBase_IndexError, pass := PySem.MyX.pass_Index, ob := by decide +kernel, cls := ⟨_, _, _, _, _, _, _, _, _, _, _, _, _, _, x_NoSlip⟩, sa := sa_NoSlip, is_ := ⟨ga_NoSlip, gk_NoSlip, hs_NoSlip, hd_NoSlip, ha_NoSlip, hn_, ht_, hm_NoSlip⟩, ty := ty_NoSlip, kC := kC_NoSlip }
  have F_NoByte := fun_mk (st := s_NoByte) l_NoByte c_NoByte k_NoByte
  have b_NoByte := F_NoByte.binds (ps := ["self", "at"]) fun _ _ _ _ _ _ us hl => match us, hl with | [_, _], _ => rfl
  have oe_NoByte : OeC K C_NoByte "IndexError" "IndexError.__new__" "IndexError.__init__" bm_IndexError := { base := PySem.F.excBase_IndexError, pass := PySem.MyX.pass_Index, ob := by decide +kernel, cls := ⟨_, _, _, _, _, _, _, _, _, _, _, _, _, _, x_NoByte⟩, sa := sa_NoByte, is_ := ⟨ga_NoByte, gk_NoByte, hs_NoByte, hd_NoByte, ha_NoByte, hn_, ht_, hm_NoByte⟩, ty := ty_NoByte, kC := kC_NoByte }
  have F_NoDeed := fun_mk (st := s_NoDeed) l_NoDeed c_NoDeed k_NoDeed
  have b_NoDeed := F_NoDeed.binds (ps := ["self", "many"]) fun _ _ _ _ _ _ us hl => match us, hl with | [_, _], _ => rfl
  have oe_NoDeed : OeC K C_NoDeed "LookupError" "LookupError.__new__" "LookupError.__init__" bm_LookupError := { base := PySem.F.excBase_LookupError, pass := PySem.MyX.pass_Lookup, ob := by decide +kernel, cls := ⟨_, _, _, _, _, _, _, _, _, _, _, _, _, _, x_NoDeed⟩, sa := sa_NoDeed, is_ := ⟨ga_NoDeed, gk_NoDeed, hs_NoDeed, hd_NoDeed, ha_NoDeed, hn_, ht_, hm_NoDeed⟩, ty := ty_NoDeed, kC := kC_NoDeed }
  have F_Ended := fun_mk (st := s_Ended) l_Ended c_Ended k_Ended
  have b_Ended := F_Ended.binds (ps := ["self", "talk"]) fun _ _ _ _ _ _ us hl => match us, hl with | [_, _], _ => rfl
  have oe_Ended : OeC K C_Ended "RuntimeError" "RuntimeError.__new__" "RuntimeError.__init__" bm_RuntimeError := { base := PySem.F.excBase_RuntimeError, pass := PySem.MyX.pass_Runtime, ob := by decide +kernel, cls := ⟨_, _, _, _, _, _, _, _, _, _, _, _, _, _, x_Ended⟩, sa := sa_Ended, is_ := ⟨ga_Ended, gk_Ended, hs_Ended, hd_Ended, ha_Ended, hn_, ht_, hm_Ended⟩, ty := ty_Ended, kC := kC_Ended }
  have T : Tx K mg := { f_is_number := f0, fd_is_number := _, F_is_number := F0, g_is_number := PySem.W.mg_of X G a0, b_is_number := b0, f_is_fault := f1, fd_is_fault := _, F_is_fault := F1, g_is_fault := PySem.W.mg_of X G a1, b_is_fault := b1, f_cell_at := f2, fd_cell_at := _, F_cell_at := F2, g_cell_at := PySem.W.mg_of X G a2, b_cell_at := b2, f_box := f3, fd_box := _, F_box := F3, g_box := PySem.W.mg_of X G a3, b_box := b3, f_take := f4, fd_take := _, F_take := F4, g_take := PySem.W.mg_of X G a4, b_take := b4, f_same := f5, fd_same := _, F_same := F5, g_same := PySem.W.mg_of X G a5, b_same := b5, f_of := f6, fd_of := _, F_of := F6, g_of := PySem.W.mg_of X G a6, b_of := b6, f_kinds := f7, fd_kinds := _, F_kinds := F7, g_kinds := PySem.W.mg_of X G a7, b_kinds := b7, f_due := f8, fd_due := _, F_due := F8, g_due := PySem.W.mg_of X G a8, b_due := b8, f_made_right := f9, fd_made_right := _, F_made_right := F9, g_made_right := PySem.W.mg_of X G a9, b_made_right := b9, tk_HEAD := _, g_HEAD := PySem.W.mg_of X G a_HEAD, tk_TALK := _, g_TALK := PySem.W.mg_of X G a_TALK, tk_SIZE := _, g_SIZE := PySem.W.mg_of X G a_SIZE, tk_ORDER := _, g_ORDER := PySem.W.mg_of X G a_ORDER, tk_SIGNS := _, g_SIGNS := PySem.W.mg_of X G a_SIGNS, tk_GREAT := _, g_GREAT := PySem.W.mg_of X G a_GREAT, tk_END := _, g_END := PySem.W.mg_of X G a_END, tk_DONE := _, g_DONE := PySem.W.mg_of X G a_DONE, tk_MOST := _, g_MOST := PySem.W.mg_of X G a_MOST, tk_EVERY := _, g_EVERY := PySem.W.mg_of X G a_EVERY, C_BadSlip := C_BadSlip, f_BadSlip := f_BadSlip, fd_BadSlip := _, F_BadSlip := F_BadSlip, g_BadSlip := PySem.W.mg_of X G a_BadSlip, oe_BadSlip := oe_BadSlip, i_BadSlip := i_BadSlip, t_BadSlip := t_BadSlip, b_BadSlip := b_BadSlip, n_BadSlip_part := n_BadSlip_part, C_BadLetter := C_BadLetter, f_BadLetter := f_BadLetter, fd_BadLetter := _, F_BadLetter := F_BadLetter, g_BadLetter := PySem.W.mg_of X G a_BadLetter, oe_BadLetter := oe_BadLetter, i_BadLetter := i_BadLetter, t_BadLetter := t_BadLetter, b_BadLetter := b_BadLetter, n_BadLetter_part := n_BadLetter_part, C_BadEnd := C_BadEnd, f_BadEnd := f_BadEnd, fd_BadEnd := _, F_BadEnd := F_BadEnd, g_BadEnd := PySem.W.mg_of X G a_BadEnd, oe_BadEnd := oe_BadEnd, i_BadEnd := i_BadEnd, t_BadEnd := t_BadEnd, b_BadEnd := b_BadEnd, n_BadEnd_part := n_BadEnd_part, C_BadText := C_BadText, f_BadText := f_BadText, fd_BadText := _, F_BadText := F_BadText, g_BadText := PySem.W.mg_of X G a_BadText, oe_BadText := oe_BadText, i_BadText := i_BadText, t_BadText := t_BadText, b_BadText := b_BadText, n_BadText_text := n_BadText_text, C_BadRow := C_BadRow, f_BadRow := f_BadRow, fd_BadRow := _, F_BadRow := F_BadRow, g_BadRow := PySem.W.mg_of X G a_BadRow, oe_BadRow := oe_BadRow, i_BadRow := i_BadRow, t_BadRow := t_BadRow, b_BadRow := b_BadRow, n_BadRow_row := n_BadRow_row, C_Fault := C_Fault, f_Fault := f_Fault, fd_Fault := _, F_Fault := F_Fault, g_Fault := PySem.W.mg_of X G a_Fault, oe_Fault := oe_Fault, i_Fault := i_Fault, t_Fault := t_Fault, b_Fault := b_Fault, n_Fault_code := n_Fault_code, n_Fault_at := n_Fault_at, C_NoSlip := C_NoSlip, f_NoSlip := f_NoSlip, fd_NoSlip := _, F_NoSlip := F_NoSlip, g_NoSlip := PySem.W.mg_of X G a_NoSlip, oe_NoSlip := oe_NoSlip, i_NoSlip := i_NoSlip, t_NoSlip := t_NoSlip, b_NoSlip := b_NoSlip, n_NoSlip_number := n_NoSlip_number, C_NoByte := C_NoByte, f_NoByte := f_NoByte, fd_NoByte := _, F_NoByte := F_NoByte, g_NoByte := PySem.W.mg_of X G a_NoByte, oe_NoByte := oe_NoByte, i_NoByte := i_NoByte, t_NoByte := t_NoByte, b_NoByte := b_NoByte, n_NoByte_at := n_NoByte_at, C_NoDeed := C_NoDeed, f_NoDeed := f_NoDeed, fd_NoDeed := _, F_NoDeed := F_NoDeed, g_NoDeed := PySem.W.mg_of X G a_NoDeed, oe_NoDeed := oe_NoDeed, i_NoDeed := i_NoDeed, t_NoDeed := t_NoDeed, b_NoDeed := b_NoDeed, n_NoDeed_many := n_NoDeed_many, C_Ended := C_Ended, f_Ended := f_Ended, fd_Ended := _, F_Ended := F_Ended, g_Ended := PySem.W.mg_of X G a_Ended, oe_Ended := oe_Ended, i_Ended := i_Ended, t_Ended := t_Ended, b_Ended := b_Ended, n_Ended_talk := n_Ended_talk, kb_BadSlip_part := mk_kb_BadSlip_part F_BadSlip, kb_BadLetter_part := mk_kb_BadLetter_part F_BadLetter, kb_BadEnd_part := mk_kb_BadEnd_part F_BadEnd, kb_BadText_text := mk_kb_BadText_text F_BadText, kb_BadRow_row := mk_kb_BadRow_row F_BadRow, kb_Fault_at_code := mk_kb_Fault_at_code F_Fault, kb_NoSlip_number := mk_kb_NoSlip_number F_NoSlip, kb_NoByte_at := mk_kb_NoByte_at F_NoByte, kb_NoDeed_many := mk_kb_NoDeed_many F_NoDeed, kb_Ended_talk := mk_kb_Ended_talk F_Ended, lt_BadSlip := lt_BadSlip, lt_BadLetter := lt_BadLetter, lt_BadEnd := lt_BadEnd, lt_BadText := lt_BadText, lt_BadRow := lt_BadRow, lt_Fault := lt_Fault, lt_NoSlip := lt_NoSlip, lt_NoByte := lt_NoByte, lt_NoDeed := lt_NoDeed, v_IndexError := v_IndexError, v_LookupError := v_LookupError, v_RuntimeError := v_RuntimeError, v_ValueError := v_ValueError, m_len := PySem.W.mg_none_of X G z_len, m_abs := PySem.W.mg_none_of X G z_abs, m_int := PySem.W.mg_none_of X G z_int, m_bool := PySem.W.mg_none_of X G z_bool, m_list := PySem.W.mg_none_of X G z_list, m_tuple := PySem.W.mg_none_of X G z_tuple, m_isinstance := PySem.W.mg_none_of X G z_isinstance, m_all := PySem.W.mg_none_of X G z_all, m_any := PySem.W.mg_none_of X G z_any, m_zip := PySem.W.mg_none_of X G z_zip, m_min := PySem.W.mg_none_of X G z_min, m_range := PySem.W.mg_none_of X G z_range, m_ValueError := PySem.W.mg_none_of X G z_ValueError, m_IndexError := PySem.W.mg_none_of X G z_IndexError, m_LookupError := PySem.W.mg_none_of X G z_LookupError, m_RuntimeError := PySem.W.mg_none_of X G z_RuntimeError, m_KeyError := PySem.W.mg_none_of X G z_KeyError }
  exact ⟨PySem.W.fnOf "law" "law" (defArgs s_law) (defBody s_law) (defScope s_law) .none kV10 dc10 pm10 an10 cd10 ct10, fun s v => .of_eq rfl, fun base _ _ => ok_law T F10⟩
end K5
open PySem PySem.W PyProof.Rows
set_option maxHeartbeats 0 in
theorem PySem.Challenge.cw_slipwire_k05_refusals_and_codes_holds : PySem.Challenge.rw_slipwire_k05_refusals_and_codes.Holds := by
  w_on; o_law; k_head; (case hw => w_witness2)
  k_fill
  refine L2.walk_of (l := PySem.Challenge.rw_slipwire_k05_refusals_and_codes) (n := 63) (k := 6) (x := "_law_script") (CX := fun _ => L2.CX0) (sp := fun w => K5.spLaw _) rfl (by decide) rfl ⟨rfl, by decide, by decide⟩ (fun w h Y => PySem.W.kIn_of Y) ?F (fun _ _ a ns hl _ hS => ⟨a, ns, rfl, hS, hl, fun _ => rfl⟩) (fun _ _ _ _ _ h => h)
  case F =>
    intro w mg fa h KX G hmg
    refine' K5.all_mk KX G hmg ?a0 ?l0 ?c0 ?k0 ?a1 ?l1 ?c1 ?k1 ?a2 ?l2 ?c2 ?k2 ?a3 ?l3 ?c3 ?k3 ?a4 ?l4 ?c4 ?k4 ?a5 ?l5 ?c5 ?k5 ?a6 ?l6 ?c6 ?k6 ?a7 ?l7 ?c7 ?k7 ?a8 ?l8 ?c8 ?k8 ?a9 ?l9 ?c9 ?k9 ?a10 ?l10 ?c10 ?k10 ?a_HEAD ?a_TALK ?a_SIZE ?a_ORDER ?a_SIGNS ?a_GREAT ?a_END ?a_DONE ?a_MOST ?a_EVERY ?a_BadSlip ?x_BadSlip ?sa_BadSlip ?ga_BadSlip ?gk_BadSlip ?hs_BadSlip ?hd_BadSlip ?ha_BadSlip ?hm_BadSlip ?ty_BadSlip ?kC_BadSlip ?i_BadSlip ?t_BadSlip ?l_BadSlip ?c_BadSlip ?k_BadSlip ?n_BadSlip_part ?a_BadLetter ?x_BadLetter ?sa_BadLetter ?ga_BadLetter ?gk_BadLetter ?hs_BadLetter ?hd_BadLetter ?ha_BadLetter ?hm_BadLetter ?ty_BadLetter ?kC_BadLetter ?i_BadLetter ?t_BadLetter ?l_BadLetter ?c_BadLetter ?k_BadLetter ?n_BadLetter_part ?a_BadEnd ?x_BadEnd ?sa_BadEnd ?ga_BadEnd ?gk_BadEnd ?hs_BadEnd ?hd_BadEnd ?ha_BadEnd ?hm_BadEnd ?ty_BadEnd ?kC_BadEnd ?i_BadEnd ?t_BadEnd ?l_BadEnd ?c_BadEnd ?k_BadEnd ?n_BadEnd_part ?a_BadText ?x_BadText ?sa_BadText ?ga_BadText ?gk_BadText ?hs_BadText ?hd_BadText ?ha_BadText ?hm_BadText ?ty_BadText ?kC_BadText ?i_BadText ?t_BadText ?l_BadText ?c_BadText ?k_BadText ?n_BadText_text ?a_BadRow ?x_BadRow ?sa_BadRow ?ga_BadRow ?gk_BadRow ?hs_BadRow ?hd_BadRow ?ha_BadRow ?hm_BadRow ?ty_BadRow ?kC_BadRow ?i_BadRow ?t_BadRow ?l_BadRow ?c_BadRow ?k_BadRow ?n_BadRow_row ?a_Fault ?x_Fault ?sa_Fault ?ga_Fault ?gk_Fault ?hs_Fault ?hd_Fault ?ha_Fault ?hm_Fault ?ty_Fault ?kC_Fault ?i_Fault ?t_Fault ?l_Fault ?c_Fault ?k_Fault ?n_Fault_code ?n_Fault_at ?a_NoSlip ?x_NoSlip ?sa_NoSlip ?ga_NoSlip ?gk_NoSlip ?hs_NoSlip ?hd_NoSlip ?ha_NoSlip ?hm_NoSlip ?ty_NoSlip ?kC_NoSlip ?i_NoSlip ?t_NoSlip ?l_NoSlip ?c_NoSlip ?k_NoSlip ?n_NoSlip_number ?a_NoByte ?x_NoByte ?sa_NoByte ?ga_NoByte ?gk_NoByte ?hs_NoByte ?hd_NoByte ?ha_NoByte ?hm_NoByte ?ty_NoByte ?kC_NoByte ?i_NoByte ?t_NoByte ?l_NoByte ?c_NoByte ?k_NoByte ?n_NoByte_at ?a_NoDeed ?x_NoDeed ?sa_NoDeed ?ga_NoDeed ?gk_NoDeed ?hs_NoDeed ?hd_NoDeed ?ha_NoDeed ?hm_NoDeed ?ty_NoDeed ?kC_NoDeed ?i_NoDeed ?t_NoDeed ?l_NoDeed ?c_NoDeed ?k_NoDeed ?n_NoDeed_many ?a_Ended ?x_Ended ?sa_Ended ?ga_Ended ?gk_Ended ?hs_Ended ?hd_Ended ?ha_Ended ?hm_Ended ?ty_Ended ?kC_Ended ?i_Ended ?t_Ended ?l_Ended ?c_Ended ?k_Ended ?n_Ended_talk ?hn_ ?ht_ ?lt_BadSlip ?lt_BadLetter ?lt_BadEnd ?lt_BadText ?lt_BadRow ?lt_Fault ?lt_NoSlip ?lt_NoByte ?lt_NoDeed ?v_IndexError ?v_LookupError ?v_RuntimeError ?v_ValueError ?z_len ?z_abs ?z_int ?z_bool ?z_list ?z_tuple ?z_isinstance ?z_all ?z_any ?z_zip ?z_min ?z_range ?z_ValueError ?z_IndexError ?z_LookupError ?z_RuntimeError ?z_KeyError
    (case a0 => k_is); (case l0 => k_is); (case c0 => k_is); (case k0 => k_is); (case a1 => k_is); (case l1 => k_is); (case c1 => k_is); (case k1 => k_is); (case a2 => k_is); (case l2 => k_is); (case c2 => k_is); (case k2 => k_is); (case a3 => k_is); (case l3 => k_is); (case c3 => k_is); (case k3 => k_is); (case a4 => k_is); (case l4 => k_is); (case c4 => k_is); (case k4 => k_is); (case a5 => k_is); (case l5 => k_is); (case c5 => k_is); (case k5 => k_is); (case a6 => k_is); (case l6 => k_is); (case c6 => k_is); (case k6 => k_is); (case a7 => k_is); (case l7 => k_is); (case c7 => k_is); (case k7 => k_is); (case a8 => k_is); (case l8 => k_is); (case c8 => k_is); (case k8 => k_is); (case a9 => k_is); (case l9 => k_is); (case c9 => k_is); (case k9 => k_is); (case a10 => k_is); (case l10 => k_is); (case c10 => k_is); (case k10 => k_is); (case a_HEAD => k_is); (case a_TALK => k_is); (case a_SIZE => k_is); (case a_ORDER => k_is); (case a_SIGNS => k_is); (case a_GREAT => k_is); (case a_END => k_is); (case a_DONE => k_is); (case a_MOST => k_is); (case a_EVERY => k_is); (case a_BadSlip => k_is); (case x_BadSlip => k_is); (case sa_BadSlip => k_is); (case ga_BadSlip => k_is); (case gk_BadSlip => k_is); (case hs_BadSlip => k_is); (case hd_BadSlip => k_is); (case ha_BadSlip => k_is); (case hm_BadSlip => k_is); (case ty_BadSlip => k_is); (case kC_BadSlip => k_is); (case i_BadSlip => k_is); (case t_BadSlip => k_is); (case l_BadSlip => k_is); (case c_BadSlip => k_is); (case k_BadSlip => k_is); (case n_BadSlip_part => k_is); (case a_BadLetter => k_is); (case x_BadLetter => k_is); (case sa_BadLetter => k_is); (case ga_BadLetter => k_is); (case gk_BadLetter => k_is); (case hs_BadLetter => k_is); (case hd_BadLetter => k_is); (case ha_BadLetter => k_is); (case hm_BadLetter => k_is); (case ty_BadLetter => k_is); (case kC_BadLetter => k_is); (case i_BadLetter => k_is); (case t_BadLetter => k_is); (case l_BadLetter => k_is); (case c_BadLetter => k_is); (case k_BadLetter => k_is); (case n_BadLetter_part => k_is); (case a_BadEnd => k_is); (case x_BadEnd => k_is); (case sa_BadEnd => k_is); (case ga_BadEnd => k_is); (case gk_BadEnd => k_is); (case hs_BadEnd => k_is); (case hd_BadEnd => k_is); (case ha_BadEnd => k_is); (case hm_BadEnd => k_is); (case ty_BadEnd => k_is); (case kC_BadEnd => k_is); (case i_BadEnd => k_is); (case t_BadEnd => k_is); (case l_BadEnd => k_is); (case c_BadEnd => k_is); (case k_BadEnd => k_is); (case n_BadEnd_part => k_is); (case a_BadText => k_is); (case x_BadText => k_is); (case sa_BadText => k_is); (case ga_BadText => k_is); (case gk_BadText => k_is); (case hs_BadText => k_is); (case hd_BadText => k_is); (case ha_BadText => k_is); (case hm_BadText => k_is); (case ty_BadText => k_is); (case kC_BadText => k_is); (case i_BadText => k_is); (case t_BadText => k_is); (case l_BadText => k_is); (case c_BadText => k_is); (case k_BadText => k_is); (case n_BadText_text => k_is); (case a_BadRow => k_is); (case x_BadRow => k_is); (case sa_BadRow => k_is); (case ga_BadRow => k_is); (case gk_BadRow => k_is); (case hs_BadRow => k_is); (case hd_BadRow => k_is); (case ha_BadRow => k_is); (case hm_BadRow => k_is); (case ty_BadRow => k_is); (case kC_BadRow => k_is); (case i_BadRow => k_is); (case t_BadRow => k_is); (case l_BadRow => k_is); (case c_BadRow => k_is); (case k_BadRow => k_is); (case n_BadRow_row => k_is); (case a_Fault => k_is); (case x_Fault => k_is); (case sa_Fault => k_is); (case ga_Fault => k_is); (case gk_Fault => k_is); (case hs_Fault => k_is); (case hd_Fault => k_is); (case ha_Fault => k_is); (case hm_Fault => k_is); (case ty_Fault => k_is); (case kC_Fault => k_is); (case i_Fault => k_is); (case t_Fault => k_is); (case l_Fault => k_is); (case c_Fault => k_is); (case k_Fault => k_is); (case n_Fault_code => k_is); (case n_Fault_at => k_is); (case a_NoSlip => k_is); (case x_NoSlip => k_is); (case sa_NoSlip => k_is); (case ga_NoSlip => k_is); (case gk_NoSlip => k_is); (case hs_NoSlip => k_is); (case hd_NoSlip => k_is); (case ha_NoSlip => k_is); (case hm_NoSlip => k_is); (case ty_NoSlip => k_is); (case kC_NoSlip => k_is); (case i_NoSlip => k_is); (case t_NoSlip => k_is); (case l_NoSlip => k_is); (case c_NoSlip => k_is); (case k_NoSlip => k_is); (case n_NoSlip_number => k_is); (case a_NoByte => k_is); (case x_NoByte => k_is); (case sa_NoByte => k_is); (case ga_NoByte => k_is); (case gk_NoByte => k_is); (case hs_NoByte => k_is); (case hd_NoByte => k_is); (case ha_NoByte => k_is); (case hm_NoByte => k_is); (case ty_NoByte => k_is); (case kC_NoByte => k_is); (case i_NoByte => k_is); (case t_NoByte => k_is); (case l_NoByte => k_is); (case c_NoByte => k_is); (case k_NoByte => k_is); (case n_NoByte_at => k_is); (case a_NoDeed => k_is); (case x_NoDeed => k_is); (case sa_NoDeed => k_is); (case ga_NoDeed => k_is); (case gk_NoDeed => k_is); (case hs_NoDeed => k_is); (case hd_NoDeed => k_is); (case ha_NoDeed => k_is); (case hm_NoDeed => k_is); (case ty_NoDeed => k_is); (case kC_NoDeed => k_is); (case i_NoDeed => k_is); (case t_NoDeed => k_is); (case l_NoDeed => k_is); (case c_NoDeed => k_is); (case k_NoDeed => k_is); (case n_NoDeed_many => k_is); (case a_Ended => k_is); (case x_Ended => k_is); (case sa_Ended => k_is); (case ga_Ended => k_is); (case gk_Ended => k_is); (case hs_Ended => k_is); (case hd_Ended => k_is); (case ha_Ended => k_is); (case hm_Ended => k_is); (case ty_Ended => k_is); (case kC_Ended => k_is); (case i_Ended => k_is); (case t_Ended => k_is); (case l_Ended => k_is); (case c_Ended => k_is); (case k_Ended => k_is); (case n_Ended_talk => k_is); (case hn_ => k_is); (case ht_ => k_is); (case lt_BadSlip => decide); (case lt_BadLetter => decide); (case lt_BadEnd => decide); (case lt_BadText => decide); (case lt_BadRow => decide); (case lt_Fault => decide); (case lt_NoSlip => decide); (case lt_NoByte => decide); (case lt_NoDeed => decide); (case v_IndexError => k_is); (case v_LookupError => k_is); (case v_RuntimeError => k_is); (case v_ValueError => k_is); (case z_len => k_is); (case z_abs => k_is); (case z_int => k_is); (case z_bool => k_is); (case z_list => k_is); (case z_tuple => k_is); (case z_isinstance => k_is); (case z_all => k_is); (case z_any => k_is); (case z_zip => k_is); (case z_min => k_is); (case z_range => k_is); (case z_ValueError => k_is); (case z_IndexError => k_is); (case z_LookupError => k_is); (case z_RuntimeError => k_is); (case z_KeyError => k_is)
