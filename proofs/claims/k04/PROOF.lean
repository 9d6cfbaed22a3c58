import PyProof.Rows.All
import Wide.All
import OpenK.AllK
import Wide.FinOn
import HandS.ForMost
import HandS.Walk
import HandS.IsInst
import HandS.Zip
import HandS.Defaults
import HandS.MakeKwOnly
import HandS.Style
import HandS.DeepEq
import KE.GoesMore
import KE.GoesEnum
import KE.GoesZip
import HandS.ExcInit
import HandS.ExcIs
import HandS.FStr
import KE.KExcPX
import HandS.Exc
import HandS.ExcOwn
import HandS.WordsExc
import HandS.CallSlots
import HandS.TupAny
import HandS.Conv
import PySem.Challenge.RW_slipwire_k04_sizes_that_can_not_go_on
set_option Elab.async false
set_option linter.all false
set_option maxRecDepth 100000
set_option maxHeartbeats 4000000
/-! my own rules over the hand layer: enumerate of a tuple, a call by keywords alone -/
namespace PySem
open Sem (wp)
set_option maxHeartbeats 1000000 in
theorem my_meets_enumT (t : Addr) (items : Array Value) :
    Meets (Builtin.«enumerate.__new__» ⟨[.type "enumerate", .ref t], []⟩) (fun _ R s => s.heap.IsTuple t items ∧
      R (.ok (.ret (.ref (s.heap.push { cls := .type "tuple_iterator", data := .fields #[.ref t, .int 0 0] }).objs.size)))
        { s with heap := (s.heap.push { cls := .type "tuple_iterator", data := .fields #[.ref t, .int 0 0] }).push { cls := .type "enumerate", data := .fields #[.none, .bool false, .ref s.heap.objs.size, rawInt 0, .none, .none] } }) :=
  .of_wp fun prog w A R s h => by
    obtain ⟨hp, g, d, tk, os⟩ := s
    obtain ⟨hl, h⟩ := h
    have hsub := sub_enumerate
    have hL : Heap.IsTuple (Shared.heap ⟨hp, g, d, tk, os⟩) t items := hl
    wp_walk using wpAny_pyIter_tuple hL
    refine wpAny_stack_any fun st => wpAny_pure ?_
    split
    · rename_i c _ _ _ _ _
      cases (c == Value.type "enumerate")
      · wp_walk using wpAny_pyIter_tuple hL
        exact ⟨_, rfl, h⟩
      · wp_walk using wpAny_pyIter_tuple hL
        exact ⟨_, rfl, h⟩
    · wp_walk using wpAny_pyIter_tuple hL
      exact ⟨_, rfl, h⟩
theorem my_call_enumT {prog : Program} {w : World} {A : Around} {E : Value → Shared → Prop} {s : Shared} {t : Addr} {items : Array Value} {Q : Value → Shared → Prop} (hL : s.heap.IsTuple t items)
    (h : ∀ h', IsEnum h' (s.heap.objs.size + 1) s.heap.objs.size 0 .none → h'.IsTupleIter s.heap.objs.size t 0 → h'.objs.size = s.heap.objs.size + 2 →
      (∀ b o, s.heap.get? b = some o → h'.get? b = some o) → Q (.ref (s.heap.objs.size + 1)) { s with heap := h' }) :
    wpAny (model prog w) A (call (.type "enumerate") [.ref t]) Q E s := by
  refine callType_new F.called_enumerate (by decide) (F.typeCall_enumerate_1 _) (F.newCall_enumerate_1 _) (fun obj => F.args_object_init_2 obj _) F.entry_enumerate_new
    (my_meets_enumT t items) ⟨hL, ?_⟩
  have hz : (s.heap.push { cls := .type "tuple_iterator", data := .fields #[.ref t, .int 0 0] }).objs.size = s.heap.objs.size + 1 := Heap.size_push ..
  show _ ∧ _
  rw [hz]
  have he : IsEnum ((s.heap.push { cls := .type "tuple_iterator", data := .fields #[.ref t, .int 0 0] }).push
      { cls := .type "enumerate", data := .fields #[.none, .bool false, .ref s.heap.objs.size, rawInt 0, .none, .none] }) (s.heap.objs.size + 1) s.heap.objs.size 0 .none := by
    have := Heap.get?_push_size (s.heap.push { cls := .type "tuple_iterator", data := .fields #[.ref t, .int 0 0] })
      (o := { cls := .type "enumerate", data := .fields #[.none, .bool false, .ref s.heap.objs.size, rawInt 0, .none, .none] }) rfl
    rw [hz] at this; exact this
  refine ⟨⟨_, he, rfl⟩, h _ he ⟨_, Heap.get?_push_of_some _ (Heap.get?_push_size _ rfl), rfl, rfl⟩ (by rw [Heap.size_push, hz]) fun b o x => Heap.get?_push_of_some _ (Heap.get?_push_of_some _ x)⟩
end PySem
namespace L2
open PySem PySem.Spec PyProof.Rows
/-! ### enumerate(tuple) -/
def IteT (K : PySem.W.Frag) (a : Addr) : It :=
  ⟨fun i H => ∃ (xs : List V) (x : V), SqT K H a xs ∧ xs[i]? = some x, fun i H v H' => ∃ T x, v = .ref T ∧ H T = none ∧ H' = upd H T (.tup [.int (i : Nat), x]) ∧ ∀ xs, SqT K H a xs → xs[i]? = some x, fun i H => ∃ xs : List V, SqT K H a xs ∧ xs.length = i⟩
theorem turn_enumT {P : Program} {w : World} {K : PySem.W.Frag} {elts : List Expr} {kk : Nat} {tpos : Pos} (a e it : Addr) :
    Turn P w K (.Tuple elts kk tpos) (IteT K a) [e, it] e (fun i h => (∃ old, IsEnum h e it ((i : Nat) : Int) old) ∧ h.IsTupleIter it a i ∧ e ≠ it ∧ a ≠ it ∧ a ≠ e) where
  mem := by simp
  obj := fun i h st b hb => by
    obtain ⟨⟨old, he⟩, ⟨o, ho, hc, hd⟩, _⟩ := st
    have e' : b = e ∨ b = it := by simpa using hb
    rcases e' with z | z
    · rw [z]; exact ⟨_, he, fun v q => nomatch q⟩
    · rw [z]; exact ⟨o, ho, fun v q => by rw [hd] at q; cases q⟩
  keep := fun i h h' st k => let ⟨⟨old, he⟩, hi, hne⟩ := st; ⟨⟨old, k e (by simp) _ he⟩, hi.at fun o q => k it (by simp) o q, hne⟩
  item := by
    intro X hP hw hK hc i pins s σ H E I hf st hg
    subst hP hw hK
    obtain ⟨⟨old, he⟩, hit, hne, hai, hae⟩ := st
    obtain ⟨xs, x, hq, hx⟩ := hg
    obtain ⟨its, rv, p, hz⟩ := I.tuple hq
    obtain ⟨u, hu, ru⟩ := rv.get hx
    have hel : e < s.heap.objs.size := Heap.lt_size he
    have hil : it < s.heap.objs.size := by obtain ⟨_, q, _⟩ := hit; exact Heap.lt_size q
    have hlt : i < its.toArray.size := by
      have h1 : i < its.length := (List.getElem?_eq_some_iff.mp hu).1
      rw [List.size_toArray]
      exact h1
    have D : Draws X.prog X.w X.A.in1 it [it, a] its.toArray.size (fun i v => its.toArray[i]? = some v) (fun i h => h.IsTupleIter it a i ∧ h.IsTuple a its.toArray) := Draws.tuple (show X.A.in1.handled = none from I.ok.hd hc) it a hai its.toArray
    refine wpAny_pyNext_enum_itemD D he ⟨hit, p⟩ hlt hne (by simp only [List.mem_cons, List.not_mem_nil, or_false, not_or]; exact ⟨hne, fun z => hae z.symm⟩) fun v h' tk hP ho hs' hT hsz hk => ?_
    obtain rfl : u = v := by
      have z : its.toArray[i]? = some u := by simpa using hu
      rw [z] at hP
      exact Option.some.inj hP
    refine ⟨_, rfl, wpAny_letOwnedTupleGo_enum (s := { s with heap := h', toks := tk + 1 }) ho fun h'' he' sb => ?_⟩
    have hT2 : h''.get? s.heap.objs.size = some { cls := .type "tuple", data := .seq #[.int i tk, u] } := (sb.2 _ (Nat.ne_of_gt hel)).trans hT
    have new : ObjOk X.prog X.w (upd H s.heap.objs.size (.tup [.int (i : Nat), x])) h'' s.heap.objs.size (.tup [.int (i : Nat), x]) :=
      ⟨by show 2 ≤ sizeLine; decide, [.int i tk, u], .cons ⟨_, rfl⟩ (.cons ru .nil), ⟨_, hT2, rfl, _, rfl⟩⟩
    have I1 : Inv X pins σ (upd H s.heap.objs.size (.tup [.int (i : Nat), x])) { s with heap := h'', toks := tk + 1 } :=
      I.turnedNew (ch := [e, it]) (fun b ob hb q => (sb.2 b (fun z => hb (by simp [z]))).trans (hk b ob (fun z => hb (by simp [z])) (fun z => hb (by simp [z])) q)) hf (Nat.le_refl _) new
    refine ⟨.ref s.heap.objs.size, _, I1, rfl, ⟨_, x, rfl, I.hok.fresh (Nat.le_refl _), rfl, fun ys hy => by rw [I.tuple_inj hy hq]; exact hx⟩, ⟨⟨u, ?_⟩, hs'.1.at fun o q => (sb.2 it (Ne.symm hne)).trans q, hne, hai, hae⟩, fun b hb => ?_⟩
    · have e1 : ((i + 1 : Nat) : Int) = (i : Int) + 1 := by omega
      rw [e1]; exact he'
    · have hb' : b < s.heap.objs.size := by
        have e' : b = e ∨ b = it := by simpa using hb
        rcases e' with z | z
        · rw [z]; exact hel
        · rw [z]; exact hil
      rw [upd_ne (Nat.ne_of_lt hb')]
      exact (hf b hb).1
  done := by
    intro X hP hw hK hc i pins s σ H E I hf st hg
    subst hP hw hK
    obtain ⟨⟨old, he⟩, hit, hne, hai, hae⟩ := st
    obtain ⟨xs, hq, hx⟩ := hg
    obtain ⟨its, rv, p, hz⟩ := I.tuple hq
    obtain ⟨f0, f1, f2, f3, f4, f5⟩ := hf it (by simp)
    have hl := rv.length
    have hi : i = its.toArray.size := by rw [List.size_toArray]; omega
    subst hi
    have D : Draws X.prog X.w X.A.in1 it [it, a] its.toArray.size (fun i v => its.toArray[i]? = some v) (fun i h => h.IsTupleIter it a i ∧ h.IsTuple a its.toArray) := Draws.tuple (show X.A.in1.handled = none from I.ok.hd hc) it a hai its.toArray
    exact wpAny_pyNext_enum_endD D he ⟨hit, p⟩ fun h' eb => ⟨rfl, I.turned (t' := s.toks) (fun b o hb q => eb b o hb q) f0 f1 f3 f4 f5⟩
  self := fun A i s Q E st h => let ⟨⟨_, he⟩, _⟩ := st; wpAny_pyIter_enum he h
/-- enumerate of a list or a tuple -/
def iEnumA (K : PySem.W.Frag) (ta : TA) : TI := fun σ H R => ta σ H fun vs H1 => ∃ a xs, vs = [.ref a] ∧ ((SqL K H1 a xs ∧ R (Ite K a) H1) ∨ (SqT K H1 a xs ∧ R (IteT K a) H1))
theorem pi_enumA {X : Cx} {e : Expr} {ta : TA} {p pos tpos : Pos} {elts : List Expr} {kk : Nat} (hg : Gl X "enumerate") (hm : X.mg "enumerate" = none) (ha : PA X [e] ta) (hs : starEach [e] X.env = [(false, eval e X.env)] := by rfl) :
    PI X (.Tuple elts kk tpos) (.Call (.Name "enumerate" p) [e] [] pos) (iEnumA X.K ta) := by
  refine ⟨fun pins s σ H R I h => ?_⟩
  refine Call_ (ld_blt I hg hm boot_enumerate (PyProof.Rows.callWith_type1 (thn (ha.run pos pins s σ H _ I h) fun us s1 ⟨vs, H1, I1, r1, q1⟩ => ?_) hs rfl))
  obtain ⟨a, xs, ex, q1⟩ := q1
  subst ex
  cases r1 with
  | cons r rr =>
    cases rr
    cases r
    have fresh2 : ∀ b, b ∈ [s1.heap.objs.size + 1, s1.heap.objs.size] → FpOk X pins H1 b := fun b hb => by
      have e' : b = s1.heap.objs.size + 1 ∨ b = s1.heap.objs.size := by simpa using hb
      have hle : s1.heap.objs.size ≤ b := by
        rcases e' with z | z
        · rw [z]; exact Nat.le_add_right _ _
        · rw [z]; exact Nat.le_refl _
      exact I1.fpOk hle (I1.hok.fresh hle)
    rcases q1 with ⟨hq, q⟩ | ⟨hq, q⟩
    · obtain ⟨its, rv, p', hz⟩ := I1.list hq
      refine call_enumerate_list p'.isList fun h' he hit hsz hk => wpAny_pyIter_enum he ?_
      have I2 : Inv X pins σ H1 { s1 with heap := h' } := I1.kept (t' := s1.toks) hk
      exact ⟨s1.heap.objs.size + 1, [s1.heap.objs.size + 1, s1.heap.objs.size], _, _, H1, rfl, I2, turn_enum a (s1.heap.objs.size + 1) s1.heap.objs.size, ⟨⟨.none, he⟩, hit, Nat.succ_ne_self _⟩, fresh2, q⟩
    · obtain ⟨its, rv, p', hz⟩ := I1.tuple hq
      obtain ⟨o1, ho1, _⟩ := id p'
      have hlt : a < s1.heap.objs.size := Heap.lt_size ho1
      refine my_call_enumT (show s1.heap.IsTuple a its.toArray from p') fun h' he hit hsz hk => wpAny_pyIter_enum he ?_
      have I2 : Inv X pins σ H1 { s1 with heap := h' } := I1.kept (t' := s1.toks) hk
      exact ⟨s1.heap.objs.size + 1, [s1.heap.objs.size + 1, s1.heap.objs.size], _, _, H1, rfl, I2, turn_enumT a (s1.heap.objs.size + 1) s1.heap.objs.size, ⟨⟨.none, he⟩, hit, Nat.succ_ne_self _, Nat.ne_of_lt hlt, Nat.ne_of_lt (Nat.lt_succ_of_lt hlt)⟩, fresh2, q⟩
theorem walk_enumT {K : PySem.W.Frag} {a : Addr} {xs : List V} : Walk (IteT K a) xs.length (fun H => SqT K H a xs) (YPair (fun i => some (.int (i : Nat))) (fun i => xs[i]?)) := by
  refine ⟨fun i _ hi q => ⟨xs, xs[i], q, by simp [hi]⟩, fun _ q => ⟨xs, q, rfl⟩, fun i H v H' _ q y => ?_⟩
  obtain ⟨T, x, h1, h2, h3, h4⟩ := y
  exact ⟨T, .int (i : Nat), x, h1, h2, h3, rfl, h4 xs q⟩
/-! ### a call by keywords alone -/
section
variable {X : Cx} {CX : CXT} {k n : Nat} {f : Addr} {fd : FuncData} {ps ks : List Str} {sp : Sp} {x : Str} {g : List Value → List Value → List Value} {gV : List V → List V → List V} {E : XK} {tk : TA} {kws : List Keyword} {p pos : Pos}
theorem pe_callN0 (F : FnOk X.prog X.w X.K X.mg X.base CX k f fd ps sp) (hr : Room k X.A) (hg : Gl X x) (hm : X.mg x = some (.ref f)) (hk : PySem.W.keepIn X.K (.ref f) = true) (hb : KBn X.K fd ps 0 ks g gV) (hx : Passes CX X E)
    (hkw : PK X kws tk) (hall : (backToKw pos (keywordEach kws X.env)).all (·.1.isSome) = true := by rfl) (hks : (backToKw pos (keywordEach kws X.env)).filterMap (·.1) = ks := by rfl)
    (hdb : (x == ("__debug__" : Str)) = false := by decide)
    (hpl : ((backTo pos (starEach [] X.env)).any (·.1) || (backToKw pos (keywordEach kws X.env)).any (·.1.isNone)) = false := by rfl) :
    PE X (.Call (.Name x p) [] kws pos) (tCallN 0 ks.length sp gV E tNil tk) := by
  refine ⟨fun pins s σ H Q I h => ?_⟩
  refine wpAny_Call_Name_kw (ld_glob I hg hm ?_ hdb)
  refine PySem.W.callWith_KW0 (h₀ := X.base) I.ok.mod.kin hk hall ?_ hpl
  refine thn (hkw.run pos pins s σ H _ I h) fun ws s2 ⟨zs, H2, I2, rz, l1, l2, q2⟩ => ⟨I2.kIn, ?_⟩
  rw [hks]
  exact run_fnN (us := []) (vs := []) F hr hb hx I2 .nil rz rfl l2 q2
end
end L2

set_option Elab.async false
set_option linter.all false
set_option maxRecDepth 100000
set_option maxHeartbeats 4000000
/-! my own rule: zip of two rows, each a list or a tuple (kind true: a tuple) -/
namespace L2
open PySem PySem.Spec PyProof.Rows
def SqX (K : PySem.W.Frag) (H : Hp) : Bool → Addr → List V → Prop
  | true, a, xs => SqT K H a xs
  | false, a, xs => SqL K H a xs
def ItX (h : Heap) : Bool → Addr → Addr → Nat → Prop
  | true, it, a, i => h.IsTupleIter it a i
  | false, it, a, i => h.IsListIter it a i
def SeX (h : Heap) : Bool → Addr → Array Value → Prop
  | true, a, its => h.IsTuple a its
  | false, a, its => h.IsList a its
theorem drawX {prog : Program} {w : World} {A : Around} (k : Bool) (hh : A.handled = none) (it a : Addr) (hne : a ≠ it) (its : Array Value) :
    Draws prog w A it [it, a] its.size (fun i v => its[i]? = some v) (fun i h => ItX h k it a i ∧ SeX h k a its) := by
  cases k with
  | true => exact Draws.tuple hh it a hne its
  | false => exact Draws.list hh it a hne its
theorem ItX.at {h h' : Heap} {k : Bool} {it a : Addr} {i : Nat} (x : ItX h k it a i) (e : ∀ o, h.get? it = some o → h'.get? it = some o) : ItX h' k it a i := by
  cases k with
  | true => exact Heap.IsTupleIter.at x e
  | false => exact Heap.IsListIter.at x e
theorem ItX.obj {h : Heap} {k : Bool} {it a : Addr} {i : Nat} (x : ItX h k it a i) : ∃ o, h.get? it = some o ∧ ∀ v, o.data ≠ .cell v := by
  cases k with
  | true =>
    obtain ⟨o, e, _, d⟩ := x
    exact ⟨o, e, fun v q => by rw [d] at q; cases q⟩
  | false =>
    obtain ⟨o, e, _, d⟩ := x
    exact ⟨o, e, fun v q => by rw [d] at q; cases q⟩
section
variable {X : Cx} {pins : List (Addr × Obj)} {σ : St} {H : Hp} {s : Shared} {k : Bool} {a : Addr} {xs ys : List V}
theorem sqx_get (I : Inv X pins σ H s) (h : SqX X.K H k a xs) : ∃ its : List Value, Vals xs its ∧ SeX s.heap k a its.toArray ∧ a < s.heap.objs.size := by
  cases k with
  | true =>
    obtain ⟨its, rv, p, _⟩ := I.tuple h
    obtain ⟨o, ho, _⟩ := id p
    exact ⟨its, rv, p, Heap.lt_size ho⟩
  | false =>
    obtain ⟨its, rv, p, _⟩ := I.list h
    exact ⟨its, rv, p.isList, p.lt⟩
theorem sqx_inj (I : Inv X pins σ H s) (h : SqX X.K H k a xs) (g : SqX X.K H k a ys) : xs = ys := by
  cases k with
  | true => exact I.tuple_inj h g
  | false => exact I.list_inj h g
end
theorem beginsX (k : Bool) (a : Addr) (its : Array Value) : ∃ o, Begins (.ref a) o (fun h => SeX h k a its) ∧ ∀ (h : Heap) (it : Addr), h.get? it = some o → ItX h k it a 0 := by
  cases k with
  | true => exact ⟨_, begins_tuple a its, fun h it e => ⟨_, e, rfl, rfl⟩⟩
  | false => exact ⟨_, begins_list a its, fun h it e => ⟨_, e, rfl, rfl⟩⟩
/-- two rows as they stand at each turn, the items in new pairs -/
def ItzG (K : PySem.W.Frag) (k1 k2 : Bool) (a b : Addr) : It :=
  ⟨fun i H => ∃ (xs ys : List V) (x y : V), SqX K H k1 a xs ∧ SqX K H k2 b ys ∧ xs[i]? = some x ∧ ys[i]? = some y,
    fun i H v H' => ∃ T x y, v = .ref T ∧ H T = none ∧ H' = upd H T (.tup [x, y]) ∧ (∀ xs, SqX K H k1 a xs → xs[i]? = some x) ∧ ∀ ys, SqX K H k2 b ys → ys[i]? = some y,
    fun i H => ∃ xs ys : List V, SqX K H k1 a xs ∧ SqX K H k2 b ys ∧ min xs.length ys.length = i⟩
theorem turn_zipG {P : Program} {w : World} {K : PySem.W.Frag} {elts : List Expr} {kk : Nat} {tpos : Pos} {k1 k2 : Bool} {a b z TI TO i1 i2 : Addr} (S : ZipSep2 z TI TO i1 i2 [i1, a] [i2, b]) (hi : i1 ≠ i2) (ha : a ≠ i1) (hb : b ≠ i2) :
    Turn P w K (.Tuple elts kk tpos) (ItzG K k1 k2 a b) [z, TI, TO, i1, i2] z (fun i h => IsZip h z TI TO .none ∧ IsTupOf2 h TI (.ref i1) (.ref i2) ∧ (∃ x y, IsTupOf2 h TO x y) ∧ ItX h k1 i1 a i ∧ ItX h k2 i2 b i) where
  mem := by simp
  obj := fun i h st c hc => by
    obtain ⟨q1, q2, ⟨x, y, q3⟩, q4, q5⟩ := st
    simp only [List.mem_cons, List.not_mem_nil, or_false] at hc
    rcases hc with rfl | rfl | rfl | rfl | rfl
    · exact ⟨_, q1, fun v q => nomatch q⟩
    · exact ⟨_, q2, fun v q => nomatch q⟩
    · exact ⟨_, q3, fun v q => nomatch q⟩
    · exact q4.obj
    · exact q5.obj
  keep := fun i h h' st kp => by
    obtain ⟨q1, q2, ⟨x, y, q3⟩, q4, q5⟩ := st
    exact ⟨kp z (by simp) _ q1, kp TI (by simp) _ q2, ⟨x, y, kp TO (by simp) _ q3⟩, q4.at fun o q => kp i1 (by simp) o q, q5.at fun o q => kp i2 (by simp) o q⟩
  item := by
    intro X hP hw hK hc i pins s σ H E I hf st hg
    subst hP hw hK
    obtain ⟨q1, q2, ⟨x0, y0, q3⟩, q4, q5⟩ := st
    obtain ⟨xs, ys, x, y, hqx, hqy, hx, hy⟩ := hg
    obtain ⟨its, rv, pa, la⟩ := sqx_get I hqx
    obtain ⟨jts, rw', pb, lb⟩ := sqx_get I hqy
    obtain ⟨u, hu, ru⟩ := rv.get hx
    obtain ⟨v, hv, rv'⟩ := rw'.get hy
    have lz : z < s.heap.objs.size := Heap.lt_size q1
    have n1 : i < its.toArray.size := by
      rw [List.size_toArray]
      exact (List.getElem?_eq_some_iff.mp hu).1
    have n2 : i < jts.toArray.size := by
      rw [List.size_toArray]
      exact (List.getElem?_eq_some_iff.mp hv).1
    have hh : X.A.in1.handled = none := I.ok.hd hc
    refine wpAny_pyNext_zipD2_item S (drawX k1 hh i1 a ha its.toArray) (drawX k2 hh i2 b hb jts.toArray) q1 q2 q3 ⟨q4, pa⟩ ⟨q5, pb⟩ n1 n2 fun u' v' h' tk hu' hv' z1 t1 d1 d2 hT hsz hk => ?_
    obtain rfl : u = u' := by
      have e : its.toArray[i]? = some u := by simpa using hu
      exact Option.some.inj (e.symm.trans hu')
    obtain rfl : v = v' := by
      have e : jts.toArray[i]? = some v := by simpa using hv
      exact Option.some.inj (e.symm.trans hv')
    refine ⟨_, rfl, wpAny_letOwnedTupleGo_zip (s := { s with heap := h', toks := tk }) z1 fun h'' z2 sb => ?_⟩
    have up : ∀ c o, c ≠ z → h'.get? c = some o → h''.get? c = some o := fun c o hc' e => (sb.2 c hc').trans e
    have tupN : h''.get? s.heap.objs.size = some { cls := .type "tuple", data := .seq #[u, v] } := up _ _ (Nat.ne_of_gt lz) hT
    have fresh : ObjOk X.prog X.w (upd H s.heap.objs.size (.tup [x, y])) h'' s.heap.objs.size (.tup [x, y]) :=
      ⟨by show 2 ≤ sizeLine; decide, [u, v], .cons ru (.cons rv' .nil), ⟨_, tupN, rfl, _, rfl⟩⟩
    have J : Inv X pins σ (upd H s.heap.objs.size (.tup [x, y])) { s with heap := h'', toks := tk } :=
      I.turnedNew (t' := tk) (ch := [z, TI, TO, i1, i2]) (fun c o hb' e => up c o (fun q => hb' (by simp [q])) (hk c o (fun q => hb' (by simp [q])) (fun q => hb' (by simp [q])) (fun q => hb' (by simp [q])) (fun q => hb' (by simp [q])) e)) hf (Nat.le_refl _) fresh
    refine ⟨.ref s.heap.objs.size, _, J, rfl, ⟨_, x, y, rfl, I.hok.fresh (Nat.le_refl _), rfl, fun l hl => by rw [sqx_inj I hl hqx]; exact hx, fun l hl => by rw [sqx_inj I hl hqy]; exact hy⟩, ⟨z2, ?_, ⟨u, v, ?_⟩, ?_, ?_⟩, fun c hcm => ?_⟩
    · exact up _ _ S.TIz (hk _ _ S.TIz S.TITO S.TIi1 S.TIi2 q2)
    · exact up _ _ S.TOz t1
    · exact d1.1.at fun o e => up _ o (Ne.symm S.zi1) e
    · exact d2.1.at fun o e => up _ o (Ne.symm S.zi2) e
    · have lc : c < s.heap.objs.size := by
        simp only [List.mem_cons, List.not_mem_nil, or_false] at hcm
        rcases hcm with rfl | rfl | rfl | rfl | rfl
        · exact lz
        · exact Heap.lt_size q2
        · exact Heap.lt_size q3
        · obtain ⟨o, e, _⟩ := q4.obj
          exact Heap.lt_size e
        · obtain ⟨o, e, _⟩ := q5.obj
          exact Heap.lt_size e
      rw [upd_ne (Nat.ne_of_lt lc)]
      exact (hf c hcm).1
  done := by
    intro X hP hw hK hc i pins s σ H E I hf st hg
    subst hP hw hK
    obtain ⟨q1, q2, ⟨x0, y0, q3⟩, q4, q5⟩ := st
    obtain ⟨xs, ys, hqx, hqy, hend⟩ := hg
    obtain ⟨its, rv, pa, _⟩ := sqx_get I hqx
    obtain ⟨jts, rw', pb, _⟩ := sqx_get I hqy
    have l1 := rv.length
    have l2 := rw'.length
    have hh : X.A.in1.handled = none := I.ok.hd hc
    exact wpAny_pyNext_zipD2_end (i := i) S (drawX k1 hh i1 a ha its.toArray) (drawX k2 hh i2 b hb jts.toArray) q1 q2 q3 ⟨q4, pa⟩ ⟨q5, pb⟩ (by rw [List.size_toArray]; omega) (by rw [List.size_toArray]; omega) (by rw [List.size_toArray, List.size_toArray]; omega)
      fun h' tk hk => ⟨rfl, I.turnedL (t' := tk) (ch := [z, TI, TO, i1, i2]) (fun c o hb' e => hk c o (fun q => hb' (by simp [q])) (fun q => hb' (by simp [q])) (fun q => hb' (by simp [q])) (fun q => hb' (by simp [q])) e) hf⟩
  self := fun A i s Q E st h => wpAny_pyIter_zip st.1 h
def iZipG (K : PySem.W.Frag) (ta : TA) : TI := fun σ H R => ta σ H fun vs H1 => ∃ (k1 k2 : Bool) (a b : Addr) (xs ys : List V), vs = [.ref a, .ref b] ∧ SqX K H1 k1 a xs ∧ SqX K H1 k2 b ys ∧ R (ItzG K k1 k2 a b) H1
theorem pi_zipG {X : Cx} {e e2 : Expr} {ta : TA} {p pos tpos : Pos} {elts : List Expr} {kk : Nat} (hg : Gl X "zip") (hm : X.mg "zip" = none) (ha : PA X [e, e2] ta)
    (hs : starEach [e, e2] X.env = (false, eval e X.env) :: starEach [e2] X.env := by rfl) (hpl : (backTo pos (starEach [e2] X.env)).any (·.1) = false := by rfl) :
    PI X (.Tuple elts kk tpos) (.Call (.Name "zip" p) [e, e2] [] pos) (iZipG X.K ta) := by
  refine ⟨fun pins s σ H R I h => ?_⟩
  refine Call_ (ld_blt I hg hm PyProof.Rows.boot_zip (PyProof.Rows.callWith_type1 (thn (ha.run pos pins s σ H _ I h) fun us s1 ⟨vs, H1, I1, r1, q1⟩ => ?_) hs hpl))
  obtain ⟨k1, k2, a, b, xs, ys, ex, hqx, hqy, q⟩ := q1
  subst ex
  obtain ⟨u1, u2, rfl, ra, rb⟩ := vals2 r1
  cases (show u1 = Value.ref a from ra)
  cases (show u2 = Value.ref b from rb)
  obtain ⟨its, rv, pa, la⟩ := sqx_get I1 hqx
  obtain ⟨jts, rw', pb, lb⟩ := sqx_get I1 hqy
  obtain ⟨o1, B1, i1⟩ := beginsX k1 a its.toArray
  obtain ⟨o2, B2, i2⟩ := beginsX k2 b jts.toArray
  refine zip_begins2 B1 B2 pa pb fun h' hz hTI hTO h1 h2 hsz hk => wpAny_pyIter_zip hz ?_
  have J : Inv X pins σ H1 { s1 with heap := h' } := I1.kept (t' := s1.toks) hk
  have sep := zip_sep2 (N := s1.heap.objs.size) (fp1 := [a]) (fp2 := [b]) (fun c hc => by rw [List.mem_singleton.mp hc]; exact la) (fun c hc => by rw [List.mem_singleton.mp hc]; exact lb)
  refine ⟨s1.heap.objs.size + 4, [s1.heap.objs.size + 4, s1.heap.objs.size + 2, s1.heap.objs.size + 3, s1.heap.objs.size, s1.heap.objs.size + 1], _, _, H1, rfl, J, turn_zipG sep (Nat.ne_of_lt (Nat.lt_succ_self _)) (Nat.ne_of_lt la) (Nat.ne_of_lt (Nat.lt_succ_of_lt lb)), ⟨hz, hTI, ⟨_, _, hTO⟩, i1 _ _ h1, i2 _ _ h2⟩, fun c hcm => ?_, q⟩
  have hle : s1.heap.objs.size ≤ c := by
    simp only [List.mem_cons, List.not_mem_nil, or_false] at hcm
    rcases hcm with rfl | rfl | rfl | rfl | rfl
    · exact Nat.le_add_right _ _
    · exact Nat.le_add_right _ _
    · exact Nat.le_add_right _ _
    · exact Nat.le_refl _
    · exact Nat.le_add_right _ _
  exact I1.fpOk hle (I1.hok.fresh hle)
theorem walk_zipG {K : PySem.W.Frag} {k1 k2 : Bool} {a b : Addr} {xs ys : List V} {n : Nat} (hn : n = min xs.length ys.length) : Walk (ItzG K k1 k2 a b) n (fun H => SqX K H k1 a xs ∧ SqX K H k2 b ys) (YPair (fun i => xs[i]?) (fun i => ys[i]?)) := by
  subst hn
  refine ⟨fun i _ hi q => ?_, fun _ q => ⟨xs, ys, q.1, q.2, rfl⟩, fun i H v H' _ q y => ?_⟩
  · have h1 : i < xs.length := by omega
    have h2 : i < ys.length := by omega
    exact ⟨xs, ys, xs[i], ys[i], q.1, q.2, by simp [h1], by simp [h2]⟩
  · obtain ⟨T, x, z, h1, h2, h3, h4, h5⟩ := y
    exact ⟨T, x, z, h1, h2, h3, h4 xs q.1, h5 ys q.2⟩
end L2

set_option Elab.async false
set_option linter.all false
set_option maxRecDepth 100000
set_option maxHeartbeats 4000000
/-! my own rules: exceptions of own classes over any built-in class, made and kept as values: by place, by keywords; their fields; isinstance of them -/
namespace PySem
namespace MyX
open PySem.W PySem.Calls PyProof.Rows PySem.HandSPX Builtin Builtin.ObjectAttr
theorem pass_Index (self : Value) : refuseLoop self "__setattr__" [.type "IndexError", .type "LookupError", .type "Exception", .type "BaseException", .type "object"] = pure () := by kernel_rfl
theorem pass_Lookup (self : Value) : refuseLoop self "__setattr__" [.type "LookupError", .type "Exception", .type "BaseException", .type "object"] = pure () := by kernel_rfl
theorem pass_Runtime (self : Value) : refuseLoop self "__setattr__" [.type "RuntimeError", .type "Exception", .type "BaseException", .type "object"] = pure () := by kernel_rfl
theorem pass_Value (self : Value) : refuseLoop self "__setattr__" [.type "ValueError", .type "Exception", .type "BaseException", .type "object"] = pure () := F.store_ValueError.passes self
section
variable {M : Model} {A : Around} {E : Value → Shared → Prop} {h : Heap} {g : Array GenState} {d : Drawn} {t : Nat} {os : OsState}
variable {nm q : Str} {C N : Addr} {bs bm : List Value} {hdct : Bool} {sn : List Str} {sub : List Value} {ab : Bool} {col : Option Bool} {dd : Option Addr} {k0 k1 k2 k3 k5 : Option Value} {B newId initId : String}
/-- C.__new__(..) with keywords is let through -/
theorem check_newK (F : ExcBaseFacts B newId initId bm) {rest : List Value} {kw : List (Str × Value)} {Q : Unit → Shared → Prop}
    (hC : h.get? C = some (excClassObj nm q C N bs bm hdct sn sub ab col dd k0 k1 k2 k3 k5 newId)) (hq : Q () ⟨h, g, d, t, os⟩) : wpAny M A (checkBuiltinCall newId ⟨.ref C :: rest, kw⟩) Q E ⟨h, g, d, t, os⟩ := by
  have under : (Value.ref C :: bm).contains (.type B) = true := by rw [List.contains_cons, F.hasB, Bool.or_true]
  have star := F.noStar
  simp only [checkBuiltinCall, F.newKind, F.newSplit, F.newRow]
  repeat (first | refine wpAny_loadPart_at hC ?_ | (refine wpAny_isSubtype_exc hC ?_; rw [under]) | refine wpAny_staticBase_exc hC ?_ | refine wpAny_madeBy_exc hC ?_ | simp only [bne_self_eq_false, Bool.false_eq_true, if_false] | wp_step)
  exact hq
end
section
variable {prog : Program} {w : World} {A : Around} {E : Value → Shared → Prop} {R : Result → Shared → Prop} {h : Heap} {g : Array GenState} {d : Drawn} {t : Nat} {os : OsState}
variable {nm q : Str} {C N : Addr} {bs bm : List Value} {hdct : Bool} {sn : List Str} {sub : List Value} {ab : Bool} {col : Option Bool} {dd : Option Addr} {k0 k1 k2 k3 k5 : Option Value} {B newId initId : String}
theorem newK (F : ExcBaseFacts B newId initId bm) {rest : List Value} {kw : List (Str × Value)}
    (hC : h.get? C = some (excClassObj nm q C N bs bm hdct sn sub ab col dd k0 k1 k2 k3 k5 newId))
    (hq : R (.ok (.ret (.ref (h.objs.size + 1)))) ⟨(h.push { cls := .type "tuple", data := .seq rest.toArray }).push
      { cls := .ref C, data := .fields #[.ref h.objs.size, .none, .none, .none, .bool false, .none] }, g, d, t, os⟩) (hrest : rest.length ≤ sizeLine) :
    codeAny (model prog w) A (.builtin newId ⟨.ref C :: rest, kw⟩) R ⟨h, g, d, t, os⟩ := by
  have ends := F.ends
  have inB : (Value.ref C :: bm).contains (.type B) = true := by rw [List.contains_cons, F.hasB, Bool.or_true]
  have inA : (Value.ref C :: bm).contains (.type "AttributeError") = false := by rw [List.contains_cons, F.noAttr]; rfl
  have inN : (Value.ref C :: bm).contains (.type "NameError") = false := by rw [List.contains_cons, F.noName]; rfl
  refine codeAny_builtinAt F.entry ?_
  unfold Builtin.«BaseException.__new__»
  refine wpAt_bind ?_
  show wpAt _ _ _ (stack >>= _) _ _ _
  refine wpAt_bind (wpAt_stack fun p below => wpAt_of_wpAny ?_)
  wp_walk
  refine wpAt_of_wpAny ?_
  rw [F.owner]
  repeat (first | with_reducible refine wpAny_madeHere_exc F.canon hC ?_ | with_reducible refine wpAny_loadPart_at hC ?_ | (with_reducible refine wpAny_isSubtype_exc hC ?_; first | rw [inB] | rw [inA] | rw [inN]) | wp_step)
  show R _ _
  rw [Heap.size_push]
  exact hq
theorem type_callK (F : ExcBaseFacts B newId initId bm) {rest : List Value} {kw : List (Str × Value)} {fI : Addr} {Q : Fin → Shared → Prop}
    (hC : h.get? C = some (excClassObj nm q C N bs bm hdct sn sub ab col dd k0 k1 k2 k3 k5 newId))
    (hi : W.Looks (model prog w) h (typeLookup (.ref C) "__init__") (some (.ref fI))) (hb : ∀ self, W.Looks (model prog w) h (bindSpecial (.ref fI) self) (.ref fI, [self])) (hrest : rest.length ≤ sizeLine)
    (hq : codeAny (model prog w) A (.call (.ref fI) ⟨.ref (h.objs.size + 1) :: rest, kw⟩)
      (fun r s' => match r with | .ok (.ret v) => v = .none ∧ Q (.done (.ret (.ref (h.objs.size + 1)))) s' | .ok _ => False | .error e => E e s')
      ⟨(h.push (W.kdv_tup rest)).push (excO C h.objs.size), g, d, t, os⟩) :
    wpAny (model prog w) A (Builtin.«type.__call__» ⟨.ref C :: rest, kw⟩) Q E ⟨h, g, d, t, os⟩ := by
  repeat (first | with_reducible refine wpAny_loadPart_at hC ?_ | with_reducible refine wpAny_madeBy_exc hC ?_ | wp_step)
  refine codeAny_call_builtin_code (Code.quiet_builtin _ F.quiet) (check_newK F hC ?_)
  refine newK F hC ?_ hrest
  show wpAny _ _ _ _ _ _
  have kept : ∀ b o, h.get? b = some o → ((h.push (W.kdv_tup rest)).push (excO C h.objs.size)).get? b = some o := fun b o e => Heap.get?_push_of_some _ (Heap.get?_push_of_some _ e)
  have hC₁ := kept _ _ hC
  have made : ((h.push (W.kdv_tup rest)).push (excO C h.objs.size)).get? (h.objs.size + 1) = some (excO C h.objs.size) := by heap_get
  have self_ : (Value.ref C :: bm).contains (.ref C) = true := by simp
  have i1 := hi.keeps kept
  have b1 := (hb (.ref (h.objs.size + 1))).keeps kept
  unfold isInstance
  repeat (first | with_reducible refine wpAny_loadPart_at made ?_ | (with_reducible refine wpAny_isSubtype_exc hC₁ ?_; rw [self_]) | wp_step)
  show wpAny _ _ (typeLookup (.ref C) _) _ _ _
  refine i1.at ?_
  refine wpAny_holding (wpAny_bind (b1.at ?_))
  refine wpAny_bind (wpAny_call (codeAny_mono hq fun r s' z => ?_))
  rcases r with e | (v | _ | _ | _) <;> first | exact z | exact z.elim | skip
  obtain ⟨rfl, z⟩ := z
  first
    | exact wpAny_pure (wpAny_pure z)
    | (wp_walk; exact z)
/-- C(.., k = v, ..) -/
theorem callK (F : ExcBaseFacts B newId initId bm) {rest : List Value} {kw : List (Str × Value)} {fI : Addr}
    (hC : h.get? C = some (excClassObj nm q C N bs bm hdct sn sub ab col dd k0 k1 k2 k3 k5 newId))
    (hi : W.Looks (model prog w) h (typeLookup (.ref C) "__init__") (some (.ref fI))) (hb : ∀ self, W.Looks (model prog w) h (bindSpecial (.ref fI) self) (.ref fI, [self])) (hrest : rest.length ≤ sizeLine)
    (hq : codeAny (model prog w) (A.under (.builtin "type.__call__" ⟨.ref C :: rest, kw⟩)) (.call (.ref fI) ⟨.ref (h.objs.size + 1) :: rest, kw⟩) (W.InitBack (h.objs.size + 1) R)
      ⟨(h.push (W.kdv_tup rest)).push (excO C h.objs.size), g, d, t, os⟩) :
    codeAny (model prog w) A (.call (.ref C) ⟨rest, kw⟩) R ⟨h, g, d, t, os⟩ := by
  have f1 := tc_lookup
  have f2 := tc_bind (.ref C)
  have isType : (⟨h, g, d, t, os⟩ : Shared).TypeIs (.ref C) "type" := ⟨_, hC, rfl⟩
  refine codeAny_of_tree ?_
  show wpAny _ _ (callAny (.ref C) _) _ _ _
  repeat (any_goals (first | assumption | with_reducible refine wpAny_loadPart_at hC ?_ | wp_step))
  refine ⟨rfl, ?_⟩
  refine codeAny_call_builtin_at (Code.quiet_builtin _ (by decide +kernel)) entry_typeCall (wpAny_check_type_call_sub hC (type_callK F hC hi hb hrest ?_))
  refine codeAny_mono hq fun r s' z => ?_
  rcases r with e | (v | _ | _ | _) <;> exact z
end
/-! ### self.f = v -/
section
variable {prog : Program} {w : World} {A : Around} {E : Value → Shared → Prop} {R : Result → Shared → Prop} {hp : Heap} {g : Array GenState} {d : Drawn} {t : Nat} {os : OsState}
theorem put_new {K : W.Frag} {name : Str} {tk : Tok} {v : Value} {x C : Addr} {fv : Array Value} {cd : ClassData}
    (X : K.In hp) (hx : hp.get? x = some { cls := .ref C, data := .fields fv }) (hcd : W.clsIn K C = some cd) (ne : cd.mro.isEmpty = false) (hob : cd.mro.contains (.type "object") = true) (hps : ∀ self, refuseLoop self "__setattr__" cd.mro = pure ())
    (hh : cd.hasDict = true) (ha : W.findIn K (.ref C) name = some none)
    (hq : ∀ h' tk' dx, (∀ b o, b ≠ x → hp.get? b = some o → h'.get? b = some o) → hp.objs.size ≤ dx → dx ≠ x → h'.get? x = some { cls := .ref C, dict := some dx, data := .fields fv } →
      h'.Ns1 dx (fun y => if y = name then some v else none) → R (.ok (.ret .none)) ⟨h', g, d, tk', os⟩) :
    codeAny (model prog w) A (.call (.builtin "object.__setattr__") ⟨[.ref x, .str name tk, v], []⟩) R ⟨hp, g, d, t, os⟩ := by
  have inst : W.InstAt hp x { cls := .ref C, data := .fields fv } C none := ⟨hx, rfl, rfl, trivial⟩
  have SF := F.store_object
  have apart : x ≠ hp.objs.size := Nat.ne_of_lt (Heap.lt_size hx)
  have under : W.Looks (model prog w) hp (isInstance (.ref x) (.type "object")) true := inst.type.andThen (W.looks_mroIn X (by unfold W.mroIn; rw [hcd, Option.bind_some, if_neg (by rw [ne]; decide), hob]))
  refine codeAny_call_builtin SF.slot.plain SF.entry (@W.check_slot (model prog w) _ _ ⟨hp, g, d, t, os⟩ "object.__setattr__" "object" "__setattr__" (.ref x) [.str name tk, v] [] _ SF.kind SF.split under (SF.args (.ref x) (.str name tk) v) ?_)
  have mros : W.Looks (model prog w) hp (mroOf (.ref C)) cd.mro := (W.looks_clsIn X hcd).andThen .now
  have takes : W.Looks (model prog w) hp (storeTaker? none) none := .now
  have datas : W.Looks (model prog w) hp (classData C) cd := W.looks_clsIn X hcd
  rw [W.osa_eq, refuse_eq]
  refine wpAny_bind (wpAny_bind (inst.type.at (wpAny_bind (mros.at ?_))))
  rw [hps]
  refine wpAny_pure (wpAny_bind (inst.type.at (wpAny_bind ((W.looks_findIn X ha).at (wpAny_bind (takes.at ?_))))))
  show wpAny _ _ (storeInOwnDict (.ref x) (.ref C) (.str name tk) name v false) _ _ _
  obtain ⟨nm, bs, mro, ns, qn, hd, sn, sb, ab, col, del⟩ := cd
  dsimp only at hh
  subst hh
  unfold storeInOwnDict ownDictForStores
  repeat (first | with_reducible refine store_in_new ?_ ?_ | with_reducible refine wpAny_loadPart_at hx ?_ | with_reducible refine datas.at ?_ | wp_step)
  · exact ⟨_, #[], _, (Heap.get?_update_ne _ _ _ _ apart.symm).trans (Heap.get?_push_at rfl rfl), rfl, fun e he => absurd he (by simp), fun _ => rfl⟩
  · intro h' tk' hn' hs
    have hx₁ : (hp.push { cls := .type "dict", data := .dict #[] }).get? x = some { cls := .ref C, data := .fields fv } := Heap.get?_push_of_some _ hx
    refine hq h' tk' hp.objs.size (fun b o hb ho => ?_) (Nat.le_refl _) apart.symm ?_ hn'
    · exact (hs.2 b (Nat.ne_of_lt (Heap.lt_size ho))).trans ((Heap.get?_update_ne _ _ _ _ hb).trans (Heap.get?_push_of_some _ ho))
    · exact (hs.2 x apart).trans (Heap.get?_update_self _ hx₁ rfl)
theorem put_old {K : W.Frag} {name : Str} {tk : Tok} {v : Value} {x C dx : Addr} {fv : Array Value} {cd : ClassData} {m0 : Str → Option Value} {nl : List Str}
    (X : K.In hp) (hx : hp.get? x = some { cls := .ref C, dict := some dx, data := .fields fv }) (hns : hp.Ns1 dx m0) (hw : Within m0 nl) (hz : nl.length ≤ 1000) (hcd : W.clsIn K C = some cd)
    (ne : cd.mro.isEmpty = false) (hob : cd.mro.contains (.type "object") = true) (hps : ∀ self, refuseLoop self "__setattr__" cd.mro = pure ()) (hh : cd.hasDict = true) (ha : W.findIn K (.ref C) name = some none)
    (hq : ∀ h' tk', (∀ b o, b ≠ dx → hp.get? b = some o → h'.get? b = some o) → h'.Ns1 dx (fun y => if y = name then some v else m0 y) → R (.ok (.ret .none)) ⟨h', g, d, tk', os⟩) :
    codeAny (model prog w) A (.call (.builtin "object.__setattr__") ⟨[.ref x, .str name tk, v], []⟩) R ⟨hp, g, d, t, os⟩ := by
  obtain ⟨oD, esD, epD, hoD, hdD, _⟩ := hns.count hw
  have inst : W.InstAt hp x { cls := .ref C, dict := some dx, data := .fields fv } C (some oD) := ⟨hx, rfl, rfl, hoD⟩
  have SF := F.store_object
  have under : W.Looks (model prog w) hp (isInstance (.ref x) (.type "object")) true := inst.type.andThen (W.looks_mroIn X (by unfold W.mroIn; rw [hcd, Option.bind_some, if_neg (by rw [ne]; decide), hob]))
  refine codeAny_call_builtin SF.slot.plain SF.entry (@W.check_slot (model prog w) _ _ ⟨hp, g, d, t, os⟩ "object.__setattr__" "object" "__setattr__" (.ref x) [.str name tk, v] [] _ SF.kind SF.split under (SF.args (.ref x) (.str name tk) v) ?_)
  have mros : W.Looks (model prog w) hp (mroOf (.ref C)) cd.mro := (W.looks_clsIn X hcd).andThen .now
  have takes : W.Looks (model prog w) hp (storeTaker? none) none := .now
  have datas : W.Looks (model prog w) hp (classData C) cd := W.looks_clsIn X hcd
  rw [W.osa_eq, refuse_eq]
  refine wpAny_bind (wpAny_bind (inst.type.at (wpAny_bind (mros.at ?_))))
  rw [hps]
  refine wpAny_pure (wpAny_bind (inst.type.at (wpAny_bind ((W.looks_findIn X ha).at (wpAny_bind (takes.at ?_))))))
  show wpAny _ _ (storeInOwnDict (.ref x) (.ref C) (.str name tk) name v false) _ _ _
  obtain ⟨nm, bs, mro, ns, qn, hd, sn, sb, ab, col, del⟩ := cd
  dsimp only at hh
  subst hh
  unfold storeInOwnDict ownDictForStores
  repeat (first | with_reducible refine OEX.store_in_old hns hw hz ?_ | with_reducible refine wpAny_loadPart_at hx ?_ | with_reducible refine datas.at ?_ | wp_step)
  intro h' tk' hn' hs
  exact hq h' tk' (fun b o hb ho => (hs.2 b hb).trans ho) hn'
end
end MyX
end PySem

set_option Elab.async false
set_option linter.all false
set_option maxRecDepth 100000
set_option maxHeartbeats 4000000
namespace PySem.W
open PySem PySem.Spec PySem.Calls PyProof.Rows
section
variable {prog : Program} {w : World} {A : Around} {E : Value → Shared → Prop} {s : Shared} {K : Frag} {x D : Addr} {ox : Obj} {od : Option Obj}
theorem my_findData {C : Addr} {name : Str} {a g : Value} (hc : (clsIn K C).isSome = true) (ha : findIn K (.ref C) name = some (some a)) (hg : specialIn K a "__get__" = some (some g)) (ht : takesIn K a = some true) : findObj K C od name = some (.bind g a) := by
  obtain ⟨cd, hc⟩ := Option.isSome_iff_exists.mp hc
  unfold findObj
  rw [hc, Option.bind_some, ha, Option.bind_some]
  simp [hg, ht]
/-- x.__class__ of an exception, with fields of its own or without -/
theorem my_class {Q : Option Value → Shared → Prop} (C : L2.ExcC K D) (X : K.In s.heap) (I : InstAt s.heap x ox D od) (h : Q (some (.ref D)) { s with toks := s.toks + 1 }) : wpAny (model prog w) A (getAttr? (.ref x) "__class__") Q E s := by
  have found : findObj K D od "__class__" = some (.bind (.builtin "getset_descriptor.__get__") (.builtin "object.__class__")) := my_findData (by obtain ⟨cd, hc, _⟩ := any_some C.hd; rw [hc]; rfl) C.ha C.hn C.ht
  obtain ⟨hp, g, d, t, os⟩ := s
  have l0 := I.type (M := model prog w)
  have l1 := looks_findIn (M := model prog w) X C.hg
  have l2 := looks_findIn (M := model prog w) X C.hk
  have l3 := looks_find (M := model prog w) X I found
  have under : Looks (model prog w) hp (isInstance (.ref x) (.type "BaseException")) true := l0.andThen (looks_subIn X C.hs)
  have z0 : (false && onTheHeap (Value.builtin "BaseException.__getattribute__")) = false := rfl
  have z2 : (Value.builtin "BaseException.__getattribute__" == Value.builtin "object.__getattribute__") = false := by decide +kernel
  have z1 : (onTheHeap (Value.ref D) && Value.builtin "BaseException.__getattribute__" == Value.builtin "object.__getattribute__") = false := by rw [z2]; rfl
  unfold getAttr? getAttrBy? getAttrBy
  refine wpAny_bind (wpAny_mkText (wpAny_bind (wpAny_attempt (wpAny_holding (wpAny_bind (l0.at (wpAny_bind (l1.at ?_))))))))
  show wpAny _ _ (if (onTheHeap (Value.ref D) && Value.builtin "BaseException.__getattribute__" == Value.builtin "object.__getattribute__") = true then _ else _) _ _ _
  rw [z1, if_neg Bool.false_ne_true]
  unfold getAttrByItsOwn hookBefore
  refine wpAny_bind ?_
  rw [if_pos (show onTheHeap (Value.ref D) = true from rfl)]
  refine l2.at ?_
  refine wpAny_bind (wpAny_attempt (wpAny_holding ?_))
  unfold callGetattribute
  rw [z0, if_neg Bool.false_ne_true]
  unfold boundAndCalled
  rw [PySem.F.excAttr_ValueError.ga.bind (.ref x)]
  refine wpAny_bind (wpAny_pure ?_)
  show wpAny _ _ (call (.builtin "BaseException.__getattribute__") [.ref x, .str "__class__" t]) _ _ _
  refine wpAny_call (codeAny_call_builtin PySem.F.excAttr_ValueError.ga.plain PySem.F.entry_bexc_ga ?_)
  refine @check_slot (model prog w) _ _ ⟨hp, g, d, t + 1, os⟩ "BaseException.__getattribute__" "BaseException" "__getattribute__" (.ref x) [.str "__class__" t] [] _ (by decide +kernel) (by decide +kernel) under (PySem.F.args_bexc_ga (.ref x) (.str "__class__" t)) ?_
  unfold Builtin.«object.__getattribute__»
  refine wpAny_bind (wpAny_of_eq (a := ((Value.ref x : Value), [Value.str "__class__" t])) (by first | rfl | (simp only [slotArgs]; rfl)) ?_)
  refine wpAny_bind (wpAny_pure (wpAny_bind (l0.at (wpAny_bind (l3.at ?_)))))
  show wpAny _ _ (holding [Value.builtin "object.__class__"] (call (.builtin "getset_descriptor.__get__") [.builtin "object.__class__", .ref x, .ref D]) >>= ret) _ _ _
  refine wpAny_bind (wpAny_holding (wpAny_call (class_get (s := ⟨hp, g, d, t + 1, os⟩) (ox := ox) (od := od) X I C.hm ?_)))
  refine wpAny_pure ?_
  show wpAny _ _ (handedOut (.ref D)) _ _ _
  rw [handedOut_of (v := .ref D) rfl]
  first
    | exact wpAny_pure (wpAny_pure h)
    | exact wpAny_pure h
    | exact wpAny_pure (wpAny_bind (wpAny_pure (wpAny_pure h)))
theorem my_kitx (C : L2.ExcC K D) : KitX K (.ref x) (.ref D) (fun h => InstAt h x ox D od) where
  ty := fun _ _ _ I => I.type
  it := fun _ _ X _ => by
    obtain ⟨cdD, hcD, _⟩ := any_some C.hd
    unfold clsIn at hcD
    split at hcD
    · rename_i c' d' cd' sl' ho
      intro A' Q' E' s' k q
      unfold isType loadHead
      exact wpAny_bind (wpAny_loadPart (k _ _ (X _ _ ho)) (wpAny_pure q))
    · cases hcD
  ne := fun h tp dd its n sl X htp => by
    obtain ⟨cdD, hcD, _⟩ := any_some C.hd
    refine Bool.eq_false_iff.mpr fun q => ?_
    have e : D = tp := Value.ref.inj (beq_iff_eq.mp q)
    subst e
    unfold clsIn at hcD
    split at hcD
    · rename_i c' d' cd' sl' ho
      cases (X _ _ ho).symm.trans htp
    · cases hcD
  ca := fun X I k => my_class C X I k
end
end PySem.W
namespace L2
open PySem PySem.Spec PyProof.Rows Builtin Builtin.ObjectAttr
/-- what the written part says of an own class over the built-in class B -/
structure OeC (K : PySem.W.Frag) (C : Addr) (B newId initId : String) (bm : List Value) : Prop where
  base : ExcBaseFacts B newId initId bm
  pass : ∀ self, refuseLoop self "__setattr__" bm = pure ()
  ob : bm.contains (.type "object") = true
  cls : ∃ nm q N bs sn sub ab col dd k0 k1 k2 k3 k5, K.lookup C = some (excClassObj nm q C N bs bm true sn sub ab col dd k0 k1 k2 k3 k5 newId)
  sa : PySem.W.findIn K (.ref C) "__setattr__" = some (some (.builtin "object.__setattr__"))
  is_ : ExcC K C
  ty : PySem.W.typeIn K (.ref C) = some (.type "type")
  kC : PySem.W.keepIn K (.ref C) = true
section
variable {X : Cx} {pins : List (Addr × Obj)} {σ : St} {H : Hp} {s : Shared} {a C dx : Addr} {f : Str} {y : V} {u : Value} {fs : List (Str × V)} {Q : Unit → Shared → Prop} {E : Value → Shared → Prop} {A : Around} {B newId initId : String} {bm : List Value}
theorem oe_new (T : OeC X.K C B newId initId bm) (I : Inv X pins σ H s) (e : H a = some (exo a C none)) (hno : PySem.W.findIn X.K (.ref C) f = some none) (ry : RelV y u)
    (h : ∀ dx s', H dx = none → dx ≠ a → Inv X pins σ (upd (upd H dx (exd dx [(f, y)])) a (exo a C (some dx))) s' → Q () s') : wpAny (model X.prog X.w) A (setAttr (.ref a) f u) Q E s := by
  obtain ⟨nm, q, N, bs, sn, sub, ab, col, dd, k0, k1, k2, k3, k5, hC⟩ := T.cls
  have data : PySem.W.clsIn X.K C = some { name := nm, bases := bs, mro := .ref C :: bm, ns := N, qualname := q, hasDict := true, slotNames := sn, subclasses := sub, abstract := ab, collection := col, hasDel := false } := by unfold PySem.W.clsIn; rw [hC] <;> rfl
  obtain ⟨t1, ho⟩ := exo_at I.hok e
  obtain ⟨hp, g, d, t, os⟩ := s
  refine PySem.W.set_plain I.kIn (ox := { cls := .ref C, dict := none, data := .fields #[.ref t1, .none, .none, .none, .bool false, .none] }) (od := none) ⟨ho, rfl, rfl, trivial⟩ T.sa ?_
  refine PySem.MyX.put_new I.kIn ho data rfl (by rw [List.contains_cons, T.ob, Bool.or_true]) (fun self => by rw [refuseLoop_ref]; exact T.pass self) rfl hno (fun h' tk' dx k dn dne hx hn => ?_)
  have free : H dx = none := I.hok.fresh dn
  have away : ∀ {b : Addr} {o : Obj}, hp.get? b = some o → b ≠ dx := fun {b o} z => Nat.ne_of_lt (Nat.lt_of_lt_of_le (Heap.lt_size z) dn)
  have other : ∀ {b : Addr}, H b = none → b ≠ a := fun {b} n z => by
    rw [z, e] at n
    cases n
  have un : Un X.fs [] H (upd (upd H dx (exd dx [(f, y)])) a (exo a C (some dx))) hp h' := {
    keep := fun b o z n _ _ => k b o (other n) z
    slot := fun b o z n _ _ => ⟨o.slots, k b o (other n) z⟩
    free := fun b o z n _ => by rw [upd_ne (other n), upd_ne (away z)]; exact n
    there := fun b o z _ => by
      by_cases hb : b = a
      · exact ⟨_, by rw [hb]; exact hx⟩
      · exact ⟨o, k b o hb z⟩
    tups := fun b xs z => by rw [upd_ne (at_ne e z exo_tup), upd_ne (ne_of_none z free)]; exact z
    frzs := fun b o v z => by rw [upd_ne (at_ne e z exo_frz), upd_ne (ne_of_none z free)]; exact z
    tbls := fun b ps z => ⟨#[], by rw [upd_ne (at_ne e z exo_tbl), upd_ne (ne_of_none z free), z]; simp⟩ }
  refine h dx _ free dne (I.un (t' := tk') un fun b o z => ?_)
  by_cases hb : b = a
  · subst hb
    rw [upd_same] at z
    cases z
    exact exo_ok hx
  · rw [upd_ne hb] at z
    by_cases hd : b = dx
    · subst hd
      rw [upd_same] at z
      cases z
      exact exd_ok hn (relO_put (fs := []) ry fun g => True.intro)
    · rw [upd_ne hd] at z
      exact (I.hok b o z).stay (fun c v hc r => k c v (by
          rcases hc with hc | hc
          · rw [hc]
            exact hb
          · exact at_ne e hc exo_own) r)
        (fun c hc => by rw [upd_ne (at_ne e hc exo_own), upd_ne (ne_of_none hc free)]; exact hc) (fun c xs hc => by rw [upd_ne (at_ne e hc exo_tup), upd_ne (ne_of_none hc free)]; exact hc)
theorem oe_old (T : OeC X.K C B newId initId bm) (I : Inv X pins σ H s) (e : H a = some (exo a C (some dx))) (ed : H dx = some (exd dx fs)) (hl : fs.length ≤ 900) (hno : PySem.W.findIn X.K (.ref C) f = some none) (ry : RelV y u)
    (h : ∀ s', Inv X pins σ (upd H dx (exd dx ((f, y) :: fs))) s' → Q () s') : wpAny (model X.prog X.w) A (setAttr (.ref a) f u) Q E s := by
  obtain ⟨nm, q, N, bs, sn, sub, ab, col, dd, k0, k1, k2, k3, k5, hC⟩ := T.cls
  have data : PySem.W.clsIn X.K C = some { name := nm, bases := bs, mro := .ref C :: bm, ns := N, qualname := q, hasDict := true, slotNames := sn, subclasses := sub, abstract := ab, collection := col, hasDel := false } := by unfold PySem.W.clsIn; rw [hC] <;> rfl
  obtain ⟨t1, ho⟩ := exo_at I.hok e
  obtain ⟨mA, hns, rel⟩ := exd_at I.hok ed
  have wi := within_of rel
  obtain ⟨hp, g, d, t, os⟩ := s
  obtain ⟨oD, _, _, hoD, _, _⟩ := hns.count wi
  refine PySem.W.set_plain I.kIn (ox := { cls := .ref C, dict := some dx, data := .fields #[.ref t1, .none, .none, .none, .bool false, .none] }) (od := some oD) ⟨ho, rfl, rfl, hoD⟩ T.sa ?_
  refine PySem.MyX.put_old I.kIn ho hns wi (by rw [List.length_map]; omega) data rfl (by rw [List.contains_cons, T.ob, Bool.or_true]) (fun self => by rw [refuseLoop_ref]; exact T.pass self) rfl hno (fun h' tk' k hn => ?_)
  have there : ∃ o, h'.get? dx = some o := by
    obtain ⟨o, _, _, z, _⟩ := hn
    exact ⟨o, z⟩
  exact h _ (I.write (t' := tk') (x := dx) (e := dx) (o := exd dx ((f, y) :: fs)) (by rw [ed]; exact True.intro) (.inl rfl) k there (exd_ok hn (relO_put ry rel)))
theorem oe_init {us : List Value} {Q : Value → Shared → Prop} (T : OeC X.K C B newId initId bm) (I : Inv X pins σ H s) (e : H a = some (exo a C none)) (hl : us.length ≤ sizeLine) (h : ∀ s', Inv X pins σ H s' → Q .none s') :
    wpAny (model X.prog X.w) A (call (.builtin initId) (.ref a :: us)) Q E s := by
  obtain ⟨nm, q, N, bs, sn, sub, ab, col, dd, k0, k1, k2, k3, k5, hC⟩ := T.cls
  obtain ⟨t1, ho⟩ := exo_at I.hok e
  obtain ⟨hp, g, d, t, os⟩ := s
  refine wpAny_call (PySem.HandSPX.init_base T.base (fun _ => rfl) (I.kIn _ _ hC) ho hl fun h' t2 k hx => ?_)
  have J := I.write (t' := t) (x := a) (e := a) (o := exo a C none) (by rw [e]; exact True.intro) (.inl rfl) k ⟨_, hx⟩ (exo_ok hx)
  have same : upd H a (exo a C none) = H := by
    funext b
    by_cases hb : b = a
    · rw [hb, upd_same, e]
    · rw [upd_ne hb]
  rw [same] at J
  exact h _ J
end
/-! ### readings and rules -/
/-- B.__init__(self, ..), B the built-in class above -/
def tEi (K : PySem.W.Frag) (B newId initId : String) (bm : List Value) (ta : TA) : TE := fun σ H Q => ta σ H fun vs H1 => ∃ (a C : Addr) (ws : List V), vs = .ref a :: ws ∧ ws.length ≤ 1000 ∧ OeC K C B newId initId bm ∧ H1 a = some (exo a C none) ∧ Q .non H1
/-- self.f = e -/
def tOe (K : PySem.W.Frag) (B newId initId : String) (bm : List Value) (f : Str) (to te : TE) : TS := fun D σ H => te σ H fun y H1 => to σ H1 fun x H2 => ∃ a C : Addr, x = .ref a ∧ OeC K C B newId initId bm ∧ PySem.W.findIn K (.ref C) f = some none ∧
  ((H2 a = some (exo a C none) ∧ ∀ dx, H2 dx = none → dx ≠ a → D.nx σ (upd (upd H2 dx (exd dx [(f, y)])) a (exo a C (some dx)))) ∨
    ∃ (dx : Addr) (fs : List (Str × V)), H2 a = some (exo a C (some dx)) ∧ H2 dx = some (exd dx fs) ∧ fs.length ≤ 900 ∧ D.nx σ (upd H2 dx (exd dx ((f, y) :: fs))))
/-- C(..), kept as a value -/
def tMkV (C : Addr) (sp : Sp) (ta : TA) : TE := fun σ H Q => ta σ H fun vs H1 => vs.length ≤ 1000 ∧ ∀ a, H1 a = none → sp (.ref a :: vs) (upd H1 a (exo a C none)) (fun v H2 => v = .non ∧ Q (.ref a) H2) E0
def tMkVK (C : Addr) (m : Nat) (sp : Sp) (gV : List V → List V → List V) (tk : TA) : TE := fun σ H Q => tk σ H fun zs H1 => zs.length = m ∧ ∀ a, H1 a = none → sp (gV [.ref a] zs) (upd H1 a (exo a C none)) (fun v H2 => v = .non ∧ Q (.ref a) H2) E0
/-- e.f of a made exception -/
def tEf (K : PySem.W.Frag) (f : Str) (te : TE) : TE := fun σ H Q => te σ H fun x H1 => ∃ (a C d : Addr) (fs : List (Str × V)) (v : V), x = .ref a ∧ H1 a = some (exo a C (some d)) ∧ H1 d = some (exd d fs) ∧ ExcC K C ∧ PySem.W.findIn K (.ref C) f = some none ∧ fs.lookup f = some v ∧ Q v H1
/-- isinstance(e, c) of a made exception -/
def rIsX (K : PySem.W.Frag) : List V → Hp → VK → Prop := fun xs H Q => ∃ (a C d : Addr) (fs : List (Str × V)) (c : V) (u : Value) (b : Bool), xs = [.ref a, c] ∧ H a = some (exo a C (some d)) ∧ H d = some (exd d fs) ∧ ExcC K C ∧ ClsV c u ∧ PySem.W.kitOne K (.ref C) u = some b ∧ Q (.bl b) H
section
variable {X : Cx} {o e : Expr} {es : List Expr} {to te : TE} {ta tk : TA} {f x : Str} {p p' p1 p2 pos : Pos} {B newId initId : String} {bm : List Value} {kws : List Keyword}
theorem pe_einit {pl : Sem Bool} (hg : Gl X x) (hm : X.mg x = none) (hv : bootBuiltins x = some (.type B)) (typ : typeOf (.type B) = pure (.type "type")) (stub : Manifest.isStub B = false)
    (vV : PySem.W.findCls X.K (.type B) (.type "type") "__init__" = some (.val (.builtin initId))) (hnd : PySem.W.handedIn (.builtin initId) = true) (ha : PA X (e :: es) ta) (hn : x ≠ "__name__" := by decide) (hdb : (x == ("__debug__" : Str)) = false := by decide)
    (hc : eval (.Call (.Attribute (.Name x p1) "__init__" p2) (e :: es) [] pos) X.env = (do
      let ov ← eval (.Name x p1) X.env
      standAt p2.atName
      let (f, first) ← holding [ov] (getMethod ov "__init__" pl)
      callWith pos f first (backTo pos (starEach (e :: es) X.env)) (backToKw pos (keywordEach [] X.env))) := by rfl)
    (he : starEach (e :: es) X.env = (false, eval e X.env) :: starEach es X.env := by rfl) (hpl : (backTo pos (starEach es X.env)).any (·.1) = false := by rfl) :
    PE X (.Call (.Attribute (.Name x p1) "__init__" p2) (e :: es) [] pos) (tEi X.K B newId initId bm ta) := by
  refine ⟨fun pins s σ H Q I h => ?_⟩
  refine PySem.W.methodCall_KW (ld_blt I hg hm hv ?_ hn hdb) hc
  obtain ⟨m, fr⟩ := I.fr
  refine PySem.W.method_type fr I.ok.mod.kin typ stub vV hnd ?_
  show wpAny _ _ (callWith pos (Value.builtin initId) [] (backTo pos (starEach (e :: es) X.env)) []) _ _ _
  refine PyProof.Rows.callWith_method1 (thn (ha.run pos pins _ σ H _ (I.tok _) h) fun us s1 ⟨vs, H1, I1, r1, a, C, ws, ev, hl, T, ea, q⟩ => ?_) he hpl
  subst ev
  cases r1 with
  | @cons _ u0 _ ur ra rw' =>
    obtain rfl : u0 = Value.ref a := ra
    have size : ur.length ≤ sizeLine := by
      rw [← Paired.length rw', sizeLine_eq]
      omega
    exact oe_init T I1 ea size fun s' J => ⟨.non, H1, J, rfl, q⟩
theorem ps_oe (ho : PE X o to) (he : PE X e te) (hs : swapsWith e (some (.Attribute o f p')) pos.line X.env = pure false := by rfl) : PS X (.Assign [.Attribute o f p'] e pos) (tOe X.K B newId initId bm f to te) := by
  refine ⟨fun pins s σ H D I h => ?_⟩
  refine plainObj_wpAny_Assign_Attribute (thn (he.run pins s σ H _ I h) fun v s1 ⟨y, H1, I1, r1, q1⟩ => thn (ho.run pins s1 σ H1 _ I1 q1) fun u s2 ⟨x, H2, I2, r2, a, C, ex, T, hno, q⟩ => ?_) hs
  subst ex
  obtain rfl : u = Value.ref a := r2
  rcases q with ⟨ea, q⟩ | ⟨dx, fs, ea, ed, hl, q⟩
  · exact oe_new T I2 ea hno r1 fun dx s' n ne J => ⟨σ, _, J, q dx n ne⟩
  · exact oe_old T I2 ea ed hl hno r1 fun s' J => ⟨σ, _, J, q⟩
theorem pe_mkV {C fI : Addr} {k : Nat} {fd : FuncData} {ps : List Str} {sp : Sp} (T : OeC X.K C B newId initId bm) (iC : PySem.W.findIn X.K (.ref C) "__init__" = some (some (.ref fI))) (tI : PySem.W.typeIn X.K (.ref fI) = some (.type "function"))
    (F1 : FnOk X.prog X.w X.K X.mg X.base CX0 k fI fd ps sp) (hr : Room (k + 1) X.A) (hb : Binds X.K fd ps []) (hg : Gl X x) (hm : X.mg x = some (.ref C)) (ha : PA X (e :: es) ta)
    (hdb : (x == ("__debug__" : Str)) = false := by decide) (he : starEach (e :: es) X.env = (false, eval e X.env) :: starEach es X.env := by rfl) (hpl : (backTo pos (starEach es X.env)).any (·.1) = false := by rfl) :
    PE X (.Call (.Name x p) (e :: es) [] pos) (tMkV C sp ta) := by
  refine ⟨fun pins s σ H Q I h => ?_⟩
  obtain ⟨nm, q, N, bs, sn, sub, ab, col, dd, k0, k1, k2, k3, k5, hC⟩ := T.cls
  refine wpAny_Call_Name_kw (ld_glob I hg hm ?_ hdb)
  refine PySem.W.callWith_K (h₀ := X.base) I.ok.mod.kin T.kC (thn (ha.run pos pins s σ H _ I h) fun us s1 ⟨vs, H1, I1, r1, hz, q1⟩ => ⟨I1.kIn, ?_⟩) he hpl
  show wpAny _ _ (call (.ref C) us) _ _ _
  obtain ⟨hp, g, dr, tk, os⟩ := s1
  have up : hp.objs.size ≤ hp.objs.size + 1 := Nat.le_succ _
  have hq := q1 (hp.objs.size + 1) (I1.hok.fresh up)
  have kept : ∀ b o, hp.get? b = some o → ((hp.push (PySem.W.kdv_tup us)).push (PySem.HandSPX.excO C hp.objs.size)).get? b = some o := fun b o z => Heap.get?_push_of_some _ (Heap.get?_push_of_some _ z)
  have made : ((hp.push (PySem.W.kdv_tup us)).push (PySem.HandSPX.excO C hp.objs.size)).get? (hp.objs.size + 1) = some (PySem.HandSPX.excO C hp.objs.size) := by heap_get
  have I2 : Inv X pins σ (upd H1 (hp.objs.size + 1) (exo (hp.objs.size + 1) C none)) ⟨(hp.push (PySem.W.kdv_tup us)).push (PySem.HandSPX.excO C hp.objs.size), g, dr, tk, os⟩ :=
    I1.laid (t' := tk) (a := hp.objs.size + 1) (o := exo (hp.objs.size + 1) C none) (h' := (hp.push (PySem.W.kdv_tup us)).push (PySem.HandSPX.excO C hp.objs.size)) kept up (exo_ok made)
  have r2 : Vals (V.ref (hp.objs.size + 1) :: vs) (Value.ref (hp.objs.size + 1) :: us) := .cons rfl r1
  have many : (Value.ref (hp.objs.size + 1) :: us ++ []).length = ps.length := by
    have z := r2.length
    rw [F1.len _ _ _ _ hq] at z
    rw [List.append_nil]
    exact z.symm
  have size : us.length ≤ sizeLine := by
    rw [← Paired.length r1, sizeLine_eq]
    omega
  have bnd := hb _ (Value.ref (hp.objs.size + 1) :: us) I2.kIn many
  rw [List.append_nil] at bnd
  refine wpAny_call (PySem.MyX.callK T.base (I1.kIn _ _ hC) (PySem.W.looks_findIn I1.kIn iC) (fun self => PySem.W.bind_fn I1.kIn self tI) size
    (codeAny_mono (F1.run _ X.stack _ _ ⟨Value.ref (hp.objs.size + 1) :: us, []⟩ (Value.ref (hp.objs.size + 1) :: us) _ _ E0 (hr.make C us []) (I2.env0.make C us []) bnd r2 hq) fun r s' after => ?_))
  cases r with
  | error er => exact after.elim
  | ok fl =>
    cases fl with
    | ret u =>
      obtain ⟨v, H', J, rv, ev, z⟩ := I2.after after
      subst ev
      exact ⟨rv, ⟨.ref (hp.objs.size + 1), H', J, rfl, z⟩⟩
    | next => exact after.elim
    | brk => exact after.elim
    | cont => exact after.elim
theorem pe_mkVK {C fI : Addr} {k : Nat} {fd : FuncData} {ps ks : List Str} {sp : Sp} {gg : List Value → List Value → List Value} {gV : List V → List V → List V} (T : OeC X.K C B newId initId bm) (iC : PySem.W.findIn X.K (.ref C) "__init__" = some (some (.ref fI))) (tI : PySem.W.typeIn X.K (.ref fI) = some (.type "function"))
    (F1 : FnOk X.prog X.w X.K X.mg X.base CX0 k fI fd ps sp) (hr : Room (k + 1) X.A) (hb : KBn X.K fd ps 1 ks gg gV) (hg : Gl X x) (hm : X.mg x = some (.ref C)) (hkw : PK X kws tk)
    (hall : (backToKw pos (keywordEach kws X.env)).all (·.1.isSome) = true := by rfl) (hks : (backToKw pos (keywordEach kws X.env)).filterMap (·.1) = ks := by rfl) (hdb : (x == ("__debug__" : Str)) = false := by decide)
    (hpl : ((backTo pos (starEach [] X.env)).any (·.1) || (backToKw pos (keywordEach kws X.env)).any (·.1.isNone)) = false := by rfl) :
    PE X (.Call (.Name x p) [] kws pos) (tMkVK C ks.length sp gV tk) := by
  refine ⟨fun pins s σ H Q I h => ?_⟩
  obtain ⟨nm, q, N, bs, sn, sub, ab, col, dd, k0, k1, k2, k3, k5, hC⟩ := T.cls
  refine wpAny_Call_Name_kw (ld_glob I hg hm ?_ hdb)
  refine PySem.W.callWith_KW0 (h₀ := X.base) I.ok.mod.kin T.kC hall ?_ hpl
  refine thn (hkw.run pos pins s σ H _ I h) fun ws s1 ⟨zs, H1, I1, rz, hz, q1⟩ => ⟨I1.kIn, ?_⟩
  rw [hks]
  obtain ⟨hp, g, dr, tk, os⟩ := s1
  have up : hp.objs.size ≤ hp.objs.size + 1 := Nat.le_succ _
  have hq := q1 (hp.objs.size + 1) (I1.hok.fresh up)
  have kept : ∀ b o, hp.get? b = some o → ((hp.push (PySem.W.kdv_tup [])).push (PySem.HandSPX.excO C hp.objs.size)).get? b = some o := fun b o z => Heap.get?_push_of_some _ (Heap.get?_push_of_some _ z)
  have made : ((hp.push (PySem.W.kdv_tup [])).push (PySem.HandSPX.excO C hp.objs.size)).get? (hp.objs.size + 1) = some (PySem.HandSPX.excO C hp.objs.size) := by heap_get
  have I2 : Inv X pins σ (upd H1 (hp.objs.size + 1) (exo (hp.objs.size + 1) C none)) ⟨(hp.push (PySem.W.kdv_tup [])).push (PySem.HandSPX.excO C hp.objs.size), g, dr, tk, os⟩ :=
    I1.laid (t' := tk) (a := hp.objs.size + 1) (o := exo (hp.objs.size + 1) C none) (h' := (hp.push (PySem.W.kdv_tup [])).push (PySem.HandSPX.excO C hp.objs.size)) kept up (exo_ok made)
  have r2 := hb.rel (vs := [V.ref (hp.objs.size + 1)]) (us := [Value.ref (hp.objs.size + 1)]) (.cons rfl .nil) rz
  have bnd := hb.to ⟨(hp.push (PySem.W.kdv_tup [])).push (PySem.HandSPX.excO C hp.objs.size), g, dr, tk, os⟩ [Value.ref (hp.objs.size + 1)] ws I2.kIn rfl (rz.length.symm.trans hz)
  refine wpAny_call (PySem.MyX.callK (rest := []) (kw := ks.zip ws) T.base (I1.kIn _ _ hC) (PySem.W.looks_findIn I1.kIn iC) (fun self => PySem.W.bind_fn I1.kIn self tI) (Nat.zero_le _)
    (codeAny_mono (F1.run _ X.stack _ _ ⟨[Value.ref (hp.objs.size + 1)], ks.zip ws⟩ (gg [Value.ref (hp.objs.size + 1)] ws) _ _ E0 (hr.make C [] (ks.zip ws)) (I2.env0.make C [] (ks.zip ws)) bnd r2 hq) fun r s' after => ?_))
  cases r with
  | error er => exact after.elim
  | ok fl =>
    cases fl with
    | ret u =>
      obtain ⟨v, H', J, rv, ev, z⟩ := I2.after after
      subst ev
      exact ⟨rv, ⟨.ref (hp.objs.size + 1), H', J, rfl, z⟩⟩
    | next => exact after.elim
    | brk => exact after.elim
    | cont => exact after.elim
theorem exc_inst {pins : List (Addr × Obj)} {σ : St} {H : Hp} {s : Shared} {a C d : Addr} {fs : List (Str × V)} (I : Inv X pins σ H s) (ea : H a = some (exo a C (some d))) (ed : H d = some (exd d fs)) :
    ∃ (ox od : Obj) (mA : Str → Option Value), PySem.W.InstAt s.heap a ox C (some od) ∧ (∀ g, RelO (fs.lookup g) (mA g)) ∧ ∀ n, PySem.W.lookIn n od = some (mA n) := by
  obtain ⟨t1, ho⟩ := exo_at I.hok ea
  obtain ⟨mA, hns, rel⟩ := exd_at I.hok ed
  obtain ⟨od, hod, hl⟩ := lookIn_ns hns
  exact ⟨_, od, mA, ⟨ho, rfl, rfl, hod⟩, rel, fun n => hl n⟩
theorem pe_ef (he : PE X e te) (hb : attributeBase e f X.env (eval e X.env) = eval e X.env := by rfl) : PE X (.Attribute e f pos) (tEf X.K f te) := by
  refine ⟨fun pins s σ H Q I h => ?_⟩
  refine attr_of hb (thn (he.run pins s σ H _ I h) fun u s1 hh => ?_)
  obtain ⟨x, H1, I1, rx, a, C, d, fs, v, ex, ea, ed, T, hno, l, q⟩ := hh
  subst ex
  obtain rfl : u = Value.ref a := rx
  obtain ⟨ox, od, mA, J, rel, hl⟩ := exc_inst I1 ea ed
  obtain ⟨u, hu, ru⟩ := RelO.some_of (v := v) (o := mA f) (by rw [← l]; exact rel f)
  exact HandSPX.exc_get I1.kIn J T.hg T.hk T.hs (PySem.W.findObj_own T.hd hno rfl (by rw [hl, hu])) (handed_of ru) ⟨v, H1, I1.tok _, ru, q⟩
theorem call_isX : CallR X (.builtin "isinstance") (rIsX X.K) := by
  intro pins s σ H xs us Q I r h
  obtain ⟨a, C, d, fs, c, u, b, rfl, ea, ed, T, k, e, q⟩ := h
  obtain ⟨u1, u2, rfl, r1, r2⟩ := vals2 r
  cases (show u1 = Value.ref a from r1)
  have e2 := k.eq r2
  subst e2
  obtain ⟨ox, od, mA, J, rel, hl⟩ := exc_inst I ea ed
  exact PySem.W.kia_one (PySem.W.my_kitx T) I.kIn J e (fun z => nomatch z) fun tk => ⟨.bl b, H, I.tok tk, rfl, q⟩
end
/-- which class an own exception's class stands under -/
theorem oe_mro {K : PySem.W.Frag} {C : Addr} {B newId initId : String} {bm : List Value} (T : OeC K C B newId initId bm) (u : Value) : PySem.W.subIn K (.ref C) u = some ((Value.ref C :: bm).contains u) := by
  obtain ⟨nm, q, N, bs, sn, sub, ab, col, dd, k0, k1, k2, k3, k5, hC⟩ := T.cls
  show PySem.W.mroIn K C u = _
  unfold PySem.W.mroIn PySem.W.clsIn
  rw [hC]
  rfl
theorem oe_cls {K : PySem.W.Frag} {C : Addr} {B newId initId : String} {bm : List Value} (T : OeC K C B newId initId bm) : (PySem.W.clsIn K C).isSome = true := by
  obtain ⟨nm, q, N, bs, sn, sub, ab, col, dd, k0, k1, k2, k3, k5, hC⟩ := T.cls
  unfold PySem.W.clsIn
  rw [hC]
  rfl
theorem oe_own {K : PySem.W.Frag} {C D : Addr} {B newId initId B' newId' initId' : String} {bm bm' : List Value} (T : OeC K C B newId initId bm) (S : OeC K D B' newId' initId' bm') (nr : bm.contains (.ref D) = false) :
    PySem.W.kitOne K (.ref C) (.ref D) = some (decide (C = D)) := by
  unfold PySem.W.kitOne
  by_cases e : C = D
  · subst e
    simp
  · have e1 : (Value.ref C == Value.ref D) = false := beq_eq_false_iff_ne.mpr fun z => e (Value.ref.inj z)
    rw [e1, if_neg Bool.false_ne_true]
    show (if ((PySem.W.clsIn K D).isSome && PySem.W.typeIn K (.ref D) == some (.type "type")) = true then PySem.W.subIn K (.ref C) (.ref D) else none) = _
    rw [oe_cls S, S.ty, if_pos (by simp), oe_mro T, decide_eq_false e, List.contains_cons, nr]
    have e2 : (Value.ref D == Value.ref C) = false := beq_eq_false_iff_ne.mpr fun z => e (Value.ref.inj z).symm
    rw [e2]
    rfl
theorem oe_blt {K : PySem.W.Frag} {C : Addr} {B newId initId t : String} {bm : List Value} (T : OeC K C B newId initId bm) (m : PySem.W.kitMeta t = true) : PySem.W.kitOne K (.ref C) (.type t) = some (bm.contains (.type t)) := by
  unfold PySem.W.kitOne
  have e1 : (Value.ref C == Value.type t) = false := beq_eq_false_iff_ne.mpr fun z => nomatch z
  rw [e1, if_neg Bool.false_ne_true]
  show (if PySem.W.kitMeta t = true then PySem.W.subIn K (.ref C) (.type t) else none) = _
  rw [if_pos m, oe_mro T, List.contains_cons]
  have e2 : (Value.type t == Value.ref C) = false := beq_eq_false_iff_ne.mpr fun z => nomatch z
  rw [e2, Bool.false_or]
end L2

set_option Elab.async false
set_option linter.all false
set_option maxRecDepth 100000
set_option maxHeartbeats 4000000
/-! my own rules: an exception that is caught and kept behind the suite; calls by keywords within a try -/
namespace L2
open PySem PySem.Spec PyProof.Rows
/-- a caught exception's object -/
def exl (a : Addr) (cls : Value) (d : Option Addr) : HO := .ext fun h => ∃ (o : Obj) (vs : Array Value), h.get? a = some o ∧ o.cls = cls ∧ o.dict = d ∧ o.data = .fields vs
theorem exl_ok {P : Program} {w : World} {H : Hp} {h : Heap} {a : Addr} {cls : Value} {d : Option Addr} {o : Obj} {vs : Array Value} (he : h.get? a = some o) (hz : Zc cls d o) (hd : o.data = .fields vs) : ObjOk P w H h a (exl a cls d) :=
  ⟨⟨o, vs, he, hz.1, hz.2, hd⟩, ⟨o, he⟩, fun h1 h2 z k => by
    obtain ⟨o, vs, q, r⟩ := z
    exact ⟨o, vs, k _ q, r⟩⟩
theorem exl_at {P : Program} {w : World} {H : Hp} {h : Heap} {a : Addr} {cls : Value} {d : Option Addr} (hok : HOk P w H h) (he : H a = some (exl a cls d)) : ∃ (o : Obj) (vs : Array Value), h.get? a = some o ∧ o.cls = cls ∧ o.dict = d ∧ o.data = .fields vs := by
  have x : ObjOk P w H h a (.ext fun h => ∃ (o : Obj) (vs : Array Value), h.get? a = some o ∧ o.cls = cls ∧ o.dict = d ∧ o.data = .fields vs) := hok a _ he
  exact x.1
section
variable {X : Cx} {pins : List (Addr × Obj)} {σ : List (Option V)} {H : Hp} {s : Shared}
theorem Inv.adopt (I : Inv X pins σ H s) {a : Addr} {o : HO} (h0 : X.s_0.heap.get? a = none) (na : H a = none) (nL : a ≠ X.env.locals) (nC : ∀ x c, X.env.cells.lookup x = some c → c ≠ a) (nP : ∀ p ∈ X.pn ++ pins, p.1 ≠ a)
    (new : ObjOk X.prog X.w (upd H a o) s.heap a o) : Inv X pins σ (upd H a o) s :=
  ⟨I.ok, I.os, I.bare,
    ⟨I.base.keep, I.base.slot, fun b ob e n hx => by
      rw [upd_ne (fun z => by rw [z, h0] at e; cases e)]
      exact I.base.free b ob e n hx, I.base.there, fun b xs q => by
      have := I.base.tups b xs q
      rw [upd_ne (ne_of_none this na)]
      exact this, fun b ob u q => by
      have := I.base.frzs b ob u q
      rw [upd_ne (ne_of_none this na)]
      exact this, fun b ps q => by
      obtain ⟨more, this⟩ := I.base.tbls b ps q
      exact ⟨more, by rw [upd_ne (ne_of_none this na)]; exact this⟩⟩,
    I.loc, I.cell, by rw [upd_ne (Ne.symm nL)]; exact I.free, fun x c e => by rw [upd_ne (nC x c e)]; exact I.freeC x c e,
    fun p hp => by
      obtain ⟨e, n, r⟩ := I.pin p hp
      exact ⟨e, by rw [upd_ne (nP p hp)]; exact n, r⟩,
    fun b u e => by
      by_cases hb : b = a
      · subst hb; rw [upd_same] at e; cases e; exact new
      · rw [upd_ne hb] at e
        exact (I.hok b u e).stay (fun c v _ q => q) (fun c q => by rw [upd_ne (ne_of_none q na)]; exact q) fun c xs q => by rw [upd_ne (ne_of_none q na)]; exact q,
    I.len⟩
end
/-- what the clause 'except x as n' wishes of an exception of the body, its object being kept -/
def wKp (K : PySem.W.Frag) (c : Value) (i : Nat) (ts : Addr → Value → Option Addr → TS) (Wout : WX) (D : Ends) : WX := fun cls d σ H =>
  ∃ b, PySem.W.exmOne K cls c = some b ∧ (b = true → ∀ a, H a = none → ts a cls d { nx := fun σ' H' => D.nx (σ'.set i none) (upd H' a (exl a cls d)), rt := D.rt, bk := fun σ' H' => D.bk (σ'.set i none) H', ct := fun σ' H' => D.ct (σ'.set i none) H' } (σ.set i (some (.ref a))) H) ∧
    (b = false → Wout cls d σ H)
section
variable {X : Cx} {x n : Str} {c : Value} {i : Nat} {body suite : List Stmt} {b₀ : Stmt} {np pos pos' : Pos} {tb : WX → TS} {ts : Addr → Value → Option Addr → TS} {Wout : WX}
theorem ps_try_kp (hs : X.stack = X.env :: X.outer) (hf : X.env.frame = some X.env.locals) (hex : X.ex = []) (hN : X.N.Nodup) (hi : X.N[i]? = some n) (hln : X.env.kindOf n = some .local) (hc : Names X x c) (tk : Takes X Wout)
    (hb : ∀ (W : WX) (pn : List (Addr × Obj)) (xe : Value → Shared → Prop), Takes (X.tr pn xe) W → PassesOwn (model X.prog X.w) X.A X.env xe → PSs (X.tr pn xe) body (tb W))
    (hsu : ∀ (a : Addr) (oe : Obj) (cls : Value) (d : Option Addr) (pn : List (Addr × Obj)), Zc cls d oe → (∃ vs, oe.data = .fields vs) → PSs (X.suite a ((a, oe) :: pn)) (b₀ :: suite) (ts a cls d)) :
    PS X (.Try body [.ExceptHandler (some (.Name x np)) (some n) (b₀ :: suite) pos'] [] [] pos) (fun D σ H => tb (wKp X.K c i ts Wout D) D σ H) := by
  refine ⟨fun pins s σ H D I h => ?_⟩
  have ok := I.ok
  have hfr : X.A.frames = some (X.env :: X.outer) := by rw [ok.frames, hs]
  have hloc : Loc X.env.scope n := .inl hln
  refine wpAny_Try_except ?_
  refine wpAny_mono ((hb (wKp X.K c i ts Wout D) (X.pn ++ pins) (fun e s₁ => wpAny (model X.prog X.w) X.A (noteFrame e X.env) (fun _ s₂ => wpAny (model X.prog X.w) X.A (setFlight e none) (fun _ s₃ =>
    wpAny (model X.prog X.w) X.A (handleBy e X.env [.ExceptHandler (some (.Name x np)) (some n) (b₀ :: suite) pos']) (SP X pins D) X.xe s₃) X.xe s₂) X.xe s₁) (fun u s' xx => ?_) PassesOwn.looking).run [] s σ H D (I.toTry _) h) (fun f s1 hsp => ?_) (fun e s1 he => he)
  · -- the catch
    obtain ⟨a, B, sI, pins', σ', H', cls, d, rfl, J', nb, up, sky, na, os, ag, b, hb1, hyes, hno⟩ := xx
    have J : Inv X pins σ' H' sI := J'.ofTry ok
    have sky' : Sky B (X.env :: X.outer) a (Zc cls d) X.env.locals s'.heap := by rw [← hs]; exact sky
    show wpAny (model X.prog X.w) X.A (noteFrame (.ref a) X.env) _ _ _
    refine Sky.land Zc.steady hfr hf sky' fun h3 fl3 up3 => ?_
    have J3 : Inv X pins σ' H' { s' with heap := h3 } := J.landed nb fl3.1 (up.trans up3) os ag
    obtain ⟨oe3, vs3, he3, hz3, hd3⟩ := fl3.there
    have notFr : ∀ {h : Heap} {o : Obj} {vs : Array Value}, h.FunFrames B (X.env :: X.outer) → h.get? a = some o → o.data = .fields vs → a ∉ frs (X.env :: X.outer) := fun {h o vs} ff e dd hm => by
      obtain ⟨_, o', e', hnf⟩ := ff.mem hm
      rw [e] at e'; cases e'
      exact hnf _ dd
    have nfr := notFr fl3.2.2.1 he3 hd3
    have nL : a ≠ X.env.locals := fun z => nfr (List.mem_filterMap.mpr ⟨X.env, List.mem_cons_self, by rw [hf, z]⟩)
    have nF : a ∉ X.fs := fun hm => by
      obtain ⟨e, he, q⟩ := List.mem_filterMap.mp hm
      exact nfr (List.mem_filterMap.mpr ⟨e, List.mem_cons_of_mem _ he, q⟩)
    have aI : sI.heap.get? a = none := by
      cases e : sI.heap.get? a with
      | none => rfl
      | some o =>
        have z := nb a o e (by rw [hs]; exact nfr)
        rw [fl3.2.1] at z
        cases z
    have a0 : X.s_0.heap.get? a = none := by
      cases e : X.s_0.heap.get? a with
      | none => rfl
      | some o =>
        obtain ⟨o', z⟩ := J.base.there a o e (by rw [hex]; simp)
        rw [aI] at z
        cases z
    have nP : ∀ p ∈ X.pn ++ pins, p.1 ≠ a := fun p hp z => by
      obtain ⟨e, _⟩ := J.pin p hp
      rw [z, aI] at e
      cases e
    have S3 := J3.suite he3 hd3 na nL nF
    refine wpAny_handleBy_cons (codeAny_handlers_test ?_) (by intro q; cases q)
    have LT : PySem.W.Looks (model X.prog X.w) h3 (typeOf (.ref a)) cls := fun A Q E s k q => wpAny_typeOf_ref (k _ _ he3) (by rw [hz3.1]; exact q)
    have LM := PySem.W.exm_one (M := model X.prog X.w) (J3.kIn) LT hb1
    have test : ∀ {Q : Value → Shared → Prop} {E : Value → Shared → Prop}, Q c { s' with heap := h3 } → wpAny (model X.prog X.w) (X.A.mark (some (.ref a))) (eval (.Name x np) X.env) Q E { s' with heap := h3 } := fun {Q E} q => by
      obtain ⟨hg, hdbg, hm | ⟨hm, hv, hnn⟩⟩ := hc
      · exact ld_glob (X := X.suite a ((a, oe3) :: (X.pn ++ pins))) S3 hg hm q hdbg
      · exact ld_blt (X := X.suite a ((a, oe3) :: (X.pn ++ pins))) S3 hg hm hv q hnn hdbg
    refine test (LM.here ?_)
    cases b with
    | true =>
      refine codeAny_handlers_suite_as ?_
      refine HandSPX.lands_againZ fl3 fun h4 fl4 up4 => ?_
      have J4 : Inv X pins σ' H' { s' with heap := h4 } := J.landed nb fl4.1 ((up.trans up3).trans up4) os ag
      obtain ⟨oe4, vs4, he4, hz4, hd4⟩ := fl4.there
      have S4 := J4.suite he4 hd4 na nL nF
      refine store_ok (X := X.suite a ((a, oe4) :: (X.pn ++ pins))) (v := .ref a) S4 hN hi hloc rfl (fun s5 S5 => ?_) (.inr hln)
      refine wpAny_mono ((hsu a oe4 cls d (X.pn ++ pins) hz4 ⟨_, hd4⟩).run [] s5 _ H' _ S5 (hyes rfl a na)) (fun f s6 hsp => ?_) (fun _ _ z => False.elim z)
      have end_ : ∀ {σ6 : St} {H6 : Hp} {Q : Shared → Prop}, Inv (X.suite a ((a, oe4) :: (X.pn ++ pins))) [] σ6 H6 s6 → (∀ s7, Inv X pins (σ6.set i none) H6 s7 → Q s7) →
          wpAny (model X.prog X.w) X.A (do bindName X.env n .none; unbindBehindTheSuite X.env n pos') (fun _ s7 => Q s7) X.xe s6 := fun {σ6 H6 Q} S6 hq => gone_ok (S6.unsuite ok) hN hi hln hq
      cases f with
      | next =>
        obtain ⟨σ6, H6, S6, q6⟩ := hsp
        obtain ⟨ea6, na6, _, _, nc6⟩ := S6.pin (a, oe4) (List.mem_append_left _ List.mem_cons_self)
        have J6 : Inv X pins σ6 H6 s6 := S6.unsuite ok
        have J6' : Inv X pins σ6 (upd H6 a (exl a cls d)) s6 := J6.adopt a0 na6 nL (fun y c' e z => by
          obtain ⟨v, o, ho, hcd⟩ := J6.cell y c' e
          rw [z] at ho
          have e2 : some o = some oe4 := ho.symm.trans ea6
          cases e2
          exact nc6 v hcd) nP (exl_ok ea6 hz4 hd4)
        exact gone_ok J6' hN hi hln fun s7 J7 => ⟨_, _, J7, q6⟩
      | brk =>
        obtain ⟨σ6, H6, S6, q6⟩ := hsp
        exact end_ S6 fun s7 J7 => ⟨_, _, J7, q6⟩
      | cont =>
        obtain ⟨σ6, H6, S6, q6⟩ := hsp
        exact end_ S6 fun s7 J7 => ⟨_, _, J7, q6⟩
      | ret u =>
        obtain ⟨v6, σ6, H6, S6, r6, q6⟩ := hsp
        exact end_ S6 fun s7 J7 => ⟨_, _, _, J7, r6, q6⟩
    | false =>
      show wpAny _ X.A (handleBy (.ref a) X.env []) _ _ _
      refine wpAny_handleBy_nil ?_
      obtain ⟨k1, k2, k3, oe, vs, T, oT, ts', he, hz, hd, h1, hr⟩ := id fl3
      unfold PySem.passOn
      refine wpAny_bind (wpAny_field he hd h1 ?_)
      rw [if_neg (show ¬ ((Value.ref T == Value.none) = true) from by simp)]
      have fin : wpAny (model X.prog X.w) X.A (setFlight (.ref a) X.env.frame) (fun _ s4 => wpAny (model X.prog X.w) X.A (throw (.ref a) : Sem Flow) (SP X pins D) X.xe s4) X.xe { s' with heap := h3 } := by
        rw [hf]
        refine HandSPX.setFlight_upZ fl3 fun h4 hh4 up4 => wpAny_throw (tk _ _ ?_)
        exact ⟨a, B, sI, pins, σ', H', cls, d, rfl, J, nb, (up.trans up3).trans up4, .inr (.inr (by rw [hs]; exact hh4)), na, os, ag, hno rfl⟩
      first
        | exact wpAny_bind (wpAny_pure (wpAny_bind fin))
        | exact wpAny_bind fin
  · cases f with
    | next =>
      obtain ⟨σ', H', J', q⟩ := hsp
      exact wpAny_execs_nil ⟨σ', H', J'.ofTry ok, q⟩
    | brk =>
      obtain ⟨σ', H', J', q⟩ := hsp
      exact ⟨σ', H', J'.ofTry ok, q⟩
    | cont =>
      obtain ⟨σ', H', J', q⟩ := hsp
      exact ⟨σ', H', J'.ofTry ok, q⟩
    | ret u =>
      obtain ⟨v, σ', H', J', r, q⟩ := hsp
      exact ⟨v, σ', H', J'.ofTry ok, r, q⟩
end
/-! ### calls by keywords within a try -/
def tCallNS (n m : Nat) (sp : Sp) (gV : List V → List V → List V) (E : St → XK) (t tk : TA) : TE := fun σ H Q => t σ H fun vs H1 => tk σ H1 fun zs H2 => vs.length = n ∧ zs.length = m ∧ sp (gV vs zs) H2 Q (E σ)
section
variable {X : Cx} {CX : CXT} {k n : Nat} {f : Addr} {fd : FuncData} {ps ks : List Str} {sp : Sp} {E : St → XK} {x : Str} {p pos : Pos} {e : Expr} {es : List Expr} {kws : List Keyword} {t tk : TA} {g : List Value → List Value → List Value} {gV : List V → List V → List V}
theorem run_fnNS {pins : List (Addr × Obj)} {σ : St} {H : Hp} {s : Shared} {Q : VK} {us ws : List Value} {vs zs : List V} (F : FnOk X.prog X.w X.K X.mg X.base CX k f fd ps sp) (hr : Room k X.A) (hb : KBn X.K fd ps n ks g gV) (hx : PassesAt CX X σ (E σ))
    (I : Inv X pins σ H s) (r : Vals vs us) (rz : Vals zs ws) (l1 : vs.length = n) (l2 : zs.length = ks.length) (h : sp (gV vs zs) H Q (E σ)) : wpAny (model X.prog X.w) X.A (call (.ref f) us (ks.zip ws)) (EP X pins σ Q) X.xe s := by
  have r2 := hb.rel r rz
  refine wpAny_call (codeAny_mono (F.run X.A X.stack s H ⟨us, ks.zip ws⟩ (g us ws) (gV vs zs) Q (E σ) hr I.env0 (hb.to s us ws I.kIn (r.length.symm.trans l1) (rz.length.symm.trans l2)) r2 h) fun r s' hq => ?_)
  cases r with
  | error e => exact hx pins H s e s' I hq
  | ok fl =>
    cases fl with
    | ret u => exact I.after hq
    | next => exact False.elim hq
    | brk => exact False.elim hq
    | cont => exact False.elim hq
theorem pe_callNS (F : FnOk X.prog X.w X.K X.mg X.base CX k f fd ps sp) (hr : Room k X.A) (hg : Gl X x) (hm : X.mg x = some (.ref f)) (hk : PySem.W.keepIn X.K (.ref f) = true) (hb : KBn X.K fd ps n ks g gV) (hx : ∀ σ, PassesAt CX X σ (E σ))
    (ha : PA X (e :: es) t) (hkw : PK X kws tk) (hall : (backToKw pos (keywordEach kws X.env)).all (·.1.isSome) = true := by rfl) (hks : (backToKw pos (keywordEach kws X.env)).filterMap (·.1) = ks := by rfl)
    (hdb : (x == ("__debug__" : Str)) = false := by decide) (he : starEach (e :: es) X.env = (false, eval e X.env) :: starEach es X.env := by rfl)
    (hpl : ((backTo pos (starEach (e :: es) X.env)).any (·.1) || (backToKw pos (keywordEach kws X.env)).any (·.1.isNone)) = false := by rfl) :
    PE X (.Call (.Name x p) (e :: es) kws pos) (tCallNS n ks.length sp gV E t tk) := by
  refine ⟨fun pins s σ H Q I h => ?_⟩
  refine wpAny_Call_Name_kw (ld_glob I hg hm ?_ hdb)
  refine PySem.W.callWith_KW (h₀ := X.base) I.ok.mod.kin hk hall (thn (ha.run pos pins s σ H _ I h) fun us s1 ⟨vs, H1, I1, r, q⟩ => ?_) hpl he
  refine thn (hkw.run pos pins s1 σ H1 _ I1 q) fun ws s2 ⟨zs, H2, I2, rz, l1, l2, q2⟩ => ⟨I2.kIn, ?_⟩
  rw [hks]
  exact run_fnNS F hr hb (hx σ) I2 r rz l1 l2 q2
theorem pe_callN0S (F : FnOk X.prog X.w X.K X.mg X.base CX k f fd ps sp) (hr : Room k X.A) (hg : Gl X x) (hm : X.mg x = some (.ref f)) (hk : PySem.W.keepIn X.K (.ref f) = true) (hb : KBn X.K fd ps 0 ks g gV) (hx : ∀ σ, PassesAt CX X σ (E σ))
    (hkw : PK X kws tk) (hall : (backToKw pos (keywordEach kws X.env)).all (·.1.isSome) = true := by rfl) (hks : (backToKw pos (keywordEach kws X.env)).filterMap (·.1) = ks := by rfl)
    (hdb : (x == ("__debug__" : Str)) = false := by decide)
    (hpl : ((backTo pos (starEach [] X.env)).any (·.1) || (backToKw pos (keywordEach kws X.env)).any (·.1.isNone)) = false := by rfl) :
    PE X (.Call (.Name x p) [] kws pos) (tCallNS 0 ks.length sp gV E tNil tk) := by
  refine ⟨fun pins s σ H Q I h => ?_⟩
  refine wpAny_Call_Name_kw (ld_glob I hg hm ?_ hdb)
  refine PySem.W.callWith_KW0 (h₀ := X.base) I.ok.mod.kin hk hall ?_ hpl
  refine thn (hkw.run pos pins s σ H _ I h) fun ws s2 ⟨zs, H2, I2, rz, l1, l2, q2⟩ => ⟨I2.kIn, ?_⟩
  rw [hks]
  exact run_fnNS (us := []) (vs := []) F hr hb (hx σ) I2 .nil rz rfl l2 q2
end
/-! ### what is asked of a kept exception -/
/-- e.f -/
def tXl (K : PySem.W.Frag) (f : Str) (te : TE) : TE := fun σ H Q => te σ H fun x H1 => ∃ (a C d : Addr) (fs : List (Str × V)) (v : V), x = .ref a ∧ H1 a = some (exl a (.ref C) (some d)) ∧ H1 d = some (.xd fs) ∧ ExcC K C ∧ PySem.W.findIn K (.ref C) f = some none ∧ fs.lookup f = some v ∧ Q v H1
def rIsl (K : PySem.W.Frag) : List V → Hp → VK → Prop := fun xs H Q => ∃ (a C d : Addr) (fs : List (Str × V)) (c : V) (u : Value) (b : Bool), xs = [.ref a, c] ∧ H a = some (exl a (.ref C) (some d)) ∧ H d = some (.xd fs) ∧ ExcC K C ∧ ClsV c u ∧ PySem.W.kitOne K (.ref C) u = some b ∧ Q (.bl b) H
def rIslT (K : PySem.W.Frag) : List V → Hp → VK → Prop := fun xs H Q => ∃ (a C d : Addr) (fs : List (Str × V)) (tp : Addr) (cs : List V) (ws : List Value) (b : Bool), xs = [.ref a, .ref tp] ∧ H a = some (exl a (.ref C) (some d)) ∧ H d = some (.xd fs) ∧ ExcC K C ∧
  H tp = some (.tup cs) ∧ Paired ClsV cs ws ∧ PySem.W.kitAny K (.ref C) ws = some b ∧ Q (.bl b) H
section
variable {X : Cx} {e : Expr} {te : TE} {f : Str} {pos : Pos}
theorem exl_inst {pins : List (Addr × Obj)} {σ : St} {H : Hp} {s : Shared} {a C d : Addr} {fs : List (Str × V)} (I : Inv X pins σ H s) (ea : H a = some (exl a (.ref C) (some d))) (ed : H d = some (.xd fs)) :
    ∃ (ox od : Obj) (mA : Str → Option Value), PySem.W.InstAt s.heap a ox C (some od) ∧ (∀ g, RelO (fs.lookup g) (mA g)) ∧ ∀ n, PySem.W.lookIn n od = some (mA n) := by
  obtain ⟨o, vs, ho, hc, hd, hf⟩ := exl_at I.hok ea
  obtain ⟨mA, hns, rel⟩ := (show ObjOk X.prog X.w H s.heap d (.xd fs) from I.hok d _ ed)
  obtain ⟨od, hod, hl⟩ := lookIn_ns hns
  exact ⟨o, od, mA, ⟨ho, hc, by unfold PySem.W.notCls; rw [hf] <;> rfl, by rw [hd]; exact hod⟩, rel, fun n => hl n⟩
theorem pe_xl (he : PE X e te) (hb : attributeBase e f X.env (eval e X.env) = eval e X.env := by rfl) : PE X (.Attribute e f pos) (tXl X.K f te) := by
  refine ⟨fun pins s σ H Q I h => ?_⟩
  refine attr_of hb (thn (he.run pins s σ H _ I h) fun u s1 hh => ?_)
  obtain ⟨x, H1, I1, rx, a, C, d, fs, v, ex, ea, ed, T, hno, l, q⟩ := hh
  subst ex
  obtain rfl : u = Value.ref a := rx
  obtain ⟨ox, od, mA, J, rel, hl⟩ := exl_inst I1 ea ed
  obtain ⟨u, hu, ru⟩ := RelO.some_of (v := v) (o := mA f) (by rw [← l]; exact rel f)
  exact HandSPX.exc_get I1.kIn J T.hg T.hk T.hs (PySem.W.findObj_own T.hd hno rfl (by rw [hl, hu])) (handed_of ru) ⟨v, H1, I1.tok _, ru, q⟩
theorem call_isl : CallR X (.builtin "isinstance") (rIsl X.K) := by
  intro pins s σ H xs us Q I r h
  obtain ⟨a, C, d, fs, c, u, b, rfl, ea, ed, T, k, e, q⟩ := h
  obtain ⟨u1, u2, rfl, r1, r2⟩ := vals2 r
  cases (show u1 = Value.ref a from r1)
  have e2 := k.eq r2
  subst e2
  obtain ⟨ox, od, mA, J, rel, hl⟩ := exl_inst I ea ed
  exact PySem.W.kia_one (PySem.W.my_kitx T) I.kIn J e (fun z => nomatch z) fun tk => ⟨.bl b, H, I.tok tk, rfl, q⟩
theorem call_islT : CallR X (.builtin "isinstance") (rIslT X.K) := by
  intro pins s σ H xs us Q I r h
  obtain ⟨a, C, d, fs, tp, cs, ws, b, rfl, ea, ed, T, hT, k, e, q⟩ := h
  obtain ⟨u1, u2, rfl, r1, r2⟩ := vals2 r
  cases (show u1 = Value.ref a from r1)
  cases (show u2 = Value.ref tp from r2)
  obtain ⟨ox, od, mA, J, rel, hl⟩ := exl_inst I ea ed
  obtain ⟨_, its, rv, o, h1, h2, n, h3⟩ := (show ObjOk X.prog X.w H s.heap tp (.tup cs) from I.hok tp _ hT)
  have e3 := ClsV.all k rv
  subst e3
  obtain ⟨oc, od', dt, sl⟩ := o
  simp only at h2 h3
  subst h2 h3
  exact PySem.W.kia_tup (PySem.W.my_kitx T) I.kIn J h1 e (fun z => nomatch z) fun tk => ⟨.bl b, H, I.tok tk, rfl, q⟩
end
end L2

set_option Elab.async false
set_option linter.all false
set_option maxRecDepth 100000
set_option maxHeartbeats 4000000
namespace K4
open PySem PySem.Spec PyProof.Rows L2
/-! ### the text -/
def topS (i : Nat) : Stmt := PySem.Challenge.pw_slipwire_k04_sizes_that_can_not_go_on.main.body.getD i (.Pass ⟨0, 0, 0, 0⟩)
abbrev s_size_of_two : Stmt := topS 16
abbrev s_size_of_three : Stmt := topS 17
abbrev s_size_at : Stmt := topS 15
abbrev s_cell_at : Stmt := topS 19
abbrev s_box : Stmt := topS 20
abbrev s_take : Stmt := topS 21
abbrev s_same : Stmt := topS 22
abbrev s_of : Stmt := topS 23
abbrev s_bytes : Stmt := topS 24
abbrev s_size : Stmt := topS 25
abbrev s_due : Stmt := topS 26
abbrev s_told : Stmt := topS 27
abbrev s_row : Stmt := topS 28
abbrev s_law : Stmt := topS 29
theorem sc_size_of_two : FnScope ["codes", "at", "size"] ["codes", "at"] (defScope s_size_of_two) := ⟨rfl, rfl, rfl, by decide +kernel, rfl, by decide +kernel, by decide +kernel⟩
theorem sc_size_of_three : FnScope ["codes", "at"] ["codes", "at"] (defScope s_size_of_three) := ⟨rfl, rfl, rfl, by decide +kernel, rfl, by decide +kernel, by decide +kernel⟩
theorem sc_size_at : FnScope ["codes", "at", "first"] ["codes", "at"] (defScope s_size_at) := ⟨rfl, rfl, rfl, by decide +kernel, rfl, by decide +kernel, by decide +kernel⟩
theorem sc_cell_at : FnScope ["_law_script", "_law_k"] ["_law_script", "_law_k"] (defScope s_cell_at) := ⟨rfl, rfl, rfl, by decide +kernel, rfl, by decide +kernel, by decide +kernel⟩
theorem sc_box : FnScope ["_law_script", "_law_k", "_law_cell"] ["_law_script", "_law_k"] (defScope s_box) := ⟨rfl, rfl, rfl, by decide +kernel, rfl, by decide +kernel, by decide +kernel⟩
theorem sc_take : FnScope ["_law_box_here", "_law_count", "_law_found", "_law_once", "_law_twice"] ["_law_box_here", "_law_count"] (defScope s_take) := ⟨rfl, rfl, rfl, by decide +kernel, rfl, by decide +kernel, by decide +kernel⟩
theorem sc_same : FnScope ["_law_found", "_law_due_here", "_law_one", "_law_two"] ["_law_found", "_law_due_here"] (defScope s_same) := ⟨rfl, rfl, rfl, by decide +kernel, rfl, by decide +kernel, by decide +kernel⟩
theorem sc_of : FnScope ["_law_box_here", "_law_some"] ["_law_box_here", "_law_some"] (defScope s_of) := ⟨rfl, rfl, rfl, by decide +kernel, rfl, by decide +kernel, by decide +kernel⟩
theorem sc_bytes : FnScope ["_law_box_here", "_law_count", "_law_make", "_law_found", "_law_turn"] ["_law_box_here", "_law_count"] (defScope s_bytes) := ⟨rfl, rfl, rfl, by decide +kernel, rfl, by decide +kernel, by decide +kernel⟩
theorem sc_size : FnScope ["_law_count"] ["_law_count"] (defScope s_size) := ⟨rfl, rfl, rfl, by decide +kernel, rfl, by decide +kernel, by decide +kernel⟩
theorem sc_due : FnScope ["_law_row_here", "_law_spot", "_law_some"] ["_law_row_here", "_law_spot"] (defScope s_due) := ⟨rfl, rfl, rfl, by decide +kernel, rfl, by decide +kernel, by decide +kernel⟩
theorem sc_told : FnScope ["_law_row_here", "_law_spot", "_law_named", "_law_found", "_law_caught", "error", "_law_others", "_law_fine"] ["_law_row_here", "_law_spot", "_law_named"] (defScope s_told) := ⟨rfl, rfl, rfl, by decide +kernel, rfl, by decide +kernel, by decide +kernel⟩
theorem sc_row : FnScope ["_law_box_here", "_law_way", "_law_size_here", "_law_row_here", "_law_spot", "_law_byte"] ["_law_box_here"] (defScope s_row) := ⟨rfl, rfl, rfl, by decide +kernel, rfl, by decide +kernel, by decide +kernel⟩
theorem sc_law : FnScope ["_law_script", "_law_k", "_law_box_here", "_law_turn", "_law_ahead", "_law_row_here", "_law_kept", "_law_due_here", "_law_told_here"] ["_law_script"] (defScope s_law) := ⟨rfl, rfl, rfl, by decide +kernel, rfl, by decide +kernel, by decide +kernel⟩
abbrev s_BadSlip : Stmt := inClass (topS 2) 0
theorem sc_BadSlip : FnScope ["self", "part"] ["self", "part"] (defScope s_BadSlip) := ⟨rfl, rfl, rfl, by decide +kernel, rfl, by decide +kernel, by decide +kernel⟩
abbrev s_BadLetter : Stmt := inClass (topS 3) 0
theorem sc_BadLetter : FnScope ["self", "part"] ["self", "part"] (defScope s_BadLetter) := ⟨rfl, rfl, rfl, by decide +kernel, rfl, by decide +kernel, by decide +kernel⟩
abbrev s_BadEnd : Stmt := inClass (topS 4) 0
theorem sc_BadEnd : FnScope ["self", "part"] ["self", "part"] (defScope s_BadEnd) := ⟨rfl, rfl, rfl, by decide +kernel, rfl, by decide +kernel, by decide +kernel⟩
abbrev s_BadText : Stmt := inClass (topS 5) 0
theorem sc_BadText : FnScope ["self", "text"] ["self", "text"] (defScope s_BadText) := ⟨rfl, rfl, rfl, by decide +kernel, rfl, by decide +kernel, by decide +kernel⟩
abbrev s_BadRow : Stmt := inClass (topS 6) 0
theorem sc_BadRow : FnScope ["self", "row"] ["self", "row"] (defScope s_BadRow) := ⟨rfl, rfl, rfl, by decide +kernel, rfl, by decide +kernel, by decide +kernel⟩
abbrev s_Fault : Stmt := inClass (topS 7) 0
theorem sc_Fault : FnScope ["self", "code", "at"] ["self", "code", "at"] (defScope s_Fault) := ⟨rfl, rfl, rfl, by decide +kernel, rfl, by decide +kernel, by decide +kernel⟩
abbrev s_NoSlip : Stmt := inClass (topS 8) 0
theorem sc_NoSlip : FnScope ["self", "number"] ["self", "number"] (defScope s_NoSlip) := ⟨rfl, rfl, rfl, by decide +kernel, rfl, by decide +kernel, by decide +kernel⟩
abbrev s_NoByte : Stmt := inClass (topS 9) 0
theorem sc_NoByte : FnScope ["self", "at"] ["self", "at"] (defScope s_NoByte) := ⟨rfl, rfl, rfl, by decide +kernel, rfl, by decide +kernel, by decide +kernel⟩
abbrev s_NoDeed : Stmt := inClass (topS 10) 0
theorem sc_NoDeed : FnScope ["self", "many"] ["self", "many"] (defScope s_NoDeed) := ⟨rfl, rfl, rfl, by decide +kernel, rfl, by decide +kernel, by decide +kernel⟩
abbrev s_Ended : Stmt := inClass (topS 11) 0
theorem sc_Ended : FnScope ["self", "talk"] ["self", "talk"] (defScope s_Ended) := ⟨rfl, rfl, rfl, by decide +kernel, rfl, by decide +kernel, by decide +kernel⟩
abbrev bm_IndexError : List Value := [.type "IndexError", .type "LookupError", .type "Exception", .type "BaseException", .type "object"]
theorem typ_IndexError : typeOf (.type "IndexError") = pure (.type "type") := by first | rfl | kernel_rfl
abbrev bm_LookupError : List Value := [.type "LookupError", .type "Exception", .type "BaseException", .type "object"]
theorem typ_LookupError : typeOf (.type "LookupError") = pure (.type "type") := by first | rfl | kernel_rfl
abbrev bm_RuntimeError : List Value := [.type "RuntimeError", .type "Exception", .type "BaseException", .type "object"]
theorem typ_RuntimeError : typeOf (.type "RuntimeError") = pure (.type "type") := by first | rfl | kernel_rfl
abbrev bm_ValueError : List Value := [.type "ValueError", .type "Exception", .type "BaseException", .type "object"]
theorem typ_ValueError : typeOf (.type "ValueError") = pure (.type "type") := by first | rfl | kernel_rfl
/-! ### what stands behind the top -/
structure Tx (K : PySem.W.Frag) (mg : Str → Option Value) where
  f_size_of_two : Addr
  fd_size_of_two : FuncData
  F_size_of_two : Fun K "size_of_two" "size_of_two" s_size_of_two f_size_of_two fd_size_of_two
  g_size_of_two : mg "size_of_two" = some (.ref f_size_of_two)
  b_size_of_two : Binds K fd_size_of_two ["codes", "at"] []
  f_size_of_three : Addr
  fd_size_of_three : FuncData
  F_size_of_three : Fun K "size_of_three" "size_of_three" s_size_of_three f_size_of_three fd_size_of_three
  g_size_of_three : mg "size_of_three" = some (.ref f_size_of_three)
  b_size_of_three : Binds K fd_size_of_three ["codes", "at"] []
  f_size_at : Addr
  fd_size_at : FuncData
  F_size_at : Fun K "size_at" "size_at" s_size_at f_size_at fd_size_at
  g_size_at : mg "size_at" = some (.ref f_size_at)
  b_size_at : Binds K fd_size_at ["codes", "at"] []
  f_cell_at : Addr
  fd_cell_at : FuncData
  F_cell_at : Fun K "_law_cell_at" "_law_cell_at" s_cell_at f_cell_at fd_cell_at
  g_cell_at : mg "_law_cell_at" = some (.ref f_cell_at)
  b_cell_at : Binds K fd_cell_at ["_law_script", "_law_k"] []
  f_box : Addr
  fd_box : FuncData
  F_box : Fun K "_law_box" "_law_box" s_box f_box fd_box
  g_box : mg "_law_box" = some (.ref f_box)
  b_box : Binds K fd_box ["_law_script", "_law_k"] []
  f_take : Addr
  fd_take : FuncData
  F_take : Fun K "_law_take" "_law_take" s_take f_take fd_take
  g_take : mg "_law_take" = some (.ref f_take)
  b_take : Binds K fd_take ["_law_box_here", "_law_count"] []
  f_same : Addr
  fd_same : FuncData
  F_same : Fun K "_law_same" "_law_same" s_same f_same fd_same
  g_same : mg "_law_same" = some (.ref f_same)
  b_same : Binds K fd_same ["_law_found", "_law_due_here"] []
  f_of : Addr
  fd_of : FuncData
  F_of : Fun K "_law_of" "_law_of" s_of f_of fd_of
  g_of : mg "_law_of" = some (.ref f_of)
  b_of : Binds K fd_of ["_law_box_here", "_law_some"] []
  f_bytes : Addr
  fd_bytes : FuncData
  F_bytes : Fun K "_law_bytes" "_law_bytes" s_bytes f_bytes fd_bytes
  g_bytes : mg "_law_bytes" = some (.ref f_bytes)
  b_bytes : Binds K fd_bytes ["_law_box_here", "_law_count"] []
  f_size : Addr
  fd_size : FuncData
  F_size : Fun K "_law_size" "_law_size" s_size f_size fd_size
  g_size : mg "_law_size" = some (.ref f_size)
  b_size : Binds K fd_size ["_law_count"] []
  f_due : Addr
  fd_due : FuncData
  F_due : Fun K "_law_due" "_law_due" s_due f_due fd_due
  g_due : mg "_law_due" = some (.ref f_due)
  b_due : Binds K fd_due ["_law_row_here", "_law_spot"] []
  f_told : Addr
  fd_told : FuncData
  F_told : Fun K "_law_told" "_law_told" s_told f_told fd_told
  g_told : mg "_law_told" = some (.ref f_told)
  b_told : Binds K fd_told ["_law_row_here", "_law_spot", "_law_named"] []
  f_row : Addr
  fd_row : FuncData
  F_row : Fun K "_law_row" "_law_row" s_row f_row fd_row
  g_row : mg "_law_row" = some (.ref f_row)
  b_row : Binds K fd_row ["_law_box_here"] []
  kb_size_at_0_at_codes : KBn K fd_size_at ["codes", "at"] 0 ["at", "codes"] (fun us ws => us ++ ws.reverse) (fun vs zs => vs ++ zs.reverse)
  tk_SIZE : Tok
  g_SIZE : mg "SIZE" = some (.int 12 tk_SIZE)
  tk_TWO_FOLLOW : Tok
  g_TWO_FOLLOW : mg "TWO_FOLLOW" = some (.int 250 tk_TWO_FOLLOW)
  tk_THREE_FOLLOW : Tok
  g_THREE_FOLLOW : mg "THREE_FOLLOW" = some (.int 251 tk_THREE_FOLLOW)
  C_BadSlip : Addr
  f_BadSlip : Addr
  fd_BadSlip : FuncData
  F_BadSlip : Fun K "__init__" "BadSlip.__init__" s_BadSlip f_BadSlip fd_BadSlip
  g_BadSlip : mg "BadSlip" = some (.ref C_BadSlip)
  oe_BadSlip : OeC K C_BadSlip "ValueError" "ValueError.__new__" "ValueError.__init__" bm_ValueError
  i_BadSlip : PySem.W.findIn K (.ref C_BadSlip) "__init__" = some (some (.ref f_BadSlip))
  t_BadSlip : PySem.W.typeIn K (.ref f_BadSlip) = some (.type "function")
  b_BadSlip : Binds K fd_BadSlip ["self", "part"] []
  n_BadSlip_part : PySem.W.findIn K (.ref C_BadSlip) "part" = some none
  C_BadLetter : Addr
  f_BadLetter : Addr
  fd_BadLetter : FuncData
  F_BadLetter : Fun K "__init__" "BadLetter.__init__" s_BadLetter f_BadLetter fd_BadLetter
  g_BadLetter : mg "BadLetter" = some (.ref C_BadLetter)
  oe_BadLetter : OeC K C_BadLetter "ValueError" "ValueError.__new__" "ValueError.__init__" bm_ValueError
  i_BadLetter : PySem.W.findIn K (.ref C_BadLetter) "__init__" = some (some (.ref f_BadLetter))
  t_BadLetter : PySem.W.typeIn K (.ref f_BadLetter) = some (.type "function")
  b_BadLetter : Binds K fd_BadLetter ["self", "part"] []
  n_BadLetter_part : PySem.W.findIn K (.ref C_BadLetter) "part" = some none
  C_BadEnd : Addr
  f_BadEnd : Addr
  fd_BadEnd : FuncData
  F_BadEnd : Fun K "__init__" "BadEnd.__init__" s_BadEnd f_BadEnd fd_BadEnd
  g_BadEnd : mg "BadEnd" = some (.ref C_BadEnd)
  oe_BadEnd : OeC K C_BadEnd "ValueError" "ValueError.__new__" "ValueError.__init__" bm_ValueError
  i_BadEnd : PySem.W.findIn K (.ref C_BadEnd) "__init__" = some (some (.ref f_BadEnd))
  t_BadEnd : PySem.W.typeIn K (.ref f_BadEnd) = some (.type "function")
  b_BadEnd : Binds K fd_BadEnd ["self", "part"] []
  n_BadEnd_part : PySem.W.findIn K (.ref C_BadEnd) "part" = some none
  C_BadText : Addr
  f_BadText : Addr
  fd_BadText : FuncData
  F_BadText : Fun K "__init__" "BadText.__init__" s_BadText f_BadText fd_BadText
  g_BadText : mg "BadText" = some (.ref C_BadText)
  oe_BadText : OeC K C_BadText "ValueError" "ValueError.__new__" "ValueError.__init__" bm_ValueError
  i_BadText : PySem.W.findIn K (.ref C_BadText) "__init__" = some (some (.ref f_BadText))
  t_BadText : PySem.W.typeIn K (.ref f_BadText) = some (.type "function")
  b_BadText : Binds K fd_BadText ["self", "text"] []
  n_BadText_text : PySem.W.findIn K (.ref C_BadText) "text" = some none
  C_BadRow : Addr
  f_BadRow : Addr
  fd_BadRow : FuncData
  F_BadRow : Fun K "__init__" "BadRow.__init__" s_BadRow f_BadRow fd_BadRow
  g_BadRow : mg "BadRow" = some (.ref C_BadRow)
  oe_BadRow : OeC K C_BadRow "ValueError" "ValueError.__new__" "ValueError.__init__" bm_ValueError
  i_BadRow : PySem.W.findIn K (.ref C_BadRow) "__init__" = some (some (.ref f_BadRow))
  t_BadRow : PySem.W.typeIn K (.ref f_BadRow) = some (.type "function")
  b_BadRow : Binds K fd_BadRow ["self", "row"] []
  n_BadRow_row : PySem.W.findIn K (.ref C_BadRow) "row" = some none
  C_Fault : Addr
  f_Fault : Addr
  fd_Fault : FuncData
  F_Fault : Fun K "__init__" "Fault.__init__" s_Fault f_Fault fd_Fault
  g_Fault : mg "Fault" = some (.ref C_Fault)
  oe_Fault : OeC K C_Fault "ValueError" "ValueError.__new__" "ValueError.__init__" bm_ValueError
  i_Fault : PySem.W.findIn K (.ref C_Fault) "__init__" = some (some (.ref f_Fault))
  t_Fault : PySem.W.typeIn K (.ref f_Fault) = some (.type "function")
  b_Fault : Binds K fd_Fault ["self", "code", "at"] []
  n_Fault_code : PySem.W.findIn K (.ref C_Fault) "code" = some none
  n_Fault_at : PySem.W.findIn K (.ref C_Fault) "at" = some none
  C_NoSlip : Addr
  f_NoSlip : Addr
  fd_NoSlip : FuncData
  F_NoSlip : Fun K "__init__" "NoSlip.__init__" s_NoSlip f_NoSlip fd_NoSlip
  g_NoSlip : mg "NoSlip" = some (.ref C_NoSlip)
  oe_NoSlip : OeC K C_NoSlip "IndexError" "IndexError.__new__" "IndexError.__init__" bm_IndexError
  i_NoSlip : PySem.W.findIn K (.ref C_NoSlip) "__init__" = some (some (.ref f_NoSlip))
  t_NoSlip : PySem.W.typeIn K (.ref f_NoSlip) = some (.type "function")
  b_NoSlip : Binds K fd_NoSlip ["self", "number"] []
  n_NoSlip_number : PySem.W.findIn K (.ref C_NoSlip) "number" = some none
  C_NoByte : Addr
  f_NoByte : Addr
  fd_NoByte : FuncData
  F_NoByte : Fun K "__init__" "NoByte.__init__" s_NoByte f_NoByte fd_NoByte
  g_NoByte : mg "NoByte" = some (.ref C_NoByte)
  oe_NoByte : OeC K C_NoByte "IndexError" "IndexError.__new__" "IndexError.__init__" bm_IndexError
  i_NoByte : PySem.W.findIn K (.ref C_NoByte) "__init__" = some (some (.ref f_NoByte))
  t_NoByte : PySem.W.typeIn K (.ref f_NoByte) = some (.type "function")
  b_NoByte : Binds K fd_NoByte ["self", "at"] []
  n_NoByte_at : PySem.W.findIn K (.ref C_NoByte) "at" = some none
  C_NoDeed : Addr
  f_NoDeed : Addr
  fd_NoDeed : FuncData
  F_NoDeed : Fun K "__init__" "NoDeed.__init__" s_NoDeed f_NoDeed fd_NoDeed
  g_NoDeed : mg "NoDeed" = some (.ref C_NoDeed)
  oe_NoDeed : OeC K C_NoDeed "LookupError" "LookupError.__new__" "LookupError.__init__" bm_LookupError
  i_NoDeed : PySem.W.findIn K (.ref C_NoDeed) "__init__" = some (some (.ref f_NoDeed))
  t_NoDeed : PySem.W.typeIn K (.ref f_NoDeed) = some (.type "function")
  b_NoDeed : Binds K fd_NoDeed ["self", "many"] []
  n_NoDeed_many : PySem.W.findIn K (.ref C_NoDeed) "many" = some none
  C_Ended : Addr
  f_Ended : Addr
  fd_Ended : FuncData
  F_Ended : Fun K "__init__" "Ended.__init__" s_Ended f_Ended fd_Ended
  g_Ended : mg "Ended" = some (.ref C_Ended)
  oe_Ended : OeC K C_Ended "RuntimeError" "RuntimeError.__new__" "RuntimeError.__init__" bm_RuntimeError
  i_Ended : PySem.W.findIn K (.ref C_Ended) "__init__" = some (some (.ref f_Ended))
  t_Ended : PySem.W.typeIn K (.ref f_Ended) = some (.type "function")
  b_Ended : Binds K fd_Ended ["self", "talk"] []
  n_Ended_talk : PySem.W.findIn K (.ref C_Ended) "talk" = some none
  lt_BadSlip : C_BadSlip < C_BadLetter
  lt_BadLetter : C_BadLetter < C_BadEnd
  lt_BadEnd : C_BadEnd < C_BadText
  lt_BadText : C_BadText < C_BadRow
  lt_BadRow : C_BadRow < C_Fault
  lt_Fault : C_Fault < C_NoSlip
  lt_NoSlip : C_NoSlip < C_NoByte
  lt_NoByte : C_NoByte < C_NoDeed
  lt_NoDeed : C_NoDeed < C_Ended
  v_IndexError : PySem.W.findCls K (.type "IndexError") (.type "type") "__init__" = some (.val (.builtin "IndexError.__init__"))
  v_LookupError : PySem.W.findCls K (.type "LookupError") (.type "type") "__init__" = some (.val (.builtin "LookupError.__init__"))
  v_RuntimeError : PySem.W.findCls K (.type "RuntimeError") (.type "type") "__init__" = some (.val (.builtin "RuntimeError.__init__"))
  v_ValueError : PySem.W.findCls K (.type "ValueError") (.type "type") "__init__" = some (.val (.builtin "ValueError.__init__"))
  m_len : mg "len" = none
  m_abs : mg "abs" = none
  m_int : mg "int" = none
  m_bool : mg "bool" = none
  m_list : mg "list" = none
  m_tuple : mg "tuple" = none
  m_isinstance : mg "isinstance" = none
  m_all : mg "all" = none
  m_zip : mg "zip" = none
  m_min : mg "min" = none
  m_range : mg "range" = none
  m_ValueError : mg "ValueError" = none
end K4

set_option Elab.async false
set_option linter.all false
set_option maxRecDepth 100000
set_option maxHeartbeats 4000000
namespace K4
open PySem PySem.Spec PyProof.Rows L2
/-! ### heaps and bytes -/
def Bts (ns : List Int) : Prop := ∀ x ∈ ns, 0 ≤ x ∧ x < 256
/-- all but p is as it was -/
def Keep (p : Addr) (H H' : Hp) : Prop := ∀ b o, b ≠ p → H b = some o → H' b = some o
theorem same_upd {H : Hp} {p : Addr} {o : HO} (h : H p = none) : Same H (upd H p o) := fun b x e => by
  rw [upd_ne (ne_of_none e h)]
  exact e
theorem sq1 {K : PySem.W.Frag} {H : Hp} {a : Addr} {xs : List V} (h : H a = some (.lst xs)) : SqL K H a xs := .inl (.inl h)
theorem st1 {K : PySem.W.Frag} {H : Hp} {a : Addr} {xs : List V} (h : H a = some (.tup xs)) : SqT K H a xs := .inl (.inl h)
/-- an item of a list of ints -/
theorem atI_ints {xs : List Int} {r : Int} (h0 : 0 ≤ r) (h1 : r < xs.length) : ∃ x, x ∈ xs ∧ atI (xs.map V.int) r = some (.int x) := by
  obtain ⟨j, rfl⟩ := Int.eq_ofNat_of_zero_le h0
  have hj : j < xs.length := by omega
  refine ⟨xs[j], List.getElem_mem hj, atI_nat ?_⟩
  rw [List.getElem?_map, List.getElem?_eq_getElem hj]
  rfl
theorem Keep.upd {p : Addr} {H H' : Hp} {o : HO} (k : Keep p H H') : Keep p H (upd H' p o) := fun b x hb e => by
  rw [upd_ne hb]
  exact k b x hb e
theorem Keep.refl (p : Addr) (H : Hp) : Keep p H H := fun _ _ _ e => e
theorem Keep.trans {p : Addr} {H H1 H2 : Hp} (a : Keep p H H1) (b : Keep p H1 H2) : Keep p H H2 := fun c o hc e => b c o hc (a c o hc e)
theorem Keep.new {p q : Addr} {H H' : Hp} {o : HO} (k : Keep p H H') (hq : H' q = none) : Keep p H (L2.upd H' q o) := fun b x hb e => by
  rw [upd_ne (ne_of_none (k b x hb e) hq)]
  exact k b x hb e
theorem Same.seqT {K : PySem.W.Frag} {H H' : Hp} {a : Addr} {xs : List V} (e : Same H H') (h : SqT K H a xs) : SqT K H' a xs := by
  rcases h with (h | ⟨o, h⟩) | h
  · exact .inl (.inl (e _ _ h))
  · exact .inl (.inr ⟨o, e _ _ h⟩)
  · exact .inr h
theorem Same.new {H H' : Hp} {p : Addr} {o : HO} (s : Same H H') (h : H' p = none) : Same H (L2.upd H' p o) := s.trans (same_upd h)
/-- a change at a place that was free -/
theorem Same.mut {H H' : Hp} {p : Addr} {o : HO} (s : Same H H') (h : H p = none) : Same H (L2.upd H' p o) := fun b x e => by
  rw [upd_ne (ne_of_none e h)]
  exact s b x e
theorem walk_zipT {K : PySem.W.Frag} {a b : Addr} {xs ys : List V} {n : Nat} (hn : n = min xs.length ys.length) : Walk (RZ.ItzT K a b) n (fun H => SqT K H a xs ∧ SqT K H b ys) (YPair (fun i => xs[i]?) (fun i => ys[i]?)) := by
  subst hn
  refine ⟨fun i _ hi q => ?_, fun _ q => ⟨xs, ys, q.1, q.2, by omega⟩, fun i H v H' _ q y => ?_⟩
  · have h1 : i < xs.length := by omega
    have h2 : i < ys.length := by omega
    exact ⟨xs, ys, xs[i], ys[i], q.1, q.2, by simp [h1], by simp [h2]⟩
  · obtain ⟨T, x, z, h1, h2, h3, h4, h5⟩ := y
    exact ⟨T, x, z, h1, h2, h3, h4 xs q.1, h5 ys q.2⟩
theorem Same.keep {p : Addr} {H H1 H2 : Hp} (s : Same H H1) (k : Keep p H1 H2) (h : H p = none) : Same H H2 := fun b o e => k b o (ne_of_none e h) (s b o e)
theorem Same.k {p : Addr} {H H' : Hp} (s : Same H H') : Keep p H H' := fun b o _ e => s b o e
theorem Keep.mut {p t : Addr} {H H1 H2 : Hp} (k : Keep p H H1) (m : Keep t H1 H2) (h : H t = none) : Keep p H H2 := fun b o hb e => m b o (ne_of_none e h) (k b o hb e)
theorem Keep.free {p t : Addr} {H H1 : Hp} (k : Keep p H H1) (h : H1 t = none) (ne : t ≠ p) : H t = none := by
  cases e : H t with
  | none => rfl
  | some o => rw [k t o ne e] at h; cases h

section
variable {P : Program} {w : World} {K : PySem.W.Frag} {mg : Str → Option Value} {base : Heap}
/-! ### the cells and the draws -/
def spCell (K : PySem.W.Frag) : Sp := fun vs H Q _ => ∃ (a : Addr) (ns : List Int) (k : Int), vs = [.ref a, .int k] ∧ SqL K H a (ns.map V.int) ∧ 0 ≤ k ∧ ∀ z : Int, Q (.int z) H
theorem ok_cell_at (T : Tx K mg) : FnOk P w K mg base CX0 1 T.f_cell_at T.fd_cell_at ["_law_script", "_law_k"] (spCell K) := by
  refine T.F_cell_at.ok sc_cell_at (fun vs H Q E h => ?_) (fun cdv A outer s H vs Q E hr h => ?_)
  · obtain ⟨a, ns, k, rfl, _⟩ := h
    rfl
  · obtain ⟨a, ns, k, rfl, hS, h0, q⟩ := h
    refine ⟨_, (pss_cons (ps_if (pt_cmpR op_lt (pv 1) (pe_callB call_len_seq (by rfl) T.m_len (by decide +kernel) (pa_cons (pv 0) pa_nil)) (nomark _)) (pss_one (ps_ret (pe_ix (r := rIxL K) ix_list (pv 0) (pv 1) (fun _ _ => rfl)))) pss_nil)
      (pss_one (ps_ret pe_int))), ?_⟩
    refine ⟨.int k, rfl, .ref a, rfl, a, ns.map V.int, rfl, .inl hS, k, _, rfl, rfl, _, rfl, ite2 (fun e => ?_) (fun e => ?_)⟩
    · have e1 : k < ((ns.map V.int).length : Int) := of_decide_eq_true e
      rw [List.length_map] at e1
      obtain ⟨x, _, hx⟩ := atI_ints h0 e1
      exact ⟨.ref a, rfl, .int k, rfl, a, _, k, .int x, rfl, rfl, hS, hx, q x⟩
    · exact q 0
def spBox (K : PySem.W.Frag) : Sp := fun vs H Q _ => ∃ (a : Addr) (ns : List Int) (k : Int), vs = [.ref a, .int k] ∧ SqL K H a (ns.map V.int) ∧ 0 ≤ k ∧ k ≤ 1000 ∧
  ∀ (p : Addr) (x y : Int), H p = none → 0 ≤ x → 0 ≤ y → y < 2 ^ 62 → Q (.ref p) (upd H p (.lst [.int x, .int y, .int 0]))
theorem ok_box (T : Tx K mg) : FnOk P w K mg base CX0 2 T.f_box T.fd_box ["_law_script", "_law_k"] (spBox K) := by
  refine T.F_box.ok sc_box (fun vs H Q E h => ?_) (fun cdv A outer s H vs Q E hr h => ?_)
  · obtain ⟨a, ns, k, rfl, _⟩ := h
    rfl
  · obtain ⟨a, ns, k, rfl, hS, h0, h1, q⟩ := h
    refine ⟨_, (pss_cons (ps_set (i := 2) sc_box.nd rfl (.inl rfl) (pe_call (ok_cell_at T) (hr.mono (by omega)) (by rfl) T.g_cell_at T.F_cell_at.kp T.b_cell_at .nil pass0 (pa_cons (pv 0) (pa_cons (pv 1) pa_nil))))
      (pss_one (ps_ret (pe_lst (pa_cons (pe_op op_mul (pe_callB call_abs (by rfl) T.m_abs (by decide +kernel) (pa_cons (pv 2) pa_nil)) (pe_callTy call_int1 (by rfl) T.m_int (by decide +kernel) (pa_cons (pe_cmpR op_ge (pe_callB call_abs (by rfl) T.m_abs (by decide +kernel) (pa_cons (pv 2) pa_nil)) (pe_op op_pow pe_int pe_int) (nomark _)) pa_nil))) (pa_cons (pe_op op_add (pe_op op_add (pe_op op_mod (pv 2) pe_int) (pe_op op_mul pe_int (pv 1))) pe_int) (pa_cons pe_int pa_nil))))))), ?_⟩
    refine ⟨.ref a, rfl, .int k, rfl, a, ns, k, rfl, hS, h0, fun z => ?_⟩
    -- abs(cell) * int(abs(cell) >= 10 ** 18)
    refine ⟨.int z, rfl, z, rfl, .int z, rfl, z, rfl, 10, 18, rfl, rfl, ⟨by decide, by decide, by decide⟩, _, _, rfl, rfl, .inr ⟨_, rfl, _, _, rfl, rfl, ?_, ?_⟩⟩
    · refine .inr ?_
      constructor <;> (repeat' split) <;> decide
    · refine ⟨.int z, rfl, z, 2305843009213693951, rfl, rfl, (by show (0 : Int) < _; decide), .int k, rfl, 39373, k, rfl, rfl, .inl ⟨by decide, by decide⟩, _, _, rfl, rfl, _, _, rfl, rfl, by show 3 ≤ sizeLine; decide, fun p hp => ?_⟩
      refine q p _ _ hp ?_ ?_ ?_
      · refine Int.mul_nonneg ?_ ?_
        · split <;> omega
        · split <;> omega
      · have := Int.emod_nonneg z (b := 2305843009213693951) (by decide)
        omega
      · have := Int.emod_lt_of_pos z (b := 2305843009213693951) (by decide)
        omega
/-- a draw: the box at p keeps its form, the answer lies below the count -/
def spTake : Sp := fun vs H Q _ => ∃ (p : Addr) (a b c m : Int), vs = [.ref p, .int m] ∧ H p = some (.lst [.int a, .int b, .int c]) ∧ 0 ≤ a ∧ 0 ≤ b ∧ b < 2 ^ 62 ∧ 0 ≤ c ∧ c < 2 ^ 40 ∧ 0 < m ∧ m < 1073741824 ∧
  ∀ a' c' r : Int, 0 ≤ a' → c ≤ c' → c' ≤ c + 1 → 0 ≤ r → r < m → Q (.int r) (upd H p (.lst [.int a', .int b, .int c']))
theorem ok_take (T : Tx K mg) : FnOk P w K mg base CX0 1 T.f_take T.fd_take ["_law_box_here", "_law_count"] spTake := by
  refine T.F_take.ok sc_take (fun vs H Q E h => ?_) (fun cdv A outer s H vs Q E hr h => ?_)
  · obtain ⟨p, a, b, c, m, rfl, _⟩ := h
    rfl
  · obtain ⟨p, a, b, c, m, rfl, hB, a0, b0, b1, c0, c1, m0, m1, q⟩ := h
    refine ⟨_, (pss_cons (ps_if (pt_cmpR op_gt (pe_ix (r := rIxL K) ix_list (pv 0) pe_int (fun _ _ => rfl)) pe_int (nomark _)) (pss_cons (ps_set (i := 2) sc_take.nd rfl (.inl rfl) (pe_op op_mod (pe_ix (r := rIxL K) ix_list (pv 0) pe_int (fun _ _ => rfl)) (pv 1)))
      (pss_cons (ps_asg (pe_op op_fdiv (pe_ix (r := rIxL K) ix_list (pv 0) pe_int (fun _ _ => rfl)) (pv 1)) (pg_sub (pv 0) pe_int set_list))
      (pss_one (ps_ret (pv 2))))) pss_nil)
      (pss_cons (ps_asg (pe_op op_add (pe_ix (r := rIxL K) ix_list (pv 0) pe_int (fun _ _ => rfl)) pe_int) (pg_sub (pv 0) pe_int set_list))
      (pss_cons (ps_set (i := 3) sc_take.nd rfl (.inl rfl) (pe_op op_mod (pe_op op_mul (pe_op op_add (pe_ix (r := rIxL K) ix_list (pv 0) pe_int (fun _ _ => rfl)) (pe_op op_mul pe_int (pe_ix (r := rIxL K) ix_list (pv 0) pe_int (fun _ _ => rfl)))) (pe_op op_add pe_int (pe_ix (r := rIxL K) ix_list (pv 0) pe_int (fun _ _ => rfl)))) pe_int))
      (pss_cons (ps_set (i := 4) sc_take.nd rfl (.inl rfl) (pe_op op_mod (pe_op op_mul (pe_op op_add (pe_op op_add (pv 3) (pe_ix (r := rIxL K) ix_list (pv 0) pe_int (fun _ _ => rfl))) (pe_op op_fdiv (pe_ix (r := rIxL K) ix_list (pv 0) pe_int (fun _ _ => rfl)) pe_int)) (pe_op op_add (pe_op op_mod (pv 3) pe_int) pe_int)) pe_int))
      (pss_one (ps_ret (pe_op op_mod (pe_op op_fdiv (pe_op op_mod (pe_op op_add (pe_op op_mul (pv 4) pe_int) (pv 3)) pe_int) pe_int) (pv 1)))))))), ?_⟩
    refine ⟨.ref p, rfl, p, _, 0, .int a, rfl, rfl, sq1 hB, rfl, _, _, rfl, rfl, _, rfl, ite2 (fun e => ?_) (fun e => ?_)⟩
    · -- found = box[0] % count; box[0] = box[0] // count
      refine ⟨.ref p, rfl, p, _, 0, .int a, rfl, rfl, sq1 hB, rfl, .int m, rfl, a, m, rfl, rfl, m0, ?_⟩
      refine ⟨.ref p, rfl, p, _, 0, .int a, rfl, rfl, sq1 hB, rfl, .int m, rfl, a, m, rfl, rfl, ⟨m0, m1⟩, ?_⟩
      refine ⟨.ref p, rfl, p, _, 0, 0, rfl, rfl, hB, rfl, ?_⟩
      refine ⟨.int (a % m), rfl, ?_⟩
      exact q _ _ _ (Int.ediv_nonneg a0 (by omega)) (Int.le_refl _) (by omega) (Int.emod_nonneg _ (by omega)) (Int.emod_lt_of_pos _ m0)
    · -- box[2] = box[2] + 1
      refine ⟨.ref p, rfl, p, _, 2, .int c, rfl, rfl, sq1 hB, rfl, c, 1, rfl, rfl, .ref p, rfl, p, _, 2, 2, rfl, rfl, hB, rfl, ?_⟩
      have hB1 : (upd H p (.lst [.int a, .int b, .int (c + 1)])) p = some (.lst [.int a, .int b, .int (c + 1)]) := upd_same
      show (tSeq _ _) _ _ (upd H p (.lst [.int a, .int b, .int (c + 1)]))
      -- once
      refine ⟨.ref p, rfl, p, _, 1, .int b, rfl, rfl, sq1 hB1, rfl, .ref p, rfl, p, _, 2, .int (c + 1), rfl, rfl, sq1 hB1, rfl, 48271, c + 1, rfl, rfl, .inl ⟨by decide, by decide⟩, b, _, rfl, rfl,
        .ref p, rfl, p, _, 2, .int (c + 1), rfl, rfl, sq1 hB1, rfl, 39373, c + 1, rfl, rfl, _, _, rfl, rfl, .inr ⟨by omega, by omega⟩, _, 2147483647, rfl, rfl, (by show (0 : Int) < _; decide), ?_⟩
      -- twice
      have o2 := Int.emod_nonneg ((b + 48271 * (c + 1)) * (39373 + (c + 1)) % 2147483647) (b := 40009) (by decide)
      have o3 := Int.emod_lt_of_pos ((b + 48271 * (c + 1)) * (39373 + (c + 1)) % 2147483647) (b := 40009) (by decide)
      refine ⟨_, rfl, .ref p, rfl, p, _, 2, .int (c + 1), rfl, rfl, sq1 hB1, rfl, _, c + 1, rfl, rfl, .ref p, rfl, p, _, 1, .int b, rfl, rfl, sq1 hB1, rfl, b, 1000003, rfl, rfl, ⟨by decide, by decide⟩, _, _, rfl, rfl,
        _, rfl, _, 40009, rfl, rfl, (by show (0 : Int) < _; decide), _, 7, rfl, rfl, _, _, rfl, rfl, .inr ⟨?_, ?_⟩, _, 2147483629, rfl, rfl, (by show (0 : Int) < _; decide), ?_⟩
      · exact Int.lt_of_lt_of_le (by decide) (Int.add_le_add_right o2 7)
      · exact Int.lt_trans (Int.add_lt_add_right o3 7) (by decide)
      -- the answer
      refine ⟨_, rfl, _, 48271, rfl, rfl, .inr ⟨by decide, by decide⟩, _, rfl, _, _, rfl, rfl, _, 2147483587, rfl, rfl, (by show (0 : Int) < _; decide), _, 64, rfl, rfl, ⟨by decide, by decide⟩, .int m, rfl, _, m, rfl, rfl, m0, ?_⟩
      exact q _ _ _ a0 (by omega) (Int.le_refl _) (Int.emod_nonneg _ (by omega)) (Int.emod_lt_of_pos _ m0)
end

section
variable {P : Program} {w : World} {K : PySem.W.Frag} {mg : Str → Option Value} {base : Heap}
/-! ### rows of bytes -/
def spBytes : Sp := fun vs H Q _ => ∃ (p : Addr) (a b c n : Int), vs = [.ref p, .int n] ∧ H p = some (.lst [.int a, .int b, .int c]) ∧ 0 ≤ a ∧ 0 ≤ b ∧ b < 2 ^ 62 ∧ 0 ≤ c ∧ c < 2 ^ 39 ∧ 0 ≤ n ∧ n ≤ 1000000 ∧
  ∀ (H' : Hp) (q : Addr) (ns : List Int) (a' c' : Int), H q = none → H' q = some (.lst (ns.map V.int)) → H' p = some (.lst [.int a', .int b, .int c']) → 0 ≤ a' → c ≤ c' → c' ≤ c + 1 + 2 * n → Keep p H H' → (ns.length : Int) = n → Bts ns → Q (.ref q) H'
theorem ok_bytes (T : Tx K mg) : FnOk P w K mg base CX0 2 T.f_bytes T.fd_bytes ["_law_box_here", "_law_count"] spBytes := by
  refine T.F_bytes.ok sc_bytes (fun vs H Q E h => ?_) (fun cdv A outer s H vs Q E hr h => ?_)
  · obtain ⟨p, a, b, c, n, rfl, _⟩ := h
    rfl
  · obtain ⟨p, a, b, c, n, rfl, hB, a0, b0, b1, c0, c1, n0, n1, q⟩ := h
    refine ⟨_, (pss_cons (ps_par (i := 2) (j := 3) rfl sc_bytes.nd rfl rfl (by decide) rfl rfl (pa_cons (pe_call (ok_take T) (hr.mono (by omega)) (by rfl) T.g_take T.F_take.kp T.b_take .nil pass0 (pa_cons (pv 0) (pa_cons pe_int pa_nil))) (pa_cons (pe_lst pa_nil) pa_nil)) rfl)
      (pss_cons (ps_for PassesOwn.never rfl (pi_range1 (by rfl) T.m_range (pa_cons (pv 1) pa_nil)) (pg_name (i := 4) sc_bytes.nd rfl (.inl rfl)) (pss_one (ps_expr (pe_bm PySem.F.plainAttrs_list PySem.F.slot_list_append PySem.F.type_list_append mt_append (pv 3) (pa_cons (pe_ix (r := rIxL K) ix_list (pe_lst (pa_cons (pe_call (ok_take T) (hr.mono (by omega)) (by rfl) T.g_take T.F_take.kp T.b_take .nil pass0 (pa_cons (pv 0) (pa_cons pe_int pa_nil))) (pa_cons pe_int (pa_cons pe_int (pa_cons (pe_ix (r := rIxL K) ix_list (pe_lst (pa_cons pe_int (pa_cons pe_int (pa_cons pe_int (pa_cons pe_int (pa_cons pe_int (pa_cons pe_int (pa_cons pe_int (pa_cons pe_int pa_nil))))))))) (pe_call (ok_take T) (hr.mono (by omega)) (by rfl) T.g_take T.F_take.kp T.b_take .nil pass0 (pa_cons (pv 0) (pa_cons pe_int pa_nil))) (fun _ _ => rfl)) pa_nil))))) (pv 2) (fun _ _ => rfl)) pa_nil)))))
      (pss_one (ps_ret (pv 3))))), ?_⟩
    refine ⟨.ref p, rfl, p, a, b, c, 4, rfl, hB, a0, b0, b1, c0, by omega, by decide, by decide, fun a1 c2 mk a10 cl cu mk0 mk1 => ?_⟩
    refine ⟨Nat.zero_le _, fun l hl => ?_⟩
    refine ⟨_, _, rfl, ?_⟩
    have npl : p ≠ l := fun z => by
      rw [← z, upd_same] at hl
      cases hl
    have hHl : H l = none := by
      rw [upd_ne (Ne.symm npl)] at hl
      exact hl
    refine ⟨.int n, rfl, n, rfl, by omega, by omega, ?_⟩
    refine for_it walk_range (fun i σ Hc => ∃ (y4 : Option V) (ns : List Int) (a' c' : Int), σ = [some (.ref p), some (.int n), some (.int mk), some (.ref l), y4] ∧ Hc l = some (.lst (ns.map V.int)) ∧ Hc p = some (.lst [.int a', .int b, .int c']) ∧ 0 ≤ a' ∧ c ≤ c' ∧ c' ≤ c + 1 + 2 * (i : Int) ∧ Keep p H Hc ∧ ns.length = i ∧ Bts ns) ?_ (fun _ _ _ _ _ => trivial) ?_ ?_
    · refine ⟨none, [], a1, c2, rfl, ?_, ?_, a10, cl, by omega, ?_, rfl, fun x hx => by cases hx⟩
      · rw [upd_same]
        rfl
      · rw [upd_ne npl, upd_same]
      · exact ((Keep.refl p H).upd).new hl
    · rintro i x σ Hc H' hi ⟨y4, ns, a', c', rfl, el, ep, a'0, cl', cu', kp, hlen, hb⟩ ⟨rfl, rfl⟩
      -- found.append([take(box, 256), 0, 255, [..][take(box, 8)]][make])
      refine ⟨.ref l, rfl, .inl ⟨rfl, _, sq1 el⟩, ?_⟩
      refine ⟨.ref p, rfl, p, a', b, c', 256, rfl, ep, a'0, b0, b1, by omega, by omega, by decide, by decide, fun a2 c3 r1 a20 cl2 cu2 r10 r11 => ?_⟩
      refine ⟨by show 8 ≤ sizeLine; decide, fun l2 hl2 => ?_⟩
      have np2 : p ≠ l2 := fun z => by
        rw [← z, upd_same] at hl2
        cases hl2
      refine ⟨.ref p, rfl, p, a2, b, c3, 8, rfl, (by rw [upd_ne np2, upd_same]), a20, b0, b1, by omega, by omega, by decide, by decide, fun a3 c4 r2 a30 cl3 cu3 r20 r21 => ?_⟩
      obtain ⟨x2, hx2, hat2⟩ := atI_ints (xs := [32, 33, 34, 41, 10, 250, 251, 3]) r20 r21
      refine ⟨l2, _, r2, .int x2, rfl, rfl, sq1 (by rw [upd_ne np2.symm, upd_same]; rfl), hat2, ?_⟩
      refine ⟨by show 4 ≤ sizeLine; decide, fun l3 hl3 => ?_⟩
      have hx2b : 0 ≤ x2 ∧ x2 < 256 := by
        simp only [List.mem_cons, List.not_mem_nil, or_false] at hx2
        omega
      obtain ⟨x3, hx3, hat3⟩ := atI_ints (xs := [r1, 0, 255, x2]) mk0 mk1
      have hx3b : 0 ≤ x3 ∧ x3 < 256 := by
        simp only [List.mem_cons, List.not_mem_nil, or_false] at hx3
        omega
      refine ⟨.int mk, rfl, l3, _, mk, .int x3, rfl, rfl, sq1 upd_same, hat3, ?_⟩
      have nlp : l ≠ p := npl.symm
      have nl2 : l ≠ l2 := fun z => by
        rw [← z, upd_ne nlp, el] at hl2
        cases hl2
      have nl3 : l ≠ l3 := fun z => by
        rw [← z, upd_ne nlp, upd_ne nl2, upd_ne nlp, el] at hl3
        cases hl3
      have np3 : p ≠ l3 := fun z => by
        rw [← z, upd_same] at hl3
        cases hl3
      refine ⟨l, _, _, rfl, rfl, (by rw [upd_ne nl3, upd_ne nlp, upd_ne nl2, upd_ne nlp]; exact el), ?_, ?_⟩
      · rw [List.length_map, hlen]
        exact Nat.lt_of_le_of_lt (show i ≤ 1000000 by omega) (by decide)
      · refine ⟨some (.int (0 + (i : Int))), ns ++ [x3], a3, c4, rfl, ?_, ?_, a30, by omega, by omega, ?_, ?_, ?_⟩
        · rw [upd_same, List.map_append]
          rfl
        · rw [upd_ne npl, upd_ne np3, upd_same]
        · refine fun b' o hb' e => ?_
          have k1 := kp.upd (o := .lst [.int a2, .int b, .int c3])
          have k2 := k1.new (q := l2) (o := .lst [.int 32, .int 33, .int 34, .int 41, .int 10, .int 250, .int 251, .int 3]) hl2
          have k3 := k2.upd (o := .lst [.int a3, .int b, .int c4])
          have k4 := k3.new (q := l3) (o := .lst [.int r1, .int 0, .int 255, .int x2]) hl3
          rw [upd_ne (ne_of_none e hHl)]
          exact k4 b' o hb' e
        · rw [List.length_append, hlen]
          rfl
        · intro y hy
          rcases List.mem_append.mp hy with hy | hy
          · exact hb y hy
          · rw [List.mem_singleton.mp hy]
            exact hx3b
    · rintro σ Hc ⟨y4, ns, a', c', rfl, el, ep, a'0, cl', cu', kp, hlen, hb⟩
      exact ⟨.ref l, rfl, q Hc l ns a' c' hHl el ep a'0 cl' (by omega) kp (by omega) hb⟩
end

/-! ### the same, kind by kind -/
/-- x and y are the same data, at most n deep -/
def Sm (H : Hp) : Nat → V → V → Prop
  | 0, x, y => x = y ∧ flatV x = true
  | n + 1, x, y => (x = y ∧ flatV x = true) ∨ ∃ (a b : Addr) (xs ys : List V), x = .ref a ∧ y = .ref b ∧ xs.length = ys.length ∧ xs.length ≤ 1000000 ∧ (∀ (i : Nat) u v, xs[i]? = some u → ys[i]? = some v → Sm H n u v) ∧
      ((H a = some (.lst xs) ∧ H b = some (.lst ys)) ∨ (H a = some (.tup xs) ∧ H b = some (.tup ys)))
theorem Sm.mono {H H' : Hp} (s : Same H H') : ∀ {n : Nat} {x y : V}, Sm H n x y → Sm H' n x y
  | 0, _, _, h => h
  | n + 1, _, _, .inl h => .inl h
  | n + 1, _, _, .inr ⟨a, b, xs, ys, e1, e2, l, hl, hi, h⟩ => .inr ⟨a, b, xs, ys, e1, e2, l, hl, fun i u v hu hv => Sm.mono s (hi i u v hu hv), by
    rcases h with ⟨h1, h2⟩ | ⟨h1, h2⟩
    · exact .inl ⟨s _ _ h1, s _ _ h2⟩
    · exact .inr ⟨s _ _ h1, s _ _ h2⟩⟩
theorem Sm.flat {H : Hp} {n : Nat} {x : V} (h : flatV x = true) : Sm H n x x := by
  cases n with
  | zero => exact ⟨rfl, h⟩
  | succ n => exact .inl ⟨rfl, h⟩
/-- two lists of the same ints -/
theorem Sm.ints {H : Hp} {n : Nat} {a b : Addr} {ns : List Int} (h1 : H a = some (.lst (ns.map V.int))) (h2 : H b = some (.lst (ns.map V.int))) (hl : ns.length ≤ 1000000) : Sm H (n + 1) (.ref a) (.ref b) :=
  .inr ⟨a, b, _, _, rfl, rfl, rfl, by rw [List.length_map]; exact hl, fun i u v hu hv => by
    rw [hu] at hv
    cases hv
    rw [List.getElem?_map] at hu
    obtain ⟨z, _, rfl⟩ := Option.map_eq_some_iff.mp hu
    exact Sm.flat rfl, .inl ⟨h1, h2⟩⟩
theorem leaf_kit {K : PySem.W.Frag} {H : Hp} {x : V} (h : flatV x = true) : ∃ (n : String) (bb bi : Bool), (∀ H', TyX K H' x (.type n)) ∧ PySem.W.kitAny K (.type n) [.type "list", .type "tuple"] = some false ∧
    PySem.W.kitOne K (.type n) (.type "bool") = some bb ∧ PySem.W.kitOne K (.type n) (.type "int") = some bi := by
  cases x with
  | non => exact ⟨"NoneType", false, false, fun _ => .base .non, kitAny_cons (b := false) (kit_ty (by decide +kernel)) (fun _ => kitAny_cons (b := false) (kit_ty (by decide +kernel)) (fun _ => rfl) (fun z => nomatch z)) (fun z => nomatch z), kit_ty (by decide +kernel), kit_ty (by decide +kernel)⟩
  | bl y => exact ⟨"bool", true, true, fun _ => .base (.bl y), kitAny_cons (b := false) (kit_ty (by decide +kernel)) (fun _ => kitAny_cons (b := false) (kit_ty (by decide +kernel)) (fun _ => rfl) (fun z => nomatch z)) (fun z => nomatch z), kit_ty (by decide +kernel), kit_ty (by decide +kernel)⟩
  | int y => exact ⟨"int", false, true, fun _ => .base (.int y), kitAny_cons (b := false) (kit_ty (by decide +kernel)) (fun _ => kitAny_cons (b := false) (kit_ty (by decide +kernel)) (fun _ => rfl) (fun z => nomatch z)) (fun z => nomatch z), kit_ty (by decide +kernel), kit_ty (by decide +kernel)⟩
  | str y => exact ⟨"str", false, false, fun _ => .base (.str y), kitAny_cons (b := false) (kit_ty (by decide +kernel)) (fun _ => kitAny_cons (b := false) (kit_ty (by decide +kernel)) (fun _ => rfl) (fun z => nomatch z)) (fun z => nomatch z), kit_ty (by decide +kernel), kit_ty (by decide +kernel)⟩
  | byt _ => cases h
  | flt _ => cases h
  | ref _ => cases h
  | ty _ => cases h
theorem seq_kit {K : PySem.W.Frag} {H : Hp} {a b : Addr} {xs ys : List V} (h : (H a = some (.lst xs) ∧ H b = some (.lst ys)) ∨ (H a = some (.tup xs) ∧ H b = some (.tup ys))) :
    ∃ (n : String) (bl bt : Bool), (∀ H', Same H H' → TyX K H' (.ref a) (.type n) ∧ TyX K H' (.ref b) (.type n)) ∧ PySem.W.kitAny K (.type n) [.type "list", .type "tuple"] = some true ∧
      PySem.W.kitOne K (.type n) (.type "list") = some bl ∧ PySem.W.kitOne K (.type n) (.type "tuple") = some bt := by
  rcases h with ⟨h1, h2⟩ | ⟨h1, h2⟩
  · exact ⟨"list", true, false, fun H' s => ⟨.base (.lst (s _ _ h1)), .base (.lst (s _ _ h2))⟩, kitAny_cons (b := true) (kit_ty (by decide +kernel)) (fun z => nomatch z) (fun _ => rfl), kit_ty (by decide +kernel), kit_ty (by decide +kernel)⟩
  · exact ⟨"tuple", false, true, fun H' s => ⟨.base (.tup (s _ _ h1)), .base (.tup (s _ _ h2))⟩, kitAny_cons (b := false) (kit_ty (by decide +kernel)) (fun _ => kitAny_cons (b := true) (kit_ty (by decide +kernel)) (fun z => nomatch z) (fun _ => rfl)) (fun z => nomatch z), kit_ty (by decide +kernel), kit_ty (by decide +kernel)⟩
theorem rep_all (n : Nat) : (List.replicate n true).all id = true := by
  induction n with
  | zero => rfl
  | succ n ih => rw [List.replicate_succ, List.all_cons, ih]; rfl
section
variable {P : Program} {w : World} {K : PySem.W.Frag} {mg : Str → Option Value} {base : Heap}
def spSame : Nat → Sp
  | 0 => fun _ _ _ _ => False
  | n + 1 => fun vs H Q _ => ∃ (x y : V), vs = [x, y] ∧ Sm H n x y ∧ ∀ H', Same H H' → Q (.bl true) H'
theorem ok_same (T : Tx K mg) : ∀ n : Nat, FnOk P w K mg base CX0 n T.f_same T.fd_same ["_law_found", "_law_due_here"] (spSame n)
  | 0 => ⟨fun _ _ _ _ h => h.elim, fun _ _ _ _ _ _ _ _ _ _ _ _ _ h => h.elim⟩
  | n + 1 => by
    have ih := ok_same T n
    refine T.F_same.ok sc_same (fun vs H Q E h => ?_) (fun cdv A outer s H vs Q E hr h => ?_)
    · obtain ⟨x, y, rfl, _⟩ := h
      rfl
    · obtain ⟨x, y, rfl, h, q⟩ := h
      refine ⟨_, (pss_cons (ps_if (pt_val (pe_callB (r := rIsiT K) call_isiT (by rfl) T.m_isinstance (by decide +kernel) (pa_cons (pv 1) (pa_cons (pe_tup (pa_cons (pe_bltn (v := .ty "list") (u := .type "list") (by rfl) T.m_list (by decide +kernel) rfl) (pa_cons (pe_bltn (v := .ty "tuple") (u := .type "tuple") (by rfl) T.m_tuple (by decide +kernel) rfl) pa_nil))) pa_nil)))) (pss_cons (ps_if (pw_or (pt_cmpR op_ne (pe_callB (r := rIsi K) call_isi (by rfl) T.m_isinstance (by decide +kernel) (pa_cons (pv 0) (pa_cons (pe_bltn (v := .ty "list") (u := .type "list") (by rfl) T.m_list (by decide +kernel) rfl) pa_nil))) (pe_callB (r := rIsi K) call_isi (by rfl) T.m_isinstance (by decide +kernel) (pa_cons (pv 1) (pa_cons (pe_bltn (v := .ty "list") (u := .type "list") (by rfl) T.m_list (by decide +kernel) rfl) pa_nil))) (nomark _)) (pw_or1 (pt_cmpR op_ne (pe_callB (r := rIsi K) call_isi (by rfl) T.m_isinstance (by decide +kernel) (pa_cons (pv 0) (pa_cons (pe_bltn (v := .ty "tuple") (u := .type "tuple") (by rfl) T.m_tuple (by decide +kernel) rfl) pa_nil))) (pe_callB (r := rIsi K) call_isi (by rfl) T.m_isinstance (by decide +kernel) (pa_cons (pv 1) (pa_cons (pe_bltn (v := .ty "tuple") (u := .type "tuple") (by rfl) T.m_tuple (by decide +kernel) rfl) pa_nil))) (nomark _)))).pt (pss_one (ps_ret pe_bl)) pss_nil)
      (pss_one (ps_ret (pe_and (pe_cmpR op_eq (pe_callB call_len_seq (by rfl) T.m_len (by decide +kernel) (pa_cons (pv 0) pa_nil)) (pe_callB call_len_seq (by rfl) T.m_len (by decide +kernel) (pa_cons (pv 1) pa_nil)) (nomark _)) (pe_one (pe_callB (cr_all rfl) (by rfl) T.m_all (by decide +kernel) (pa_cons (pe_lc (own := [("_law_one", 2), ("_law_two", 3)]) (g := gTup K 2 (gCons (gName 2) (gCons (gName 3) gNil))) (tt := tYes) rfl sc_same.nd (RZ.pi_zipA (by rfl) T.m_zip (pa_cons (pv 0) (pa_cons (pv 1) pa_nil))) (blkOk_by (N := ["_law_found", "_law_due_here", "_law_one", "_law_two"]) (sc := defScope s_same) (by decide +kernel)) (fun _ _ _ _ _ => (pg_tup rfl (pgs_cons (pg_name (i := 2) sc_same.nd rfl (.inl rfl)) (pgs_cons (pg_name (i := 3) sc_same.nd rfl (.inl rfl)) pgs_nil)))) (fun _ _ _ _ _ => pts_nil) (fun _ _ _ _ _ => (pe_call ih (hr.mono (by omega)) (by rfl) T.g_same T.F_same.kp T.b_same .nil pass0 (pa_cons (pv 2) (pa_cons (pv 3) pa_nil))))) pa_nil))))))) pss_nil)
      (pss_cons (ps_if (pw_or (pt_cmpR op_ne (pe_callB (r := rIsi K) call_isi (by rfl) T.m_isinstance (by decide +kernel) (pa_cons (pv 0) (pa_cons (pe_bltn (v := .ty "bool") (u := .type "bool") (by rfl) T.m_bool (by decide +kernel) rfl) pa_nil))) (pe_callB (r := rIsi K) call_isi (by rfl) T.m_isinstance (by decide +kernel) (pa_cons (pv 1) (pa_cons (pe_bltn (v := .ty "bool") (u := .type "bool") (by rfl) T.m_bool (by decide +kernel) rfl) pa_nil))) (nomark _)) (pw_or1 (pt_cmpR op_ne (pe_callB (r := rIsi K) call_isi (by rfl) T.m_isinstance (by decide +kernel) (pa_cons (pv 0) (pa_cons (pe_bltn (v := .ty "int") (u := .type "int") (by rfl) T.m_int (by decide +kernel) rfl) pa_nil))) (pe_callB (r := rIsi K) call_isi (by rfl) T.m_isinstance (by decide +kernel) (pa_cons (pv 1) (pa_cons (pe_bltn (v := .ty "int") (u := .type "int") (by rfl) T.m_int (by decide +kernel) rfl) pa_nil))) (nomark _)))).pt (pss_one (ps_ret pe_bl)) pss_nil)
      (pss_one (ps_ret (pe_cmpR op_eq (pv 0) (pv 1) (nomark _)))))), ?_⟩
      have hc : (x = y ∧ flatV x = true) ∨ ∃ (a b : Addr) (xs ys : List V), x = .ref a ∧ y = .ref b ∧ xs.length = ys.length ∧ xs.length ≤ 1000000 ∧ (∀ (i : Nat) u v, xs[i]? = some u → ys[i]? = some v → n ≠ 0 ∧ Sm H (n - 1) u v) ∧
          ((H a = some (.lst xs) ∧ H b = some (.lst ys)) ∨ (H a = some (.tup xs) ∧ H b = some (.tup ys))) := by
        cases n with
        | zero => exact .inl h
        | succ n =>
          rcases h with h | ⟨a, b, xs, ys, e1, e2, l, hl, hi, h⟩
          · exact .inl h
          · exact .inr ⟨a, b, xs, ys, e1, e2, l, hl, fun i u v hu hv => ⟨Nat.succ_ne_zero _, hi i u v hu hv⟩, h⟩
      rcases hc with ⟨rfl, hf⟩ | ⟨a, b, xs, ys, rfl, rfl, hl, hlm, hi2, hh⟩
      · -- a leaf
        obtain ⟨t, bb, bi, ty, k1, k2, k3⟩ := leaf_kit (K := K) (H := H) hf
        refine ⟨x, rfl, by show 2 ≤ sizeLine; decide, fun p hp => ?_⟩
        refine ⟨x, p, _, _, _, false, rfl, upd_same, .cons (.ty _) (.cons (.ty _) .nil), ty _, k1, _, rfl, ?_⟩
        refine ⟨x, rfl, x, _, _, _, bb, rfl, .ty _, ty _, k2, x, rfl, x, _, _, _, bb, rfl, .ty _, ty _, k2, rfl, _, rfl, ?_⟩
        rw [decide_eq_true rfl]
        refine ⟨x, rfl, x, _, _, _, bi, rfl, .ty _, ty _, k3, x, rfl, x, _, _, _, bi, rfl, .ty _, ty _, k3, rfl, _, rfl, ?_⟩
        rw [decide_eq_true rfl]
        refine ⟨x, rfl, x, rfl, ?_, ?_⟩
        · cases x <;> first | rfl | cases hf
        · rw [decide_eq_true rfl]
          exact q _ (same_upd hp)
      · -- two rows
        obtain ⟨t, bl, bt, ty, k1, k2, k3⟩ := seq_kit (K := K) hh
        refine ⟨.ref b, rfl, by show 2 ≤ sizeLine; decide, fun p hp => ?_⟩
        have s1 : Same H (upd H p (.tup [.ty "list", .ty "tuple"])) := same_upd hp
        obtain ⟨ta, tb⟩ := ty _ s1
        refine ⟨.ref b, p, _, _, _, true, rfl, upd_same, .cons (.ty _) (.cons (.ty _) .nil), tb, k1, _, rfl, ?_⟩
        refine ⟨.ref a, rfl, .ref a, _, _, _, bl, rfl, .ty _, ta, k2, .ref b, rfl, .ref b, _, _, _, bl, rfl, .ty _, tb, k2, rfl, _, rfl, ?_⟩
        rw [decide_eq_true rfl]
        refine ⟨.ref a, rfl, .ref a, _, _, _, bt, rfl, .ty _, ta, k3, .ref b, rfl, .ref b, _, _, _, bt, rfl, .ty _, tb, k3, rfl, _, rfl, ?_⟩
        rw [decide_eq_true rfl]
        have hsq : ∀ Hc, Same H Hc → (SqL K Hc a xs ∧ SqL K Hc b ys) ∨ (SqT K Hc a xs ∧ SqT K Hc b ys) := fun Hc s => by
          rcases hh with ⟨h1, h2⟩ | ⟨h1, h2⟩
          · exact .inl ⟨sq1 (s _ _ h1), sq1 (s _ _ h2)⟩
          · exact .inr ⟨st1 (s _ _ h1), st1 (s _ _ h2)⟩
        have hla : SqL K (upd H p (.tup [.ty "list", .ty "tuple"])) a xs ∨ SqT K (upd H p (.tup [.ty "list", .ty "tuple"])) a xs := by
          rcases hsq _ s1 with h | h
          · exact .inl h.1
          · exact .inr h.1
        have hlb : SqL K (upd H p (.tup [.ty "list", .ty "tuple"])) b ys ∨ SqT K (upd H p (.tup [.ty "list", .ty "tuple"])) b ys := by
          rcases hsq _ s1 with h | h
          · exact .inl h.2
          · exact .inr h.2
        refine ⟨.ref a, rfl, a, xs, rfl, hla, .ref b, rfl, b, ys, rfl, hlb, rfl, true, ?_, ?_⟩
        · rw [hl, decide_eq_true rfl]
        refine ⟨.ref a, rfl, .ref b, rfl, a, b, xs, ys, rfl, ?_⟩
        rcases hh with ⟨h1, h2⟩ | ⟨h1, h2⟩
        · refine .inl ⟨sq1 (s1 _ _ h1), sq1 (s1 _ _ h2), fun D hD => lc_it (walk_zip (xs := xs) (ys := ys) (n := xs.length) (by omega)) (fun i Hc => Same (upd H p (.tup [.ty "list", .ty "tuple"])) Hc ∧ Hc D = some (.lst ((List.replicate i true).map V.bl))) ?_ ?_ ?_ ?_⟩
          · refine ⟨same_upd hD, ?_⟩
            rw [upd_same]
            rfl
          · rintro i Hc hi ⟨sm, _⟩
            exact ⟨sq1 (sm _ _ (s1 _ _ h1)), sq1 (sm _ _ (s1 _ _ h2))⟩
          · rintro i x Hc H' hi ⟨sm, eD⟩ ⟨T', v1, v2, rfl, hT, rfl, e1, e2⟩
            have sm2 : Same (upd H p (.tup [.ty "list", .ty "tuple"])) (upd Hc T' (.tup [v1, v2])) := sm.trans (same_upd hT)
            have nDT : D ≠ T' := ne_of_none eD hT
            refine ⟨T', [v1, v2], rfl, .inl (.inl upd_same), rfl, _, _, rfl, _, _, rfl, rfl, rfl, ?_⟩
            refine ⟨_, rfl, _, rfl, ?_⟩
            obtain ⟨hn, hS⟩ := hi2 i v1 v2 e1 e2
            cases n with
            | zero => exact absurd rfl hn
            | succ n =>
              refine ⟨v1, v2, rfl, Sm.mono (s1.trans sm2) hS, fun H3 s3 => ?_⟩
              refine ⟨_, s3 _ _ (by rw [upd_ne nDT]; exact eD), ?_, ?_, ?_⟩
              · rw [List.length_map, List.length_replicate]
                exact Nat.lt_of_le_of_lt (show i ≤ 1000000 by omega) (by decide)
              · exact Same.mut (sm2.trans s3) hD
              · rw [upd_same, List.replicate_succ', List.map_append]
                rfl
          · rintro Hc ⟨sm, eD⟩
            refine ⟨D, List.replicate xs.length true, rfl, sq1 eD, ?_⟩
            rw [rep_all]
            exact q Hc (s1.trans sm)
        · refine .inr ⟨st1 (s1 _ _ h1), st1 (s1 _ _ h2), fun D hD => lc_it (walk_zipT (xs := xs) (ys := ys) (n := xs.length) (by omega)) (fun i Hc => Same (upd H p (.tup [.ty "list", .ty "tuple"])) Hc ∧ Hc D = some (.lst ((List.replicate i true).map V.bl))) ?_ ?_ ?_ ?_⟩
          · refine ⟨same_upd hD, ?_⟩
            rw [upd_same]
            rfl
          · rintro i Hc hi ⟨sm, _⟩
            exact ⟨st1 (sm _ _ (s1 _ _ h1)), st1 (sm _ _ (s1 _ _ h2))⟩
          · rintro i x Hc H' hi ⟨sm, eD⟩ ⟨T', v1, v2, rfl, hT, rfl, e1, e2⟩
            have sm2 : Same (upd H p (.tup [.ty "list", .ty "tuple"])) (upd Hc T' (.tup [v1, v2])) := sm.trans (same_upd hT)
            have nDT : D ≠ T' := ne_of_none eD hT
            refine ⟨T', [v1, v2], rfl, .inl (.inl upd_same), rfl, _, _, rfl, _, _, rfl, rfl, rfl, ?_⟩
            refine ⟨_, rfl, _, rfl, ?_⟩
            obtain ⟨hn, hS⟩ := hi2 i v1 v2 e1 e2
            cases n with
            | zero => exact absurd rfl hn
            | succ n =>
              refine ⟨v1, v2, rfl, Sm.mono (s1.trans sm2) hS, fun H3 s3 => ?_⟩
              refine ⟨_, s3 _ _ (by rw [upd_ne nDT]; exact eD), ?_, ?_, ?_⟩
              · rw [List.length_map, List.length_replicate]
                exact Nat.lt_of_le_of_lt (show i ≤ 1000000 by omega) (by decide)
              · exact Same.mut (sm2.trans s3) hD
              · rw [upd_same, List.replicate_succ', List.map_append]
                rfl
          · rintro Hc ⟨sm, eD⟩
            refine ⟨D, List.replicate xs.length true, rfl, sq1 eD, ?_⟩
            rw [rep_all]
            exact q Hc (s1.trans sm)
end

section
variable {P : Program} {w : World} {K : PySem.W.Frag} {mg : Str → Option Value} {base : Heap}
/-- one of a list, drawn -/
def spOf : Sp := fun vs H Q _ => ∃ (p l : Addr) (a b c : Int) (xs : List V), vs = [.ref p, .ref l] ∧ H p = some (.lst [.int a, .int b, .int c]) ∧ 0 ≤ a ∧ 0 ≤ b ∧ b < 2 ^ 62 ∧ 0 ≤ c ∧ c < 2 ^ 40 ∧ l ≠ p ∧ H l = some (.lst xs) ∧ 0 < xs.length ∧ xs.length < 1000 ∧
  ∀ (a' c' : Int) (x : V), 0 ≤ a' → c ≤ c' → c' ≤ c + 1 → x ∈ xs → Q x (upd H p (.lst [.int a', .int b, .int c']))
theorem ok_of (T : Tx K mg) : FnOk P w K mg base CX0 2 T.f_of T.fd_of ["_law_box_here", "_law_some"] spOf := by
  refine T.F_of.ok sc_of (fun vs H Q E h => ?_) (fun cdv A outer s H vs Q E hr h => ?_)
  · obtain ⟨p, l, a, b, c, xs, rfl, _⟩ := h
    rfl
  · obtain ⟨p, l, a, b, c, xs, rfl, hB, a0, b0, b1, c0, c1, npl, hL, l0, l1, q⟩ := h
    refine ⟨_, (pss_one (ps_ret (pe_ix (r := rIxL K) ix_list (pv 1) (pe_call (ok_take T) (hr.mono (by omega)) (by rfl) T.g_take T.F_take.kp T.b_take .nil pass0 (pa_cons (pv 0) (pa_cons (pe_callB call_len_seq (by rfl) T.m_len (by decide +kernel) (pa_cons (pv 1) pa_nil)) pa_nil))) (fun _ _ => rfl)))), ?_⟩
    refine ⟨.ref l, rfl, .ref p, rfl, .ref l, rfl, l, xs, rfl, .inl (sq1 hL), p, a, b, c, _, rfl, hB, a0, b0, b1, c0, c1, by omega, by omega, fun a' c' r a'0 cl cu r0 r1 => ?_⟩
    obtain ⟨j, rfl⟩ := Int.eq_ofNat_of_zero_le r0
    have hj : j < xs.length := by omega
    exact ⟨l, xs, _, xs[j], rfl, rfl, sq1 (by rw [upd_ne npl]; exact hL), atI_nat (List.getElem?_eq_getElem hj), q a' c' _ a'0 cl cu (List.getElem_mem hj)⟩
end

/-! ### data of ints -/
theorem dp_all {K : PySem.W.Frag} {H : Hp} : ∀ ns : List Int, DpAll K H (ns.map V.int) (ns.map PyData.int)
  | [] => .nil
  | n :: ns => .cons (.int n) (dp_all ns)
theorem dp_ints {K : PySem.W.Frag} {H : Hp} {a : Addr} {ns : List Int} (h : SqL K H a (ns.map V.int)) : Dp K H (.ref a) (.list (ns.map PyData.int)) := .lst h (dp_all ns)
theorem can_ints : ∀ ns : List Int, PyData.canLayAll0 (ns.map PyData.int) = true
  | [] => rfl
  | n :: ns => by
    show (PyData.canLay0 (.int n) && PyData.canLayAll0 (ns.map PyData.int)) = true
    rw [can_ints ns]
    rfl
theorem depth_ints : ∀ ns : List Int, PyData.depthAll (ns.map PyData.int) ≤ 1
  | [] => by decide
  | n :: ns => by
    have ih := depth_ints ns
    show max (PyData.depth (.int n)) (PyData.depthAll (ns.map PyData.int)) ≤ 1
    have e : PyData.depth (.int n) ≤ 1 := by
      unfold PyData.depth
      decide
    omega
theorem shaped_ints (ns : List Int) : SeqAt.shaped (.list (ns.map PyData.int)) = true := by
  unfold SeqAt.shaped
  have h1 : (PyData.list (ns.map PyData.int)).canLay0 = true := can_ints ns
  have h2 : (PyData.list (ns.map PyData.int)).depth ≤ 64 := by
    have := depth_ints ns
    show PyData.depthAll (ns.map PyData.int) + 1 ≤ 64
    omega
  rw [h1, decide_eq_true h2]
  rfl
theorem eqv_ints (ns : List Int) : PyData.eqv (.list (ns.map PyData.int)) (.list (ns.map PyData.int)) = true := SeqAt.eqv_refl _ (can_ints ns)
end K4

set_option Elab.async false
set_option linter.all false
set_option maxRecDepth 100000
set_option maxHeartbeats 4000000
namespace K4
open PySem PySem.Spec PyProof.Rows L2
/-! ### texts of refusals -/
/-- a text or a number that can be written -/
def Fm (x : V) : Prop := (∃ y : Str, x = .str y ∧ y.length ≤ 1000) ∨ ∃ i : Int, x = .int i ∧ 0 ≤ i ∧ i < 10 ^ 10
def Pc (t : TE) (σ : L2.St) (H : Hp) : Prop := ∃ y : Str, y.length ≤ 1000 ∧ ∀ Q : VK, Q (.str y) H → t σ H Q
def PcAll : List TE → L2.St → Hp → Prop
  | [], _, _ => True
  | t :: ts, σ, H => Pc t σ H ∧ PcAll ts σ H
theorem js_fit {σ : L2.St} {H : Hp} {Q : Str → Hp → Prop} : ∀ {ts : List TE} {acc : Str} {n : Nat}, PcAll ts σ H → acc.length ≤ n → n + 1000 * ts.length ≤ 16777216 → (∀ out, Q out H) → tJs ts acc σ H Q
  | [], acc, n, _, _, _, q => q acc
  | t :: ts, acc, n, ⟨⟨y, hy, k⟩, r⟩, hn, hl, q => by
    refine k _ ⟨y, rfl, ?_, js_fit (n := n + 1000) r ?_ ?_ q⟩
    · rw [PySem.Str.length_append, sizeLine_eq]
      rw [List.length_cons] at hl
      omega
    · rw [PySem.Str.length_append]
      omega
    · rw [List.length_cons] at hl
      omega
theorem pc_lit {σ : L2.St} {H : Hp} {y : Str} (h : y.length ≤ 1000) : Pc (tC (.str y)) σ H := ⟨y, h, fun _ q => q⟩
theorem pc_fmt {σ : L2.St} {H : Hp} {i : Nat} {x : V} (fx : Fm x) (e : σ[i]? = some (some x)) : Pc (tFmt (tVar i)) σ H := by
  rcases fx with ⟨y, rfl, hy⟩ | ⟨n, rfl, h0, h1⟩
  · exact ⟨y, hy, fun Q q => ⟨_, e, .inl ⟨y, rfl, by rw [sizeLine_eq]; omega, q⟩⟩⟩
  · have l : (Str.ofString (toString n)).length ≤ 10 := toString_length_le h0 (by decide) h1
    have lg : n.natAbs.log2 < 1920 := by
      by_cases z : n.natAbs = 0
      · rw [z]
        decide
      · refine (Nat.log2_lt z).mpr (Nat.lt_of_lt_of_le (show n.natAbs < 2 ^ 40 by omega) (Nat.pow_le_pow_right (by decide) (by decide)))
    exact ⟨Str.ofString (toString n), by omega, fun Q q => ⟨_, e, .inr ⟨n, rfl, lg, q⟩⟩⟩
theorem oex_of {K : PySem.W.Frag} {C : Addr} {initId : String} {bm : List Value} (T : OeC K C "ValueError" "ValueError.__new__" initId bm) (h : PySem.HandSPX.refsVE bm = true) : OexC K C := by
  obtain ⟨nm, q, N, bs, sn, sub, ab, col, dd, k0, k1, k2, k3, k5, hC⟩ := T.cls
  exact ⟨⟨nm, q, N, bs, bm, sn, sub, ab, col, dd, k0, k1, k2, k3, k5, hC, h⟩, T.sa, T.is_.3, T.ty, T.kC⟩
/-- a refusal's fields put -/
def spFI (C : Addr) (f g : Str) : Sp := fun vs H Q _ => ∃ (a : Addr) (x y : V), vs = [.ref a, x, y] ∧ H a = some (exo a C none) ∧ Fm x ∧ Fm y ∧ ∀ (H' : Hp) (d : Addr), Keep a H H' → H d = none → H' a = some (exo a C (some d)) → H' d = some (exd d [(g, y), (f, x)]) → Q .non H'
section
variable {P : Program} {w : World} {K : PySem.W.Frag} {mg : Str → Option Value} {base : Heap}
theorem ok_Fault (T : Tx K mg) : FnOk P w K mg base CX0 1 T.f_Fault T.fd_Fault ["self", "code", "at"] (spFI T.C_Fault "code" "at") := by
  refine T.F_Fault.ok sc_Fault (fun vs H Q E h => ?_) (fun cdv A outer s H vs Q E hr h => ?_)
  · obtain ⟨a, x, y, rfl, _⟩ := h
    rfl
  · obtain ⟨a, x, y, rfl, ea, fx, fy, q⟩ := h
    refine ⟨_, (pss_cons (ps_expr (pe_einit (B := "ValueError") (newId := "ValueError.__new__") (initId := "ValueError.__init__") (bm := bm_ValueError) (by rfl) T.m_ValueError (by decide +kernel) typ_ValueError (by decide +kernel) T.v_ValueError (by decide +kernel) (pa_cons (pv 0) (pa_cons (pe_joined (.cons pe_str (.cons (pe_fmt (pv 1)) (.cons pe_str (.cons (pe_fmt (pv 2)) .nil))))) pa_nil))))
      (pss_cons (ps_oe (B := "ValueError") (newId := "ValueError.__new__") (initId := "ValueError.__init__") (bm := bm_ValueError) (pv 0) (pv 1))
      (pss_one (ps_oe (B := "ValueError") (newId := "ValueError.__new__") (initId := "ValueError.__init__") (bm := bm_ValueError) (pv 0) (pv 2))))), ?_⟩
    refine ⟨.ref a, rfl, ?_⟩
    show tJs _ _ _ _ _
    refine js_fit (n := 0) (show PcAll _ _ _ from ⟨pc_lit (by decide +kernel), pc_fmt fx rfl, pc_lit (by decide +kernel), pc_fmt fy rfl, trivial⟩) (by decide) (by decide) fun out => ⟨a, T.C_Fault, [.str out], rfl, (by decide : 1 ≤ 1000), T.oe_Fault, ea, ?_⟩
    refine ⟨x, rfl, .ref a, rfl, a, T.C_Fault, rfl, T.oe_Fault, T.n_Fault_code, .inl ⟨ea, fun dx hdx ne => ?_⟩⟩
    have e1 : (upd (upd H dx (exd dx [("code", x)])) a (exo a T.C_Fault (some dx))) a = some (exo a T.C_Fault (some dx)) := upd_same
    have e2 : (upd (upd H dx (exd dx [("code", x)])) a (exo a T.C_Fault (some dx))) dx = some (exd dx [("code", x)]) := by rw [upd_ne ne]; exact upd_same
    have k : Keep a H (upd (upd H dx (exd dx [("code", x)])) a (exo a T.C_Fault (some dx))) := ((Keep.refl a H).new hdx).upd
    refine ⟨y, rfl, .ref a, rfl, a, T.C_Fault, rfl, T.oe_Fault, T.n_Fault_at, .inr ⟨dx, _, e1, e2, (show 1 ≤ 900 by decide), ?_⟩⟩
    refine q _ dx (fun b o hb e => ?_) hdx (by rw [upd_ne (Ne.symm ne)]; exact e1) upd_same
    rw [upd_ne (fun z => by rw [z, hdx] at e; cases e)]
    exact k b o hb e
end
/-- what is known where a Fault leaves: its class, its code and place -/
def Flt (C : Addr) (code at_ : Int) (H : Hp) (E : XK) : Prop := ∀ (H' : Hp) (d : Addr), Same H H' → H d = none → H' d = some (.xd [("at", .int at_), ("code", .int code)]) → E (.ref C) (some d) H'
theorem raiseF {C : Addr} {x y : Int} {H : Hp} {E : XK} (fx : Fm (.int x)) (fy : Fm (.int y)) (q : Flt C x y H E) : ∀ a, H a = none → spFI C "code" "at" (.ref a :: ([.int x, .int y] ++ [])) (upd H a (exo a C none))
    (fun v H2 => v = .non ∧ ∃ (d : Addr) (fs : List (Str × V)), H2 a = some (exo a C (some d)) ∧ H2 d = some (exd d fs) ∧ H d = none ∧ E (.ref C) (some d) (upd (del H2 a) d (.xd fs))) (fun _ _ _ => False) := fun a ha => by
  refine ⟨a, .int x, .int y, rfl, upd_same, fx, fy, fun H' d k hd e1 e2 => ⟨rfl, d, _, e1, e2, ?_, ?_⟩⟩
  · by_cases z : d = a
    · rw [z]; exact ha
    · rw [upd_ne z] at hd; exact hd
  · have nda : d ≠ a := fun z => by rw [z, upd_same] at hd; cases hd
    have hd' : H d = none := by rw [upd_ne nda] at hd; exact hd
    refine q _ d (fun b o e => ?_) hd' upd_same
    have nba : b ≠ a := fun z => by rw [z, ha] at e; cases e
    have nbd : b ≠ d := fun z => by rw [z, hd'] at e; cases e
    rw [upd_ne nbd, del_ne nba]
    exact k b o nba (by rw [upd_ne nba]; exact e)

/-! ### sizes -/
def szB (n : Int) : List Int := if n < 250 then [n] else if n < 65536 then [250, n / 256, n % 256] else [251, n / 65536, n / 256 % 256, n % 256]
inductive SR
  | non
  | pair (n b : Int)
  | flt (k : Int)
def szTwo (ns : List Int) (i : Nat) (z : Int) : SR := match ns[i]?, ns[i + 1]? with
  | some x, some y => if x * 256 + y < 250 then .flt (z + 1) else .pair (x * 256 + y) (z + 2)
  | _, _ => .non
def szThree (ns : List Int) (i : Nat) (z : Int) : SR := match ns[i]? with
  | none => .non
  | some x => if x = 0 then .flt z else match ns[i + 1]?, ns[i + 2]? with
    | some y, some v => .pair (x * 65536 + y * 256 + v) (z + 3)
    | _, _ => .non
def szAt (ns : List Int) (i : Nat) (z : Int) : SR := match ns[i]? with
  | none => .non
  | some f => if f < 250 then .pair f (z + 1) else if f = 250 then szTwo ns (i + 1) (z + 1) else if f = 251 then szThree ns (i + 1) (z + 1) else .flt z
/-- a list or a tuple -/
def Sq2 (K : PySem.W.Frag) (H : Hp) (a : Addr) (xs : List V) : Prop := SqL K H a xs ∨ SqT K H a xs
theorem Sq2.same {K : PySem.W.Frag} {H H' : Hp} {a : Addr} {xs : List V} (h : Sq2 K H a xs) (s : Same H H') : Sq2 K H' a xs := by
  rcases h with h | h
  · exact .inl (s.seq h)
  · exact .inr (Same.seqT s h)
theorem ix2 {K : PySem.W.Frag} {H : Hp} {a : Addr} {xs : List V} {i : Int} {v : V} {Q : VK} (h : Sq2 K H a xs) (e : atI xs i = some v) (q : Q v H) : rIx K (.ref a) (.int i) H Q := by
  rcases h with h | h
  · exact .inl ⟨a, xs, i, v, rfl, rfl, h, e, q⟩
  · exact .inr (.inl ⟨a, xs, i, v, rfl, rfl, h, e, q⟩)
theorem at_ints {ns : List Int} {i : Nat} {x : Int} (h : ns[i]? = some x) : atI (ns.map V.int) (i : Int) = some (.int x) := atI_nat (by rw [List.getElem?_map, h]; rfl)
theorem get_of_lt {ns : List Int} {i : Nat} (h : i < ns.length) : ∃ x, ns[i]? = some x ∧ x ∈ ns := ⟨ns[i], List.getElem?_eq_getElem h, List.getElem_mem h⟩
theorem get_none {ns : List Int} {i : Nat} (h : ns.length ≤ i) : ns[i]? = none := List.getElem?_eq_none h
def SA (C : Addr) (r : SR) (H : Hp) (Q : VK) (E : XK) : Prop := match r with
  | .non => Q .non H
  | .pair n b => ∀ p, H p = none → Q (.ref p) (upd H p (.tup [.int n, .int b]))
  | .flt k => Flt C 12 k H E
section
variable {P : Program} {w : World} {K : PySem.W.Frag} {mg : Str → Option Value} {base : Heap}
def spSB : Sp := fun vs H Q _ => ∃ n : Int, vs = [.int n] ∧ ∀ p, H p = none → Q (.ref p) (upd H p (.lst ((szB n).map V.int)))
def spSA (K : PySem.W.Frag) (C : Addr) (r : List Int → Nat → Int → SR) : Sp := fun vs H Q E => ∃ (a : Addr) (ns : List Int) (i : Nat) (z : Int), vs = [.ref a, .int z] ∧ z = (i : Int) ∧ Sq2 K H a (ns.map V.int) ∧ Bts ns ∧ ns.length ≤ 1000000 ∧ i ≤ ns.length ∧ SA C (r ns i z) H Q E
theorem fm_int {z : Int} (h0 : 0 ≤ z) (h1 : z < 10 ^ 10) : Fm (.int z) := .inr ⟨z, rfl, h0, h1⟩
theorem ok_size_of_two (T : Tx K mg) : FnOk P w K mg base (L2.CX P w) 3 T.f_size_of_two T.fd_size_of_two ["codes", "at"] (spSA K T.C_Fault szTwo) := by
  refine T.F_size_of_two.okX sc_size_of_two (fun vs H Q E h => ?_) (fun cdv A outer s H vs Q E hr h => ?_)
  · obtain ⟨a, ns, i, z, rfl, _⟩ := h
    rfl
  · obtain ⟨a, ns, i, z, rfl, rfl, hS, hb, hl, hi, q⟩ := h
    refine ⟨_, (pss_cons (ps_if (pt_cmpR op_ge (pe_op op_add (pv 1) pe_int) (pe_callB call_len_seq (by rfl) T.m_len (by decide +kernel) (pa_cons (pv 0) pa_nil)) (nomark _)) (pss_one (ps_ret pe_non)) pss_nil)
      (pss_cons (ps_set (i := 2) sc_size_of_two.nd rfl (.inl rfl) (pe_op op_add (pe_op op_mul (pe_ix (r := rIx K) ix_seq (pv 0) (pv 1) (fun _ _ => rfl)) pe_int) (pe_ix (r := rIx K) ix_seq (pv 0) (pe_op op_add (pv 1) pe_int) (fun _ _ => rfl))))
      (pss_cons (ps_if (pt_cmpR op_lt (pv 2) (pe_glob (v := .int 250) (by rfl) T.g_TWO_FOLLOW ⟨_, rfl⟩) (nomark _)) (pss_one (ps_raise rfl (takes_of rfl rfl rfl rfl) (pmk_oex (oex_of T.oe_Fault rfl) T.i_Fault T.t_Fault (ok_Fault T) (hr.mono (by omega)) T.b_Fault .nil pass0 (by rfl) T.g_Fault (pa_cons (pe_glob (v := .int 12) (by rfl) T.g_SIZE ⟨_, rfl⟩) (pa_cons (pe_op op_add (pv 1) pe_int) pa_nil))))) pss_nil)
      (pss_one (ps_ret (pe_tup (pa_cons (pv 2) (pa_cons (pe_op op_add (pv 1) pe_int) pa_nil)))))))), ?_⟩
    refine ⟨.int (i : Int), rfl, (i : Int), 1, rfl, rfl, .ref a, rfl, a, _, rfl, hS, _, _, rfl, rfl, _, rfl, ite2 (fun e => ?_) (fun e => ?_)⟩
    · have h1 : ((ns.map V.int).length : Int) ≤ (i : Int) + 1 := of_decide_eq_true e
      rw [List.length_map] at h1
      have e2 : szTwo ns i (i : Int) = .non := by
        unfold szTwo
        rw [get_none (i := i + 1) (by omega)]
        cases ns[i]? <;> rfl
      rw [e2] at q
      exact q
    · have h1 : ¬ ((ns.map V.int).length : Int) ≤ (i : Int) + 1 := fun z => e (decide_eq_true z)
      rw [List.length_map] at h1
      obtain ⟨x, hx, mx⟩ := get_of_lt (ns := ns) (i := i) (by omega)
      obtain ⟨y, hy, my⟩ := get_of_lt (ns := ns) (i := i + 1) (by omega)
      have bx := hb x mx
      have by_ := hb y my
      refine ⟨.ref a, rfl, .int (i : Int), rfl, ix2 hS (at_ints hx) ⟨x, 256, rfl, rfl, .inr ⟨by decide, by decide⟩, .ref a, rfl, .int (i : Int), rfl, (i : Int), 1, rfl, rfl, ix2 hS (at_ints hy) ⟨_, _, rfl, rfl, ?_⟩⟩⟩
      refine ⟨_, rfl, _, 250, rfl, rfl, _, rfl, ite2 (fun e => ?_) (fun e => ?_)⟩
      · have h2 : x * 256 + y < 250 := of_decide_eq_true e
        have e2 : szTwo ns i (i : Int) = .flt ((i : Int) + 1) := by
          unfold szTwo
          rw [hx, hy]
          exact if_pos h2
        rw [e2] at q
        exact ⟨.int (i : Int), rfl, (i : Int), 1, rfl, rfl, (by decide : 2 ≤ 1000), raiseF (fm_int (by decide) (by decide)) (fm_int (by omega) (by omega)) q⟩
      · have h2 : ¬ x * 256 + y < 250 := fun z => e (decide_eq_true z)
        have e2 : szTwo ns i (i : Int) = .pair (x * 256 + y) ((i : Int) + 2) := by
          unfold szTwo
          rw [hx, hy]
          exact if_neg h2
        rw [e2] at q
        exact ⟨_, rfl, .int (i : Int), rfl, (i : Int), 2, rfl, rfl, (by show 2 ≤ sizeLine; decide), q⟩
theorem ok_size_of_three (T : Tx K mg) : FnOk P w K mg base (L2.CX P w) 3 T.f_size_of_three T.fd_size_of_three ["codes", "at"] (spSA K T.C_Fault szThree) := by
  refine T.F_size_of_three.okX sc_size_of_three (fun vs H Q E h => ?_) (fun cdv A outer s H vs Q E hr h => ?_)
  · obtain ⟨a, ns, i, z, rfl, _⟩ := h
    rfl
  · obtain ⟨a, ns, i, z, rfl, rfl, hS, hb, hl, hi, q⟩ := h
    refine ⟨_, (pss_cons (ps_if (pw_and (pt_cmpR op_lt (pv 1) (pe_callB call_len_seq (by rfl) T.m_len (by decide +kernel) (pa_cons (pv 0) pa_nil)) (nomark _)) (pw_and1 (pt_cmpR op_eq (pe_ix (r := rIx K) ix_seq (pv 0) (pv 1) (fun _ _ => rfl)) pe_int (nomark _)))).pt (pss_one (ps_raise rfl (takes_of rfl rfl rfl rfl) (pmk_oex (oex_of T.oe_Fault rfl) T.i_Fault T.t_Fault (ok_Fault T) (hr.mono (by omega)) T.b_Fault .nil pass0 (by rfl) T.g_Fault (pa_cons (pe_glob (v := .int 12) (by rfl) T.g_SIZE ⟨_, rfl⟩) (pa_cons (pv 1) pa_nil))))) pss_nil)
      (pss_cons (ps_if (pt_cmpR op_ge (pe_op op_add (pv 1) pe_int) (pe_callB call_len_seq (by rfl) T.m_len (by decide +kernel) (pa_cons (pv 0) pa_nil)) (nomark _)) (pss_one (ps_ret pe_non)) pss_nil)
      (pss_one (ps_ret (pe_tup (pa_cons (pe_op op_add (pe_op op_add (pe_op op_mul (pe_ix (r := rIx K) ix_seq (pv 0) (pv 1) (fun _ _ => rfl)) pe_int) (pe_op op_mul (pe_ix (r := rIx K) ix_seq (pv 0) (pe_op op_add (pv 1) pe_int) (fun _ _ => rfl)) pe_int)) (pe_ix (r := rIx K) ix_seq (pv 0) (pe_op op_add (pv 1) pe_int) (fun _ _ => rfl))) (pa_cons (pe_op op_add (pv 1) pe_int) pa_nil))))))), ?_⟩
    refine ⟨.int (i : Int), rfl, .ref a, rfl, a, _, rfl, hS, _, _, rfl, rfl, _, rfl, ite2 (fun e => ?_) (fun e => ?_)⟩
    · have h1 : (i : Int) < ((ns.map V.int).length : Int) := of_decide_eq_true e
      rw [List.length_map] at h1
      obtain ⟨x, hx, mx⟩ := get_of_lt (ns := ns) (i := i) (by omega)
      have bx := hb x mx
      refine ⟨.ref a, rfl, .int (i : Int), rfl, ix2 hS (at_ints hx) ⟨rfl, _, rfl, ite2 (fun e => ?_) (fun e => ?_)⟩⟩
      · have h2 : x = 0 := V.int.inj (of_decide_eq_true e)
        have e2 : szThree ns i (i : Int) = .flt (i : Int) := by
          unfold szThree
          rw [hx]
          exact if_pos h2
        rw [e2] at q
        exact ⟨.int (i : Int), rfl, (by decide : 2 ≤ 1000), raiseF (fm_int (by decide) (by decide)) (fm_int (by omega) (by omega)) q⟩
      · have h2 : ¬ x = 0 := fun z => e (decide_eq_true (congrArg V.int z))
        refine ⟨.int (i : Int), rfl, (i : Int), 2, rfl, rfl, .ref a, rfl, a, _, rfl, hS, _, _, rfl, rfl, _, rfl, ite2 (fun e => ?_) (fun e => ?_)⟩
        · have h3 : ((ns.map V.int).length : Int) ≤ (i : Int) + 2 := of_decide_eq_true e
          rw [List.length_map] at h3
          have e2 : szThree ns i (i : Int) = .non := by
            unfold szThree
            rw [hx, get_none (i := i + 2) (by omega)]
            simp only [if_neg h2]
            cases ns[i + 1]? <;> rfl
          rw [e2] at q
          exact q
        · have h3 : ¬ ((ns.map V.int).length : Int) ≤ (i : Int) + 2 := fun z => e (decide_eq_true z)
          rw [List.length_map] at h3
          obtain ⟨y, hy, my⟩ := get_of_lt (ns := ns) (i := i + 1) (by omega)
          obtain ⟨v, hv, mv⟩ := get_of_lt (ns := ns) (i := i + 2) (by omega)
          have by_ := hb y my
          refine ⟨.ref a, rfl, .int (i : Int), rfl, ix2 hS (at_ints hx) ⟨x, 65536, rfl, rfl, .inr ⟨by decide, by decide⟩, .ref a, rfl, .int (i : Int), rfl, (i : Int), 1, rfl, rfl, ix2 hS (at_ints hy) ⟨y, 256, rfl, rfl, .inr ⟨by decide, by decide⟩, _, _, rfl, rfl, .ref a, rfl, .int (i : Int), rfl, (i : Int), 2, rfl, rfl, ix2 hS (at_ints hv) ⟨_, _, rfl, rfl, ?_⟩⟩⟩⟩
          have e2 : szThree ns i (i : Int) = .pair (x * 65536 + y * 256 + v) ((i : Int) + 3) := by
            unfold szThree
            rw [hx, hy, hv]
            exact if_neg h2
          rw [e2] at q
          exact ⟨.int (i : Int), rfl, (i : Int), 3, rfl, rfl, (by show 2 ≤ sizeLine; decide), q⟩
    · have h1 : ¬ (i : Int) < ((ns.map V.int).length : Int) := fun z => e (decide_eq_true z)
      rw [List.length_map] at h1
      refine ⟨.int (i : Int), rfl, (i : Int), 2, rfl, rfl, .ref a, rfl, a, _, rfl, hS, _, _, rfl, rfl, _, rfl, ite2 (fun e => ?_) (fun e => absurd (decide_eq_true (by rw [List.length_map]; omega)) e)⟩
      · have e2 : szThree ns i (i : Int) = .non := by
          unfold szThree
          rw [get_none (i := i) (by omega)]
        rw [e2] at q
        exact q
theorem ok_size_at (T : Tx K mg) : FnOk P w K mg base (L2.CX P w) 4 T.f_size_at T.fd_size_at ["codes", "at"] (spSA K T.C_Fault szAt) := by
  refine T.F_size_at.okX sc_size_at (fun vs H Q E h => ?_) (fun cdv A outer s H vs Q E hr h => ?_)
  · obtain ⟨a, ns, i, z, rfl, _⟩ := h
    rfl
  · obtain ⟨a, ns, i, z, rfl, rfl, hS, hb, hl, hi, q⟩ := h
    refine ⟨_, (pss_cons (ps_if (pt_cmpR op_ge (pv 1) (pe_callB call_len_seq (by rfl) T.m_len (by decide +kernel) (pa_cons (pv 0) pa_nil)) (nomark _)) (pss_one (ps_ret pe_non)) pss_nil)
      (pss_cons (ps_set (i := 2) sc_size_at.nd rfl (.inl rfl) (pe_ix (r := rIx K) ix_seq (pv 0) (pv 1) (fun _ _ => rfl)))
      (pss_cons (ps_if (pt_cmpR op_lt (pv 2) (pe_glob (v := .int 250) (by rfl) T.g_TWO_FOLLOW ⟨_, rfl⟩) (nomark _)) (pss_one (ps_ret (pe_tup (pa_cons (pv 2) (pa_cons (pe_op op_add (pv 1) pe_int) pa_nil))))) pss_nil)
      (pss_cons (ps_if (pt_cmpR op_eq (pv 2) (pe_glob (v := .int 250) (by rfl) T.g_TWO_FOLLOW ⟨_, rfl⟩) (nomark _)) (pss_one (ps_ret (pe_call (ok_size_of_two T) (hr.mono (by omega)) (by rfl) T.g_size_of_two T.F_size_of_two.kp T.b_size_of_two .nil (passes_call (takes_of rfl rfl rfl rfl) (fun _ _ _ _ h => h)) (pa_cons (pv 0) (pa_cons (pe_op op_add (pv 1) pe_int) pa_nil))))) pss_nil)
      (pss_cons (ps_if (pt_cmpR op_eq (pv 2) (pe_glob (v := .int 251) (by rfl) T.g_THREE_FOLLOW ⟨_, rfl⟩) (nomark _)) (pss_one (ps_ret (pe_call (ok_size_of_three T) (hr.mono (by omega)) (by rfl) T.g_size_of_three T.F_size_of_three.kp T.b_size_of_three .nil (passes_call (takes_of rfl rfl rfl rfl) (fun _ _ _ _ h => h)) (pa_cons (pv 0) (pa_cons (pe_op op_add (pv 1) pe_int) pa_nil))))) pss_nil)
      (pss_one (ps_raise rfl (takes_of rfl rfl rfl rfl) (pmk_oex (oex_of T.oe_Fault rfl) T.i_Fault T.t_Fault (ok_Fault T) (hr.mono (by omega)) T.b_Fault .nil pass0 (by rfl) T.g_Fault (pa_cons (pe_glob (v := .int 12) (by rfl) T.g_SIZE ⟨_, rfl⟩) (pa_cons (pv 1) pa_nil)))))))))), ?_⟩
    refine ⟨.int (i : Int), rfl, .ref a, rfl, a, _, rfl, hS, _, _, rfl, rfl, _, rfl, ite2 (fun e => ?_) (fun e => ?_)⟩
    · have h1 : ((ns.map V.int).length : Int) ≤ (i : Int) := of_decide_eq_true e
      rw [List.length_map] at h1
      have e2 : szAt ns i (i : Int) = .non := by
        unfold szAt
        rw [get_none (i := i) (by omega)]
      rw [e2] at q
      exact q
    · have h1 : ¬ ((ns.map V.int).length : Int) ≤ (i : Int) := fun z => e (decide_eq_true z)
      rw [List.length_map] at h1
      obtain ⟨x, hx, mx⟩ := get_of_lt (ns := ns) (i := i) (by omega)
      have e0 : szAt ns i (i : Int) = if x < 250 then .pair x ((i : Int) + 1) else if x = 250 then szTwo ns (i + 1) ((i : Int) + 1) else if x = 251 then szThree ns (i + 1) ((i : Int) + 1) else .flt (i : Int) := by
        unfold szAt
        rw [hx]
      rw [e0] at q
      refine ⟨.ref a, rfl, .int (i : Int), rfl, ix2 hS (at_ints hx) ⟨.int x, rfl, x, 250, rfl, rfl, _, rfl, ite2 (fun e => ?_) (fun e => ?_)⟩⟩
      · rw [if_pos (of_decide_eq_true e)] at q
        exact ⟨.int x, rfl, .int (i : Int), rfl, (i : Int), 1, rfl, rfl, (by show 2 ≤ sizeLine; decide), q⟩
      · rw [if_neg (fun z => e (decide_eq_true z))] at q
        refine ⟨.int x, rfl, rfl, _, rfl, ite2 (fun e => ?_) (fun e => ?_)⟩
        · rw [if_pos (V.int.inj (of_decide_eq_true e))] at q
          exact ⟨.ref a, rfl, .int (i : Int), rfl, (i : Int), 1, rfl, rfl, a, ns, i + 1, _, rfl, by omega, hS, hb, hl, by omega, q⟩
        · rw [if_neg (fun z => e (decide_eq_true (congrArg V.int z)))] at q
          refine ⟨.int x, rfl, rfl, _, rfl, ite2 (fun e => ?_) (fun e => ?_)⟩
          · rw [if_pos (V.int.inj (of_decide_eq_true e))] at q
            exact ⟨.ref a, rfl, .int (i : Int), rfl, (i : Int), 1, rfl, rfl, a, ns, i + 1, _, rfl, by omega, hS, hb, hl, by omega, q⟩
          · rw [if_neg (fun z => e (decide_eq_true (congrArg V.int z)))] at q
            exact ⟨.int (i : Int), rfl, (by decide : 2 ≤ 1000), raiseF (fm_int (by decide) (by decide)) (fm_int (by omega) (by omega)) q⟩
end

section
variable {P : Program} {w : World} {K : PySem.W.Frag} {mg : Str → Option Value} {base : Heap}
theorem ok_size (T : Tx K mg) : FnOk P w K mg base CX0 1 T.f_size T.fd_size ["_law_count"] spSB := by
  refine T.F_size.ok sc_size (fun vs H Q E h => ?_) (fun cdv A outer s H vs Q E hr h => ?_)
  · obtain ⟨n, rfl, _⟩ := h
    rfl
  · obtain ⟨n, rfl, q⟩ := h
    refine ⟨_, (pss_cons (ps_if (pt_cmpR op_lt (pv 0) pe_int (nomark _)) (pss_one (ps_ret (pe_lst (pa_cons (pv 0) pa_nil)))) pss_nil)
      (pss_cons (ps_if (pt_cmpR op_lt (pv 0) pe_int (nomark _)) (pss_one (ps_ret (pe_lst (pa_cons pe_int (pa_cons (pe_op op_fdiv (pv 0) pe_int) (pa_cons (pe_op op_mod (pv 0) pe_int) pa_nil)))))) pss_nil)
      (pss_one (ps_ret (pe_lst (pa_cons pe_int (pa_cons (pe_op op_fdiv (pv 0) pe_int) (pa_cons (pe_op op_mod (pe_op op_fdiv (pv 0) pe_int) pe_int) (pa_cons (pe_op op_mod (pv 0) pe_int) pa_nil))))))))), ?_⟩
    refine ⟨.int n, rfl, n, 250, rfl, rfl, _, rfl, ite2 (fun e => ?_) (fun e => ?_)⟩
    · have h1 : n < 250 := of_decide_eq_true e
      refine ⟨.int n, rfl, by show 1 ≤ sizeLine; decide, fun p hp => ?_⟩
      have e2 : szB n = [n] := if_pos h1
      rw [e2] at q
      exact q p hp
    · have h1 : ¬ n < 250 := fun z => e (decide_eq_true z)
      refine ⟨.int n, rfl, n, 65536, rfl, rfl, _, rfl, ite2 (fun e => ?_) (fun e => ?_)⟩
      · have h2 : n < 65536 := of_decide_eq_true e
        refine ⟨.int n, rfl, n, 256, rfl, rfl, ⟨by decide, by decide⟩, .int n, rfl, n, 256, rfl, rfl, (by show (0 : Int) < _; decide), by show 3 ≤ sizeLine; decide, fun p hp => ?_⟩
        have e2 : szB n = [250, n / 256, n % 256] := by
          unfold szB
          rw [if_neg h1, if_pos h2]
        rw [e2] at q
        exact q p hp
      · have h2 : ¬ n < 65536 := fun z => e (decide_eq_true z)
        refine ⟨.int n, rfl, n, 65536, rfl, rfl, ⟨by decide, by decide⟩, .int n, rfl, n, 256, rfl, rfl, ⟨by decide, by decide⟩, _, 256, rfl, rfl, (by show (0 : Int) < _; decide), .int n, rfl, n, 256, rfl, rfl, (by show (0 : Int) < _; decide), by show 4 ≤ sizeLine; decide, fun p hp => ?_⟩
        have e2 : szB n = [251, n / 65536, n / 256 % 256, n % 256] := by
          unfold szB
          rw [if_neg h1, if_neg h2]
        rw [e2] at q
        exact q p hp
end

/-! ### rows of the same, item by item -/
inductive SmAll (H : Hp) (n : Nat) : List V → List V → Prop
  | nil : SmAll H n [] []
  | cons {u v : V} {us vs : List V} : Sm H n u v → SmAll H n us vs → SmAll H n (u :: us) (v :: vs)
theorem SmAll.len {H : Hp} {n : Nat} {us vs : List V} (h : SmAll H n us vs) : us.length = vs.length := by
  induction h with
  | nil => rfl
  | cons _ _ ih => simp [ih]
theorem SmAll.get {H : Hp} {n : Nat} {us vs : List V} (h : SmAll H n us vs) : ∀ (i : Nat) (u v : V), us[i]? = some u → vs[i]? = some v → Sm H n u v := by
  induction h with
  | nil =>
    intro i u v h
    cases h
  | cons s _ ih =>
    intro i u v h1 h2
    cases i with
    | zero =>
      cases h1
      cases h2
      exact s
    | succ i => exact ih i u v h1 h2
theorem Sm.lst {H : Hp} {n : Nat} {a b : Addr} {xs ys : List V} (h1 : H a = some (.lst xs)) (h2 : H b = some (.lst ys)) (al : SmAll H n xs ys) (hm : xs.length ≤ 1000000) : Sm H (n + 1) (.ref a) (.ref b) :=
  .inr ⟨a, b, xs, ys, rfl, rfl, al.len, hm, al.get, .inl ⟨h1, h2⟩⟩
theorem Sm.tup {H : Hp} {n : Nat} {a b : Addr} {xs ys : List V} (h1 : H a = some (.tup xs)) (h2 : H b = some (.tup ys)) (al : SmAll H n xs ys) (hm : xs.length ≤ 1000000) : Sm H (n + 1) (.ref a) (.ref b) :=
  .inr ⟨a, b, xs, ys, rfl, rfl, al.len, hm, al.get, .inr ⟨h1, h2⟩⟩
theorem SmAll.flat {H : Hp} {n : Nat} : ∀ {xs : List V}, xs.all flatV = true → SmAll H n xs xs
  | [], _ => .nil
  | x :: xs, h => by
    rw [List.all_cons, Bool.and_eq_true] at h
    exact .cons (Sm.flat h.1) (SmAll.flat h.2)

/-! ### sizes there and back -/
theorem szB_bts {n : Int} (h0 : 0 ≤ n) (h1 : n < 16777216) : Bts (szB n) := by
  unfold szB
  split
  · intro x hx
    rw [List.mem_singleton.mp hx]
    omega
  · split
    · intro x hx
      simp only [List.mem_cons, List.not_mem_nil, or_false] at hx
      rcases hx with rfl | rfl | rfl <;> omega
    · intro x hx
      simp only [List.mem_cons, List.not_mem_nil, or_false] at hx
      rcases hx with rfl | rfl | rfl | rfl <;> omega
theorem szB_len (n : Int) : 1 ≤ (szB n).length ∧ (szB n).length ≤ 4 := by
  unfold szB
  split
  · exact ⟨by simp, by simp⟩
  · split
    · exact ⟨by simp, by simp⟩
    · exact ⟨by simp, by simp⟩
theorem get_mid {as l bs : List Int} {j : Nat} (h : j < l.length) : (as ++ l ++ bs)[as.length + j]? = l[j]? := by
  rw [List.append_assoc, List.getElem?_append_right (by omega), Nat.add_sub_cancel_left, List.getElem?_append_left h]
theorem szB_at {n : Int} (h0 : 0 ≤ n) (h1 : n < 16777216) (as bs : List Int) (z : Int) : szAt (as ++ szB n ++ bs) as.length z = .pair n (z + ((szB n).length : Int)) := by
  by_cases c1 : n < 250
  · have e : szB n = [n] := if_pos c1
    rw [e]
    have g0 : (as ++ [n] ++ bs)[as.length]? = some n := get_mid (j := 0) (by simp)
    unfold szAt
    rw [g0]
    exact if_pos c1
  · by_cases c2 : n < 65536
    · have e : szB n = [250, n / 256, n % 256] := by
        unfold szB
        rw [if_neg c1, if_pos c2]
      rw [e]
      have g0 : (as ++ [250, n / 256, n % 256] ++ bs)[as.length]? = some 250 := get_mid (j := 0) (by simp)
      have g1 : (as ++ [250, n / 256, n % 256] ++ bs)[as.length + 1]? = some (n / 256) := get_mid (j := 1) (by simp)
      have g2 : (as ++ [250, n / 256, n % 256] ++ bs)[as.length + 1 + 1]? = some (n % 256) := get_mid (j := 2) (by simp)
      unfold szAt szTwo
      rw [g0, g1, g2]
      have e1 : n / 256 * 256 + n % 256 = n := by omega
      simp only [e1, if_neg c1]
      rw [if_neg (by decide), if_pos trivial]
      exact congrArg _ (by show z + 1 + 2 = z + 3; omega)
    · have e : szB n = [251, n / 65536, n / 256 % 256, n % 256] := by
        unfold szB
        rw [if_neg c1, if_neg c2]
      rw [e]
      have g0 : (as ++ [251, n / 65536, n / 256 % 256, n % 256] ++ bs)[as.length]? = some 251 := get_mid (j := 0) (by simp)
      have g1 : (as ++ [251, n / 65536, n / 256 % 256, n % 256] ++ bs)[as.length + 1]? = some (n / 65536) := get_mid (j := 1) (by simp)
      have g2 : (as ++ [251, n / 65536, n / 256 % 256, n % 256] ++ bs)[as.length + 1 + 1]? = some (n / 256 % 256) := get_mid (j := 2) (by simp)
      have g3 : (as ++ [251, n / 65536, n / 256 % 256, n % 256] ++ bs)[as.length + 1 + 2]? = some (n % 256) := get_mid (j := 3) (by simp)
      unfold szAt szThree
      rw [g0, g1, g2, g3]
      have e1 : n / 65536 * 65536 + n / 256 % 256 * 256 + n % 256 = n := by omega
      have e2 : ¬ n / 65536 = 0 := by omega
      simp only [e1, if_neg e2]
      rw [if_neg (by decide), if_neg (by decide), if_pos trivial]
      exact congrArg _ (by show z + 1 + 3 = z + 4; omega)
/-- cut within -/
theorem szB_cut {n : Int} (h0 : 0 ≤ n) (h1 : n < 16777216) (as : List Int) (z : Int) {c : Nat} (c1 : c < (szB n).length) : szAt (as ++ (szB n).take c) as.length z = .non := by
  have none_at : ∀ j, c ≤ j → (as ++ (szB n).take c)[as.length + j]? = none := fun j hj => List.getElem?_eq_none (by rw [List.length_append, List.length_take]; omega)
  have some_at : ∀ j, j < c → (as ++ (szB n).take c)[as.length + j]? = (szB n)[j]? := fun j hj => by
    rw [List.getElem?_append_right (by omega), Nat.add_sub_cancel_left, List.getElem?_take, if_pos hj]
  by_cases d1 : n < 250
  · have e : (szB n).length = 1 := by rw [show szB n = [n] from if_pos d1]; rfl
    have : (as ++ (szB n).take c)[as.length]? = none := none_at 0 (by omega)
    unfold szAt
    rw [this]
  · by_cases d2 : n < 65536
    · have e : szB n = [250, n / 256, n % 256] := by
        unfold szB
        rw [if_neg d1, if_pos d2]
      rw [e] at none_at some_at c1 ⊢
      have hc : c < 3 := c1
      unfold szAt szTwo
      have n2 := none_at 2 (by omega)
      by_cases z0 : c = 0
      · rw [show (as ++ List.take c [250, n / 256, n % 256])[as.length]? = none from none_at 0 (by omega)]
      · rw [show (as ++ List.take c [250, n / 256, n % 256])[as.length]? = some 250 from some_at 0 (by omega)]
        rw [show (as ++ List.take c [250, n / 256, n % 256])[as.length + 1 + 1]? = none from n2]
        simp only
        rw [if_neg (by decide), if_pos trivial]
        cases (as ++ List.take c [250, n / 256, n % 256])[as.length + 1]? <;> rfl
    · have e : szB n = [251, n / 65536, n / 256 % 256, n % 256] := by
        unfold szB
        rw [if_neg d1, if_neg d2]
      rw [e] at none_at some_at c1 ⊢
      have hc : c < 4 := c1
      unfold szAt szThree
      have n3 := none_at 3 (by omega)
      by_cases z0 : c = 0
      · rw [show (as ++ List.take c [251, n / 65536, n / 256 % 256, n % 256])[as.length]? = none from none_at 0 (by omega)]
      · rw [show (as ++ List.take c [251, n / 65536, n / 256 % 256, n % 256])[as.length]? = some 251 from some_at 0 (by omega)]
        rw [show (as ++ List.take c [251, n / 65536, n / 256 % 256, n % 256])[as.length + 1 + 2]? = none from n3]
        simp only
        rw [if_neg (by decide), if_neg (by decide), if_pos trivial]
        by_cases z1 : c = 1
        · rw [show (as ++ List.take c [251, n / 65536, n / 256 % 256, n % 256])[as.length + 1]? = none from none_at 1 (by omega)]
        · rw [show (as ++ List.take c [251, n / 65536, n / 256 % 256, n % 256])[as.length + 1]? = some (n / 65536) from some_at 1 (by omega)]
          have e2 : ¬ n / 65536 = 0 := by omega
          simp only [if_neg e2]
          cases (as ++ List.take c [251, n / 65536, n / 256 % 256, n % 256])[as.length + 1 + 1]? <;> rfl

theorem cut_lo (ns : List Int) (c : Nat) : cutV (ns.map V.int) none (some (c : Int)) = (ns.take c).map V.int := by
  unfold cutV
  rw [HT.sIx_none, HT.sIx_nat, List.drop_zero, Nat.sub_zero, List.length_map, ← List.map_take]
  by_cases h : c ≤ ns.length
  · rw [Nat.min_eq_left h]
  · rw [Nat.min_eq_right (by omega), List.take_of_length_le (Nat.le_refl _), List.take_of_length_le (by omega)]
theorem cut_hi (ns : List Int) (c : Nat) (h : c ≤ ns.length) : cutV (ns.map V.int) (some (c : Int)) none = (ns.drop c).map V.int := by
  unfold cutV
  rw [HT.sIx_none, HT.sIx_nat, List.length_map, Nat.min_eq_left h, ← List.map_drop, List.take_of_length_le]
  rw [List.length_map, List.length_drop]
  exact Nat.le_refl _
theorem cut_mid (ns : List Int) (i j : Nat) (h : i ≤ j) (h2 : j ≤ ns.length) : cutV (ns.map V.int) (some (i : Int)) (some (j : Int)) = ((ns.drop i).take (j - i)).map V.int := by
  unfold cutV
  rw [HT.sIx_nat, HT.sIx_nat, List.length_map, Nat.min_eq_left h2, Nat.min_eq_left (Nat.le_trans h h2), ← List.map_drop, ← List.map_take]
theorem eqv_one {x y : Int} (h : ¬ x = y) : PyData.eqv (.list (([x] : List Int).map PyData.int)) (.list (([y] : List Int).map PyData.int)) = false := by
  have e : ((x : Int) == y) = false := beq_eq_false_iff_ne.mpr h
  show PyData.eqv (.list [.int x]) (.list [.int y]) = false
  simp only [PyData.eqv, PyData.eqvAll, e, Bool.false_and]

theorem nr_ValueError : ∀ D : Addr, (bm_ValueError).contains (.ref D) = false := fun D => by simp
section
variable {K : PySem.W.Frag} {mg : Str → Option Value}
theorem other_Fault_BadSlip (T : Tx K mg) : PySem.W.kitOne K (.ref T.C_Fault) (.ref T.C_BadSlip) = some false := by
  rw [oe_own T.oe_Fault T.oe_BadSlip (nr_ValueError _), decide_eq_false (Nat.ne_of_gt (Nat.lt_trans (Nat.lt_trans (Nat.lt_trans (Nat.lt_trans T.lt_BadSlip T.lt_BadLetter) T.lt_BadEnd) T.lt_BadText) T.lt_BadRow))]
theorem other_Fault_BadLetter (T : Tx K mg) : PySem.W.kitOne K (.ref T.C_Fault) (.ref T.C_BadLetter) = some false := by
  rw [oe_own T.oe_Fault T.oe_BadLetter (nr_ValueError _), decide_eq_false (Nat.ne_of_gt (Nat.lt_trans (Nat.lt_trans (Nat.lt_trans T.lt_BadLetter T.lt_BadEnd) T.lt_BadText) T.lt_BadRow))]
theorem other_Fault_BadEnd (T : Tx K mg) : PySem.W.kitOne K (.ref T.C_Fault) (.ref T.C_BadEnd) = some false := by
  rw [oe_own T.oe_Fault T.oe_BadEnd (nr_ValueError _), decide_eq_false (Nat.ne_of_gt (Nat.lt_trans (Nat.lt_trans T.lt_BadEnd T.lt_BadText) T.lt_BadRow))]
theorem other_Fault_BadText (T : Tx K mg) : PySem.W.kitOne K (.ref T.C_Fault) (.ref T.C_BadText) = some false := by
  rw [oe_own T.oe_Fault T.oe_BadText (nr_ValueError _), decide_eq_false (Nat.ne_of_gt (Nat.lt_trans T.lt_BadText T.lt_BadRow))]
theorem other_Fault_BadRow (T : Tx K mg) : PySem.W.kitOne K (.ref T.C_Fault) (.ref T.C_BadRow) = some false := by
  rw [oe_own T.oe_Fault T.oe_BadRow (nr_ValueError _), decide_eq_false (Nat.ne_of_gt T.lt_BadRow)]
theorem other_Fault_NoSlip (T : Tx K mg) : PySem.W.kitOne K (.ref T.C_Fault) (.ref T.C_NoSlip) = some false := by
  rw [oe_own T.oe_Fault T.oe_NoSlip (nr_ValueError _), decide_eq_false (Nat.ne_of_lt T.lt_Fault)]
theorem other_Fault_NoByte (T : Tx K mg) : PySem.W.kitOne K (.ref T.C_Fault) (.ref T.C_NoByte) = some false := by
  rw [oe_own T.oe_Fault T.oe_NoByte (nr_ValueError _), decide_eq_false (Nat.ne_of_lt (Nat.lt_trans T.lt_Fault T.lt_NoSlip))]
theorem other_Fault_NoDeed (T : Tx K mg) : PySem.W.kitOne K (.ref T.C_Fault) (.ref T.C_NoDeed) = some false := by
  rw [oe_own T.oe_Fault T.oe_NoDeed (nr_ValueError _), decide_eq_false (Nat.ne_of_lt (Nat.lt_trans (Nat.lt_trans T.lt_Fault T.lt_NoSlip) T.lt_NoByte))]
theorem other_Fault_Ended (T : Tx K mg) : PySem.W.kitOne K (.ref T.C_Fault) (.ref T.C_Ended) = some false := by
  rw [oe_own T.oe_Fault T.oe_Ended (nr_ValueError _), decide_eq_false (Nat.ne_of_lt (Nat.lt_trans (Nat.lt_trans (Nat.lt_trans T.lt_Fault T.lt_NoSlip) T.lt_NoByte) T.lt_NoDeed))]
theorem under_Fault (T : Tx K mg) : PySem.W.kitOne K (.ref T.C_Fault) (.type "ValueError") = some true := by
  rw [oe_blt T.oe_Fault (by decide +kernel)]
  rfl
theorem exm_Fault (T : Tx K mg) : PySem.W.exmOne K (.ref T.C_Fault) (.ref T.C_Fault) = some true := PySem.W.exm_ref T.oe_Fault.is_.hs T.oe_Fault.is_.hd T.oe_Fault.ty (by rw [oe_mro T.oe_Fault, List.contains_cons]; simp)
end
end K4

set_option Elab.async false
set_option linter.all false
set_option maxRecDepth 100000
set_option maxHeartbeats 4000000
namespace K4
open PySem PySem.Spec PyProof.Rows L2
/-! ### sizes by the rest of a row -/
def szD : List Int → Int → SR
  | [], _ => .non
  | f :: t, z => if f < 250 then .pair f (z + 1) else if f = 250 then (match t with
      | x :: y :: _ => if x * 256 + y < 250 then .flt (z + 2) else .pair (x * 256 + y) (z + 3)
      | _ => .non) else if f = 251 then (match t with
      | [] => .non
      | x :: t' => if x = 0 then .flt (z + 1) else match t' with
        | y :: v :: _ => .pair (x * 65536 + y * 256 + v) (z + 4)
        | _ => .non) else .flt z
theorem szAt_drop (ns : List Int) (i : Nat) (z : Int) : szAt ns i z = szD (ns.drop i) z := by
  have g : ∀ j, ns[i + j]? = (ns.drop i)[j]? := fun j => by rw [List.getElem?_drop]
  have g0 : ns[i]? = (ns.drop i)[0]? := g 0
  have g1 : ns[i + 1]? = (ns.drop i)[1]? := g 1
  have g2 : ns[i + 1 + 1]? = (ns.drop i)[2]? := g 2
  have g3 : ns[i + 1 + 2]? = (ns.drop i)[3]? := g 3
  unfold szAt szTwo szThree
  rw [g0, g1, g2, g3]
  have e1 : z + 1 + 1 = z + 2 := by omega
  have e2 : z + 1 + 2 = z + 3 := by omega
  have e3 : z + 1 + 3 = z + 4 := by omega
  rw [e1, e2, e3]
  match ns.drop i with
  | [] => rfl
  | [f] => rfl
  | [f, x] => rfl
  | [f, x, y] => rfl
  | f :: x :: y :: v :: t => rfl
/-- what is told of a size: the heap ahead H, behind H' -/
def Told (H H' : Hp) (r : SR) (v : V) : Prop := match r with
  | .non => v = .non
  | .pair n b => ∃ p, v = .ref p ∧ H p = none ∧ H' p = some (.tup [.int n, .int b])
  | .flt k => ∃ l, v = .ref l ∧ H l = none ∧ H' l = some (.lst [.int k])
theorem Told.same {H H' H2 : Hp} {r : SR} {v : V} (h : Told H H' r v) (s : Same H' H2) : Told H H2 r v := by
  cases r with
  | non => exact h
  | pair n b =>
    obtain ⟨p, e, n', k⟩ := h
    exact ⟨p, e, n', s _ _ k⟩
  | flt k =>
    obtain ⟨p, e, n', k⟩ := h
    exact ⟨p, e, n', s _ _ k⟩
theorem Told.sm {H H1 H' : Hp} {r : SR} {v u : V} (h : Told H H' r v) (h2 : Told H1 H' r u) : Sm H' 2 v u := by
  cases r with
  | non =>
    have e : v = .non := h
    have e2 : u = .non := h2
    rw [e, e2]
    exact Sm.flat rfl
  | pair n b =>
    obtain ⟨p, rfl, _, k⟩ := h
    obtain ⟨q, rfl, _, k2⟩ := h2
    exact Sm.tup k k2 (SmAll.flat rfl) (by show 2 ≤ 1000000; decide)
  | flt k =>
    obtain ⟨p, rfl, _, k⟩ := h
    obtain ⟨q, rfl, _, k2⟩ := h2
    exact Sm.lst k k2 (SmAll.flat rfl) (by show 1 ≤ 1000000; decide)
theorem Told.weak {H H0 H' : Hp} {r : SR} {v : V} (h : Told H H' r v) (s : Same H0 H) : Told H0 H' r v := by
  cases r with
  | non => exact h
  | pair n b =>
    obtain ⟨p, e, n', k⟩ := h
    exact ⟨p, e, Same.free s n', k⟩
  | flt k =>
    obtain ⟨p, e, n', k⟩ := h
    exact ⟨p, e, Same.free s n', k⟩
section
variable {P : Program} {w : World} {K : PySem.W.Frag} {mg : Str → Option Value} {base : Heap}
def spTold (K : PySem.W.Frag) : Sp := fun vs H Q _ => ∃ (a : Addr) (ns : List Int) (i : Nat) (z : Int) (nm : Bool), vs = [.ref a, .int z, .bl nm] ∧ z = (i : Int) ∧ Sq2 K H a (ns.map V.int) ∧ Bts ns ∧ ns.length ≤ 1000000 ∧ i ≤ ns.length ∧ ∀ (H' : Hp) (v : V), Same H H' → Told H H' (szAt ns i z) v → Q v H'
theorem ok_told (T : Tx K mg) : FnOk P w K mg base CX0 5 T.f_told T.fd_told ["_law_row_here", "_law_spot", "_law_named"] (spTold K) := by
  refine T.F_told.ok sc_told (fun vs H Q E h => ?_) (fun cdv A outer s H vs Q E hr h => ?_)
  · obtain ⟨a, ns, i, z, nm, rfl, _⟩ := h
    rfl
  · obtain ⟨a, ns, i, z, nm, rfl, hz, hS, hb, hl, hi, q⟩ := h
    refine ⟨_, (pss_cons (ps_asg (pe_tup (pa_cons pe_non (pa_cons pe_non pa_nil))) (pg_tup rfl (pgs_cons (pg_name (i := 3) sc_told.nd rfl (.inl rfl)) (pgs_cons (pg_name (i := 4) sc_told.nd rfl (.inl rfl)) pgs_nil))))
      (pss_cons (ps_try_kp (i := 5) rfl rfl rfl sc_told.nd rfl rfl ⟨rfl, by decide, .inl T.g_Fault⟩ takes0 (fun W pn xe tk _ => (pss_one (ps_set (i := 3) sc_told.nd rfl (.inl rfl) (pe_ifExp (pt_val (pv 2)) (pe_callN0S (ok_size_at T) (hr.mono (by omega)) (by rfl) T.g_size_at T.F_size_at.kp T.kb_size_at_0_at_codes (fun σ => passAt tk σ) (pk_cons (pv 1) (pk_cons (pv 0) pk_nil))) (pe_callS (ok_size_at T) (hr.mono (by omega)) (by rfl) T.g_size_at T.F_size_at.kp T.b_size_at  (fun σ => passAt tk σ) (pa_cons (pv 0) (pa_cons (pv 1) pa_nil))))))) (fun a oe cls d pn hz hf => (pss_one (ps_set (i := 4) sc_told.nd rfl (.inl rfl) (pv 5)))))
      (pss_cons (ps_if (pt_cmpR op_isN (pv 4) pe_non (nomark _)) (pss_one (ps_ret (pv 3))) pss_nil)
      (pss_cons (ps_set (i := 6) sc_told.nd rfl (.inl rfl) (pe_callB (r := rIslT K) call_islT (by rfl) T.m_isinstance (by decide +kernel) (pa_cons (pv 4) (pa_cons (pe_tup (pa_cons (pe_glob (v := .ref T.C_BadEnd) (by rfl) T.g_BadEnd rfl) (pa_cons (pe_glob (v := .ref T.C_BadLetter) (by rfl) T.g_BadLetter rfl) (pa_cons (pe_glob (v := .ref T.C_BadRow) (by rfl) T.g_BadRow rfl) (pa_cons (pe_glob (v := .ref T.C_BadSlip) (by rfl) T.g_BadSlip rfl) (pa_cons (pe_glob (v := .ref T.C_BadText) (by rfl) T.g_BadText rfl) (pa_cons (pe_glob (v := .ref T.C_Ended) (by rfl) T.g_Ended rfl) (pa_cons (pe_glob (v := .ref T.C_NoByte) (by rfl) T.g_NoByte rfl) (pa_cons (pe_glob (v := .ref T.C_NoDeed) (by rfl) T.g_NoDeed rfl) (pa_cons (pe_glob (v := .ref T.C_NoSlip) (by rfl) T.g_NoSlip rfl) pa_nil)))))))))) pa_nil))))
      (pss_cons (ps_set (i := 7) sc_told.nd rfl (.inl rfl) (pe_and (pe_callB (r := rIsl K) call_isl (by rfl) T.m_isinstance (by decide +kernel) (pa_cons (pv 4) (pa_cons (pe_bltn (v := .ty "ValueError") (u := .type "ValueError") (by rfl) T.m_ValueError (by decide +kernel) rfl) pa_nil))) (pe_one (pe_not (pv 6)))))
      (pss_one (ps_ret (pe_ifExp (pw_and (pt_val (pv 7)) (pw_and1 (pt_val (pe_call (ok_same T 1) (hr.mono (by omega)) (by rfl) T.g_same T.F_same.kp T.b_same .nil pass0 (pa_cons (pe_xl (pv 4)) (pa_cons pe_int pa_nil)))))).pt (pe_lst (pa_cons (pe_xl (pv 4)) pa_nil)) pe_str)))))))), ?_⟩
    refine ⟨by show 2 ≤ sizeLine; decide, fun t0 ht0 => ⟨t0, [.non, .non], rfl, .inl (.inl upd_same), rfl, _, _, rfl, _, _, rfl, rfl, ?_⟩⟩
    have s0 : Same H (upd H t0 (.tup [.non, .non])) := same_upd ht0
    generalize upd H t0 (.tup [.non, .non]) = H0 at s0 ⊢
    have hS0 := hS.same s0
    have q0 : ∀ (H' : Hp) (v : V), Same H0 H' → Told H0 H' (szAt ns i z) v → Q v H' := fun H' v s h => q H' v (s0.trans s) (h.weak s0)
    refine ⟨.bl nm, rfl, nm, rfl, ?_⟩
    cases nm
    · refine ⟨.ref a, rfl, .int z, rfl, a, ns, i, z, rfl, hz, hS0, hb, hl, hi, ?_⟩
      generalize szAt ns i z = r at q0 ⊢
      cases r with
      | non => exact ⟨.non, rfl, rfl, _, rfl, ⟨_, rfl, q0 _ _ (Same.refl _) rfl⟩⟩
      | pair n b =>
        intro p hp
        exact ⟨.non, rfl, rfl, _, rfl, ⟨_, rfl, q0 _ _ (same_upd hp) ⟨p, rfl, hp, upd_same⟩⟩⟩
      | flt k =>
        intro H1 d s1 hd ed
        refine ⟨true, exm_Fault T, fun _ ax hax => ?_, fun z => nomatch z⟩
        refine ⟨.ref ax, rfl, ?_⟩
        have hax0 : H0 ax = none := Same.free s1 hax
        refine ⟨.ref ax, rfl, rfl, _, rfl, ?_⟩
        have sH2 : Same H1 (upd H1 ax (exl ax (.ref T.C_Fault) (some d))) := same_upd hax
        have eH2 : (upd H1 ax (exl ax (.ref T.C_Fault) (some d))) ax = some (exl ax (.ref T.C_Fault) (some d)) := upd_same
        generalize upd H1 ax (exl ax (.ref T.C_Fault) (some d)) = H2 at sH2 eH2 ⊢
        replace s1 := s1.trans sH2
        replace ed := sH2 _ _ ed
        refine ⟨.ref ax, rfl, by show 9 ≤ sizeLine; decide, fun tp htp => ?_⟩
        have sH3 : Same H2 (upd H2 tp (.tup [.ref T.C_BadEnd, .ref T.C_BadLetter, .ref T.C_BadRow, .ref T.C_BadSlip, .ref T.C_BadText, .ref T.C_Ended, .ref T.C_NoByte, .ref T.C_NoDeed, .ref T.C_NoSlip])) := same_upd htp
        have eH3 : (upd H2 tp (.tup [.ref T.C_BadEnd, .ref T.C_BadLetter, .ref T.C_BadRow, .ref T.C_BadSlip, .ref T.C_BadText, .ref T.C_Ended, .ref T.C_NoByte, .ref T.C_NoDeed, .ref T.C_NoSlip])) tp = some (.tup [.ref T.C_BadEnd, .ref T.C_BadLetter, .ref T.C_BadRow, .ref T.C_BadSlip, .ref T.C_BadText, .ref T.C_Ended, .ref T.C_NoByte, .ref T.C_NoDeed, .ref T.C_NoSlip]) := upd_same
        generalize upd H2 tp (.tup [.ref T.C_BadEnd, .ref T.C_BadLetter, .ref T.C_BadRow, .ref T.C_BadSlip, .ref T.C_BadText, .ref T.C_Ended, .ref T.C_NoByte, .ref T.C_NoDeed, .ref T.C_NoSlip]) = H3 at sH3 eH3 ⊢
        replace s1 := s1.trans sH3
        replace ed := sH3 _ _ ed
        replace eH2 := sH3 _ _ eH2
        refine ⟨ax, T.C_Fault, d, _, tp, _, _, false, rfl, eH2, ed, T.oe_Fault.is_, eH3, (.cons (.own _) (.cons (.own _) (.cons (.own _) (.cons (.own _) (.cons (.own _) (.cons (.own _) (.cons (.own _) (.cons (.own _) (.cons (.own _) .nil))))))))), kitAny_cons (b := false) (other_Fault_BadEnd T) (fun _ => kitAny_cons (b := false) (other_Fault_BadLetter T) (fun _ => kitAny_cons (b := false) (other_Fault_BadRow T) (fun _ => kitAny_cons (b := false) (other_Fault_BadSlip T) (fun _ => kitAny_cons (b := false) (other_Fault_BadText T) (fun _ => kitAny_cons (b := false) (other_Fault_Ended T) (fun _ => kitAny_cons (b := false) (other_Fault_NoByte T) (fun _ => kitAny_cons (b := false) (other_Fault_NoDeed T) (fun _ => kitAny_cons (b := false) (other_Fault_NoSlip T) (fun _ => rfl) (fun z => nomatch z)) (fun z => nomatch z)) (fun z => nomatch z)) (fun z => nomatch z)) (fun z => nomatch z)) (fun z => nomatch z)) (fun z => nomatch z)) (fun z => nomatch z)) (fun z => nomatch z), ?_⟩
        refine ⟨.ref ax, rfl, ax, T.C_Fault, d, _, _, _, true, rfl, eH2, ed, T.oe_Fault.is_, .ty _, under_Fault T, true, rfl, ?_⟩
        refine ⟨.bl false, rfl, false, rfl, ?_⟩
        refine ⟨.bl true, rfl, true, rfl, ?_⟩
        refine ⟨.ref ax, rfl, ax, T.C_Fault, d, _, .int 12, rfl, eH2, ed, T.oe_Fault.is_, T.n_Fault_code, by rfl, ?_⟩
        refine ⟨.int 12, .int 12, rfl, Sm.flat rfl, fun H4 s4 => ⟨true, rfl, ?_⟩⟩
        refine ⟨.ref ax, rfl, ax, T.C_Fault, d, _, .int k, rfl, s4 _ _ eH2, s4 _ _ ed, T.oe_Fault.is_, T.n_Fault_at, by rfl, by show 1 ≤ sizeLine; decide, fun l hl' => ?_⟩
        exact q0 _ _ ((s1.trans s4).trans (same_upd hl')) ⟨l, rfl, Same.free (s1.trans s4) hl', upd_same⟩
    · refine ⟨.int z, rfl, .ref a, rfl, rfl, rfl, a, ns, i, z, rfl, hz, hS0, hb, hl, hi, ?_⟩
      generalize szAt ns i z = r at q0 ⊢
      cases r with
      | non => exact ⟨.non, rfl, rfl, _, rfl, ⟨_, rfl, q0 _ _ (Same.refl _) rfl⟩⟩
      | pair n b =>
        intro p hp
        exact ⟨.non, rfl, rfl, _, rfl, ⟨_, rfl, q0 _ _ (same_upd hp) ⟨p, rfl, hp, upd_same⟩⟩⟩
      | flt k =>
        intro H1 d s1 hd ed
        refine ⟨true, exm_Fault T, fun _ ax hax => ?_, fun z => nomatch z⟩
        refine ⟨.ref ax, rfl, ?_⟩
        have hax0 : H0 ax = none := Same.free s1 hax
        refine ⟨.ref ax, rfl, rfl, _, rfl, ?_⟩
        have sH2 : Same H1 (upd H1 ax (exl ax (.ref T.C_Fault) (some d))) := same_upd hax
        have eH2 : (upd H1 ax (exl ax (.ref T.C_Fault) (some d))) ax = some (exl ax (.ref T.C_Fault) (some d)) := upd_same
        generalize upd H1 ax (exl ax (.ref T.C_Fault) (some d)) = H2 at sH2 eH2 ⊢
        replace s1 := s1.trans sH2
        replace ed := sH2 _ _ ed
        refine ⟨.ref ax, rfl, by show 9 ≤ sizeLine; decide, fun tp htp => ?_⟩
        have sH3 : Same H2 (upd H2 tp (.tup [.ref T.C_BadEnd, .ref T.C_BadLetter, .ref T.C_BadRow, .ref T.C_BadSlip, .ref T.C_BadText, .ref T.C_Ended, .ref T.C_NoByte, .ref T.C_NoDeed, .ref T.C_NoSlip])) := same_upd htp
        have eH3 : (upd H2 tp (.tup [.ref T.C_BadEnd, .ref T.C_BadLetter, .ref T.C_BadRow, .ref T.C_BadSlip, .ref T.C_BadText, .ref T.C_Ended, .ref T.C_NoByte, .ref T.C_NoDeed, .ref T.C_NoSlip])) tp = some (.tup [.ref T.C_BadEnd, .ref T.C_BadLetter, .ref T.C_BadRow, .ref T.C_BadSlip, .ref T.C_BadText, .ref T.C_Ended, .ref T.C_NoByte, .ref T.C_NoDeed, .ref T.C_NoSlip]) := upd_same
        generalize upd H2 tp (.tup [.ref T.C_BadEnd, .ref T.C_BadLetter, .ref T.C_BadRow, .ref T.C_BadSlip, .ref T.C_BadText, .ref T.C_Ended, .ref T.C_NoByte, .ref T.C_NoDeed, .ref T.C_NoSlip]) = H3 at sH3 eH3 ⊢
        replace s1 := s1.trans sH3
        replace ed := sH3 _ _ ed
        replace eH2 := sH3 _ _ eH2
        refine ⟨ax, T.C_Fault, d, _, tp, _, _, false, rfl, eH2, ed, T.oe_Fault.is_, eH3, (.cons (.own _) (.cons (.own _) (.cons (.own _) (.cons (.own _) (.cons (.own _) (.cons (.own _) (.cons (.own _) (.cons (.own _) (.cons (.own _) .nil))))))))), kitAny_cons (b := false) (other_Fault_BadEnd T) (fun _ => kitAny_cons (b := false) (other_Fault_BadLetter T) (fun _ => kitAny_cons (b := false) (other_Fault_BadRow T) (fun _ => kitAny_cons (b := false) (other_Fault_BadSlip T) (fun _ => kitAny_cons (b := false) (other_Fault_BadText T) (fun _ => kitAny_cons (b := false) (other_Fault_Ended T) (fun _ => kitAny_cons (b := false) (other_Fault_NoByte T) (fun _ => kitAny_cons (b := false) (other_Fault_NoDeed T) (fun _ => kitAny_cons (b := false) (other_Fault_NoSlip T) (fun _ => rfl) (fun z => nomatch z)) (fun z => nomatch z)) (fun z => nomatch z)) (fun z => nomatch z)) (fun z => nomatch z)) (fun z => nomatch z)) (fun z => nomatch z)) (fun z => nomatch z)) (fun z => nomatch z), ?_⟩
        refine ⟨.ref ax, rfl, ax, T.C_Fault, d, _, _, _, true, rfl, eH2, ed, T.oe_Fault.is_, .ty _, under_Fault T, true, rfl, ?_⟩
        refine ⟨.bl false, rfl, false, rfl, ?_⟩
        refine ⟨.bl true, rfl, true, rfl, ?_⟩
        refine ⟨.ref ax, rfl, ax, T.C_Fault, d, _, .int 12, rfl, eH2, ed, T.oe_Fault.is_, T.n_Fault_code, by rfl, ?_⟩
        refine ⟨.int 12, .int 12, rfl, Sm.flat rfl, fun H4 s4 => ⟨true, rfl, ?_⟩⟩
        refine ⟨.ref ax, rfl, ax, T.C_Fault, d, _, .int k, rfl, s4 _ _ eH2, s4 _ _ ed, T.oe_Fault.is_, T.n_Fault_at, by rfl, by show 1 ≤ sizeLine; decide, fun l hl' => ?_⟩
        exact q0 _ _ ((s1.trans s4).trans (same_upd hl')) ⟨l, rfl, Same.free (s1.trans s4) hl', upd_same⟩
end
end K4

set_option Elab.async false
set_option linter.all false
set_option maxRecDepth 100000
set_option maxHeartbeats 4000000
namespace K4
open PySem PySem.Spec PyProof.Rows L2
theorem at0 {x : V} {xs : List V} : atI (x :: xs) 0 = some x := atI_nat (xs := x :: xs) (j := 0) rfl
theorem at1 {x y : V} {xs : List V} : atI (x :: y :: xs) 1 = some y := atI_nat (xs := x :: y :: xs) (j := 1) rfl
theorem at2 {x y z : V} {xs : List V} : atI (x :: y :: z :: xs) 2 = some z := atI_nat (xs := x :: y :: z :: xs) (j := 2) rfl
theorem at3 {x y z v : V} {xs : List V} : atI (x :: y :: z :: v :: xs) 3 = some v := atI_nat (xs := x :: y :: z :: v :: xs) (j := 3) rfl
theorem cut_four (ns : List Int) (i : Nat) (h : i ≤ ns.length) : cutV (ns.map V.int) (some (i : Int)) (some ((i : Int) + 4)) = ((ns.drop i).take 4).map V.int := by
  rw [show (i : Int) + 4 = ((i + 4 : Nat) : Int) by omega]
  unfold cutV
  rw [HT.sIx_nat, HT.sIx_nat, List.length_map, Nat.min_eq_left h, ← List.map_drop, ← List.map_take]
  by_cases c : i + 4 ≤ ns.length
  · rw [Nat.min_eq_left c, Nat.add_sub_cancel_left]
  · rw [Nat.min_eq_right (by omega), List.take_of_length_le (by rw [List.length_drop]; exact Nat.le_refl _), List.take_of_length_le (by rw [List.length_drop]; omega)]
section
variable {P : Program} {w : World} {K : PySem.W.Frag} {mg : Str → Option Value} {base : Heap}
def spDue (K : PySem.W.Frag) : Sp := fun vs H Q _ => ∃ (a : Addr) (ns : List Int) (i : Nat) (z : Int), vs = [.ref a, .int z] ∧ z = (i : Int) ∧ SqL K H a (ns.map V.int) ∧ Bts ns ∧ i < ns.length ∧ ∀ (H' : Hp) (v : V), Same H H' → Told H H' (szAt ns i z) v → Q v H'
theorem ok_due (T : Tx K mg) : FnOk P w K mg base CX0 1 T.f_due T.fd_due ["_law_row_here", "_law_spot"] (spDue K) := by
  refine T.F_due.ok sc_due (fun vs H Q E h => ?_) (fun cdv A outer s H vs Q E hr h => ?_)
  · obtain ⟨a, ns, i, z, rfl, _⟩ := h
    rfl
  · obtain ⟨a, ns, i, z, rfl, rfl, hS, hb, hi, q⟩ := h
    refine ⟨_, (pss_cons (ps_set (i := 2) sc_due.nd rfl (.inl rfl) (pe_slice sl_list (pv 0) (po_some (pv 1)) (po_some (pe_op op_add (pv 1) pe_int))))
      (pss_cons (ps_if (pt_cmpR op_gt (pe_ix (r := rIxL K) ix_list (pv 2) pe_int (fun _ _ => rfl)) pe_int (nomark _)) (pss_one (ps_ret (pe_lst (pa_cons (pv 1) pa_nil)))) pss_nil)
      (pss_cons (ps_if (pt_cmpR op_lt (pe_ix (r := rIxL K) ix_list (pv 2) pe_int (fun _ _ => rfl)) pe_int (nomark _)) (pss_one (ps_ret (pe_tup (pa_cons (pe_ix (r := rIxL K) ix_list (pv 2) pe_int (fun _ _ => rfl)) (pa_cons (pe_op op_add (pv 1) pe_int) pa_nil))))) pss_nil)
      (pss_cons (ps_if (pt_cmpR op_eq (pe_ix (r := rIxL K) ix_list (pv 2) pe_int (fun _ _ => rfl)) pe_int (nomark _)) (pss_cons (ps_if (pt_cmpR op_lt (pe_callB call_len_seq (by rfl) T.m_len (by decide +kernel) (pa_cons (pv 2) pa_nil)) pe_int (nomark _)) (pss_one (ps_ret pe_non)) pss_nil)
      (pss_one (ps_ret (pe_ifExp (pw_and (pt_cmpR op_eq (pe_ix (r := rIxL K) ix_list (pv 2) pe_int (fun _ _ => rfl)) pe_int (nomark _)) (pw_and1 (pt_cmpR op_lt (pe_ix (r := rIxL K) ix_list (pv 2) pe_int (fun _ _ => rfl)) pe_int (nomark _)))).pt (pe_lst (pa_cons (pe_op op_add (pv 1) pe_int) pa_nil)) (pe_tup (pa_cons (pe_op op_add (pe_op op_mul pe_int (pe_ix (r := rIxL K) ix_list (pv 2) pe_int (fun _ _ => rfl))) (pe_ix (r := rIxL K) ix_list (pv 2) pe_int (fun _ _ => rfl))) (pa_cons (pe_op op_add (pv 1) pe_int) pa_nil))))))) pss_nil)
      (pss_cons (ps_if (pt_cmpR (op_eqD hr.units) (pe_slice sl_list (pv 2) (po_some pe_int) (po_some pe_int)) (pe_lst (pa_cons pe_int pa_nil)) (nomark _)) (pss_one (ps_ret (pe_lst (pa_cons (pe_op op_add (pv 1) pe_int) pa_nil)))) pss_nil)
      (pss_one (ps_ret (pe_ifExp (pt_cmpR op_lt (pe_callB call_len_seq (by rfl) T.m_len (by decide +kernel) (pa_cons (pv 2) pa_nil)) pe_int (nomark _)) pe_non (pe_tup (pa_cons (pe_op op_add (pe_op op_add (pe_op op_mul pe_int (pe_ix (r := rIxL K) ix_list (pv 2) pe_int (fun _ _ => rfl))) (pe_op op_mul pe_int (pe_ix (r := rIxL K) ix_list (pv 2) pe_int (fun _ _ => rfl)))) (pe_ix (r := rIxL K) ix_list (pv 2) pe_int (fun _ _ => rfl))) (pa_cons (pe_op op_add (pv 1) pe_int) pa_nil))))))))))), ?_⟩
    refine ⟨.ref a, rfl, .int (i : Int), rfl, _, rfl, .int (i : Int), rfl, (i : Int), 4, rfl, rfl, _, rfl, a, _, rfl, hS, fun so hso => ?_⟩
    have hcut := cut_four ns i (Nat.le_of_lt hi)
    have sH1 : Same H (upd H so (.lst (cutV (ns.map V.int) (some (i : Int)) (some ((i : Int) + 4))))) := same_upd hso
    have eH1 : (upd H so (.lst (cutV (ns.map V.int) (some (i : Int)) (some ((i : Int) + 4))))) so = some (.lst (cutV (ns.map V.int) (some (i : Int)) (some ((i : Int) + 4)))) := upd_same
    generalize upd H so (.lst (cutV (ns.map V.int) (some (i : Int)) (some ((i : Int) + 4)))) = H1 at sH1 eH1 ⊢
    rw [hcut] at eH1
    rw [szAt_drop] at q
    obtain ⟨f, t, hft⟩ : ∃ f t, ns.drop i = f :: t := by
      cases e : ns.drop i with
      | nil =>
        have := congrArg List.length e
        rw [List.length_drop] at this
        simp only [List.length_nil] at this
        omega
      | cons f t => exact ⟨f, t, rfl⟩
    have hbt : Bts (f :: t) := fun x hx => hb x (List.mem_of_mem_drop (hft ▸ hx))
    rw [hft] at q eH1
    have bf := hbt f List.mem_cons_self
    have e1 : H1 so = some (.lst (.int f :: (t.take 3).map V.int)) := eH1
    have tell : ∀ (k : Int), szD (f :: t) (i : Int) = .flt k → ∀ H2, Same H H2 → ∀ l, H2 l = none → Q (.ref l) (upd H2 l (.lst [.int k])) := fun k e H2 s2 l hl => q _ _ (s2.trans (same_upd hl)) (by rw [e]; exact ⟨l, rfl, Same.free s2 hl, upd_same⟩)
    have tellp : ∀ (n b : Int), szD (f :: t) (i : Int) = .pair n b → ∀ H2, Same H H2 → ∀ l, H2 l = none → Q (.ref l) (upd H2 l (.tup [.int n, .int b])) := fun n b e H2 s2 l hl => q _ _ (s2.trans (same_upd hl)) (by rw [e]; exact ⟨l, rfl, Same.free s2 hl, upd_same⟩)
    have telln : szD (f :: t) (i : Int) = .non → ∀ H2, Same H H2 → Q .non H2 := fun e H2 s2 => q _ _ s2 (by rw [e]; exact rfl)
    refine ⟨.ref so, rfl, so, _, 0, .int f, rfl, rfl, sq1 e1, at0, f, 251, rfl, rfl, _, rfl, ite2 (fun e => ?_) (fun e => ?_)⟩
    · have h1 : f > 251 := of_decide_eq_true e
      refine ⟨.int (i : Int), rfl, by show 1 ≤ sizeLine; decide, tell _ ?_ _ sH1⟩
      unfold szD
      dsimp only
      rw [if_neg (by omega), if_neg (by omega), if_neg (by omega)]
    have g1 : ¬ f > 251 := fun z => e (decide_eq_true z)
    refine ⟨.ref so, rfl, so, _, 0, .int f, rfl, rfl, sq1 e1, at0, f, 250, rfl, rfl, _, rfl, ite2 (fun e => ?_) (fun e => ?_)⟩
    · have h1 : f < 250 := of_decide_eq_true e
      refine ⟨.ref so, rfl, so, _, 0, .int f, rfl, rfl, sq1 e1, at0, .int (i : Int), rfl, (i : Int), 1, rfl, rfl, by show 2 ≤ sizeLine; decide, tellp _ _ ?_ _ sH1⟩
      unfold szD
      dsimp only
      rw [if_pos h1]
    have g2 : ¬ f < 250 := fun z => e (decide_eq_true z)
    refine ⟨.ref so, rfl, so, _, 0, .int f, rfl, rfl, sq1 e1, at0, rfl, _, rfl, ite2 (fun e => ?_) (fun e => ?_)⟩
    · have h1 : f = 250 := V.int.inj (of_decide_eq_true e)
      subst h1
      match t, e1, hbt, tell, tellp, telln with
      | [], e1, hbt, tell, tellp, telln => exact ⟨.ref so, rfl, so, _, rfl, .inl (sq1 e1), _, _, rfl, rfl, _, rfl, telln rfl _ sH1⟩
      | [x], e1, hbt, tell, tellp, telln => exact ⟨.ref so, rfl, so, _, rfl, .inl (sq1 e1), _, _, rfl, rfl, _, rfl, telln rfl _ sH1⟩
      | x :: y :: t', e1, hbt, tell, tellp, telln =>
        have bx := hbt x (by simp)
        have by_ := hbt y (by simp)
        refine ⟨.ref so, rfl, so, _, rfl, .inl (sq1 e1), _, _, rfl, rfl, _, rfl, ite2 (fun e => ?_) (fun e => ?_)⟩
        · exfalso
          have z : ((V.int 250 :: (List.take 3 (x :: y :: t')).map V.int).length : Int) < 3 := of_decide_eq_true e
          simp only [List.take_succ_cons, List.map_cons, List.length_cons] at z
          omega
        · refine ⟨.ref so, rfl, so, _, 1, .int x, rfl, rfl, sq1 e1, at1, rfl, _, rfl, ite2 (fun e => ?_) (fun e => ?_)⟩
          · have h2 : x = 0 := V.int.inj (of_decide_eq_true e)
            refine ⟨.ref so, rfl, so, _, 2, .int y, rfl, rfl, sq1 e1, at2, y, 250, rfl, rfl, _, rfl, ite2 (fun e => ?_) (fun e => ?_)⟩
            · have h3 : y < 250 := of_decide_eq_true e
              refine ⟨.int (i : Int), rfl, (i : Int), 2, rfl, rfl, by show 1 ≤ sizeLine; decide, tell _ ?_ _ sH1⟩
              show (if x * 256 + y < 250 then SR.flt _ else _) = _
              rw [if_pos (by omega)]
            · have h3 : ¬ y < 250 := fun z => e (decide_eq_true z)
              refine ⟨.ref so, rfl, so, _, 1, .int x, rfl, rfl, sq1 e1, at1, 256, x, rfl, rfl, .inl ⟨by decide, by decide⟩, .ref so, rfl, so, _, 2, .int y, rfl, rfl, sq1 e1, at2, _, _, rfl, rfl, .int (i : Int), rfl, (i : Int), 3, rfl, rfl, by show 2 ≤ sizeLine; decide, tellp _ _ ?_ _ sH1⟩
              show (if x * 256 + y < 250 then SR.flt _ else _) = _
              rw [if_neg (by omega), Int.mul_comm]
          · have h2 : ¬ x = 0 := fun z => e (decide_eq_true (congrArg V.int z))
            refine ⟨.ref so, rfl, so, _, 1, .int x, rfl, rfl, sq1 e1, at1, 256, x, rfl, rfl, .inl ⟨by decide, by decide⟩, .ref so, rfl, so, _, 2, .int y, rfl, rfl, sq1 e1, at2, _, _, rfl, rfl, .int (i : Int), rfl, (i : Int), 3, rfl, rfl, by show 2 ≤ sizeLine; decide, tellp _ _ ?_ _ sH1⟩
            show (if x * 256 + y < 250 then SR.flt _ else _) = _
            rw [if_neg (by omega), Int.mul_comm]
    · have h1 : ¬ f = 250 := fun z => e (decide_eq_true (congrArg V.int z))
      have h2 : f = 251 := by omega
      subst h2
      match t, e1, hbt, tell, tellp, telln with
      | [], e1, hbt, tell, tellp, telln =>
        refine ⟨.ref so, rfl, _, rfl, _, rfl, so, _, rfl, sq1 e1, fun sl hsl => ?_⟩
        have esl : (upd H1 sl (.lst (cutV (V.int 251 :: List.map V.int (List.take 3 [])) (some 1) (some 2)))) sl = some (.lst (([] : List Int).map V.int)) := upd_same
        have s2 : Same H1 (upd H1 sl (.lst (cutV (V.int 251 :: List.map V.int (List.take 3 [])) (some 1) (some 2)))) := same_upd hsl
        generalize upd H1 sl (.lst (cutV (V.int 251 :: List.map V.int (List.take 3 [])) (some 1) (some 2))) = H2 at esl s2 ⊢
        refine ⟨by show 1 ≤ sizeLine; decide, fun z0 hz0 => ?_⟩
        have s3 := same_upd (o := .lst [.int 0]) hz0
        refine ⟨_, _, dp_ints (sq1 (s3 _ _ esl)), dp_ints (ns := [0]) (sq1 upd_same), shaped_ints _, shaped_ints _, _, rfl, ?_⟩
        exact ⟨.ref so, rfl, so, _, rfl, .inl (sq1 (s3 _ _ (s2 _ _ e1))), _, _, rfl, rfl, _, rfl, telln rfl _ (sH1.trans (s2.trans s3))⟩
      | x :: t', e1, hbt, tell, tellp, telln =>
        have bx := hbt x (by simp)
        refine ⟨.ref so, rfl, _, rfl, _, rfl, so, _, rfl, sq1 e1, fun sl hsl => ?_⟩
        have hc2 : cutV (V.int 251 :: List.map V.int (List.take 3 (x :: t'))) (some 1) (some 2) = ([x] : List Int).map V.int := by
          have := cut_mid (251 :: List.take 3 (x :: t')) 1 2 (by simp) (by simp [List.take_succ_cons])
          exact this.trans rfl
        have sH2 : Same H1 (upd H1 sl (.lst (cutV (V.int 251 :: List.map V.int (List.take 3 (x :: t'))) (some 1) (some 2)))) := same_upd hsl
        have eH2 : (upd H1 sl (.lst (cutV (V.int 251 :: List.map V.int (List.take 3 (x :: t'))) (some 1) (some 2)))) sl = some (.lst (cutV (V.int 251 :: List.map V.int (List.take 3 (x :: t'))) (some 1) (some 2))) := upd_same
        generalize upd H1 sl (.lst (cutV (V.int 251 :: List.map V.int (List.take 3 (x :: t'))) (some 1) (some 2))) = H2 at sH2 eH2 ⊢
        replace e1 := sH2 _ _ e1
        replace sH1 := sH1.trans sH2
        rw [hc2] at eH2
        refine ⟨by show 1 ≤ sizeLine; decide, fun z0 hz0 => ?_⟩
        have sH3 : Same H2 (upd H2 z0 (.lst [.int 0])) := same_upd hz0
        have eH3 : (upd H2 z0 (.lst [.int 0])) z0 = some (.lst [.int 0]) := upd_same
        generalize upd H2 z0 (.lst [.int 0]) = H3 at sH3 eH3 ⊢
        replace e1 := sH3 _ _ e1
        replace eH2 := sH3 _ _ eH2
        replace sH1 := sH1.trans sH3
        refine ⟨_, _, dp_ints (sq1 eH2), dp_ints (ns := [0]) (sq1 eH3), shaped_ints _, shaped_ints _, _, rfl, ?_⟩
        by_cases h3 : x = 0
        · subst h3
          refine ⟨.int (i : Int), rfl, (i : Int), 1, rfl, rfl, by show 1 ≤ sizeLine; decide, tell _ ?_ _ sH1⟩
          rfl
        · have e4 : PyData.eqv (.list (([x] : List Int).map PyData.int)) (.list (([0] : List Int).map PyData.int)) = false := eqv_one h3
          rw [e4]
          match t', e1, hbt, tell, tellp, telln with
          | [], e1, hbt, tell, tellp, telln => exact ⟨.ref so, rfl, so, _, rfl, .inl (sq1 e1), _, _, rfl, rfl, _, rfl, telln (by show (if x = 0 then SR.flt _ else _) = _; rw [if_neg h3]) _ sH1⟩
          | [y], e1, hbt, tell, tellp, telln => exact ⟨.ref so, rfl, so, _, rfl, .inl (sq1 e1), _, _, rfl, rfl, _, rfl, telln (by show (if x = 0 then SR.flt _ else _) = _; rw [if_neg h3]) _ sH1⟩
          | y :: v :: t2, e1, hbt, tell, tellp, telln =>
            have by_ := hbt y (by simp)
            refine ⟨.ref so, rfl, so, _, rfl, .inl (sq1 e1), _, _, rfl, rfl, _, rfl, ?_⟩
            refine ⟨.ref so, rfl, so, _, 1, .int x, rfl, rfl, sq1 e1, at1, 65536, x, rfl, rfl, .inl ⟨by decide, by decide⟩, .ref so, rfl, so, _, 2, .int y, rfl, rfl, sq1 e1, at2, 256, y, rfl, rfl, .inl ⟨by decide, by decide⟩, _, _, rfl, rfl, .ref so, rfl, so, _, 3, .int v, rfl, rfl, sq1 e1, at3, _, _, rfl, rfl, .int (i : Int), rfl, (i : Int), 4, rfl, rfl, by show 2 ≤ sizeLine; decide, tellp _ _ ?_ _ sH1⟩
            show (if x = 0 then SR.flt _ else _) = _
            rw [if_neg h3, Int.mul_comm x, Int.mul_comm y]
end
end K4

set_option Elab.async false
set_option linter.all false
set_option maxRecDepth 100000
set_option maxHeartbeats 4000000
namespace K4
open PySem PySem.Spec PyProof.Rows L2
section
variable {P : Program} {w : World} {K : PySem.W.Frag} {mg : Str → Option Value} {base : Heap}
def spRow : Sp := fun vs H Q _ => ∃ (p : Addr) (a b c : Int), vs = [.ref p] ∧ H p = some (.lst [.int a, .int b, .int c]) ∧ 0 ≤ a ∧ 0 ≤ b ∧ b < 2 ^ 62 ∧ 0 ≤ c ∧ c < 2 ^ 38 ∧
  ∀ (H' : Hp) (l : Addr) (ns : List Int) (a' c' : Int), Keep p H H' → H l = none → H' l = some (.lst (ns.map V.int)) → H' p = some (.lst [.int a', .int b, .int c']) → 0 ≤ a' → c ≤ c' → c' ≤ c + 40 → Bts ns → 1 ≤ ns.length → ns.length ≤ 10 → Q (.ref l) H'
theorem ok_row (T : Tx K mg) : FnOk P w K mg base CX0 3 T.f_row T.fd_row ["_law_box_here"] spRow := by
  refine T.F_row.ok sc_row (fun vs H Q E h => ?_) (fun cdv A outer s H vs Q E hr h => ?_)
  · obtain ⟨p, a, b, c, rfl, _⟩ := h
    rfl
  · obtain ⟨p, a, b, c, rfl, hB, a0, b0, b1, c0, c1, q⟩ := h
    refine ⟨_, (pss_cons (ps_par (i := 1) (j := 2) rfl sc_row.nd rfl rfl (by decide) rfl rfl (pa_cons (pe_call (ok_take T) (hr.mono (by omega)) (by rfl) T.g_take T.F_take.kp T.b_take .nil pass0 (pa_cons (pv 0) (pa_cons pe_int pa_nil))) (pa_cons (pe_call (ok_take T) (hr.mono (by omega)) (by rfl) T.g_take T.F_take.kp T.b_take .nil pass0 (pa_cons (pv 0) (pa_cons (pe_op op_pow pe_int pe_int) pa_nil))) pa_nil)) rfl)
      (pss_cons (ps_set (i := 3) sc_row.nd rfl (.inl rfl) (pe_ix (r := rIxL K) ix_list (pe_lst (pa_cons (pe_call (ok_bytes T) (hr.mono (by omega)) (by rfl) T.g_bytes T.F_bytes.kp T.b_bytes .nil pass0 (pa_cons (pv 0) (pa_cons (pe_op op_add pe_int (pe_call (ok_take T) (hr.mono (by omega)) (by rfl) T.g_take T.F_take.kp T.b_take .nil pass0 (pa_cons (pv 0) (pa_cons pe_int pa_nil)))) pa_nil))) (pa_cons (pe_call (ok_size T) (hr.mono (by omega)) (by rfl) T.g_size T.F_size.kp T.b_size .nil pass0 (pa_cons (pv 2) pa_nil)) (pa_cons (pe_call (ok_size T) (hr.mono (by omega)) (by rfl) T.g_size T.F_size.kp T.b_size .nil pass0 (pa_cons (pe_op op_mod (pv 2) pe_int) pa_nil)) pa_nil)))) (pe_op op_mod (pv 1) pe_int) (fun _ _ => rfl)))
      (pss_cons (ps_set (i := 4) sc_row.nd rfl (.inl rfl) (pe_call (ok_take T) (hr.mono (by omega)) (by rfl) T.g_take T.F_take.kp T.b_take .nil pass0 (pa_cons (pv 0) (pa_cons (pe_callB call_len_seq (by rfl) T.m_len (by decide +kernel) (pa_cons (pv 3) pa_nil)) pa_nil))))
      (pss_cons (ps_set (i := 5) sc_row.nd rfl (.inl rfl) (pe_call (ok_of T) (hr.mono (by omega)) (by rfl) T.g_of T.F_of.kp T.b_of .nil pass0 (pa_cons (pv 0) (pa_cons (pe_lst (pa_cons pe_int (pa_cons pe_int (pa_cons pe_int (pa_cons pe_int (pa_cons pe_int (pa_cons pe_int (pa_cons pe_int (pa_cons (pe_call (ok_take T) (hr.mono (by omega)) (by rfl) T.g_take T.F_take.kp T.b_take .nil pass0 (pa_cons (pv 0) (pa_cons pe_int pa_nil))) pa_nil))))))))) pa_nil))))
      (pss_cons (ps_if (pt_cmpR op_eq (pe_call (ok_take T) (hr.mono (by omega)) (by rfl) T.g_take T.F_take.kp T.b_take .nil pass0 (pa_cons (pv 0) (pa_cons pe_int pa_nil))) pe_int (nomark _)) (pss_one (ps_set (i := 3) sc_row.nd rfl (.inl rfl) (pe_op op_cat (pe_op op_cat (pe_slice sl_list (pv 3) po_none (po_some (pv 4))) (pe_lst (pa_cons (pv 5) pa_nil))) (pe_slice sl_list (pv 3) (po_some (pe_op op_add (pv 4) pe_int)) po_none)))) pss_nil)
      (pss_one (ps_ret (pe_op op_cat (pe_op op_rep (pe_lst (pa_cons (pe_call (ok_of T) (hr.mono (by omega)) (by rfl) T.g_of T.F_of.kp T.b_of .nil pass0 (pa_cons (pv 0) (pa_cons (pe_lst (pa_cons pe_int (pa_cons pe_int (pa_cons pe_int (pa_cons pe_int pa_nil))))) pa_nil))) pa_nil)) (pe_callTy call_int1 (by rfl) T.m_int (by decide +kernel) (pa_cons (pe_cmpR op_eq (pe_call (ok_take T) (hr.mono (by omega)) (by rfl) T.g_take T.F_take.kp T.b_take .nil pass0 (pa_cons (pv 0) (pa_cons pe_int pa_nil))) pe_int (nomark _)) pa_nil))) (pv 3))))))))), ?_⟩
    refine ⟨.ref p, rfl, p, a, b, c, 4, rfl, hB, a0, b0, b1, c0, by omega, by decide, by decide, fun a1 c1' w a10 cl1 cu1 w0 w1 => ?_⟩
    have kH1 : Keep p H (upd H p (.lst [.int a1, .int b, .int c1'])) := (Keep.refl p H).upd
    have eH1 : (upd H p (.lst [.int a1, .int b, .int c1'])) p = some (.lst [.int a1, .int b, .int c1']) := upd_same
    generalize upd H p (.lst [.int a1, .int b, .int c1']) = H1 at kH1 eH1 ⊢
    have kp := kH1
    refine ⟨.ref p, rfl, 2, 24, rfl, rfl, ⟨by decide, by decide, by decide⟩, p, a1, b, c1', _, rfl, eH1, a10, b0, b1, by omega, by omega, by decide, by decide, fun a2 c2 n a20 cl2 cu2 n0 n1' => ⟨_, _, rfl, ?_⟩⟩
    have n1 : n < 16777216 := n1'
    have kH2 : Keep p H1 (upd H1 p (.lst [.int a2, .int b, .int c2])) := (Keep.refl p H1).upd
    have eH2 : (upd H1 p (.lst [.int a2, .int b, .int c2])) p = some (.lst [.int a2, .int b, .int c2]) := upd_same
    generalize upd H1 p (.lst [.int a2, .int b, .int c2]) = H2 at kH2 eH2 ⊢
    replace kp := kp.trans kH2
    -- the row
    refine ⟨.ref p, rfl, .ref p, rfl, p, a2, b, c2, 5, rfl, eH2, a20, b0, b1, by omega, by omega, by decide, by decide, fun a3 c3 m a30 cl3 cu3 m0 m1 => ⟨1, m, rfl, rfl, ?_⟩⟩
    have kH3 : Keep p H2 (upd H2 p (.lst [.int a3, .int b, .int c3])) := (Keep.refl p H2).upd
    have eH3 : (upd H2 p (.lst [.int a3, .int b, .int c3])) p = some (.lst [.int a3, .int b, .int c3]) := upd_same
    generalize upd H2 p (.lst [.int a3, .int b, .int c3]) = H3 at kH3 eH3 ⊢
    replace kp := kp.trans kH3
    refine ⟨p, a3, b, c3, 1 + m, rfl, eH3, a30, b0, b1, by omega, by omega, by omega, by omega, fun H4 g gs a4 c4 hg eg ep a40 cl4 cu4 k4 lg bg => ?_⟩
    have ngp : g ≠ p := (ne_of_none eH3 hg).symm
    replace kp := kp.trans k4
    refine ⟨.int n, rfl, n, rfl, fun s1 hs1 => ?_⟩
    have ns1p : s1 ≠ p := (ne_of_none ep hs1).symm
    have sH5 : Same H4 (upd H4 s1 (.lst ((szB n).map V.int))) := same_upd hs1
    have eH5 : (upd H4 s1 (.lst ((szB n).map V.int))) s1 = some (.lst ((szB n).map V.int)) := upd_same
    generalize upd H4 s1 (.lst ((szB n).map V.int)) = H5 at sH5 eH5 ⊢
    replace ep := sH5 _ _ ep
    replace eg := sH5 _ _ eg
    replace kp := kp.trans (Same.k sH5)
    refine ⟨.int n, rfl, n, 65536, rfl, rfl, (by show (0 : Int) < _; decide), _, rfl, fun s2 hs2 => ?_⟩
    have ns2p : s2 ≠ p := (ne_of_none ep hs2).symm
    have sH6 : Same H5 (upd H5 s2 (.lst ((szB (n % 65536)).map V.int))) := same_upd hs2
    have eH6 : (upd H5 s2 (.lst ((szB (n % 65536)).map V.int))) s2 = some (.lst ((szB (n % 65536)).map V.int)) := upd_same
    generalize upd H5 s2 (.lst ((szB (n % 65536)).map V.int)) = H6 at sH6 eH6 ⊢
    replace ep := sH6 _ _ ep
    replace eg := sH6 _ _ eg
    replace eH5 := sH6 _ _ eH5
    replace kp := kp.trans (Same.k sH6)
    refine ⟨by show 3 ≤ sizeLine; decide, fun l hl => ?_⟩
    have sH7 : Same H6 (upd H6 l (.lst [.ref g, .ref s1, .ref s2])) := same_upd hl
    have eH7 : (upd H6 l (.lst [.ref g, .ref s1, .ref s2])) l = some (.lst [.ref g, .ref s1, .ref s2]) := upd_same
    generalize upd H6 l (.lst [.ref g, .ref s1, .ref s2]) = H7 at sH7 eH7 ⊢
    replace ep := sH7 _ _ ep
    replace eg := sH7 _ _ eg
    replace eH5 := sH7 _ _ eH5
    replace eH6 := sH7 _ _ eH6
    replace kp := kp.trans (Same.k sH7)
    obtain ⟨r, ns, hat, er, hbn, hl0, hl1, nrp⟩ : ∃ (r : Addr) (ns : List Int), atI ([.ref g, .ref s1, .ref s2] : List V) (w % 3) = some (.ref r) ∧ H7 r = some (.lst (ns.map V.int)) ∧ Bts ns ∧ 1 ≤ ns.length ∧ ns.length ≤ 5 ∧ r ≠ p := by
      have h3 : w % 3 = 0 ∨ w % 3 = 1 ∨ w % 3 = 2 := by omega
      rcases h3 with h | h | h
      · rw [h]
        exact ⟨g, gs, rfl, eg, bg, by omega, by omega, ngp⟩
      · rw [h]
        exact ⟨s1, szB n, rfl, eH5, szB_bts n0 n1, (szB_len n).1, by have := (szB_len n).2; omega, ns1p⟩
      · rw [h]
        exact ⟨s2, szB (n % 65536), rfl, eH6, szB_bts (by omega) (by omega), (szB_len _).1, by have := (szB_len (n % 65536)).2; omega, ns2p⟩
    refine ⟨.int w, rfl, w, 3, rfl, rfl, (by show (0 : Int) < _; decide), l, _, _, .ref r, rfl, rfl, sq1 eH7, hat, ?_⟩
    -- spot
    refine ⟨.ref p, rfl, .ref r, rfl, r, _, rfl, .inl (sq1 er), p, a4, b, c4, _, rfl, ep, a40, b0, b1, by omega, by omega, by rw [List.length_map]; omega, by rw [List.length_map]; omega, fun a5 c5 sp a50 cl5 cu5 sp0 sp1 => ?_⟩
    rw [List.length_map] at sp1
    obtain ⟨j, rfl⟩ := Int.eq_ofNat_of_zero_le sp0
    have hj : j < ns.length := by omega
    have kH8 : Keep p H7 (upd H7 p (.lst [.int a5, .int b, .int c5])) := (Keep.refl p H7).upd
    have eH8 : (upd H7 p (.lst [.int a5, .int b, .int c5])) p = some (.lst [.int a5, .int b, .int c5]) := upd_same
    generalize upd H7 p (.lst [.int a5, .int b, .int c5]) = H8 at kH8 eH8 ⊢
    replace er := kH8 _ _ nrp er
    replace kp := kp.trans kH8
    -- byte
    refine ⟨.ref p, rfl, .ref p, rfl, p, a5, b, c5, 256, rfl, eH8, a50, b0, b1, by omega, by omega, by decide, by decide, fun a6 c6 bb a60 cl6 cu6 bb0 bb1 => ?_⟩
    have kH9 : Keep p H8 (upd H8 p (.lst [.int a6, .int b, .int c6])) := (Keep.refl p H8).upd
    have eH9 : (upd H8 p (.lst [.int a6, .int b, .int c6])) p = some (.lst [.int a6, .int b, .int c6]) := upd_same
    generalize upd H8 p (.lst [.int a6, .int b, .int c6]) = H9 at kH9 eH9 ⊢
    replace er := kH9 _ _ nrp er
    replace kp := kp.trans kH9
    refine ⟨by show 8 ≤ sizeLine; decide, fun l2 hl2 => ?_⟩
    have np2 := ne_of_none eH9 hl2
    have sHA : Same H9 (upd H9 l2 (.lst [.int 0, .int 249, .int 250, .int 251, .int 252, .int 255, .int 1, .int bb])) := same_upd hl2
    have eHA : (upd H9 l2 (.lst [.int 0, .int 249, .int 250, .int 251, .int 252, .int 255, .int 1, .int bb])) l2 = some (.lst [.int 0, .int 249, .int 250, .int 251, .int 252, .int 255, .int 1, .int bb]) := upd_same
    generalize upd H9 l2 (.lst [.int 0, .int 249, .int 250, .int 251, .int 252, .int 255, .int 1, .int bb]) = HA at sHA eHA ⊢
    replace eH9 := sHA _ _ eH9
    replace er := sHA _ _ er
    replace kp := kp.trans (Same.k sHA)
    refine ⟨p, l2, a6, b, c6, _, rfl, eH9, a60, b0, b1, by omega, by omega, Ne.symm np2, eHA, (by show 0 < 8; decide), (by show 8 < 1000; decide), fun a7 c7 x a70 cl7 cu7 hx => ?_⟩
    obtain ⟨v, rfl, v0, v1⟩ : ∃ v : Int, x = .int v ∧ 0 ≤ v ∧ v < 256 := by
      simp only [List.mem_cons, List.not_mem_nil, or_false] at hx
      rcases hx with rfl | rfl | rfl | rfl | rfl | rfl | rfl | rfl <;> exact ⟨_, rfl, by omega, by omega⟩
    have kHB : Keep p HA (upd HA p (.lst [.int a7, .int b, .int c7])) := (Keep.refl p HA).upd
    have eHB : (upd HA p (.lst [.int a7, .int b, .int c7])) p = some (.lst [.int a7, .int b, .int c7]) := upd_same
    generalize upd HA p (.lst [.int a7, .int b, .int c7]) = HB at kHB eHB ⊢
    replace er := kHB _ _ nrp er
    replace kp := kp.trans kHB
    refine ⟨.ref p, rfl, p, a7, b, c7, 2, rfl, eHB, a70, b0, b1, by omega, by omega, by decide, by decide, fun a8 c8 y a80 cl8 cu8 y0 y1 => ⟨rfl, _, rfl, ite2 (fun e => ?_) (fun e => ?_)⟩⟩
    · skip
      have kHC : Keep p HB (upd HB p (.lst [.int a8, .int b, .int c8])) := (Keep.refl p HB).upd
      have eHC : (upd HB p (.lst [.int a8, .int b, .int c8])) p = some (.lst [.int a8, .int b, .int c8]) := upd_same
      generalize upd HB p (.lst [.int a8, .int b, .int c8]) = HC at kHC eHC ⊢
      replace er := kHC _ _ nrp er
      replace kp := kp.trans kHC
      refine ⟨.ref r, rfl, .int (j : Int), rfl, _, rfl, r, _, rfl, sq1 er, fun s3 hs3 => ?_⟩
      have sHD : Same HC (upd HC s3 (.lst (cutV (ns.map V.int) none (some (j : Int))))) := same_upd hs3
      have eHD : (upd HC s3 (.lst (cutV (ns.map V.int) none (some (j : Int))))) s3 = some (.lst (cutV (ns.map V.int) none (some (j : Int)))) := upd_same
      generalize upd HC s3 (.lst (cutV (ns.map V.int) none (some (j : Int)))) = HD at sHD eHD ⊢
      replace er := sHD _ _ er
      replace eHC := sHD _ _ eHC
      replace kp := kp.trans (Same.k sHD)
      rw [cut_lo] at eHD
      refine ⟨.int v, rfl, by show 1 ≤ sizeLine; decide, fun l4 hl4 => ?_⟩
      have sHE : Same HD (upd HD l4 (.lst [.int v])) := same_upd hl4
      have eHE : (upd HD l4 (.lst [.int v])) l4 = some (.lst [.int v]) := upd_same
      generalize upd HD l4 (.lst [.int v]) = HE at sHE eHE ⊢
      replace er := sHE _ _ er
      replace eHC := sHE _ _ eHC
      replace eHD := sHE _ _ eHD
      replace kp := kp.trans (Same.k sHE)
      refine ⟨s3, l4, _, _, rfl, rfl, eHD, eHE, (by rw [List.length_map, List.length_take, sizeLine_eq]; show _ + 1 ≤ _; omega), fun l5 hl5 => ?_⟩
      have sHF : Same HE (upd HE l5 (.lst ((ns.take j).map V.int ++ [.int v]))) := same_upd hl5
      have eHF : (upd HE l5 (.lst ((ns.take j).map V.int ++ [.int v]))) l5 = some (.lst ((ns.take j).map V.int ++ [.int v])) := upd_same
      generalize upd HE l5 (.lst ((ns.take j).map V.int ++ [.int v])) = HF at sHF eHF ⊢
      replace er := sHF _ _ er
      replace eHC := sHF _ _ eHC
      replace kp := kp.trans (Same.k sHF)
      refine ⟨.ref r, rfl, .int (j : Int), rfl, (j : Int), 1, rfl, rfl, _, rfl, r, _, rfl, sq1 er, fun s6 hs6 => ?_⟩
      have hc6 : cutV (ns.map V.int) (some ((j : Int) + 1)) none = (ns.drop (j + 1)).map V.int := by
        rw [show (j : Int) + 1 = ((j + 1 : Nat) : Int) by omega]
        exact cut_hi ns (j + 1) (by omega)
      have sHG : Same HF (upd HF s6 (.lst (cutV (ns.map V.int) (some ((j : Int) + 1)) none))) := same_upd hs6
      have eHG : (upd HF s6 (.lst (cutV (ns.map V.int) (some ((j : Int) + 1)) none))) s6 = some (.lst (cutV (ns.map V.int) (some ((j : Int) + 1)) none)) := upd_same
      generalize upd HF s6 (.lst (cutV (ns.map V.int) (some ((j : Int) + 1)) none)) = HG at sHG eHG ⊢
      replace eHF := sHG _ _ eHF
      replace eHC := sHG _ _ eHC
      replace kp := kp.trans (Same.k sHG)
      rw [hc6] at eHG
      refine ⟨l5, s6, _, _, rfl, rfl, eHF, eHG, (by rw [List.length_append, List.length_map, List.length_map, List.length_take, List.length_drop, sizeLine_eq]; show _ + 1 + _ ≤ _; omega), fun l7 hl7 => ?_⟩
      have nl7p : l7 ≠ p := (ne_of_none eHC hl7).symm
      have sHR : Same HG (upd HG l7 (.lst ((ns.take j).map V.int ++ [.int v] ++ (ns.drop (j + 1)).map V.int))) := same_upd hl7
      have eHR : (upd HG l7 (.lst ((ns.take j).map V.int ++ [.int v] ++ (ns.drop (j + 1)).map V.int))) l7 = some (.lst ((ns.take j).map V.int ++ [.int v] ++ (ns.drop (j + 1)).map V.int)) := upd_same
      generalize upd HG l7 (.lst ((ns.take j).map V.int ++ [.int v] ++ (ns.drop (j + 1)).map V.int)) = HR at sHR eHR ⊢
      replace eHC := sHR _ _ eHC
      replace kp := kp.trans (Same.k sHR)
      have er7 : HR l7 = some (.lst ((ns.take j ++ [v] ++ ns.drop (j + 1)).map V.int)) := by rw [List.map_append, List.map_append]; exact eHR
      have hbn7 : Bts (ns.take j ++ [v] ++ ns.drop (j + 1)) := fun x hx => by
        rcases List.mem_append.mp hx with hx | hx
        · rcases List.mem_append.mp hx with hx | hx
          · exact hbn x (List.mem_of_mem_take hx)
          · rw [List.mem_singleton.mp hx]
            exact ⟨v0, v1⟩
        · exact hbn x (List.mem_of_mem_drop hx)
      have hlen7 : (ns.take j ++ [v] ++ ns.drop (j + 1)).length = ns.length := by
        rw [List.length_append, List.length_append, List.length_take, List.length_drop]
        show _ + 1 + _ = _
        omega
      have ep := eHC
      rw [← hlen7] at hl0 hl1
      clear er hbn hj hc6 eHR sp1 hat hlen7
      generalize ns.take j ++ [v] ++ ns.drop (j + 1) = ns at er7 hbn7 hl0 hl1 ⊢
      have er := er7
      have hbn := hbn7
      have nrp := nl7p
      generalize l7 = r at er nrp ⊢
      -- [of(box, [250, 251, 252, 255])] * int(take(box, 3) == 0) + row
      refine ⟨.ref p, rfl, by show 4 ≤ sizeLine; decide, fun l8 hl8 => ?_⟩
      have np8 := ne_of_none ep hl8
      have nr8 := ne_of_none er hl8
      have sHS : Same HR (upd HR l8 (.lst [.int 250, .int 251, .int 252, .int 255])) := same_upd hl8
      have eHS : (upd HR l8 (.lst [.int 250, .int 251, .int 252, .int 255])) l8 = some (.lst [.int 250, .int 251, .int 252, .int 255]) := upd_same
      generalize upd HR l8 (.lst [.int 250, .int 251, .int 252, .int 255]) = HS at sHS eHS ⊢
      replace ep := sHS _ _ ep
      replace er := sHS _ _ er
      replace kp := kp.trans (Same.k sHS)
      refine ⟨p, l8, a8, b, c8, _, rfl, ep, a80, b0, b1, by omega, by omega, Ne.symm np8, eHS, (by show 0 < 4; decide), (by show 4 < 1000; decide), fun a9 c9 x9 a90 cl9 cu9 hx9 => ?_⟩
      obtain ⟨u, rfl, u0, u1⟩ : ∃ u : Int, x9 = .int u ∧ 0 ≤ u ∧ u < 256 := by
        simp only [List.mem_cons, List.not_mem_nil, or_false] at hx9
        rcases hx9 with rfl | rfl | rfl | rfl <;> exact ⟨_, rfl, by decide, by decide⟩
      have kHT : Keep p HS (upd HS p (.lst [.int a9, .int b, .int c9])) := (Keep.refl p HS).upd
      have eHT : (upd HS p (.lst [.int a9, .int b, .int c9])) p = some (.lst [.int a9, .int b, .int c9]) := upd_same
      generalize upd HS p (.lst [.int a9, .int b, .int c9]) = HT at kHT eHT ⊢
      replace er := kHT _ _ nrp er
      replace kp := kp.trans kHT
      refine ⟨by show 1 ≤ sizeLine; decide, fun l9 hl9 => ?_⟩
      have np9 := ne_of_none eHT hl9
      have nr9 := ne_of_none er hl9
      have sHU : Same HT (upd HT l9 (.lst [.int u])) := same_upd hl9
      have eHU : (upd HT l9 (.lst [.int u])) l9 = some (.lst [.int u]) := upd_same
      generalize upd HT l9 (.lst [.int u]) = HU at sHU eHU ⊢
      replace eHT := sHU _ _ eHT
      replace er := sHU _ _ er
      replace kp := kp.trans (Same.k sHU)
      refine ⟨.ref p, rfl, p, a9, b, c9, 3, rfl, eHT, a90, b0, b1, by omega, by omega, by decide, by decide, fun aA cA y9 aA0 clA cuA y90 y91 => ?_⟩
      have kHV : Keep p HU (upd HU p (.lst [.int aA, .int b, .int cA])) := (Keep.refl p HU).upd
      have eHV : (upd HU p (.lst [.int aA, .int b, .int cA])) p = some (.lst [.int aA, .int b, .int cA]) := upd_same
      generalize upd HU p (.lst [.int aA, .int b, .int cA]) = HV at kHV eHV ⊢
      replace er := kHV _ _ nrp er
      replace eHU := kHV _ _ (Ne.symm np9) eHU
      replace kp := kp.trans kHV
      refine ⟨rfl, .inr ⟨_, rfl, ?_⟩⟩
      generalize decide (V.int y9 = V.int 0) = bq
      have hk : ∃ m : Nat, m ≤ 1 ∧ (if bq = true then (1 : Int) else 0) = (m : Int) := by
        cases bq
        · exact ⟨0, by decide, rfl⟩
        · exact ⟨1, by decide, rfl⟩
      refine ⟨l9, _, _, rfl, rfl, eHU, ?_, ?_, ?_, fun lA hlA => ?_⟩
      · cases bq <;> decide
      · cases bq <;> decide
      · cases bq
        · show 1 * 0 ≤ sizeLine; decide
        · show 1 * 1 ≤ sizeLine; decide
      obtain ⟨pre, hpre, hpl, hpb⟩ : ∃ pre : List Int, (List.replicate (Int.toNat (if bq = true then 1 else 0)) [V.int u]).flatten = pre.map V.int ∧ pre.length ≤ 1 ∧ Bts pre := by
        cases bq
        · exact ⟨[], rfl, by decide, fun x hx => by cases hx⟩
        · exact ⟨[u], rfl, by simp, fun x hx => by rw [List.mem_singleton.mp hx]; exact ⟨u0, u1⟩⟩
      have eA : (upd HV lA (.lst (List.replicate (Int.toNat (if bq = true then 1 else 0)) [V.int u]).flatten)) lA = some (.lst (pre.map V.int)) := by rw [upd_same, hpre]
      have sA : Same HV (upd HV lA (.lst (List.replicate (Int.toNat (if bq = true then 1 else 0)) [V.int u]).flatten)) := same_upd hlA
      generalize upd HV lA (.lst (List.replicate (Int.toNat (if bq = true then 1 else 0)) [V.int u]).flatten) = HW at eA sA ⊢
      replace er := sA _ _ er
      replace eHV := sA _ _ eHV
      replace kp := kp.trans (Same.k sA)
      refine ⟨.ref r, rfl, lA, r, _, _, rfl, rfl, eA, er, (by rw [List.length_map, List.length_map, sizeLine_eq]; omega), fun lF hlF => ?_⟩
      have npF := ne_of_none eHV hlF
      have fF : H lF = none := Keep.free kp hlF (Ne.symm npF)
      have sHX : Same HW (upd HW lF (.lst (pre.map V.int ++ ns.map V.int))) := same_upd hlF
      have eHX : (upd HW lF (.lst (pre.map V.int ++ ns.map V.int))) lF = some (.lst (pre.map V.int ++ ns.map V.int)) := upd_same
      generalize upd HW lF (.lst (pre.map V.int ++ ns.map V.int)) = HX at sHX eHX ⊢
      replace eHV := sHX _ _ eHV
      replace kp := kp.trans (Same.k sHX)
      rw [← List.map_append] at eHX
      exact q _ lF (pre ++ ns) aA cA kp fF eHX eHV aA0 (by omega) (by omega) (fun x hx => by
        rcases List.mem_append.mp hx with hx | hx
        · exact hpb x hx
        · exact hbn x hx) (by rw [List.length_append]; omega) (by rw [List.length_append]; omega)
    · skip
      have kHR : Keep p HB (upd HB p (.lst [.int a8, .int b, .int c8])) := (Keep.refl p HB).upd
      have eHR : (upd HB p (.lst [.int a8, .int b, .int c8])) p = some (.lst [.int a8, .int b, .int c8]) := upd_same
      generalize upd HB p (.lst [.int a8, .int b, .int c8]) = HR at kHR eHR ⊢
      replace er := kHR _ _ nrp er
      replace kp := kp.trans kHR
      have ep := eHR
      -- [of(box, [250, 251, 252, 255])] * int(take(box, 3) == 0) + row
      refine ⟨.ref p, rfl, by show 4 ≤ sizeLine; decide, fun l8 hl8 => ?_⟩
      have np8 := ne_of_none ep hl8
      have nr8 := ne_of_none er hl8
      have sHS : Same HR (upd HR l8 (.lst [.int 250, .int 251, .int 252, .int 255])) := same_upd hl8
      have eHS : (upd HR l8 (.lst [.int 250, .int 251, .int 252, .int 255])) l8 = some (.lst [.int 250, .int 251, .int 252, .int 255]) := upd_same
      generalize upd HR l8 (.lst [.int 250, .int 251, .int 252, .int 255]) = HS at sHS eHS ⊢
      replace ep := sHS _ _ ep
      replace er := sHS _ _ er
      replace kp := kp.trans (Same.k sHS)
      refine ⟨p, l8, a8, b, c8, _, rfl, ep, a80, b0, b1, by omega, by omega, Ne.symm np8, eHS, (by show 0 < 4; decide), (by show 4 < 1000; decide), fun a9 c9 x9 a90 cl9 cu9 hx9 => ?_⟩
      obtain ⟨u, rfl, u0, u1⟩ : ∃ u : Int, x9 = .int u ∧ 0 ≤ u ∧ u < 256 := by
        simp only [List.mem_cons, List.not_mem_nil, or_false] at hx9
        rcases hx9 with rfl | rfl | rfl | rfl <;> exact ⟨_, rfl, by decide, by decide⟩
      have kHT : Keep p HS (upd HS p (.lst [.int a9, .int b, .int c9])) := (Keep.refl p HS).upd
      have eHT : (upd HS p (.lst [.int a9, .int b, .int c9])) p = some (.lst [.int a9, .int b, .int c9]) := upd_same
      generalize upd HS p (.lst [.int a9, .int b, .int c9]) = HT at kHT eHT ⊢
      replace er := kHT _ _ nrp er
      replace kp := kp.trans kHT
      refine ⟨by show 1 ≤ sizeLine; decide, fun l9 hl9 => ?_⟩
      have np9 := ne_of_none eHT hl9
      have nr9 := ne_of_none er hl9
      have sHU : Same HT (upd HT l9 (.lst [.int u])) := same_upd hl9
      have eHU : (upd HT l9 (.lst [.int u])) l9 = some (.lst [.int u]) := upd_same
      generalize upd HT l9 (.lst [.int u]) = HU at sHU eHU ⊢
      replace eHT := sHU _ _ eHT
      replace er := sHU _ _ er
      replace kp := kp.trans (Same.k sHU)
      refine ⟨.ref p, rfl, p, a9, b, c9, 3, rfl, eHT, a90, b0, b1, by omega, by omega, by decide, by decide, fun aA cA y9 aA0 clA cuA y90 y91 => ?_⟩
      have kHV : Keep p HU (upd HU p (.lst [.int aA, .int b, .int cA])) := (Keep.refl p HU).upd
      have eHV : (upd HU p (.lst [.int aA, .int b, .int cA])) p = some (.lst [.int aA, .int b, .int cA]) := upd_same
      generalize upd HU p (.lst [.int aA, .int b, .int cA]) = HV at kHV eHV ⊢
      replace er := kHV _ _ nrp er
      replace eHU := kHV _ _ (Ne.symm np9) eHU
      replace kp := kp.trans kHV
      refine ⟨rfl, .inr ⟨_, rfl, ?_⟩⟩
      generalize decide (V.int y9 = V.int 0) = bq
      have hk : ∃ m : Nat, m ≤ 1 ∧ (if bq = true then (1 : Int) else 0) = (m : Int) := by
        cases bq
        · exact ⟨0, by decide, rfl⟩
        · exact ⟨1, by decide, rfl⟩
      refine ⟨l9, _, _, rfl, rfl, eHU, ?_, ?_, ?_, fun lA hlA => ?_⟩
      · cases bq <;> decide
      · cases bq <;> decide
      · cases bq
        · show 1 * 0 ≤ sizeLine; decide
        · show 1 * 1 ≤ sizeLine; decide
      obtain ⟨pre, hpre, hpl, hpb⟩ : ∃ pre : List Int, (List.replicate (Int.toNat (if bq = true then 1 else 0)) [V.int u]).flatten = pre.map V.int ∧ pre.length ≤ 1 ∧ Bts pre := by
        cases bq
        · exact ⟨[], rfl, by decide, fun x hx => by cases hx⟩
        · exact ⟨[u], rfl, by simp, fun x hx => by rw [List.mem_singleton.mp hx]; exact ⟨u0, u1⟩⟩
      have eA : (upd HV lA (.lst (List.replicate (Int.toNat (if bq = true then 1 else 0)) [V.int u]).flatten)) lA = some (.lst (pre.map V.int)) := by rw [upd_same, hpre]
      have sA : Same HV (upd HV lA (.lst (List.replicate (Int.toNat (if bq = true then 1 else 0)) [V.int u]).flatten)) := same_upd hlA
      generalize upd HV lA (.lst (List.replicate (Int.toNat (if bq = true then 1 else 0)) [V.int u]).flatten) = HW at eA sA ⊢
      replace er := sA _ _ er
      replace eHV := sA _ _ eHV
      replace kp := kp.trans (Same.k sA)
      refine ⟨.ref r, rfl, lA, r, _, _, rfl, rfl, eA, er, (by rw [List.length_map, List.length_map, sizeLine_eq]; omega), fun lF hlF => ?_⟩
      have npF := ne_of_none eHV hlF
      have fF : H lF = none := Keep.free kp hlF (Ne.symm npF)
      have sHX : Same HW (upd HW lF (.lst (pre.map V.int ++ ns.map V.int))) := same_upd hlF
      have eHX : (upd HW lF (.lst (pre.map V.int ++ ns.map V.int))) lF = some (.lst (pre.map V.int ++ ns.map V.int)) := upd_same
      generalize upd HW lF (.lst (pre.map V.int ++ ns.map V.int)) = HX at sHX eHX ⊢
      replace eHV := sHX _ _ eHV
      replace kp := kp.trans (Same.k sHX)
      rw [← List.map_append] at eHX
      exact q _ lF (pre ++ ns) aA cA kp fF eHX eHV aA0 (by omega) (by omega) (fun x hx => by
        rcases List.mem_append.mp hx with hx | hx
        · exact hpb x hx
        · exact hbn x hx) (by rw [List.length_append]; omega) (by rw [List.length_append]; omega)
end
end K4

set_option Elab.async false
set_option linter.all false
set_option maxRecDepth 100000
set_option maxHeartbeats 4000000
namespace K4
open PySem PySem.Spec PyProof.Rows L2
section
variable {P : Program} {w : World} {K : PySem.W.Frag} {mg : Str → Option Value} {base : Heap}
def spLaw (K : PySem.W.Frag) : Sp := fun vs H Q _ => ∃ (a : Addr) (ns : List Int), vs = [.ref a] ∧ SqL K H a (ns.map V.int) ∧ ns.length ≤ 63 ∧ ∀ H', Q (.bl true) H'
theorem ok_law {f : Addr} {fd : FuncData} (T : Tx K mg) (F : Fun K "law" "law" s_law f fd) : FnOk P w K mg base CX0 7 f fd ["_law_script"] (spLaw K) := by
  refine F.ok sc_law (fun vs H Q E h => ?_) (fun cdv A outer s H vs Q E hr h => ?_)
  · obtain ⟨a, ns, rfl, _⟩ := h
    rfl
  · obtain ⟨a, scr, rfl, hS, hlen, q⟩ := h
    refine ⟨_, (pss_cons (ps_for PassesOwn.never rfl (pi_range1 (by rfl) T.m_range (pa_cons (pe_op op_add pe_int (pe_callB (call_min2 rfl) (by rfl) T.m_min (by decide +kernel) (pa_cons pe_int (pa_cons (pe_callB call_len_seq (by rfl) T.m_len (by decide +kernel) (pa_cons (pv 0) pa_nil)) pa_nil)))) pa_nil)) (pg_name (i := 1) sc_law.nd rfl (.inl rfl)) (pss_cons (ps_set (i := 2) sc_law.nd rfl (.inl rfl) (pe_call (ok_box T) (hr.mono (by omega)) (by rfl) T.g_box T.F_box.kp T.b_box .nil pass0 (pa_cons (pv 0) (pa_cons (pv 1) pa_nil))))
      (pss_one (ps_for PassesOwn.never rfl (pi_range1 (by rfl) T.m_range (pa_cons pe_int pa_nil)) (pg_name (i := 3) sc_law.nd rfl (.inl rfl)) (pss_cons (ps_set (i := 4) sc_law.nd rfl (.inl rfl) (pe_call (ok_bytes T) (hr.mono (by omega)) (by rfl) T.g_bytes T.F_bytes.kp T.b_bytes .nil pass0 (pa_cons (pv 2) (pa_cons (pe_call (ok_take T) (hr.mono (by omega)) (by rfl) T.g_take T.F_take.kp T.b_take .nil pass0 (pa_cons (pv 2) (pa_cons pe_int pa_nil))) pa_nil))))
      (pss_cons (ps_set (i := 5) sc_law.nd rfl (.inl rfl) (pe_op op_cat (pv 4) (pe_call (ok_row T) (hr.mono (by omega)) (by rfl) T.g_row T.F_row.kp T.b_row .nil pass0 (pa_cons (pv 2) pa_nil))))
      (pss_cons (ps_set (i := 5) sc_law.nd rfl (.inl rfl) (pe_slice sl_list (pv 5) po_none (po_some (pe_op op_add (pe_op op_add (pe_callB call_len_seq (by rfl) T.m_len (by decide +kernel) (pa_cons (pv 4) pa_nil)) pe_int) (pe_call (ok_take T) (hr.mono (by omega)) (by rfl) T.g_take T.F_take.kp T.b_take .nil pass0 (pa_cons (pv 2) (pa_cons pe_int pa_nil)))))))
      (pss_cons (ps_par (i := 6) (j := 7) rfl sc_law.nd rfl rfl (by decide) rfl rfl (pa_cons (pe_callTy call_list_of (by rfl) T.m_list (by decide +kernel) (pa_cons (pv 5) pa_nil)) (pa_cons (pe_call (ok_due T) (hr.mono (by omega)) (by rfl) T.g_due T.F_due.kp T.b_due .nil pass0 (pa_cons (pv 5) (pa_cons (pe_callB call_len_seq (by rfl) T.m_len (by decide +kernel) (pa_cons (pv 4) pa_nil)) pa_nil))) pa_nil)) rfl)
      (pss_cons (ps_for PassesOwn.never rfl (pi_tup (pe_tup (pa_cons (pe_call (ok_told T) (hr.mono (by omega)) (by rfl) T.g_told T.F_told.kp T.b_told .nil pass0 (pa_cons (pv 5) (pa_cons (pe_callB call_len_seq (by rfl) T.m_len (by decide +kernel) (pa_cons (pv 4) pa_nil)) (pa_cons pe_bl pa_nil)))) (pa_cons (pe_call (ok_told T) (hr.mono (by omega)) (by rfl) T.g_told T.F_told.kp T.b_told .nil pass0 (pa_cons (pe_callTy call_tuple_of (by rfl) T.m_tuple (by decide +kernel) (pa_cons (pv 5) pa_nil)) (pa_cons (pe_callB call_len_seq (by rfl) T.m_len (by decide +kernel) (pa_cons (pv 4) pa_nil)) (pa_cons pe_bl pa_nil)))) pa_nil)))) (pg_name (i := 8) sc_law.nd rfl (.inl rfl)) (pss_one (ps_if (pw_or (pt_not (pt_val (pe_call (ok_same T 3) (hr.mono (by omega)) (by rfl) T.g_same T.F_same.kp T.b_same .nil pass0 (pa_cons (pv 8) (pa_cons (pv 7) pa_nil))))) (pw_or1 (pt_cmpR (op_neD hr.units) (pv 5) (pv 6) (nomark _)))).pt (pss_one (ps_ret pe_bl)) pss_nil)))
      (pss_one (ps_if (pw_and (pt_cmpR op_isN (pv 7) pe_non (nomark _)) (pw_and1 (pt_cmpR op_notN (pe_call (ok_told T) (hr.mono (by omega)) (by rfl) T.g_told T.F_told.kp T.b_told .nil pass0 (pa_cons (pv 5) (pa_cons (pe_callB call_len_seq (by rfl) T.m_len (by decide +kernel) (pa_cons (pv 4) pa_nil)) (pa_cons pe_bl pa_nil)))) pe_non (nomark _)))).pt (pss_one (ps_ret pe_bl)) pss_nil)))))))))))
      (pss_one (ps_ret (pe_and (pe_cmpR (op_eqD hr.units) (pe_call (ok_told T) (hr.mono (by omega)) (by rfl) T.g_told T.F_told.kp T.b_told .nil pass0 (pa_cons (pe_lst (pa_cons pe_int (pa_cons pe_int (pa_cons pe_int pa_nil)))) (pa_cons pe_int (pa_cons pe_bl pa_nil)))) (pe_lst (pa_cons pe_int pa_nil)) (nomark _)) (pe_one (pe_cmpR (op_eqD hr.units) (pe_call (ok_told T) (hr.mono (by omega)) (by rfl) T.g_told T.F_told.kp T.b_told .nil pass0 (pa_cons (pe_lst (pa_cons pe_int (pa_cons pe_int pa_nil))) (pa_cons pe_int (pa_cons pe_bl pa_nil)))) (pe_lst (pa_cons pe_int pa_nil)) (nomark _))))))), ?_⟩
    refine ⟨.ref a, rfl, a, _, rfl, .inl hS, _, _, rfl, 1, _, rfl, rfl, _, rfl, ?_, ?_, ?_⟩
    · split <;> omega
    · split <;> omega
    refine for_it walk_range (fun i σ Hc => ∃ (y1 y2 y3 y4 y5 y6 y7 y8 : Option V), σ = [some (.ref a), y1, y2, y3, y4, y5, y6, y7, y8] ∧ Same H Hc) ⟨none, none, none, none, none, none, none, none, rfl, Same.refl H⟩ (fun _ _ _ _ _ => trivial) ?_ ?_
    · rintro i x σ Hc H' hi ⟨y1, y2, y3, y4, y5, y6, y7, y8, rfl, sm⟩ ⟨rfl, rfl⟩
      have hi8 : i ≤ 8 := by
        have : i < (1 + (if ((scr.map V.int).length : Int) < 7 then ((scr.map V.int).length : Int) else 7)).toNat := hi
        split at this <;> omega
      refine ⟨.ref a, rfl, .int (0 + (i : Int)), rfl, a, scr, _, rfl, sm.seq hS, by omega, by omega, fun p x y hp x0 y0 y1' => ?_⟩
      have hHp : H p = none := Same.free sm hp
      have sH0 : Same H' (upd H' p (.lst [.int x, .int y, .int 0])) := same_upd hp
      have eH0 : (upd H' p (.lst [.int x, .int y, .int 0])) p = some (.lst [.int x, .int y, .int 0]) := upd_same
      generalize upd H' p (.lst [.int x, .int y, .int 0]) = H0 at sH0 eH0 ⊢
      replace sm := sm.trans sH0
      refine ⟨10, rfl, by decide, by decide, ?_⟩
      refine for_it walk_range (fun j σ Hc => ∃ (y3 y4 y5 y6 y7 y8 : Option V) (a' c' : Int), σ = [some (.ref a), some (.int (0 + (i : Int))), some (.ref p), y3, y4, y5, y6, y7, y8] ∧ Same H Hc ∧
          Hc p = some (.lst [.int a', .int y, .int c']) ∧ 0 ≤ a' ∧ 0 ≤ c' ∧ c' ≤ 100 * (j : Int)) ⟨_, _, _, _, _, _, x, 0, rfl, sm, eH0, x0, by decide, by decide⟩ (fun _ _ _ _ _ => trivial) ?_ ?_
      · rintro j xj σ Hc H' hj ⟨y3, y4, y5, y6, y7, y8, a6, c6, rfl, smc, ep, a60, c60, c61⟩ ⟨rfl, rfl⟩
        have hj6 : j < 10 := hj
        -- ahead
        refine ⟨.ref p, rfl, .ref p, rfl, p, a6, y, c6, 4, rfl, ep, a60, y0, y1', by omega, by omega, by decide, by decide, fun a8 c8 m a80 cl8 cu8 m0 m1 => ?_⟩
        have kH3 : Keep p H' (upd H' p (.lst [.int a8, .int y, .int c8])) := (Keep.refl p H').upd
        have eH3 : (upd H' p (.lst [.int a8, .int y, .int c8])) p = some (.lst [.int a8, .int y, .int c8]) := upd_same
        generalize upd H' p (.lst [.int a8, .int y, .int c8]) = H3 at kH3 eH3 ⊢
        have k1 := kH3
        refine ⟨p, a8, y, c8, m, rfl, eH3, a80, y0, y1', by omega, by omega, m0, by omega, fun H4 g ns a9 c9 hg eg epb a90 cl9 cu9 k4 lg bg => ?_⟩
        have ngp : g ≠ p := (ne_of_none eH3 hg).symm
        replace k1 := k1.trans k4
        -- row
        refine ⟨.ref g, rfl, .ref p, rfl, p, a9, y, c9, rfl, epb, a90, y0, y1', by omega, by omega, fun H5 l rs b1 d1 k5 hl el epc b10 dl1 du1 brs lr0 lr1 => ?_⟩
        replace eg := k5 _ _ ngp eg
        replace k1 := k1.trans k5
        refine ⟨g, l, _, _, rfl, rfl, eg, el, (by rw [List.length_map, List.length_map, sizeLine_eq]; omega), fun r1 hr1 => ?_⟩
        have nr1p : r1 ≠ p := (ne_of_none epc hr1).symm
        have sH6 : Same H5 (upd H5 r1 (.lst (ns.map V.int ++ rs.map V.int))) := same_upd hr1
        have eH6 : (upd H5 r1 (.lst (ns.map V.int ++ rs.map V.int))) r1 = some (.lst (ns.map V.int ++ rs.map V.int)) := upd_same
        generalize upd H5 r1 (.lst (ns.map V.int ++ rs.map V.int)) = H6 at sH6 eH6 ⊢
        replace epc := sH6 _ _ epc
        replace eg := sH6 _ _ eg
        replace k1 := k1.trans (Same.k sH6)
        rw [← List.map_append] at eH6
        -- cut off
        refine ⟨.ref r1, rfl, .ref g, rfl, g, _, rfl, .inl (sq1 eg), _, 1, rfl, rfl, .ref p, rfl, p, b1, y, d1, 7, rfl, epc, b10, y0, y1', by omega, by omega, by decide, by decide, fun b2 d2 m2 b20 dl2 du2 m20 m21 => ⟨_, m2, rfl, rfl, _, rfl, ?_⟩⟩
        have kH7 : Keep p H6 (upd H6 p (.lst [.int b2, .int y, .int d2])) := (Keep.refl p H6).upd
        have eH7 : (upd H6 p (.lst [.int b2, .int y, .int d2])) p = some (.lst [.int b2, .int y, .int d2]) := upd_same
        generalize upd H6 p (.lst [.int b2, .int y, .int d2]) = H7 at kH7 eH7 ⊢
        replace eg := kH7 _ _ ngp eg
        replace eH6 := kH7 _ _ nr1p eH6
        replace k1 := k1.trans kH7
        refine ⟨r1, _, rfl, sq1 eH6, fun r hr2 => ?_⟩
        obtain ⟨cut, hcut⟩ : ∃ cut : Nat, (((ns.map V.int).length : Int) + 1 + m2) = (cut : Int) := Int.eq_ofNat_of_zero_le (by omega)
        have hcl : ns.length + 1 ≤ cut := by
          rw [List.length_map] at hcut
          omega
        have nrp : r ≠ p := (ne_of_none eH7 hr2).symm
        have sH8 : Same H7 (upd H7 r (.lst (cutV ((ns ++ rs).map V.int) none (some (((ns.map V.int).length : Int) + 1 + m2))))) := same_upd hr2
        have eH8 : (upd H7 r (.lst (cutV ((ns ++ rs).map V.int) none (some (((ns.map V.int).length : Int) + 1 + m2))))) r = some (.lst (cutV ((ns ++ rs).map V.int) none (some (((ns.map V.int).length : Int) + 1 + m2)))) := upd_same
        generalize upd H7 r (.lst (cutV ((ns ++ rs).map V.int) none (some (((ns.map V.int).length : Int) + 1 + m2)))) = H8 at sH8 eH8 ⊢
        replace eH7 := sH8 _ _ eH7
        replace eg := sH8 _ _ eg
        replace k1 := k1.trans (Same.k sH8)
        rw [hcut, cut_lo] at eH8
        have hbr : Bts ((ns ++ rs).take cut) := fun x hx => by
          rcases List.mem_append.mp (List.mem_of_mem_take hx) with hx | hx
          · exact bg x hx
          · exact brs x hx
        have hlr : ns.length < ((ns ++ rs).take cut).length := by
          rw [List.length_take, List.length_append]
          omega
        have hlr2 : ((ns ++ rs).take cut).length ≤ 1000000 := by
          rw [List.length_take, List.length_append]
          omega
        generalize (ns ++ rs).take cut = row at eH8 hbr hlr hlr2 ⊢
        have hz : ((ns.map V.int).length : Int) = (ns.length : Int) := by rw [List.length_map]
        -- kept, due
        refine ⟨.ref r, rfl, r, _, rfl, .inl (sq1 eH8), fun kp hkp => ?_⟩
        have sH9 : Same H8 (upd H8 kp (.lst (row.map V.int))) := same_upd hkp
        have eH9 : (upd H8 kp (.lst (row.map V.int))) kp = some (.lst (row.map V.int)) := upd_same
        generalize upd H8 kp (.lst (row.map V.int)) = H9 at sH9 eH9 ⊢
        replace eH7 := sH9 _ _ eH7
        replace eg := sH9 _ _ eg
        replace eH8 := sH9 _ _ eH8
        replace k1 := k1.trans (Same.k sH9)
        refine ⟨.ref r, rfl, .ref g, rfl, g, _, rfl, .inl (sq1 eg), r, row, ns.length, _, rfl, hz, sq1 eH8, hbr, hlr, fun HA v sA tA => ⟨_, _, rfl, ?_⟩⟩
        rw [hz] at tA
        replace eH7 := sA _ _ eH7
        replace eg := sA _ _ eg
        replace eH8 := sA _ _ eH8
        replace eH9 := sA _ _ eH9
        replace k1 := k1.trans (Same.k sA)
        -- told twice
        refine ⟨.ref r, rfl, .ref g, rfl, g, _, rfl, .inl (sq1 eg), r, row, ns.length, _, false, rfl, hz, .inl (sq1 eH8), hbr, hlr2, Nat.le_of_lt hlr, fun HB u1 sB tB => ?_⟩
        rw [hz] at tB
        replace eH7 := sB _ _ eH7
        replace eg := sB _ _ eg
        replace eH8 := sB _ _ eH8
        replace eH9 := sB _ _ eH9
        replace k1 := k1.trans (Same.k sB)
        replace tA := tA.same sB
        refine ⟨.ref r, rfl, r, _, rfl, .inl ⟨sq1 eH8, fun tp htp => ?_⟩⟩
        have sHC : Same HB (upd HB tp (.tup (row.map V.int))) := same_upd htp
        have eHC : (upd HB tp (.tup (row.map V.int))) tp = some (.tup (row.map V.int)) := upd_same
        generalize upd HB tp (.tup (row.map V.int)) = HC at sHC eHC ⊢
        replace eH7 := sHC _ _ eH7
        replace eg := sHC _ _ eg
        replace eH8 := sHC _ _ eH8
        replace eH9 := sHC _ _ eH9
        replace k1 := k1.trans (Same.k sHC)
        replace tA := tA.same sHC
        replace tB := tB.same sHC
        refine ⟨.ref g, rfl, g, _, rfl, .inl (sq1 eg), tp, row, ns.length, _, true, rfl, hz, .inr (st1 eHC), hbr, hlr2, Nat.le_of_lt hlr, fun HD u2 sD tD => ?_⟩
        rw [hz] at tD
        replace eH7 := sD _ _ eH7
        replace eg := sD _ _ eg
        replace eH8 := sD _ _ eH8
        replace eH9 := sD _ _ eH9
        replace k1 := k1.trans (Same.k sD)
        replace tA := tA.same sD
        replace tB := tB.same sD
        refine ⟨by show 2 ≤ sizeLine; decide, fun pr hpr => ?_⟩
        have sHE : Same HD (upd HD pr (.tup [u1, u2])) := same_upd hpr
        have eHE : (upd HD pr (.tup [u1, u2])) pr = some (.tup [u1, u2]) := upd_same
        generalize upd HD pr (.tup [u1, u2]) = HE at sHE eHE ⊢
        replace eH7 := sHE _ _ eH7
        replace eg := sHE _ _ eg
        replace eH8 := sHE _ _ eH8
        replace eH9 := sHE _ _ eH9
        replace k1 := k1.trans (Same.k sHE)
        replace tA := tA.same sHE
        replace tB := tB.same sHE
        replace tD := tD.same sHE
        refine ⟨pr, rfl, ⟨_, st1 eHE⟩, ?_⟩
        refine for_it (walk_tup (xs := [u1, u2])) (fun _ σ Hc => ∃ (y8 : Option V), σ = [some (.ref a), some (.int (0 + (i : Int))), some (.ref p), some (.int (0 + (j : Int))), some (.ref g), some (.ref r), some (.ref kp), some v, y8] ∧ Same HE Hc) ?_ ?_ ?_ ?_
        · exact ⟨_, rfl, Same.refl _⟩
        · rintro k σ Hc hk ⟨y8, rfl, sc⟩
          exact st1 (sc _ _ eHE)
        · rintro k xk σ Hc H' hk ⟨y8, rfl, sc⟩ ⟨rfl, hx'⟩
          obtain ⟨Ha, hxa⟩ : ∃ Ha, Told Ha HE (szAt row ns.length (ns.length : Int)) xk := by
            match k, hx' with
            | 0, h => cases h; exact ⟨_, tB⟩
            | 1, h => cases h; exact ⟨_, tD⟩
            | k + 2, h => cases h
          refine ⟨xk, rfl, v, rfl, xk, v, rfl, Told.sm (hxa.same sc) (tA.same sc), fun HF sF => ⟨true, rfl, ?_⟩⟩
          have s2 := sc.trans sF
          refine ⟨.ref r, rfl, .ref kp, rfl, _, _, dp_ints (sq1 (s2 _ _ eH8)), dp_ints (sq1 (s2 _ _ eH9)), shaped_ints _, shaped_ints _, _, rfl, ?_⟩
          rw [eqv_ints]
          exact ⟨_, rfl, s2⟩
        · rintro σ Hc ⟨y8, rfl, sc⟩
          refine ⟨v, rfl, rfl, _, rfl, ite2 (fun e => ?_) (fun e => ?_)⟩
          · have ev : v = .non := of_decide_eq_true e
            refine ⟨.ref r, rfl, .ref g, rfl, g, _, rfl, .inl (sq1 (sc _ _ eg)), r, row, ns.length, _, true, rfl, hz, .inl (sq1 (sc _ _ eH8)), hbr, hlr2, Nat.le_of_lt hlr, fun HG u3 sG tG => ?_⟩
            rw [hz] at tG
            have e3 : u3 = .non := by
              rw [ev] at tA
              cases hr' : szAt row ns.length (ns.length : Int) with
              | non => rw [hr'] at tG; exact tG
              | pair n b => rw [hr'] at tA; obtain ⟨_, z, _⟩ := tA; cases z
              | flt n => rw [hr'] at tA; obtain ⟨_, z, _⟩ := tA; cases z
            subst e3
            exact ⟨rfl, _, rfl, ⟨_, _, _, _, _, _, b2, d2, rfl, Same.keep smc (k1.trans (Same.k (sc.trans sG))) hHp, (sc.trans sG) _ _ eH7, b20, by omega, by omega⟩⟩
          · exact ⟨_, _, _, _, _, _, b2, d2, rfl, Same.keep smc (k1.trans (Same.k sc)) hHp, sc _ _ eH7, b20, by omega, by omega⟩
      · rintro σ Hc ⟨y3, y4, y5, y6, y7, y8, a6, c6, rfl, smc, ep, a60, c60, c61⟩
        exact ⟨_, _, _, _, _, _, _, _, rfl, smc⟩
    · rintro σ Hc ⟨y1, y2, y3, y4, y5, y6, y7, y8, rfl, sm⟩
      refine ⟨by show 3 ≤ sizeLine; decide, fun l1 hl1 => ?_⟩
      have sH1 : Same Hc (upd Hc l1 (.lst [.int 250, .int 0, .int 249])) := same_upd hl1
      have eH1 : (upd Hc l1 (.lst [.int 250, .int 0, .int 249])) l1 = some (.lst [.int 250, .int 0, .int 249]) := upd_same
      generalize upd Hc l1 (.lst [.int 250, .int 0, .int 249]) = H1 at sH1 eH1 ⊢
      refine ⟨l1, [250, 0, 249], 0, 0, false, rfl, rfl, .inl (sq1 eH1), (by unfold Bts; decide), by decide, by decide, fun H2 v s2 t2 => ?_⟩
      obtain ⟨l2, rfl, _, e2⟩ := t2
      refine ⟨by show 1 ≤ sizeLine; decide, fun l3 hl3 => ?_⟩
      have sH3 : Same H2 (upd H2 l3 (.lst [.int 2])) := same_upd hl3
      have eH3 : (upd H2 l3 (.lst [.int 2])) l3 = some (.lst [.int 2]) := upd_same
      generalize upd H2 l3 (.lst [.int 2]) = H3 at sH3 eH3 ⊢
      replace e2 := sH3 _ _ e2
      refine ⟨_, _, dp_ints (ns := [2]) (sq1 e2), dp_ints (ns := [2]) (sq1 eH3), shaped_ints _, shaped_ints _, ?_⟩
      rw [eqv_ints]
      refine ⟨true, rfl, ?_⟩
      refine ⟨by show 2 ≤ sizeLine; decide, fun l4 hl4 => ?_⟩
      have sH4 : Same H3 (upd H3 l4 (.lst [.int 251, .int 0])) := same_upd hl4
      have eH4 : (upd H3 l4 (.lst [.int 251, .int 0])) l4 = some (.lst [.int 251, .int 0]) := upd_same
      generalize upd H3 l4 (.lst [.int 251, .int 0]) = H4 at sH4 eH4 ⊢
      refine ⟨l4, [251, 0], 0, 0, true, rfl, rfl, .inl (sq1 eH4), (by unfold Bts; decide), by decide, by decide, fun H5 v s5 t5 => ?_⟩
      obtain ⟨l5, rfl, _, e5⟩ := t5
      refine ⟨by show 1 ≤ sizeLine; decide, fun l6 hl6 => ?_⟩
      have sH6 : Same H5 (upd H5 l6 (.lst [.int 1])) := same_upd hl6
      have eH6 : (upd H5 l6 (.lst [.int 1])) l6 = some (.lst [.int 1]) := upd_same
      generalize upd H5 l6 (.lst [.int 1]) = H6 at sH6 eH6 ⊢
      replace e5 := sH6 _ _ e5
      refine ⟨_, _, dp_ints (ns := [1]) (sq1 e5), dp_ints (ns := [1]) (sq1 eH6), shaped_ints _, shaped_ints _, ?_⟩
      rw [eqv_ints]
      exact q _
end
end K4

set_option Elab.async false
set_option linter.all false
set_option maxRecDepth 100000
set_option maxHeartbeats 4000000
namespace K4
open PySem PySem.Spec PyProof.Rows L2

theorem vals_rev : ∀ {xs : List V} {us : List Value}, Vals xs us → Vals xs.reverse us.reverse
  | _, _, .nil => .nil
  | _, _, .cons r t => by
    rw [List.reverse_cons, List.reverse_cons]
    exact (vals_rev t).append (.cons r .nil)
theorem mk_kb_size_at_0_at_codes {K : PySem.W.Frag} {f : Addr} {fd : FuncData} (F : Fun K "size_at" "size_at" s_size_at f fd) : KBn K fd ["codes", "at"] 0 ["at", "codes"] (fun us ws => us ++ ws.reverse) (fun vs zs => vs ++ zs.reverse) := by
  obtain ⟨oc, od, kV, doc, pm, an, cdv, ct, osl, rfl, lk, hcd⟩ := F.ex
  exact ⟨fun s us ws _ h1 h2 => match us, ws, h1, h2 with | [], [_, _], _, _ => .of_eq rfl, fun r1 r2 => r1.append (vals_rev r2)⟩
theorem all_mk {l : PySem.W.OpenLaw} {w : World} {K : PySem.W.Frag} {h : Heap} {mg : Str → Option Value} {fa f0 f1 f2 f3 f4 f5 f6 f7 f8 f9 f10 f11 f12 f13 : Addr} (X : K.In h) (G : h.Ns mainGlobals mg) (hfa : mg "law" = some (.ref fa))
    {od0 an0 : Option Addr} {sl0 : Array (Option Value)} {oc0 kV0 dc0 pm0 cd0 ct0 : Value}
    (a0 : PySem.W.nsIn K mainGlobals "size_of_two" = some (some (.ref f0))) (l0 : K.lookup f0 = some ⟨oc0, od0, .func (PySem.W.fnOf "size_of_two" "size_of_two" (defArgs s_size_of_two) (defBody s_size_of_two) (defScope s_size_of_two) .none kV0 dc0 pm0 an0 cd0 ct0), sl0⟩) (c0 : PySem.W.codeIn K cd0 "size_of_two" = true) (k0 : PySem.W.keepIn K (.ref f0) = true)
    {od1 an1 : Option Addr} {sl1 : Array (Option Value)} {oc1 kV1 dc1 pm1 cd1 ct1 : Value}
    (a1 : PySem.W.nsIn K mainGlobals "size_of_three" = some (some (.ref f1))) (l1 : K.lookup f1 = some ⟨oc1, od1, .func (PySem.W.fnOf "size_of_three" "size_of_three" (defArgs s_size_of_three) (defBody s_size_of_three) (defScope s_size_of_three) .none kV1 dc1 pm1 an1 cd1 ct1), sl1⟩) (c1 : PySem.W.codeIn K cd1 "size_of_three" = true) (k1 : PySem.W.keepIn K (.ref f1) = true)
    {od2 an2 : Option Addr} {sl2 : Array (Option Value)} {oc2 kV2 dc2 pm2 cd2 ct2 : Value}
    (a2 : PySem.W.nsIn K mainGlobals "size_at" = some (some (.ref f2))) (l2 : K.lookup f2 = some ⟨oc2, od2, .func (PySem.W.fnOf "size_at" "size_at" (defArgs s_size_at) (defBody s_size_at) (defScope s_size_at) .none kV2 dc2 pm2 an2 cd2 ct2), sl2⟩) (c2 : PySem.W.codeIn K cd2 "size_at" = true) (k2 : PySem.W.keepIn K (.ref f2) = true)
    {od3 an3 : Option Addr} {sl3 : Array (Option Value)} {oc3 kV3 dc3 pm3 cd3 ct3 : Value}
    (a3 : PySem.W.nsIn K mainGlobals "_law_cell_at" = some (some (.ref f3))) (l3 : K.lookup f3 = some ⟨oc3, od3, .func (PySem.W.fnOf "_law_cell_at" "_law_cell_at" (defArgs s_cell_at) (defBody s_cell_at) (defScope s_cell_at) .none kV3 dc3 pm3 an3 cd3 ct3), sl3⟩) (c3 : PySem.W.codeIn K cd3 "_law_cell_at" = true) (k3 : PySem.W.keepIn K (.ref f3) = true)
    {od4 an4 : Option Addr} {sl4 : Array (Option Value)} {oc4 kV4 dc4 pm4 cd4 ct4 : Value}
    (a4 : PySem.W.nsIn K mainGlobals "_law_box" = some (some (.ref f4))) (l4 : K.lookup f4 = some ⟨oc4, od4, .func (PySem.W.fnOf "_law_box" "_law_box" (defArgs s_box) (defBody s_box) (defScope s_box) .none kV4 dc4 pm4 an4 cd4 ct4), sl4⟩) (c4 : PySem.W.codeIn K cd4 "_law_box" = true) (k4 : PySem.W.keepIn K (.ref f4) = true)
    {od5 an5 : Option Addr} {sl5 : Array (Option Value)} {oc5 kV5 dc5 pm5 cd5 ct5 : Value}
    (a5 : PySem.W.nsIn K mainGlobals "_law_take" = some (some (.ref f5))) (l5 : K.lookup f5 = some ⟨oc5, od5, .func (PySem.W.fnOf "_law_take" "_law_take" (defArgs s_take) (defBody s_take) (defScope s_take) .none kV5 dc5 pm5 an5 cd5 ct5), sl5⟩) (c5 : PySem.W.codeIn K cd5 "_law_take" = true) (k5 : PySem.W.keepIn K (.ref f5) = true)
    {od6 an6 : Option Addr} {sl6 : Array (Option Value)} {oc6 kV6 dc6 pm6 cd6 ct6 : Value}
    (a6 : PySem.W.nsIn K mainGlobals "_law_same" = some (some (.ref f6))) (l6 : K.lookup f6 = some ⟨oc6, od6, .func (PySem.W.fnOf "_law_same" "_law_same" (defArgs s_same) (defBody s_same) (defScope s_same) .none kV6 dc6 pm6 an6 cd6 ct6), sl6⟩) (c6 : PySem.W.codeIn K cd6 "_law_same" = true) (k6 : PySem.W.keepIn K (.ref f6) = true)
    {od7 an7 : Option Addr} {sl7 : Array (Option Value)} {oc7 kV7 dc7 pm7 cd7 ct7 : Value}
    (a7 : PySem.W.nsIn K mainGlobals "_law_of" = some (some (.ref f7))) (l7 : K.lookup f7 = some ⟨oc7, od7, .func (PySem.W.fnOf "_law_of" "_law_of" (defArgs s_of) (defBody s_of) (defScope s_of) .none kV7 dc7 pm7 an7 cd7 ct7), sl7⟩) (c7 : PySem.W.codeIn K cd7 "_law_of" = true) (k7 : PySem.W.keepIn K (.ref f7) = true)
    {od8 an8 : Option Addr} {sl8 : Array (Option Value)} {oc8 kV8 dc8 pm8 cd8 ct8 : Value}
    (a8 : PySem.W.nsIn K mainGlobals "_law_bytes" = some (some (.ref f8))) (l8 : K.lookup f8 = some ⟨oc8, od8, .func (PySem.W.fnOf "_law_bytes" "_law_bytes" (defArgs s_bytes) (defBody s_bytes) (defScope s_bytes) .none kV8 dc8 pm8 an8 cd8 ct8), sl8⟩) (c8 : PySem.W.codeIn K cd8 "_law_bytes" = true) (k8 : PySem.W.keepIn K (.ref f8) = true)
    {od9 an9 : Option Addr} {sl9 : Array (Option Value)} {oc9 kV9 dc9 pm9 cd9 ct9 : Value}
    (a9 : PySem.W.nsIn K mainGlobals "_law_size" = some (some (.ref f9))) (l9 : K.lookup f9 = some ⟨oc9, od9, .func (PySem.W.fnOf "_law_size" "_law_size" (defArgs s_size) (defBody s_size) (defScope s_size) .none kV9 dc9 pm9 an9 cd9 ct9), sl9⟩) (c9 : PySem.W.codeIn K cd9 "_law_size" = true) (k9 : PySem.W.keepIn K (.ref f9) = true)
    {od10 an10 : Option Addr} {sl10 : Array (Option Value)} {oc10 kV10 dc10 pm10 cd10 ct10 : Value}
    (a10 : PySem.W.nsIn K mainGlobals "_law_due" = some (some (.ref f10))) (l10 : K.lookup f10 = some ⟨oc10, od10, .func (PySem.W.fnOf "_law_due" "_law_due" (defArgs s_due) (defBody s_due) (defScope s_due) .none kV10 dc10 pm10 an10 cd10 ct10), sl10⟩) (c10 : PySem.W.codeIn K cd10 "_law_due" = true) (k10 : PySem.W.keepIn K (.ref f10) = true)
    {od11 an11 : Option Addr} {sl11 : Array (Option Value)} {oc11 kV11 dc11 pm11 cd11 ct11 : Value}
    (a11 : PySem.W.nsIn K mainGlobals "_law_told" = some (some (.ref f11))) (l11 : K.lookup f11 = some ⟨oc11, od11, .func (PySem.W.fnOf "_law_told" "_law_told" (defArgs s_told) (defBody s_told) (defScope s_told) .none kV11 dc11 pm11 an11 cd11 ct11), sl11⟩) (c11 : PySem.W.codeIn K cd11 "_law_told" = true) (k11 : PySem.W.keepIn K (.ref f11) = true)
    {od12 an12 : Option Addr} {sl12 : Array (Option Value)} {oc12 kV12 dc12 pm12 cd12 ct12 : Value}
    (a12 : PySem.W.nsIn K mainGlobals "_law_row" = some (some (.ref f12))) (l12 : K.lookup f12 = some ⟨oc12, od12, .func (PySem.W.fnOf "_law_row" "_law_row" (defArgs s_row) (defBody s_row) (defScope s_row) .none kV12 dc12 pm12 an12 cd12 ct12), sl12⟩) (c12 : PySem.W.codeIn K cd12 "_law_row" = true) (k12 : PySem.W.keepIn K (.ref f12) = true)
    {od13 an13 : Option Addr} {sl13 : Array (Option Value)} {oc13 kV13 dc13 pm13 cd13 ct13 : Value}
    (a13 : PySem.W.nsIn K mainGlobals "law" = some (some (.ref f13))) (l13 : K.lookup f13 = some ⟨oc13, od13, .func (PySem.W.fnOf "law" "law" (defArgs s_law) (defBody s_law) (defScope s_law) .none kV13 dc13 pm13 an13 cd13 ct13), sl13⟩) (c13 : PySem.W.codeIn K cd13 "law" = true) (k13 : PySem.W.keepIn K (.ref f13) = true)
    {tk_SIZE : Tok} (a_SIZE : PySem.W.nsIn K mainGlobals "SIZE" = some (some (.int 12 tk_SIZE)))
    {tk_TWO_FOLLOW : Tok} (a_TWO_FOLLOW : PySem.W.nsIn K mainGlobals "TWO_FOLLOW" = some (some (.int 250 tk_TWO_FOLLOW)))
    {tk_THREE_FOLLOW : Tok} (a_THREE_FOLLOW : PySem.W.nsIn K mainGlobals "THREE_FOLLOW" = some (some (.int 251 tk_THREE_FOLLOW)))
    {C_BadSlip f_BadSlip N_BadSlip : Addr} {nm_BadSlip q_BadSlip : Str} {bs_BadSlip sub_BadSlip : List Value} {sn_BadSlip : List Str} {ab_BadSlip : Bool} {col_BadSlip : Option Bool} {dd_BadSlip : Option Addr} {k0_BadSlip k1_BadSlip k2_BadSlip k3_BadSlip k5_BadSlip : Option Value} {od_BadSlip an_BadSlip : Option Addr} {sl_BadSlip : Array (Option Value)} {oc_BadSlip kV_BadSlip dc_BadSlip pm_BadSlip cd_BadSlip ct_BadSlip : Value} (a_BadSlip : PySem.W.nsIn K mainGlobals "BadSlip" = some (some (.ref C_BadSlip))) (x_BadSlip : K.lookup C_BadSlip = some (excClassObj nm_BadSlip q_BadSlip C_BadSlip N_BadSlip bs_BadSlip bm_ValueError true sn_BadSlip sub_BadSlip ab_BadSlip col_BadSlip dd_BadSlip k0_BadSlip k1_BadSlip k2_BadSlip k3_BadSlip k5_BadSlip "ValueError.__new__")) (sa_BadSlip : PySem.W.findIn K (.ref C_BadSlip) "__setattr__" = some (some (.builtin "object.__setattr__"))) (ga_BadSlip : PySem.W.findIn K (.ref C_BadSlip) "__getattribute__" = some (some (.builtin "BaseException.__getattribute__"))) (gk_BadSlip : PySem.W.findIn K (.ref C_BadSlip) "__getattr__" = some none) (hs_BadSlip : PySem.W.subIn K (.ref C_BadSlip) (.type "BaseException") = some true) (hd_BadSlip : PySem.W.hasDictIn K C_BadSlip = true) (ha_BadSlip : PySem.W.findIn K (.ref C_BadSlip) "__class__" = some (some (.builtin "object.__class__"))) (hm_BadSlip : PySem.W.mroIn K C_BadSlip (.type "object") = some true) (ty_BadSlip : PySem.W.typeIn K (.ref C_BadSlip) = some (.type "type")) (kC_BadSlip : PySem.W.keepIn K (.ref C_BadSlip) = true) (i_BadSlip : PySem.W.findIn K (.ref C_BadSlip) "__init__" = some (some (.ref f_BadSlip))) (t_BadSlip : PySem.W.typeIn K (.ref f_BadSlip) = some (.type "function")) (l_BadSlip : K.lookup f_BadSlip = some ⟨oc_BadSlip, od_BadSlip, .func (PySem.W.fnOf "__init__" "BadSlip.__init__" (defArgs s_BadSlip) (defBody s_BadSlip) (defScope s_BadSlip) .none kV_BadSlip dc_BadSlip pm_BadSlip an_BadSlip cd_BadSlip ct_BadSlip), sl_BadSlip⟩) (c_BadSlip : PySem.W.codeIn K cd_BadSlip "BadSlip.__init__" = true) (k_BadSlip : PySem.W.keepIn K (.ref f_BadSlip) = true) (n_BadSlip_part : PySem.W.findIn K (.ref C_BadSlip) "part" = some none)
    {C_BadLetter f_BadLetter N_BadLetter : Addr} {nm_BadLetter q_BadLetter : Str} {bs_BadLetter sub_BadLetter : List Value} {sn_BadLetter : List Str} {ab_BadLetter : Bool} {col_BadLetter : Option Bool} {dd_BadLetter : Option Addr} {k0_BadLetter k1_BadLetter k2_BadLetter k3_BadLetter k5_BadLetter : Option Value} {od_BadLetter an_BadLetter : Option Addr} {sl_BadLetter : Array (Option Value)} {oc_BadLetter kV_BadLetter dc_BadLetter pm_BadLetter cd_BadLetter ct_BadLetter : Value} (a_BadLetter : PySem.W.nsIn K mainGlobals "BadLetter" = some (some (.ref C_BadLetter))) (x_BadLetter : K.lookup C_BadLetter = some (excClassObj nm_BadLetter q_BadLetter C_BadLetter N_BadLetter bs_BadLetter bm_ValueError true sn_BadLetter sub_BadLetter ab_BadLetter col_BadLetter dd_BadLetter k0_BadLetter k1_BadLetter k2_BadLetter k3_BadLetter k5_BadLetter "ValueError.__new__")) (sa_BadLetter : PySem.W.findIn K (.ref C_BadLetter) "__setattr__" = some (some (.builtin "object.__setattr__"))) (ga_BadLetter : PySem.W.findIn K (.ref C_BadLetter) "__getattribute__" = some (some (.builtin "BaseException.__getattribute__"))) (gk_BadLetter : PySem.W.findIn K (.ref C_BadLetter) "__getattr__" = some none) (hs_BadLetter : PySem.W.subIn K (.ref C_BadLetter) (.type "BaseException") = some true) (hd_BadLetter : PySem.W.hasDictIn K C_BadLetter = true) (ha_BadLetter : PySem.W.findIn K (.ref C_BadLetter) "__class__" = some (some (.builtin "object.__class__"))) (hm_BadLetter : PySem.W.mroIn K C_BadLetter (.type "object") = some true) (ty_BadLetter : PySem.W.typeIn K (.ref C_BadLetter) = some (.type "type")) (kC_BadLetter : PySem.W.keepIn K (.ref C_BadLetter) = true) (i_BadLetter : PySem.W.findIn K (.ref C_BadLetter) "__init__" = some (some (.ref f_BadLetter))) (t_BadLetter : PySem.W.typeIn K (.ref f_BadLetter) = some (.type "function")) (l_BadLetter : K.lookup f_BadLetter = some ⟨oc_BadLetter, od_BadLetter, .func (PySem.W.fnOf "__init__" "BadLetter.__init__" (defArgs s_BadLetter) (defBody s_BadLetter) (defScope s_BadLetter) .none kV_BadLetter dc_BadLetter pm_BadLetter an_BadLetter cd_BadLetter ct_BadLetter), sl_BadLetter⟩) (c_BadLetter : PySem.W.codeIn K cd_BadLetter "BadLetter.__init__" = true) (k_BadLetter : PySem.W.keepIn K (.ref f_BadLetter) = true) (n_BadLetter_part : PySem.W.findIn K (.ref C_BadLetter) "part" = some none)
    {C_BadEnd f_BadEnd N_BadEnd : Addr} {nm_BadEnd q_BadEnd : Str} {bs_BadEnd sub_BadEnd : List Value} {sn_BadEnd : List Str} {ab_BadEnd : Bool} {col_BadEnd : Option Bool} {dd_BadEnd : Option Addr} {k0_BadEnd k1_BadEnd k2_BadEnd k3_BadEnd k5_BadEnd : Option Value} {od_BadEnd an_BadEnd : Option Addr} {sl_BadEnd : Array (Option Value)} {oc_BadEnd kV_BadEnd dc_BadEnd pm_BadEnd cd_BadEnd ct_BadEnd : Value} (a_BadEnd : PySem.W.nsIn K mainGlobals "BadEnd" = some (some (.ref C_BadEnd))) (x_BadEnd : K.lookup C_BadEnd = some (excClassObj nm_BadEnd q_BadEnd C_BadEnd N_BadEnd bs_BadEnd bm_ValueError true sn_BadEnd sub_BadEnd ab_BadEnd col_BadEnd dd_BadEnd k0_BadEnd k1_BadEnd k2_BadEnd k3_BadEnd k5_BadEnd "ValueError.__new__")) (sa_BadEnd : PySem.W.findIn K (.ref C_BadEnd) "__setattr__" = some (some (.builtin "object.__setattr__"))) (ga_BadEnd : PySem.W.findIn K (.ref C_BadEnd) "__getattribute__" = some (some (.builtin "BaseException.__getattribute__"))) (gk_BadEnd : PySem.W.findIn K (.ref C_BadEnd) "__getattr__" = some none) (hs_BadEnd : PySem.W.subIn K (.ref C_BadEnd) (.type "BaseException") = some true) (hd_BadEnd : PySem.W.hasDictIn K C_BadEnd = true) (ha_BadEnd : PySem.W.findIn K (.ref C_BadEnd) "__class__" = some (some (.builtin "object.__class__"))) (hm_BadEnd : PySem.W.mroIn K C_BadEnd (.type "object") = some true) (ty_BadEnd : PySem.W.typeIn K (.ref C_BadEnd) = some (.type "type")) (kC_BadEnd : PySem.W.keepIn K (.ref C_BadEnd) = true) (i_BadEnd : PySem.W.findIn K (.ref C_BadEnd) "__init__" = some (some (.ref f_BadEnd))) (t_BadEnd : PySem.W.typeIn K (.ref f_BadEnd) = some (.type "function")) (l_BadEnd : K.lookup f_BadEnd = some ⟨oc_BadEnd, od_BadEnd, .func (PySem.W.fnOf "__init__" "BadEnd.__init__" (defArgs s_BadEnd) (defBody s_BadEnd) (defScope s_BadEnd) .none kV_BadEnd dc_BadEnd pm_BadEnd an_BadEnd cd_BadEnd ct_BadEnd), sl_BadEnd⟩) (c_BadEnd : PySem.W.codeIn K cd_BadEnd "BadEnd.__init__" = true) (k_BadEnd : PySem.W.keepIn K (.ref f_BadEnd) = true) (n_BadEnd_part : PySem.W.findIn K (.ref C_BadEnd) "part" = some none)
    {C_BadText f_BadText N_BadText : Addr} {nm_BadText q_BadText : Str} {bs_BadText sub_BadText : List Value} {sn_BadText : List Str} {ab_BadText : Bool} {col_BadText : Option Bool} {dd_BadText : Option Addr} {k0_BadText k1_BadText k2_BadText k3_BadText k5_BadText : Option Value} {od_BadText an_BadText : Option Addr} {sl_BadText : Array (Option Value)} {oc_BadText kV_BadText dc_BadText pm_BadText cd_BadText ct_BadText : Value} (a_BadText : PySem.W.nsIn K mainGlobals "BadText" = some (some (.ref C_BadText))) (x_BadText : K.lookup C_BadText = some (excClassObj nm_BadText q_BadText C_BadText N_BadText bs_BadText bm_ValueError true sn_BadText sub_BadText ab_BadText col_BadText dd_BadText k0_BadText k1_BadText k2_BadText k3_BadText k5_BadText "ValueError.__new__")) (sa_BadText : PySem.W.findIn K (.ref C_BadText) "__setattr__" = some (some (.builtin "object.__setattr__"))) (ga_BadText : PySem.W.findIn K (.ref C_BadText) "__getattribute__" = some (some (.builtin "BaseException.__getattribute__"))) (gk_BadText : PySem.W.findIn K (.ref C_BadText) "__getattr__" = some none) (hs_BadText : PySem.W.subIn K (.ref C_BadText) (.type "BaseException") = some true) (hd_BadText : PySem.W.hasDictIn K C_BadText = true) (ha_BadText : PySem.W.findIn K (.ref C_BadText) "__class__" = some (some (.builtin "object.__class__"))) (hm_BadText : PySem.W.mroIn K C_BadText (.type "object") = some true) (ty_BadText : PySem.W.typeIn K (.ref C_BadText) = some (.type "type")) (kC_BadText : PySem.W.keepIn K (.ref C_BadText) = true) (i_BadText : PySem.W.findIn K (.ref C_BadText) "__init__" = some (some (.ref f_BadText))) (t_BadText : PySem.W.typeIn K (.ref f_BadText) = some (.type "function")) (l_BadText : K.lookup f_BadText = some ⟨oc_BadText, od_BadText, .func (PySem.W.fnOf "__init__" "BadText.__init__" (defArgs s_BadText) (defBody s_BadText) (defScope s_BadText) .none kV_BadText dc_BadText pm_BadText an_BadText cd_BadText ct_BadText), sl_BadText⟩) (c_BadText : PySem.W.codeIn K cd_BadText "BadText.__init__" = true) (k_BadText : PySem.W.keepIn K (.ref f_BadText) = true) (n_BadText_text : PySem.W.findIn K (.ref C_BadText) "text" = some none)
    {C_BadRow f_BadRow N_BadRow : Addr} {nm_BadRow q_BadRow : Str} {bs_BadRow sub_BadRow : List Value} {sn_BadRow : List Str} {ab_BadRow : Bool} {col_BadRow : Option Bool} {dd_BadRow : Option Addr} {k0_BadRow k1_BadRow k2_BadRow k3_BadRow k5_BadRow : Option Value} {od_BadRow an_BadRow : Option Addr} {sl_BadRow : Array (Option Value)} {oc_BadRow kV_BadRow dc_BadRow pm_BadRow cd_BadRow ct_BadRow : Value} (a_BadRow : PySem.W.nsIn K mainGlobals "BadRow" = some (some (.ref C_BadRow))) (x_BadRow : K.lookup C_BadRow = some (excClassObj nm_BadRow q_BadRow C_BadRow N_BadRow bs_BadRow bm_ValueError true sn_BadRow sub_BadRow ab_BadRow col_BadRow dd_BadRow k0_BadRow k1_BadRow k2_BadRow k3_BadRow k5_BadRow "ValueError.__new__")) (sa_BadRow : PySem.W.findIn K (.ref C_BadRow) "__setattr__" = some (some (.builtin "object.__setattr__"))) (ga_BadRow : PySem.W.findIn K (.ref C_BadRow) "__getattribute__" = some (some (.builtin "BaseException.__getattribute__"))) (gk_BadRow : PySem.W.findIn K (.ref C_BadRow) "__getattr__" = some none) (hs_BadRow : PySem.W.subIn K (.ref C_BadRow) (.type "BaseException") = some true) (hd_BadRow : PySem.W.hasDictIn K C_BadRow = true) (ha_BadRow : PySem.W.findIn K (.ref C_BadRow) "__class__" = some (some (.builtin "object.__class__"))) (hm_BadRow : PySem.W.mroIn K C_BadRow (.type "object") = some true) (ty_BadRow : PySem.W.typeIn K (.ref C_BadRow) = some (.type "type")) (kC_BadRow : PySem.W.keepIn K (.ref C_BadRow) = true) (i_BadRow : PySem.W.findIn K (.ref C_BadRow) "__init__" = some (some (.ref f_BadRow))) (t_BadRow : PySem.W.typeIn K (.ref f_BadRow) = some (.type "function")) (l_BadRow : K.lookup f_BadRow = some ⟨oc_BadRow, od_BadRow, .func (PySem.W.fnOf "__init__" "BadRow.__init__" (defArgs s_BadRow) (defBody s_BadRow) (defScope s_BadRow) .none kV_BadRow dc_BadRow pm_BadRow an_BadRow cd_BadRow ct_BadRow), sl_BadRow⟩) (c_BadRow : PySem.W.codeIn K cd_BadRow "BadRow.__init__" = true) (k_BadRow : PySem.W.keepIn K (.ref f_BadRow) = true) (n_BadRow_row : PySem.W.findIn K (.ref C_BadRow) "row" = some none)
    {C_Fault f_Fault N_Fault : Addr} {nm_Fault q_Fault : Str} {bs_Fault sub_Fault : List Value} {sn_Fault : List Str} {ab_Fault : Bool} {col_Fault : Option Bool} {dd_Fault : Option Addr} {k0_Fault k1_Fault k2_Fault k3_Fault k5_Fault : Option Value} {od_Fault an_Fault : Option Addr} {sl_Fault : Array (Option Value)} {oc_Fault kV_Fault dc_Fault pm_Fault cd_Fault ct_Fault : Value} (a_Fault : PySem.W.nsIn K mainGlobals "Fault" = some (some (.ref C_Fault))) (x_Fault : K.lookup C_Fault = some (excClassObj nm_Fault q_Fault C_Fault N_Fault bs_Fault bm_ValueError true sn_Fault sub_Fault ab_Fault col_Fault dd_Fault k0_Fault k1_Fault k2_Fault k3_Fault k5_Fault "ValueError.__new__")) (sa_Fault : PySem.W.findIn K (.ref C_Fault) "__setattr__" = some (some (.builtin "object.__setattr__"))) (ga_Fault : PySem.W.findIn K (.ref C_Fault) "__getattribute__" = some (some (.builtin "BaseException.__getattribute__"))) (gk_Fault : PySem.W.findIn K (.ref C_Fault) "__getattr__" = some none) (hs_Fault : PySem.W.subIn K (.ref C_Fault) (.type "BaseException") = some true) (hd_Fault : PySem.W.hasDictIn K C_Fault = true) (ha_Fault : PySem.W.findIn K (.ref C_Fault) "__class__" = some (some (.builtin "object.__class__"))) (hm_Fault : PySem.W.mroIn K C_Fault (.type "object") = some true) (ty_Fault : PySem.W.typeIn K (.ref C_Fault) = some (.type "type")) (kC_Fault : PySem.W.keepIn K (.ref C_Fault) = true) (i_Fault : PySem.W.findIn K (.ref C_Fault) "__init__" = some (some (.ref f_Fault))) (t_Fault : PySem.W.typeIn K (.ref f_Fault) = some (.type "function")) (l_Fault : K.lookup f_Fault = some ⟨oc_Fault, od_Fault, .func (PySem.W.fnOf "__init__" "Fault.__init__" (defArgs s_Fault) (defBody s_Fault) (defScope s_Fault) .none kV_Fault dc_Fault pm_Fault an_Fault cd_Fault ct_Fault), sl_Fault⟩) (c_Fault : PySem.W.codeIn K cd_Fault "Fault.__init__" = true) (k_Fault : PySem.W.keepIn K (.ref f_Fault) = true) (n_Fault_code : PySem.W.findIn K (.ref C_Fault) "code" = some none) (n_Fault_at : PySem.W.findIn K (.ref C_Fault) "at" = some none)
    {C_NoSlip f_NoSlip N_NoSlip : Addr} {nm_NoSlip q_NoSlip : Str} {bs_NoSlip sub_NoSlip : List Value} {sn_NoSlip : List Str} {ab_NoSlip : Bool} {col_NoSlip : Option Bool} {dd_NoSlip : Option Addr} {k0_NoSlip k1_NoSlip k2_NoSlip k3_NoSlip k5_NoSlip : Option Value} {od_NoSlip an_NoSlip : Option Addr} {sl_NoSlip : Array (Option Value)} {oc_NoSlip kV_NoSlip dc_NoSlip pm_NoSlip cd_NoSlip ct_NoSlip : Value} (a_NoSlip : PySem.W.nsIn K mainGlobals "NoSlip" = some (some (.ref C_NoSlip))) (x_NoSlip : K.lookup C_NoSlip = some (excClassObj nm_NoSlip q_NoSlip C_NoSlip N_NoSlip bs_NoSlip bm_IndexError true sn_NoSlip sub_NoSlip ab_NoSlip col_NoSlip dd_NoSlip k0_NoSlip k1_NoSlip k2_NoSlip k3_NoSlip k5_NoSlip "IndexError.__new__")) (sa_NoSlip : PySem.W.findIn K (.ref C_NoSlip) "__setattr__" = some (some (.builtin "object.__setattr__"))) (ga_NoSlip : PySem.W.findIn K (.ref C_NoSlip) "__getattribute__" = some (some (.builtin "BaseException.__getattribute__"))) (gk_NoSlip : PySem.W.findIn K (.ref C_NoSlip) "__getattr__" = some none) (hs_NoSlip : PySem.W.subIn K (.ref C_NoSlip) (.type "BaseException") = some true) (hd_NoSlip : PySem.W.hasDictIn K C_NoSlip = true) (ha_NoSlip : PySem.W.findIn K (.ref C_NoSlip) "__class__" = some (some (.builtin "object.__class__"))) (hm_NoSlip : PySem.W.mroIn K C_NoSlip (.type "object") = some true) (ty_NoSlip : PySem.W.typeIn K (.ref C_NoSlip) = some (.type "type")) (kC_NoSlip : PySem.W.keepIn K (.ref C_NoSlip) = true) (i_NoSlip : PySem.W.findIn K (.ref C_NoSlip) "__init__" = some (some (.ref f_NoSlip))) (t_NoSlip : PySem.W.typeIn K (.ref f_NoSlip) = some (.type "function")) (l_NoSlip : K.lookup f_NoSlip = some ⟨oc_NoSlip, od_NoSlip, .func (PySem.W.fnOf "__init__" "NoSlip.__init__" (defArgs s_NoSlip) (defBody s_NoSlip) (defScope s_NoSlip) .none kV_NoSlip dc_NoSlip pm_NoSlip an_NoSlip cd_NoSlip ct_NoSlip), sl_NoSlip⟩) (c_NoSlip : PySem.W.codeIn K cd_NoSlip "NoSlip.__init__" = true) (k_NoSlip : PySem.W.keepIn K (.ref f_NoSlip) = true) (n_NoSlip_number : PySem.W.findIn K (.ref C_NoSlip) "number" = some none)
    {C_NoByte f_NoByte N_NoByte : Addr} {nm_NoByte q_NoByte : Str} {bs_NoByte sub_NoByte : List Value} {sn_NoByte : List Str} {ab_NoByte : Bool} {col_NoByte : Option Bool} {dd_NoByte : Option Addr} {k0_NoByte k1_NoByte k2_NoByte k3_NoByte k5_NoByte : Option Value} {od_NoByte an_NoByte : Option Addr} {sl_NoByte : Array (Option Value)} {oc_NoByte kV_NoByte dc_NoByte pm_NoByte cd_NoByte ct_NoByte : Value} (a_NoByte : PySem.W.nsIn K mainGlobals "NoByte" = some (some (.ref C_NoByte))) (x_NoByte : K.lookup C_NoByte = some (excClassObj nm_NoByte q_NoByte C_NoByte N_NoByte bs_NoByte bm_IndexError true sn_NoByte sub_NoByte ab_NoByte col_NoByte dd_NoByte k0_NoByte k1_NoByte k2_NoByte k3_NoByte k5_NoByte "IndexError.__new__")) (sa_NoByte : PySem.W.findIn K (.ref C_NoByte) "__setattr__" = some (some (.builtin "object.__setattr__"))) (ga_NoByte : PySem.W.findIn K (.ref C_NoByte) "__getattribute__" = some (some (.builtin "BaseException.__getattribute__"))) (gk_NoByte : PySem.W.findIn K (.ref C_NoByte) "__getattr__" = some none) (hs_NoByte : PySem.W.subIn K (.ref C_NoByte) (.type "BaseException") = some true) (hd_NoByte : PySem.W.hasDictIn K C_NoByte = true) (ha_NoByte : PySem.W.findIn K (.ref C_NoByte) "__class__" = some (some (.builtin "object.__class__"))) (hm_NoByte : PySem.W.mroIn K C_NoByte (.type "object") = some true) (ty_NoByte : PySem.W.typeIn K (.ref C_NoByte) = some (.type "type")) (kC_NoByte : PySem.W.keepIn K (.ref C_NoByte) = true) (i_NoByte : PySem.W.findIn K (.ref C_NoByte) "__init__" = some (some (.ref f_NoByte))) (t_NoByte : PySem.W.typeIn K (.ref f_NoByte) = some (.type "function")) (l_NoByte : K.lookup f_NoByte = some ⟨oc_NoByte, od_NoByte, .func (PySem.W.fnOf "__init__" "NoByte.__init__" (defArgs s_NoByte) (defBody s_NoByte) (defScope s_NoByte) .none kV_NoByte dc_NoByte pm_NoByte an_NoByte cd_NoByte ct_NoByte), sl_NoByte⟩) (c_NoByte : PySem.W.codeIn K cd_NoByte "NoByte.__init__" = true) (k_NoByte : PySem.W.keepIn K (.ref f_NoByte) = true) (n_NoByte_at : PySem.W.findIn K (.ref C_NoByte) "at" = some none)
    {C_NoDeed f_NoDeed N_NoDeed : Addr} {nm_NoDeed q_NoDeed : Str} {bs_NoDeed sub_NoDeed : List Value} {sn_NoDeed : List Str} {ab_NoDeed : Bool} {col_NoDeed : Option Bool} {dd_NoDeed : Option Addr} {k0_NoDeed k1_NoDeed k2_NoDeed k3_NoDeed k5_NoDeed : Option Value} {od_NoDeed an_NoDeed : Option Addr} {sl_NoDeed : Array (Option Value)} {oc_NoDeed kV_NoDeed dc_NoDeed pm_NoDeed cd_NoDeed ct_NoDeed : Value} (a_NoDeed : PySem.W.nsIn K mainGlobals "NoDeed" = some (some (.ref C_NoDeed))) (x_NoDeed : K.lookup C_NoDeed = some (excClassObj nm_NoDeed q_NoDeed C_NoDeed N_NoDeed bs_NoDeed bm_LookupError true sn_NoDeed sub_NoDeed ab_NoDeed col_NoDeed dd_NoDeed k0_NoDeed k1_NoDeed k2_NoDeed k3_NoDeed k5_NoDeed "LookupError.__new__")) (sa_NoDeed : PySem.W.findIn K (.ref C_NoDeed) "__setattr__" = some (some (.builtin "object.__setattr__"))) (ga_NoDeed : PySem.W.findIn K (.ref C_NoDeed) "__getattribute__" = some (some (.builtin "BaseException.__getattribute__"))) (gk_NoDeed : PySem.W.findIn K (.ref C_NoDeed) "__getattr__" = some none) (hs_NoDeed : PySem.W.subIn K (.ref C_NoDeed) (.type "BaseException") = some true) (hd_NoDeed : PySem.W.hasDictIn K C_NoDeed = true) (ha_NoDeed : PySem.W.findIn K (.ref C_NoDeed) "__class__" = some (some (.builtin "object.__class__"))) (hm_NoDeed : PySem.W.mroIn K C_NoDeed (.type "object") = some true) (ty_NoDeed : PySem.W.typeIn K (.ref C_NoDeed) = some (.type "type")) (kC_NoDeed : PySem.W.keepIn K (.ref C_NoDeed) = true) (i_NoDeed : PySem.W.findIn K (.ref C_NoDeed) "__init__" = some (some (.ref f_NoDeed))) (t_NoDeed : PySem.W.typeIn K (.ref f_NoDeed) = some (.type "function")) (l_NoDeed : K.lookup f_NoDeed = some ⟨oc_NoDeed, od_NoDeed, .func (PySem.W.fnOf "__init__" "NoDeed.__init__" (defArgs s_NoDeed) (defBody s_NoDeed) (defScope s_NoDeed) .none kV_NoDeed dc_NoDeed pm_NoDeed an_NoDeed cd_NoDeed ct_NoDeed), sl_NoDeed⟩) (c_NoDeed : PySem.W.codeIn K cd_NoDeed "NoDeed.__init__" = true) (k_NoDeed : PySem.W.keepIn K (.ref f_NoDeed) = true) (n_NoDeed_many : PySem.W.findIn K (.ref C_NoDeed) "many" = some none)
    {C_Ended f_Ended N_Ended : Addr} {nm_Ended q_Ended : Str} {bs_Ended sub_Ended : List Value} {sn_Ended : List Str} {ab_Ended : Bool} {col_Ended : Option Bool} {dd_Ended : Option Addr} {k0_Ended k1_Ended k2_Ended k3_Ended k5_Ended : Option Value} {od_Ended an_Ended : Option Addr} {sl_Ended : Array (Option Value)} {oc_Ended kV_Ended dc_Ended pm_Ended cd_Ended ct_Ended : Value} (a_Ended : PySem.W.nsIn K mainGlobals "Ended" = some (some (.ref C_Ended))) (x_Ended : K.lookup C_Ended = some (excClassObj nm_Ended q_Ended C_Ended N_Ended bs_Ended bm_RuntimeError true sn_Ended sub_Ended ab_Ended col_Ended dd_Ended k0_Ended k1_Ended k2_Ended k3_Ended k5_Ended "RuntimeError.__new__")) (sa_Ended : PySem.W.findIn K (.ref C_Ended) "__setattr__" = some (some (.builtin "object.__setattr__"))) (ga_Ended : PySem.W.findIn K (.ref C_Ended) "__getattribute__" = some (some (.builtin "BaseException.__getattribute__"))) (gk_Ended : PySem.W.findIn K (.ref C_Ended) "__getattr__" = some none) (hs_Ended : PySem.W.subIn K (.ref C_Ended) (.type "BaseException") = some true) (hd_Ended : PySem.W.hasDictIn K C_Ended = true) (ha_Ended : PySem.W.findIn K (.ref C_Ended) "__class__" = some (some (.builtin "object.__class__"))) (hm_Ended : PySem.W.mroIn K C_Ended (.type "object") = some true) (ty_Ended : PySem.W.typeIn K (.ref C_Ended) = some (.type "type")) (kC_Ended : PySem.W.keepIn K (.ref C_Ended) = true) (i_Ended : PySem.W.findIn K (.ref C_Ended) "__init__" = some (some (.ref f_Ended))) (t_Ended : PySem.W.typeIn K (.ref f_Ended) = some (.type "function")) (l_Ended : K.lookup f_Ended = some ⟨oc_Ended, od_Ended, .func (PySem.W.fnOf "__init__" "Ended.__init__" (defArgs s_Ended) (defBody s_Ended) (defScope s_Ended) .none kV_Ended dc_Ended pm_Ended an_Ended cd_Ended ct_Ended), sl_Ended⟩) (c_Ended : PySem.W.codeIn K cd_Ended "Ended.__init__" = true) (k_Ended : PySem.W.keepIn K (.ref f_Ended) = true) (n_Ended_talk : PySem.W.findIn K (.ref C_Ended) "talk" = some none)
    (hn_ : PySem.W.specialIn K (.builtin "object.__class__") "__get__" = some (some (.builtin "getset_descriptor.__get__"))) (ht_ : PySem.W.takesIn K (.builtin "object.__class__") = some true)
    (lt_BadSlip : C_BadSlip < C_BadLetter)
    (lt_BadLetter : C_BadLetter < C_BadEnd)
    (lt_BadEnd : C_BadEnd < C_BadText)
    (lt_BadText : C_BadText < C_BadRow)
    (lt_BadRow : C_BadRow < C_Fault)
    (lt_Fault : C_Fault < C_NoSlip)
    (lt_NoSlip : C_NoSlip < C_NoByte)
    (lt_NoByte : C_NoByte < C_NoDeed)
    (lt_NoDeed : C_NoDeed < C_Ended)
    (v_IndexError : PySem.W.findCls K (.type "IndexError") (.type "type") "__init__" = some (.val (.builtin "IndexError.__init__")))
    (v_LookupError : PySem.W.findCls K (.type "LookupError") (.type "type") "__init__" = some (.val (.builtin "LookupError.__init__")))
    (v_RuntimeError : PySem.W.findCls K (.type "RuntimeError") (.type "type") "__init__" = some (.val (.builtin "RuntimeError.__init__")))
    (v_ValueError : PySem.W.findCls K (.type "ValueError") (.type "type") "__init__" = some (.val (.builtin "ValueError.__init__")))
    (z_len : PySem.W.nsIn K mainGlobals "len" = some none) (z_abs : PySem.W.nsIn K mainGlobals "abs" = some none) (z_int : PySem.W.nsIn K mainGlobals "int" = some none) (z_bool : PySem.W.nsIn K mainGlobals "bool" = some none) (z_list : PySem.W.nsIn K mainGlobals "list" = some none) (z_tuple : PySem.W.nsIn K mainGlobals "tuple" = some none) (z_isinstance : PySem.W.nsIn K mainGlobals "isinstance" = some none) (z_all : PySem.W.nsIn K mainGlobals "all" = some none) (z_zip : PySem.W.nsIn K mainGlobals "zip" = some none) (z_min : PySem.W.nsIn K mainGlobals "min" = some none) (z_range : PySem.W.nsIn K mainGlobals "range" = some none) (z_ValueError : PySem.W.nsIn K mainGlobals "ValueError" = some none) :
    ∃ fd : FuncData, (∀ (s : Shared) (v : Value), BindsTo s fd ⟨[v], []⟩ [("_law_script", v)]) ∧ ∀ base : Heap, K.In base → base.Ns mainGlobals mg → FnOk l.prog w K mg base CX0 7 fa fd ["_law_script"] (spLaw K) := by
  have e := hfa.symm.trans (PySem.W.mg_of X G a13)
  cases e
  have F0 := fun_mk (st := s_size_of_two) l0 c0 k0
  have F1 := fun_mk (st := s_size_of_three) l1 c1 k1
  have F2 := fun_mk (st := s_size_at) l2 c2 k2
  have F3 := fun_mk (st := s_cell_at) l3 c3 k3
  have F4 := fun_mk (st := s_box) l4 c4 k4
  have F5 := fun_mk (st := s_take) l5 c5 k5
  have F6 := fun_mk (st := s_same) l6 c6 k6
  have F7 := fun_mk (st := s_of) l7 c7 k7
  have F8 := fun_mk (st := s_bytes) l8 c8 k8
  have F9 := fun_mk (st := s_size) l9 c9 k9
  have F10 := fun_mk (st := s_due) l10 c10 k10
  have F11 := fun_mk (st := s_told) l11 c11 k11
  have F12 := fun_mk (st := s_row) l12 c12 k12
  have F13 := fun_mk (st := s_law) l13 c13 k13
  have b0 := F0.binds (ps := ["codes", "at"]) fun _ _ _ _ _ _ us hl => match us, hl with | [_, _], _ => rfl
  have b1 := F1.binds (ps := ["codes", "at"]) fun _ _ _ _ _ _ us hl => match us, hl with | [_, _], _ => rfl
  have b2 := F2.binds (ps := ["codes", "at"]) fun _ _ _ _ _ _ us hl => match us, hl with | [_, _], _ => rfl
  have b3 := F3.binds (ps := ["_law_script", "_law_k"]) fun _ _ _ _ _ _ us hl => match us, hl with | [_, _], _ => rfl
  have b4 := F4.binds (ps := ["_law_script", "_law_k"]) fun _ _ _ _ _ _ us hl => match us, hl with | [_, _], _ => rfl
  have b5 := F5.binds (ps := ["_law_box_here", "_law_count"]) fun _ _ _ _ _ _ us hl => match us, hl with | [_, _], _ => rfl
  have b6 := F6.binds (ps := ["_law_found", "_law_due_here"]) fun _ _ _ _ _ _ us hl => match us, hl with | [_, _], _ => rfl
  have b7 := F7.binds (ps := ["_law_box_here", "_law_some"]) fun _ _ _ _ _ _ us hl => match us, hl with | [_, _], _ => rfl
  have b8 := F8.binds (ps := ["_law_box_here", "_law_count"]) fun _ _ _ _ _ _ us hl => match us, hl with | [_, _], _ => rfl
  have b9 := F9.binds (ps := ["_law_count"]) fun _ _ _ _ _ _ us hl => match us, hl with | [_], _ => rfl
  have b10 := F10.binds (ps := ["_law_row_here", "_law_spot"]) fun _ _ _ _ _ _ us hl => match us, hl with | [_, _], _ => rfl
  have b11 := F11.binds (ps := ["_law_row_here", "_law_spot", "_law_named"]) fun _ _ _ _ _ _ us hl => match us, hl with | [_, _, _], _ => rfl
  have b12 := F12.binds (ps := ["_law_box_here"]) fun _ _ _ _ _ _ us hl => match us, hl with | [_], _ => rfl
  have F_BadSlip := fun_mk (st := s_BadSlip) l_BadSlip c_BadSlip k_BadSlip
  have b_BadSlip := F_BadSlip.binds (ps := ["self", "part"]) fun _ _ _ _ _ _ us hl => match us, hl with | [_, _], _ => rfl
  have oe_BadSlip : OeC K C_BadSlip "ValueError" "ValueError.__new__" "ValueError.__init__" bm_ValueError := { base := PySem.F.excBase_ValueError, pass := PySem.MyX.pass_Value, ob := by decide +kernel, cls := ⟨_, _, _, _, _, _, _, _, _, _, _, _, _, _, x_BadSlip⟩, sa := sa_BadSlip, is_ := ⟨ga_BadSlip, gk_BadSlip, hs_BadSlip, hd_BadSlip, ha_BadSlip, hn_, ht_, hm_BadSlip⟩, ty := ty_BadSlip, kC := kC_BadSlip }
  have F_BadLetter := fun_mk (st := s_BadLetter) l_BadLetter c_BadLetter k_BadLetter
  have b_BadLetter := F_BadLetter.binds (ps := ["self", "part"]) fun _ _ _ _ _ _ us hl => match us, hl with | [_, _], _ => rfl
  have oe_BadLetter : OeC K C_BadLetter "ValueError" "ValueError.__new__" "ValueError.__init__" bm_ValueError := { base := PySem.F.excBase_ValueError, pass := PySem.MyX.pass_Value, ob := by decide +kernel, cls := ⟨_, _, _, _, _, _, _, _, _, _, _, _, _, _, x_BadLetter⟩, sa := sa_BadLetter, is_ := ⟨ga_BadLetter, gk_BadLetter, hs_BadLetter, hd_BadLetter, ha_BadLetter, hn_, ht_, hm_BadLetter⟩, ty := ty_BadLetter, kC := kC_BadLetter }
  have F_BadEnd := fun_mk (st := s_BadEnd) l_BadEnd c_BadEnd k_BadEnd
  have b_BadEnd := F_BadEnd.binds (ps := ["self", "part"]) fun _ _ _ _ _ _ us hl => match us, hl with | [_, _], _ => rfl
  have oe_BadEnd : OeC K C_BadEnd "ValueError" "ValueError.__new__" "ValueError.__init__" bm_ValueError := { base := PySem.F.excBase_ValueError, pass := PySem.MyX.pass_Value, ob := by decide +kernel, cls := ⟨_, _, _, _, _, _, _, _, _, _, _, _, _, _, x_BadEnd⟩, sa := sa_BadEnd, is_ := ⟨ga_BadEnd, gk_BadEnd, hs_BadEnd, hd_BadEnd, ha_BadEnd, hn_, ht_, hm_BadEnd⟩, ty := ty_BadEnd, kC := kC_BadEnd }
  have F_BadText := fun_mk (st := s_BadText) l_BadText c_BadText k_BadText
  have b_BadText := F_BadText.binds (ps := ["self", "text"]) fun _ _ _ _ _ _ us hl => match us, hl with | [_, _], _ => rfl
  have oe_BadText : OeC K C_BadText "ValueError" "ValueError.__new__" "ValueError.__init__" bm_ValueError := { base := PySem.F.excBase_ValueError, pass := PySem.MyX.pass_Value, ob := by decide +kernel, cls := ⟨_, _, _, _, _, _, _, _, _, _, _, _, _, _, x_BadText⟩, sa := sa_BadText, is_ := ⟨ga_BadText, gk_BadText, hs_BadText, hd_BadText, ha_BadText, hn_, ht_, hm_BadText⟩, ty := ty_BadText, kC := kC_BadText }
  have F_BadRow := fun_mk (st := s_BadRow) l_BadRow c_BadRow k_BadRow
  have b_BadRow := F_BadRow.binds (ps := ["self", "row"]) fun _ _ _ _ _ _ us hl => match us, hl with | [_, _], _ => rfl
  have oe_BadRow : OeC K C_BadRow "ValueError" "ValueError.__new__" "ValueError.__init__" bm_ValueError := { base := PySem.F.excBase_ValueError, pass := PySem.MyX.pass_Value, ob := by decide +kernel, cls := ⟨_, _, _, _, _, _, _, _, _, _, _, _, _, _, x_BadRow⟩, sa := sa_BadRow, is_ := ⟨ga_BadRow, gk_BadRow, hs_BadRow, hd_BadRow, ha_BadRow, hn_, ht_, hm_BadRow⟩, ty := ty_BadRow, kC := kC_BadRow }
  have F_Fault := fun_mk (st := s_Fault) l_Fault c_Fault k_Fault
  have b_Fault := F_Fault.binds (ps := ["self", "code", "at"]) fun _ _ _ _ _ _ us hl => match us, hl with | [_, _, _], _ => rfl
  have oe_Fault : OeC K C_Fault "ValueError" "ValueError.__new__" "ValueError.__init__" bm_ValueError := { base := PySem.F.excBase_ValueError, pass := PySem.MyX.pass_Value, ob := by decide +kernel, cls := ⟨_, _, _, _, _, _, _, _, _, _, _, _, _, _, x_Fault⟩, sa := sa_Fault, is_ := ⟨ga_Fault, gk_Fault, hs_Fault, hd_Fault, ha_Fault, hn_, ht_, hm_Fault⟩, ty := ty_Fault, kC := kC_Fault }
  have F_NoSlip := fun_mk (st := s_NoSlip) l_NoSlip c_NoSlip k_NoSlip
  have b_NoSlip := F_NoSlip.binds (ps := ["self", "number"]) fun _ _ _ _ _ _ us hl => match us, hl with | [_, _], _ => rfl
  have oe_NoSlip : OeC K C_NoSlip "IndexError" "IndexError.__new__" "IndexError.__init__" bm_IndexError := { base := PySem.F.excBase_IndexError, pass := PySem.MyX.pass_Index, ob := by decide +kernel, cls := ⟨_, _, _, _, _, _, _, _, _, _, _, _, _, _, x_NoSlip⟩, sa := sa_NoSlip, is_ := ⟨ga_NoSlip, gk_NoSlip, hs_NoSlip, hd_NoSlip, ha_NoSlip, hn_, ht_, hm_NoSlip⟩, ty := ty_NoSlip, kC := kC_NoSlip }
  have F_NoByte := fun_mk (st := s_NoByte) l_NoByte c_NoByte k_NoByte
  have b_NoByte := F_NoByte.binds (ps := ["self", "at"]) fun _ _ _ _ _ _ us hl => match us, hl with | [_, _], _ => rfl
  have oe_NoByte : OeC K C_NoByte "IndexError" "IndexError.__new__" "IndexError.__init__" bm_IndexError := { base := PySem.F.excBase_IndexError, pass := PySem.MyX.pass_Index, ob := by decide +kernel, cls := ⟨_, _, _, _, _, _, _, _, _, _, _, _, _, _, x_NoByte⟩, sa := sa_NoByte, is_ := ⟨ga_NoByte, gk_NoByte, hs_NoByte, hd_NoByte, ha_NoByte, hn_, ht_, hm_NoByte⟩, ty := ty_NoByte, kC := kC_NoByte }
  have F_NoDeed := fun_mk (st := s_NoDeed) l_NoDeed c_NoDeed k_NoDeed
  have b_NoDeed := F_NoDeed.binds (ps := ["self", "many"]) fun _ _ _ _ _ _ us hl => match us, hl with | [_, _], _ => rfl
  have oe_NoDeed : OeC K C_NoDeed "LookupError" "LookupError.__new__" "LookupError.__init__" bm_LookupError := { base := PySem.F.excBase_LookupError, pass := PySem.MyX.pass_Lookup, ob := by decide +kernel, cls := ⟨_, _, _, _, _, _, _, _, _, _, _, _, _, _, x_NoDeed⟩, sa := sa_NoDeed, is_ := ⟨ga_NoDeed, gk_NoDeed, hs_NoDeed, hd_NoDeed, ha_NoDeed, hn_, ht_, hm_NoDeed⟩, ty := ty_NoDeed, kC := kC_NoDeed }
  have F_Ended := fun_mk (st := s_Ended) l_Ended c_Ended k_Ended
  have b_Ended := F_Ended.binds (ps := ["self", "talk"]) fun _ _ _ _ _ _ us hl => match us, hl with | [_, _], _ => rfl
  have oe_Ended : OeC K C_Ended "RuntimeError" "RuntimeError.__new__" "RuntimeError.__init__" bm_RuntimeError := { base := PySem.F.excBase_RuntimeError, pass := PySem.MyX.pass_Runtime, ob := by decide +kernel, cls := ⟨_, _, _, _, _, _, _, _, _, _, _, _, _, _, x_Ended⟩, sa := sa_Ended, is_ := ⟨ga_Ended, gk_Ended, hs_Ended, hd_Ended, ha_Ended, hn_, ht_, hm_Ended⟩, ty := ty_Ended, kC := kC_Ended }
  have T : Tx K mg := { f_size_of_two := f0, fd_size_of_two := _, F_size_of_two := F0, g_size_of_two := PySem.W.mg_of X G a0, b_size_of_two := b0, f_size_of_three := f1, fd_size_of_three := _, F_size_of_three := F1, g_size_of_three := PySem.W.mg_of X G a1, b_size_of_three := b1, f_size_at := f2, fd_size_at := _, F_size_at := F2, g_size_at := PySem.W.mg_of X G a2, b_size_at := b2, f_cell_at := f3, fd_cell_at := _, F_cell_at := F3, g_cell_at := PySem.W.mg_of X G a3, b_cell_at := b3, f_box := f4, fd_box := _, F_box := F4, g_box := PySem.W.mg_of X G a4, b_box := b4, f_take := f5, fd_take := _, F_take := F5, g_take := PySem.W.mg_of X G a5, b_take := b5, f_same := f6, fd_same := _, F_same := F6, g_same := PySem.W.mg_of X G a6, b_same := b6, f_of := f7, fd_of := _, F_of := F7, g_of := PySem.W.mg_of X G a7, b_of := b7, f_bytes := f8, fd_bytes := _, F_bytes := F8, g_bytes := PySem.W.mg_of X G a8, b_bytes := b8, f_size := f9, fd_size := _, F_size := F9, g_size := PySem.W.mg_of X G a9, b_size := b9, f_due := f10, fd_due := _, F_due := F10, g_due := PySem.W.mg_of X G a10, b_due := b10, f_told := f11, fd_told := _, F_told := F11, g_told := PySem.W.mg_of X G a11, b_told := b11, f_row := f12, fd_row := _, F_row := F12, g_row := PySem.W.mg_of X G a12, b_row := b12, kb_size_at_0_at_codes := mk_kb_size_at_0_at_codes F2, tk_SIZE := _, g_SIZE := PySem.W.mg_of X G a_SIZE, tk_TWO_FOLLOW := _, g_TWO_FOLLOW := PySem.W.mg_of X G a_TWO_FOLLOW, tk_THREE_FOLLOW := _, g_THREE_FOLLOW := PySem.W.mg_of X G a_THREE_FOLLOW, C_BadSlip := C_BadSlip, f_BadSlip := f_BadSlip, fd_BadSlip := _, F_BadSlip := F_BadSlip, g_BadSlip := PySem.W.mg_of X G a_BadSlip, oe_BadSlip := oe_BadSlip, i_BadSlip := i_BadSlip, t_BadSlip := t_BadSlip, b_BadSlip := b_BadSlip, n_BadSlip_part := n_BadSlip_part, C_BadLetter := C_BadLetter, f_BadLetter := f_BadLetter, fd_BadLetter := _, F_BadLetter := F_BadLetter, g_BadLetter := PySem.W.mg_of X G a_BadLetter, oe_BadLetter := oe_BadLetter, i_BadLetter := i_BadLetter, t_BadLetter := t_BadLetter, b_BadLetter := b_BadLetter, n_BadLetter_part := n_BadLetter_part, C_BadEnd := C_BadEnd, f_BadEnd := f_BadEnd, fd_BadEnd := _, F_BadEnd := F_BadEnd, g_BadEnd := PySem.W.mg_of X G a_BadEnd, oe_BadEnd := oe_BadEnd, i_BadEnd := i_BadEnd, t_BadEnd := t_BadEnd, b_BadEnd := b_BadEnd, n_BadEnd_part := n_BadEnd_part, C_BadText := C_BadText, f_BadText := f_BadText, fd_BadText := _, F_BadText := F_BadText, g_BadText := PySem.W.mg_of X G a_BadText, oe_BadText := oe_BadText, i_BadText := i_BadText, t_BadText := t_BadText, b_BadText := b_BadText, n_BadText_text := n_BadText_text, C_BadRow := C_BadRow, f_BadRow := f_BadRow, fd_BadRow := _, F_BadRow := F_BadRow, g_BadRow := PySem.W.mg_of X G a_BadRow, oe_BadRow := oe_BadRow, i_BadRow := i_BadRow, t_BadRow := t_BadRow, b_BadRow := b_BadRow, n_BadRow_row := n_BadRow_row, C_Fault := C_Fault, f_Fault := f_Fault, fd_Fault := _, F_Fault := F_Fault, g_Fault := PySem.W.mg_of X G a_Fault, oe_Fault := oe_Fault, i_Fault := i_Fault, t_Fault := t_Fault, b_Fault := b_Fault, n_Fault_code := n_Fault_code, n_Fault_at := n_Fault_at, C_NoSlip := C_NoSlip, f_NoSlip := f_NoSlip, fd_NoSlip := _, F_NoSlip := F_NoSlip, g_NoSlip := PySem.W.mg_of X G a_NoSlip, oe_NoSlip := oe_NoSlip, i_NoSlip := i_NoSlip, t_NoSlip := t_NoSlip, b_NoSlip := b_NoSlip, n_NoSlip_number := n_NoSlip_number, C_NoByte := C_NoByte, f_NoByte := f_NoByte, fd_NoByte := _, F_NoByte := F_NoByte, g_NoByte := PySem.W.mg_of X G a_NoByte, oe_NoByte := oe_NoByte, i_NoByte := i_NoByte, t_NoByte := t_NoByte, b_NoByte := b_NoByte, n_NoByte_at := n_NoByte_at, C_NoDeed := C_NoDeed, f_NoDeed := f_NoDeed, fd_NoDeed := _, F_NoDeed := F_NoDeed, g_NoDeed := PySem.W.mg_of X G a_NoDeed, oe_NoDeed := oe_NoDeed, i_NoDeed := i_NoDeed, t_NoDeed := t_NoDeed, b_NoDeed := b_NoDeed, n_NoDeed_many := n_NoDeed_many, C_Ended := C_Ended, f_Ended := f_Ended, fd_Ended := _, F_Ended := F_Ended, g_Ended := PySem.W.mg_of X G a_Ended, oe_Ended := oe_Ended, i_Ended := i_Ended, t_Ended := t_Ended, b_Ended := b_Ended, n_Ended_talk := n_Ended_talk, lt_BadSlip := lt_BadSlip, lt_BadLetter := lt_BadLetter, lt_BadEnd := lt_BadEnd, lt_BadText := lt_BadText, lt_BadRow := lt_BadRow, lt_Fault := lt_Fault, lt_NoSlip := lt_NoSlip, lt_NoByte := lt_NoByte, lt_NoDeed := lt_NoDeed, v_IndexError := v_IndexError, v_LookupError := v_LookupError, v_RuntimeError := v_RuntimeError, v_ValueError := v_ValueError, m_len := PySem.W.mg_none_of X G z_len, m_abs := PySem.W.mg_none_of X G z_abs, m_int := PySem.W.mg_none_of X G z_int, m_bool := PySem.W.mg_none_of X G z_bool, m_list := PySem.W.mg_none_of X G z_list, m_tuple := PySem.W.mg_none_of X G z_tuple, m_isinstance := PySem.W.mg_none_of X G z_isinstance, m_all := PySem.W.mg_none_of X G z_all, m_zip := PySem.W.mg_none_of X G z_zip, m_min := PySem.W.mg_none_of X G z_min, m_range := PySem.W.mg_none_of X G z_range, m_ValueError := PySem.W.mg_none_of X G z_ValueError }
  exact ⟨PySem.W.fnOf "law" "law" (defArgs s_law) (defBody s_law) (defScope s_law) .none kV13 dc13 pm13 an13 cd13 ct13, fun s v => .of_eq rfl, fun base _ _ => ok_law T F13⟩
end K4
open PySem PySem.W PyProof.Rows
set_option maxHeartbeats 0 in
theorem PySem.Challenge.cw_slipwire_k04_sizes_that_can_not_go_on_holds : PySem.Challenge.rw_slipwire_k04_sizes_that_can_not_go_on.Holds := by
  w_on; o_law; k_head; (case hw => w_witness2)
  k_fill
  refine L2.walk_of (l := PySem.Challenge.rw_slipwire_k04_sizes_that_can_not_go_on) (n := 63) (k := 7) (x := "_law_script") (CX := fun _ => L2.CX0) (sp := fun w => K4.spLaw _) rfl (by decide) rfl ⟨rfl, by decide, by decide⟩ (fun w h Y => PySem.W.kIn_of Y) ?F (fun _ _ a ns hl _ hS => ⟨a, ns, rfl, hS, hl, fun _ => rfl⟩) (fun _ _ _ _ _ h => h)
  case F =>
    intro w mg fa h KX G hmg
    refine' K4.all_mk KX G hmg ?a0 ?l0 ?c0 ?k0 ?a1 ?l1 ?c1 ?k1 ?a2 ?l2 ?c2 ?k2 ?a3 ?l3 ?c3 ?k3 ?a4 ?l4 ?c4 ?k4 ?a5 ?l5 ?c5 ?k5 ?a6 ?l6 ?c6 ?k6 ?a7 ?l7 ?c7 ?k7 ?a8 ?l8 ?c8 ?k8 ?a9 ?l9 ?c9 ?k9 ?a10 ?l10 ?c10 ?k10 ?a11 ?l11 ?c11 ?k11 ?a12 ?l12 ?c12 ?k12 ?a13 ?l13 ?c13 ?k13 ?a_SIZE ?a_TWO_FOLLOW ?a_THREE_FOLLOW ?a_BadSlip ?x_BadSlip ?sa_BadSlip ?ga_BadSlip ?gk_BadSlip ?hs_BadSlip ?hd_BadSlip ?ha_BadSlip ?hm_BadSlip ?ty_BadSlip ?kC_BadSlip ?i_BadSlip ?t_BadSlip ?l_BadSlip ?c_BadSlip ?k_BadSlip ?n_BadSlip_part ?a_BadLetter ?x_BadLetter ?sa_BadLetter ?ga_BadLetter ?gk_BadLetter ?hs_BadLetter ?hd_BadLetter ?ha_BadLetter ?hm_BadLetter ?ty_BadLetter ?kC_BadLetter ?i_BadLetter ?t_BadLetter ?l_BadLetter ?c_BadLetter ?k_BadLetter ?n_BadLetter_part ?a_BadEnd ?x_BadEnd ?sa_BadEnd ?ga_BadEnd ?gk_BadEnd ?hs_BadEnd ?hd_BadEnd ?ha_BadEnd ?hm_BadEnd ?ty_BadEnd ?kC_BadEnd ?i_BadEnd ?t_BadEnd ?l_BadEnd ?c_BadEnd ?k_BadEnd ?n_BadEnd_part ?a_BadText ?x_BadText ?sa_BadText ?ga_BadText ?gk_BadText ?hs_BadText ?hd_BadText ?ha_BadText ?hm_BadText ?ty_BadText ?kC_BadText ?i_BadText ?t_BadText ?l_BadText ?c_BadText ?k_BadText ?n_BadText_text ?a_BadRow ?x_BadRow ?sa_BadRow ?ga_BadRow ?gk_BadRow ?hs_BadRow ?hd_BadRow ?ha_BadRow ?hm_BadRow ?ty_BadRow ?kC_BadRow ?i_BadRow ?t_BadRow ?l_BadRow ?c_BadRow ?k_BadRow ?n_BadRow_row ?a_Fault ?x_Fault ?sa_Fault ?ga_Fault ?gk_Fault ?hs_Fault ?hd_Fault ?ha_Fault ?hm_Fault ?ty_Fault ?kC_Fault ?i_Fault ?t_Fault ?l_Fault ?c_Fault ?k_Fault ?n_Fault_code ?n_Fault_at ?a_NoSlip ?x_NoSlip ?sa_NoSlip ?ga_NoSlip ?gk_NoSlip ?hs_NoSlip ?hd_NoSlip ?ha_NoSlip ?hm_NoSlip ?ty_NoSlip ?kC_NoSlip ?i_NoSlip ?t_NoSlip ?l_NoSlip ?c_NoSlip ?k_NoSlip ?n_NoSlip_number ?a_NoByte ?x_NoByte ?sa_NoByte ?ga_NoByte ?gk_NoByte ?hs_NoByte ?hd_NoByte ?ha_NoByte ?hm_NoByte ?ty_NoByte ?kC_NoByte ?i_NoByte ?t_NoByte ?l_NoByte ?c_NoByte ?k_NoByte ?n_NoByte_at ?a_NoDeed ?x_NoDeed ?sa_NoDeed ?ga_NoDeed ?gk_NoDeed ?hs_NoDeed ?hd_NoDeed ?ha_NoDeed ?hm_NoDeed ?ty_NoDeed ?kC_NoDeed ?i_NoDeed ?t_NoDeed ?l_NoDeed ?c_NoDeed ?k_NoDeed ?n_NoDeed_many ?a_Ended ?x_Ended ?sa_Ended ?ga_Ended ?gk_Ended ?hs_Ended ?hd_Ended ?ha_Ended ?hm_Ended ?ty_Ended ?kC_Ended ?i_Ended ?t_Ended ?l_Ended ?c_Ended ?k_Ended ?n_Ended_talk ?hn_ ?ht_ ?lt_BadSlip ?lt_BadLetter ?lt_BadEnd ?lt_BadText ?lt_BadRow ?lt_Fault ?lt_NoSlip ?lt_NoByte ?lt_NoDeed ?v_IndexError ?v_LookupError ?v_RuntimeError ?v_ValueError ?z_len ?z_abs ?z_int ?z_bool ?z_list ?z_tuple ?z_isinstance ?z_all ?z_zip ?z_min ?z_range ?z_ValueError
    (case a0 => k_is); (case l0 => k_is); (case c0 => k_is); (case k0 => k_is); (case a1 => k_is); (case l1 => k_is); (case c1 => k_is); (case k1 => k_is); (case a2 => k_is); (case l2 => k_is); (case c2 => k_is); (case k2 => k_is); (case a3 => k_is); (case l3 => k_is); (case c3 => k_is); (case k3 => k_is); (case a4 => k_is); (case l4 => k_is); (case c4 => k_is); (case k4 => k_is); (case a5 => k_is); (case l5 => k_is); (case c5 => k_is); (case k5 => k_is); (case a6 => k_is); (case l6 => k_is); (case c6 => k_is); (case k6 => k_is); (case a7 => k_is); (case l7 => k_is); (case c7 => k_is); (case k7 => k_is); (case a8 => k_is); (case l8 => k_is); (case c8 => k_is); (case k8 => k_is); (case a9 => k_is); (case l9 => k_is); (case c9 => k_is); (case k9 => k_is); (case a10 => k_is); (case l10 => k_is); (case c10 => k_is); (case k10 => k_is); (case a11 => k_is); (case l11 => k_is); (case c11 => k_is); (case k11 => k_is); (case a12 => k_is); (case l12 => k_is); (case c12 => k_is); (case k12 => k_is); (case a13 => k_is); (case l13 => k_is); (case c13 => k_is); (case k13 => k_is); (case a_SIZE => k_is); (case a_TWO_FOLLOW => k_is); (case a_THREE_FOLLOW => k_is); (case a_BadSlip => k_is); (case x_BadSlip => k_is); (case sa_BadSlip => k_is); (case ga_BadSlip => k_is); (case gk_BadSlip => k_is); (case hs_BadSlip => k_is); (case hd_BadSlip => k_is); (case ha_BadSlip => k_is); (case hm_BadSlip => k_is); (case ty_BadSlip => k_is); (case kC_BadSlip => k_is); (case i_BadSlip => k_is); (case t_BadSlip => k_is); (case l_BadSlip => k_is); (case c_BadSlip => k_is); (case k_BadSlip => k_is); (case n_BadSlip_part => k_is); (case a_BadLetter => k_is); (case x_BadLetter => k_is); (case sa_BadLetter => k_is); (case ga_BadLetter => k_is); (case gk_BadLetter => k_is); (case hs_BadLetter => k_is); (case hd_BadLetter => k_is); (case ha_BadLetter => k_is); (case hm_BadLetter => k_is); (case ty_BadLetter => k_is); (case kC_BadLetter => k_is); (case i_BadLetter => k_is); (case t_BadLetter => k_is); (case l_BadLetter => k_is); (case c_BadLetter => k_is); (case k_BadLetter => k_is); (case n_BadLetter_part => k_is); (case a_BadEnd => k_is); (case x_BadEnd => k_is); (case sa_BadEnd => k_is); (case ga_BadEnd => k_is); (case gk_BadEnd => k_is); (case hs_BadEnd => k_is); (case hd_BadEnd => k_is); (case ha_BadEnd => k_is); (case hm_BadEnd => k_is); (case ty_BadEnd => k_is); (case kC_BadEnd => k_is); (case i_BadEnd => k_is); (case t_BadEnd => k_is); (case l_BadEnd => k_is); (case c_BadEnd => k_is); (case k_BadEnd => k_is); (case n_BadEnd_part => k_is); (case a_BadText => k_is); (case x_BadText => k_is); (case sa_BadText => k_is); (case ga_BadText => k_is); (case gk_BadText => k_is); (case hs_BadText => k_is); (case hd_BadText => k_is); (case ha_BadText => k_is); (case hm_BadText => k_is); (case ty_BadText => k_is); (case kC_BadText => k_is); (case i_BadText => k_is); (case t_BadText => k_is); (case l_BadText => k_is); (case c_BadText => k_is); (case k_BadText => k_is); (case n_BadText_text => k_is); (case a_BadRow => k_is); (case x_BadRow => k_is); (case sa_BadRow => k_is); (case ga_BadRow => k_is); (case gk_BadRow => k_is); (case hs_BadRow => k_is); (case hd_BadRow => k_is); (case ha_BadRow => k_is); (case hm_BadRow => k_is); (case ty_BadRow => k_is); (case kC_BadRow => k_is); (case i_BadRow => k_is); (case t_BadRow => k_is); (case l_BadRow => k_is); (case c_BadRow => k_is); (case k_BadRow => k_is); (case n_BadRow_row => k_is); (case a_Fault => k_is); (case x_Fault => k_is); (case sa_Fault => k_is); (case ga_Fault => k_is); (case gk_Fault => k_is); (case hs_Fault => k_is); (case hd_Fault => k_is); (case ha_Fault => k_is); (case hm_Fault => k_is); (case ty_Fault => k_is); (case kC_Fault => k_is); (case i_Fault => k_is); (case t_Fault => k_is); (case l_Fault => k_is); (case c_Fault => k_is); (case k_Fault => k_is); (case n_Fault_code => k_is); (case n_Fault_at => k_is); (case a_NoSlip => k_is); (case x_NoSlip => k_is); (case sa_NoSlip => k_is); (case ga_NoSlip => k_is); (case gk_NoSlip => k_is); (case hs_NoSlip => k_is); (case hd_NoSlip => k_is); (case ha_NoSlip => k_is); (case hm_NoSlip => k_is); (case ty_NoSlip => k_is); (case kC_NoSlip => k_is); (case i_NoSlip => k_is); (case t_NoSlip => k_is); (case l_NoSlip => k_is); (case c_NoSlip => k_is); (case k_NoSlip => k_is); (case n_NoSlip_number => k_is); (case a_NoByte => k_is); (case x_NoByte => k_is); (case sa_NoByte => k_is); (case ga_NoByte => k_is); (case gk_NoByte => k_is); (case hs_NoByte => k_is); (case hd_NoByte => k_is); (case ha_NoByte => k_is); (case hm_NoByte => k_is); (case ty_NoByte => k_is); (case kC_NoByte => k_is); (case i_NoByte => k_is); (case t_NoByte => k_is); (case l_NoByte => k_is); (case c_NoByte => k_is); (case k_NoByte => k_is); (case n_NoByte_at => k_is); (case a_NoDeed => k_is); (case x_NoDeed => k_is); (case sa_NoDeed => k_is); (case ga_NoDeed => k_is); (case gk_NoDeed => k_is); (case hs_NoDeed => k_is); (case hd_NoDeed => k_is); (case ha_NoDeed => k_is); (case hm_NoDeed => k_is); (case ty_NoDeed => k_is); (case kC_NoDeed => k_is); (case i_NoDeed => k_is); (case t_NoDeed => k_is); (case l_NoDeed => k_is); (case c_NoDeed => k_is); (case k_NoDeed => k_is); (case n_NoDeed_many => k_is); (case a_Ended => k_is); (case x_Ended => k_is); (case sa_Ended => k_is); (case ga_Ended => k_is); (case gk_Ended => k_is); (case hs_Ended => k_is); (case hd_Ended => k_is); (case ha_Ended => k_is); (case hm_Ended => k_is); (case ty_Ended => k_is); (case kC_Ended => k_is); (case i_Ended => k_is); (case t_Ended => k_is); (case l_Ended => k_is); (case c_Ended => k_is); (case k_Ended => k_is); (case n_Ended_talk => k_is); (case hn_ => k_is); (case ht_ => k_is); (case lt_BadSlip => decide); (case lt_BadLetter => decide); (case lt_BadEnd => decide); (case lt_BadText => decide); (case lt_BadRow => decide); (case lt_Fault => decide); (case lt_NoSlip => decide); (case lt_NoByte => decide); (case lt_NoDeed => decide); (case v_IndexError => k_is); (case v_LookupError => k_is); (case v_RuntimeError => k_is); (case v_ValueError => k_is); (case z_len => k_is); (case z_abs => k_is); (case z_int => k_is); (case z_bool => k_is); (case z_list => k_is); (case z_tuple => k_is); (case z_isinstance => k_is); (case z_all => k_is); (case z_zip => k_is); (case z_min => k_is); (case z_range => k_is); (case z_ValueError => k_is)
