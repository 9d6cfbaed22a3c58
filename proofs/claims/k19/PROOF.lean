import PyProof.Rows.All
import Wide.All
import OpenK.AllK
import Wide.FinOn
import HandS.ForMost
import HandS.Walk
import HandS.IsInst
import HandS.Zip
import HandS.Defaults
import HandS.MakeKwOnly
import HandS.Style
import HandS.DeepEq
import KE.GoesMore
import KE.GoesEnum
import KE.GoesZip
import HandS.RaiseMore
import HandS.ExcInit
import HandS.ExcIs
import HandS.FStr
import KE.KExcPX
import HandS.Exc
import HandS.ExcOwn
import HandS.WordsExc
import HandS.CallSlots
import HandS.OwnEq
import OpenK.KOps
import KE.KCallOwn
import HandS.TupAny
import HandS.Conv
import HandS.CallLocal
import HandS.Text
import PySem.Challenge.RW_slipwire_k19_refused_and_gone_on
set_option Elab.async false
set_option linter.all false
set_option maxRecDepth 100000
set_option maxHeartbeats 4000000
/-! my own rules over the hand layer: enumerate of a tuple, a call by keywords alone -/
namespace PySem
open Sem (wp)
set_option maxHeartbeats 1000000 in
theorem my_meets_enumT (t : Addr) (items : Array Value) :
    Meets (Builtin.«enumerate.__new__» ⟨[.type "enumerate", .ref t], []⟩) (fun _ R s => s.heap.IsTuple t items ∧
      R (.ok (.ret (.ref (s.heap.push { cls := .type "tuple_iterator", data := .fields #[.ref t, .int 0 0] }).objs.size)))
        { s with heap := (s.heap.push { cls := .type "tuple_iterator", data := .fields #[.ref t, .int 0 0] }).push { cls := .type "enumerate", data := .fields #[.none, .bool false, .ref s.heap.objs.size, rawInt 0, .none, .none] } }) :=
  .of_wp fun prog w A R s h => by
    obtain ⟨hp, g, d, tk, os⟩ := s
    obtain ⟨hl, h⟩ := h
    have hsub := sub_enumerate
    have hL : Heap.IsTuple (Shared.heap ⟨hp, g, d, tk, os⟩) t items := hl
    wp_walk using wpAny_pyIter_tuple hL
    refine wpAny_stack_any fun st => wpAny_pure ?_
    split
    · rename_i c _ _ _ _ _
      cases (c == Value.type "enumerate")
      · wp_walk using wpAny_pyIter_tuple hL
        exact ⟨_, rfl, h⟩
      · wp_walk using wpAny_pyIter_tuple hL
        exact ⟨_, rfl, h⟩
    · wp_walk using wpAny_pyIter_tuple hL
      exact ⟨_, rfl, h⟩
theorem my_call_enumT {prog : Program} {w : World} {A : Around} {E : Value → Shared → Prop} {s : Shared} {t : Addr} {items : Array Value} {Q : Value → Shared → Prop} (hL : s.heap.IsTuple t items)
    (h : ∀ h', IsEnum h' (s.heap.objs.size + 1) s.heap.objs.size 0 .none → h'.IsTupleIter s.heap.objs.size t 0 → h'.objs.size = s.heap.objs.size + 2 →
      (∀ b o, s.heap.get? b = some o → h'.get? b = some o) → Q (.ref (s.heap.objs.size + 1)) { s with heap := h' }) :
    wpAny (model prog w) A (call (.type "enumerate") [.ref t]) Q E s := by
  refine callType_new F.called_enumerate (by decide) (F.typeCall_enumerate_1 _) (F.newCall_enumerate_1 _) (fun obj => F.args_object_init_2 obj _) F.entry_enumerate_new
    (my_meets_enumT t items) ⟨hL, ?_⟩
  have hz : (s.heap.push { cls := .type "tuple_iterator", data := .fields #[.ref t, .int 0 0] }).objs.size = s.heap.objs.size + 1 := Heap.size_push ..
  show _ ∧ _
  rw [hz]
  have he : IsEnum ((s.heap.push { cls := .type "tuple_iterator", data := .fields #[.ref t, .int 0 0] }).push
      { cls := .type "enumerate", data := .fields #[.none, .bool false, .ref s.heap.objs.size, rawInt 0, .none, .none] }) (s.heap.objs.size + 1) s.heap.objs.size 0 .none := by
    have := Heap.get?_push_size (s.heap.push { cls := .type "tuple_iterator", data := .fields #[.ref t, .int 0 0] })
      (o := { cls := .type "enumerate", data := .fields #[.none, .bool false, .ref s.heap.objs.size, rawInt 0, .none, .none] }) rfl
    rw [hz] at this; exact this
  refine ⟨⟨_, he, rfl⟩, h _ he ⟨_, Heap.get?_push_of_some _ (Heap.get?_push_size _ rfl), rfl, rfl⟩ (by rw [Heap.size_push, hz]) fun b o x => Heap.get?_push_of_some _ (Heap.get?_push_of_some _ x)⟩
end PySem
namespace L2
open PySem PySem.Spec PyProof.Rows
/-! ### enumerate(tuple) -/
def IteT (K : PySem.W.Frag) (a : Addr) : It :=
  ⟨fun i H => ∃ (xs : List V) (x : V), SqT K H a xs ∧ xs[i]? = some x, fun i H v H' => ∃ T x, v = .ref T ∧ H T = none ∧ H' = upd H T (.tup [.int (i : Nat), x]) ∧ ∀ xs, SqT K H a xs → xs[i]? = some x, fun i H => ∃ xs : List V, SqT K H a xs ∧ xs.length = i⟩
theorem turn_enumT {P : Program} {w : World} {K : PySem.W.Frag} {elts : List Expr} {kk : Nat} {tpos : Pos} (a e it : Addr) :
    Turn P w K (.Tuple elts kk tpos) (IteT K a) [e, it] e (fun i h => (∃ old, IsEnum h e it ((i : Nat) : Int) old) ∧ h.IsTupleIter it a i ∧ e ≠ it ∧ a ≠ it ∧ a ≠ e) where
  mem := by simp
  obj := fun i h st b hb => by
    obtain ⟨⟨old, he⟩, ⟨o, ho, hc, hd⟩, _⟩ := st
    have e' : b = e ∨ b = it := by simpa using hb
    rcases e' with z | z
    · rw [z]; exact ⟨_, he, fun v q => nomatch q⟩
    · rw [z]; exact ⟨o, ho, fun v q => by rw [hd] at q; cases q⟩
  keep := fun i h h' st k => let ⟨⟨old, he⟩, hi, hne⟩ := st; ⟨⟨old, k e (by simp) _ he⟩, hi.at fun o q => k it (by simp) o q, hne⟩
  item := by
    intro X hP hw hK hc i pins s σ H E I hf st hg
    subst hP hw hK
    obtain ⟨⟨old, he⟩, hit, hne, hai, hae⟩ := st
    obtain ⟨xs, x, hq, hx⟩ := hg
    obtain ⟨its, rv, p, hz⟩ := I.tuple hq
    obtain ⟨u, hu, ru⟩ := rv.get hx
    have hel : e < s.heap.objs.size := Heap.lt_size he
    have hil : it < s.heap.objs.size := by obtain ⟨_, q, _⟩ := hit; exact Heap.lt_size q
    have hlt : i < its.toArray.size := by
      have h1 : i < its.length := (List.getElem?_eq_some_iff.mp hu).1
      rw [List.size_toArray]
      exact h1
    have D : Draws X.prog X.w X.A.in1 it [it, a] its.toArray.size (fun i v => its.toArray[i]? = some v) (fun i h => h.IsTupleIter it a i ∧ h.IsTuple a its.toArray) := Draws.tuple (show X.A.in1.handled = none from I.ok.hd hc) it a hai its.toArray
    refine wpAny_pyNext_enum_itemD D he ⟨hit, p⟩ hlt hne (by simp only [List.mem_cons, List.not_mem_nil, or_false, not_or]; exact ⟨hne, fun z => hae z.symm⟩) fun v h' tk hP ho hs' hT hsz hk => ?_
    obtain rfl : u = v := by
      have z : its.toArray[i]? = some u := by simpa using hu
      rw [z] at hP
      exact Option.some.inj hP
    refine ⟨_, rfl, wpAny_letOwnedTupleGo_enum (s := { s with heap := h', toks := tk + 1 }) ho fun h'' he' sb => ?_⟩
    have hT2 : h''.get? s.heap.objs.size = some { cls := .type "tuple", data := .seq #[.int i tk, u] } := (sb.2 _ (Nat.ne_of_gt hel)).trans hT
    have new : ObjOk X.prog X.w (upd H s.heap.objs.size (.tup [.int (i : Nat), x])) h'' s.heap.objs.size (.tup [.int (i : Nat), x]) :=
      ⟨by show 2 ≤ sizeLine; decide, [.int i tk, u], .cons ⟨_, rfl⟩ (.cons ru .nil), ⟨_, hT2, rfl, _, rfl⟩⟩
    have I1 : Inv X pins σ (upd H s.heap.objs.size (.tup [.int (i : Nat), x])) { s with heap := h'', toks := tk + 1 } :=
      I.turnedNew (ch := [e, it]) (fun b ob hb q => (sb.2 b (fun z => hb (by simp [z]))).trans (hk b ob (fun z => hb (by simp [z])) (fun z => hb (by simp [z])) q)) hf (Nat.le_refl _) new
    refine ⟨.ref s.heap.objs.size, _, I1, rfl, ⟨_, x, rfl, I.hok.fresh (Nat.le_refl _), rfl, fun ys hy => by rw [I.tuple_inj hy hq]; exact hx⟩, ⟨⟨u, ?_⟩, hs'.1.at fun o q => (sb.2 it (Ne.symm hne)).trans q, hne, hai, hae⟩, fun b hb => ?_⟩
    · have e1 : ((i + 1 : Nat) : Int) = (i : Int) + 1 := by omega
      rw [e1]; exact he'
    · have hb' : b < s.heap.objs.size := by
        have e' : b = e ∨ b = it := by simpa using hb
        rcases e' with z | z
        · rw [z]; exact hel
        · rw [z]; exact hil
      rw [upd_ne (Nat.ne_of_lt hb')]
      exact (hf b hb).1
  done := by
    intro X hP hw hK hc i pins s σ H E I hf st hg
    subst hP hw hK
    obtain ⟨⟨old, he⟩, hit, hne, hai, hae⟩ := st
    obtain ⟨xs, hq, hx⟩ := hg
    obtain ⟨its, rv, p, hz⟩ := I.tuple hq
    obtain ⟨f0, f1, f2, f3, f4, f5⟩ := hf it (by simp)
    have hl := rv.length
    have hi : i = its.toArray.size := by rw [List.size_toArray]; omega
    subst hi
    have D : Draws X.prog X.w X.A.in1 it [it, a] its.toArray.size (fun i v => its.toArray[i]? = some v) (fun i h => h.IsTupleIter it a i ∧ h.IsTuple a its.toArray) := Draws.tuple (show X.A.in1.handled = none from I.ok.hd hc) it a hai its.toArray
    exact wpAny_pyNext_enum_endD D he ⟨hit, p⟩ fun h' eb => ⟨rfl, I.turned (t' := s.toks) (fun b o hb q => eb b o hb q) f0 f1 f3 f4 f5⟩
  self := fun A i s Q E st h => let ⟨⟨_, he⟩, _⟩ := st; wpAny_pyIter_enum he h
/-- enumerate of a list or a tuple -/
def iEnumA (K : PySem.W.Frag) (ta : TA) : TI := fun σ H R => ta σ H fun vs H1 => ∃ a xs, vs = [.ref a] ∧ ((SqL K H1 a xs ∧ R (Ite K a) H1) ∨ (SqT K H1 a xs ∧ R (IteT K a) H1))
theorem pi_enumA {X : Cx} {e : Expr} {ta : TA} {p pos tpos : Pos} {elts : List Expr} {kk : Nat} (hg : Gl X "enumerate") (hm : X.mg "enumerate" = none) (ha : PA X [e] ta) (hs : starEach [e] X.env = [(false, eval e X.env)] := by rfl) :
    PI X (.Tuple elts kk tpos) (.Call (.Name "enumerate" p) [e] [] pos) (iEnumA X.K ta) := by
  refine ⟨fun pins s σ H R I h => ?_⟩
  refine Call_ (ld_blt I hg hm boot_enumerate (PyProof.Rows.callWith_type1 (thn (ha.run pos pins s σ H _ I h) fun us s1 ⟨vs, H1, I1, r1, q1⟩ => ?_) hs rfl))
  obtain ⟨a, xs, ex, q1⟩ := q1
  subst ex
  cases r1 with
  | cons r rr =>
    cases rr
    cases r
    have fresh2 : ∀ b, b ∈ [s1.heap.objs.size + 1, s1.heap.objs.size] → FpOk X pins H1 b := fun b hb => by
      have e' : b = s1.heap.objs.size + 1 ∨ b = s1.heap.objs.size := by simpa using hb
      have hle : s1.heap.objs.size ≤ b := by
        rcases e' with z | z
        · rw [z]; exact Nat.le_add_right _ _
        · rw [z]; exact Nat.le_refl _
      exact I1.fpOk hle (I1.hok.fresh hle)
    rcases q1 with ⟨hq, q⟩ | ⟨hq, q⟩
    · obtain ⟨its, rv, p', hz⟩ := I1.list hq
      refine call_enumerate_list p'.isList fun h' he hit hsz hk => wpAny_pyIter_enum he ?_
      have I2 : Inv X pins σ H1 { s1 with heap := h' } := I1.kept (t' := s1.toks) hk
      exact ⟨s1.heap.objs.size + 1, [s1.heap.objs.size + 1, s1.heap.objs.size], _, _, H1, rfl, I2, turn_enum a (s1.heap.objs.size + 1) s1.heap.objs.size, ⟨⟨.none, he⟩, hit, Nat.succ_ne_self _⟩, fresh2, q⟩
    · obtain ⟨its, rv, p', hz⟩ := I1.tuple hq
      obtain ⟨o1, ho1, _⟩ := id p'
      have hlt : a < s1.heap.objs.size := Heap.lt_size ho1
      refine my_call_enumT (show s1.heap.IsTuple a its.toArray from p') fun h' he hit hsz hk => wpAny_pyIter_enum he ?_
      have I2 : Inv X pins σ H1 { s1 with heap := h' } := I1.kept (t' := s1.toks) hk
      exact ⟨s1.heap.objs.size + 1, [s1.heap.objs.size + 1, s1.heap.objs.size], _, _, H1, rfl, I2, turn_enumT a (s1.heap.objs.size + 1) s1.heap.objs.size, ⟨⟨.none, he⟩, hit, Nat.succ_ne_self _, Nat.ne_of_lt hlt, Nat.ne_of_lt (Nat.lt_succ_of_lt hlt)⟩, fresh2, q⟩
theorem walk_enumT {K : PySem.W.Frag} {a : Addr} {xs : List V} : Walk (IteT K a) xs.length (fun H => SqT K H a xs) (YPair (fun i => some (.int (i : Nat))) (fun i => xs[i]?)) := by
  refine ⟨fun i _ hi q => ⟨xs, xs[i], q, by simp [hi]⟩, fun _ q => ⟨xs, q, rfl⟩, fun i H v H' _ q y => ?_⟩
  obtain ⟨T, x, h1, h2, h3, h4⟩ := y
  exact ⟨T, .int (i : Nat), x, h1, h2, h3, rfl, h4 xs q⟩
/-! ### a call by keywords alone -/
section
variable {X : Cx} {CX : CXT} {k n : Nat} {f : Addr} {fd : FuncData} {ps ks : List Str} {sp : Sp} {x : Str} {g : List Value → List Value → List Value} {gV : List V → List V → List V} {E : XK} {tk : TA} {kws : List Keyword} {p pos : Pos}
theorem pe_callN0 (F : FnOk X.prog X.w X.K X.mg X.base CX k f fd ps sp) (hr : Room k X.A) (hg : Gl X x) (hm : X.mg x = some (.ref f)) (hk : PySem.W.keepIn X.K (.ref f) = true) (hb : KBn X.K fd ps 0 ks g gV) (hx : Passes CX X E)
    (hkw : PK X kws tk) (hall : (backToKw pos (keywordEach kws X.env)).all (·.1.isSome) = true := by rfl) (hks : (backToKw pos (keywordEach kws X.env)).filterMap (·.1) = ks := by rfl)
    (hdb : (x == ("__debug__" : Str)) = false := by decide)
    (hpl : ((backTo pos (starEach [] X.env)).any (·.1) || (backToKw pos (keywordEach kws X.env)).any (·.1.isNone)) = false := by rfl) :
    PE X (.Call (.Name x p) [] kws pos) (tCallN 0 ks.length sp gV E tNil tk) := by
  refine ⟨fun pins s σ H Q I h => ?_⟩
  refine wpAny_Call_Name_kw (ld_glob I hg hm ?_ hdb)
  refine PySem.W.callWith_KW0 (h₀ := X.base) I.ok.mod.kin hk hall ?_ hpl
  refine thn (hkw.run pos pins s σ H _ I h) fun ws s2 ⟨zs, H2, I2, rz, l1, l2, q2⟩ => ⟨I2.kIn, ?_⟩
  rw [hks]
  exact run_fnN (us := []) (vs := []) F hr hb hx I2 .nil rz rfl l2 q2
end
end L2

set_option Elab.async false
set_option linter.all false
set_option maxRecDepth 100000
set_option maxHeartbeats 4000000
/-! my own rule: zip of two rows, each a list or a tuple (kind true: a tuple) -/
namespace L2
open PySem PySem.Spec PyProof.Rows
def SqX (K : PySem.W.Frag) (H : Hp) : Bool → Addr → List V → Prop
  | true, a, xs => SqT K H a xs
  | false, a, xs => SqL K H a xs
def ItX (h : Heap) : Bool → Addr → Addr → Nat → Prop
  | true, it, a, i => h.IsTupleIter it a i
  | false, it, a, i => h.IsListIter it a i
def SeX (h : Heap) : Bool → Addr → Array Value → Prop
  | true, a, its => h.IsTuple a its
  | false, a, its => h.IsList a its
theorem drawX {prog : Program} {w : World} {A : Around} (k : Bool) (hh : A.handled = none) (it a : Addr) (hne : a ≠ it) (its : Array Value) :
    Draws prog w A it [it, a] its.size (fun i v => its[i]? = some v) (fun i h => ItX h k it a i ∧ SeX h k a its) := by
  cases k with
  | true => exact Draws.tuple hh it a hne its
  | false => exact Draws.list hh it a hne its
theorem ItX.at {h h' : Heap} {k : Bool} {it a : Addr} {i : Nat} (x : ItX h k it a i) (e : ∀ o, h.get? it = some o → h'.get? it = some o) : ItX h' k it a i := by
  cases k with
  | true => exact Heap.IsTupleIter.at x e
  | false => exact Heap.IsListIter.at x e
theorem ItX.obj {h : Heap} {k : Bool} {it a : Addr} {i : Nat} (x : ItX h k it a i) : ∃ o, h.get? it = some o ∧ ∀ v, o.data ≠ .cell v := by
  cases k with
  | true =>
    obtain ⟨o, e, _, d⟩ := x
    exact ⟨o, e, fun v q => by rw [d] at q; cases q⟩
  | false =>
    obtain ⟨o, e, _, d⟩ := x
    exact ⟨o, e, fun v q => by rw [d] at q; cases q⟩
section
variable {X : Cx} {pins : List (Addr × Obj)} {σ : St} {H : Hp} {s : Shared} {k : Bool} {a : Addr} {xs ys : List V}
theorem sqx_get (I : Inv X pins σ H s) (h : SqX X.K H k a xs) : ∃ its : List Value, Vals xs its ∧ SeX s.heap k a its.toArray ∧ a < s.heap.objs.size := by
  cases k with
  | true =>
    obtain ⟨its, rv, p, _⟩ := I.tuple h
    obtain ⟨o, ho, _⟩ := id p
    exact ⟨its, rv, p, Heap.lt_size ho⟩
  | false =>
    obtain ⟨its, rv, p, _⟩ := I.list h
    exact ⟨its, rv, p.isList, p.lt⟩
theorem sqx_inj (I : Inv X pins σ H s) (h : SqX X.K H k a xs) (g : SqX X.K H k a ys) : xs = ys := by
  cases k with
  | true => exact I.tuple_inj h g
  | false => exact I.list_inj h g
end
theorem beginsX (k : Bool) (a : Addr) (its : Array Value) : ∃ o, Begins (.ref a) o (fun h => SeX h k a its) ∧ ∀ (h : Heap) (it : Addr), h.get? it = some o → ItX h k it a 0 := by
  cases k with
  | true => exact ⟨_, begins_tuple a its, fun h it e => ⟨_, e, rfl, rfl⟩⟩
  | false => exact ⟨_, begins_list a its, fun h it e => ⟨_, e, rfl, rfl⟩⟩
/-- two rows as they stand at each turn, the items in new pairs -/
def ItzG (K : PySem.W.Frag) (k1 k2 : Bool) (a b : Addr) : It :=
  ⟨fun i H => ∃ (xs ys : List V) (x y : V), SqX K H k1 a xs ∧ SqX K H k2 b ys ∧ xs[i]? = some x ∧ ys[i]? = some y,
    fun i H v H' => ∃ T x y, v = .ref T ∧ H T = none ∧ H' = upd H T (.tup [x, y]) ∧ (∀ xs, SqX K H k1 a xs → xs[i]? = some x) ∧ ∀ ys, SqX K H k2 b ys → ys[i]? = some y,
    fun i H => ∃ xs ys : List V, SqX K H k1 a xs ∧ SqX K H k2 b ys ∧ min xs.length ys.length = i⟩
theorem turn_zipG {P : Program} {w : World} {K : PySem.W.Frag} {elts : List Expr} {kk : Nat} {tpos : Pos} {k1 k2 : Bool} {a b z TI TO i1 i2 : Addr} (S : ZipSep2 z TI TO i1 i2 [i1, a] [i2, b]) (hi : i1 ≠ i2) (ha : a ≠ i1) (hb : b ≠ i2) :
    Turn P w K (.Tuple elts kk tpos) (ItzG K k1 k2 a b) [z, TI, TO, i1, i2] z (fun i h => IsZip h z TI TO .none ∧ IsTupOf2 h TI (.ref i1) (.ref i2) ∧ (∃ x y, IsTupOf2 h TO x y) ∧ ItX h k1 i1 a i ∧ ItX h k2 i2 b i) where
  mem := by simp
  obj := fun i h st c hc => by
    obtain ⟨q1, q2, ⟨x, y, q3⟩, q4, q5⟩ := st
    simp only [List.mem_cons, List.not_mem_nil, or_false] at hc
    rcases hc with rfl | rfl | rfl | rfl | rfl
    · exact ⟨_, q1, fun v q => nomatch q⟩
    · exact ⟨_, q2, fun v q => nomatch q⟩
    · exact ⟨_, q3, fun v q => nomatch q⟩
    · exact q4.obj
    · exact q5.obj
  keep := fun i h h' st kp => by
    obtain ⟨q1, q2, ⟨x, y, q3⟩, q4, q5⟩ := st
    exact ⟨kp z (by simp) _ q1, kp TI (by simp) _ q2, ⟨x, y, kp TO (by simp) _ q3⟩, q4.at fun o q => kp i1 (by simp) o q, q5.at fun o q => kp i2 (by simp) o q⟩
  item := by
    intro X hP hw hK hc i pins s σ H E I hf st hg
    subst hP hw hK
    obtain ⟨q1, q2, ⟨x0, y0, q3⟩, q4, q5⟩ := st
    obtain ⟨xs, ys, x, y, hqx, hqy, hx, hy⟩ := hg
    obtain ⟨its, rv, pa, la⟩ := sqx_get I hqx
    obtain ⟨jts, rw', pb, lb⟩ := sqx_get I hqy
    obtain ⟨u, hu, ru⟩ := rv.get hx
    obtain ⟨v, hv, rv'⟩ := rw'.get hy
    have lz : z < s.heap.objs.size := Heap.lt_size q1
    have n1 : i < its.toArray.size := by
      rw [List.size_toArray]
      exact (List.getElem?_eq_some_iff.mp hu).1
    have n2 : i < jts.toArray.size := by
      rw [List.size_toArray]
      exact (List.getElem?_eq_some_iff.mp hv).1
    have hh : X.A.in1.handled = none := I.ok.hd hc
    refine wpAny_pyNext_zipD2_item S (drawX k1 hh i1 a ha its.toArray) (drawX k2 hh i2 b hb jts.toArray) q1 q2 q3 ⟨q4, pa⟩ ⟨q5, pb⟩ n1 n2 fun u' v' h' tk hu' hv' z1 t1 d1 d2 hT hsz hk => ?_
    obtain rfl : u = u' := by
      have e : its.toArray[i]? = some u := by simpa using hu
      exact Option.some.inj (e.symm.trans hu')
    obtain rfl : v = v' := by
      have e : jts.toArray[i]? = some v := by simpa using hv
      exact Option.some.inj (e.symm.trans hv')
    refine ⟨_, rfl, wpAny_letOwnedTupleGo_zip (s := { s with heap := h', toks := tk }) z1 fun h'' z2 sb => ?_⟩
    have up : ∀ c o, c ≠ z → h'.get? c = some o → h''.get? c = some o := fun c o hc' e => (sb.2 c hc').trans e
    have tupN : h''.get? s.heap.objs.size = some { cls := .type "tuple", data := .seq #[u, v] } := up _ _ (Nat.ne_of_gt lz) hT
    have fresh : ObjOk X.prog X.w (upd H s.heap.objs.size (.tup [x, y])) h'' s.heap.objs.size (.tup [x, y]) :=
      ⟨by show 2 ≤ sizeLine; decide, [u, v], .cons ru (.cons rv' .nil), ⟨_, tupN, rfl, _, rfl⟩⟩
    have J : Inv X pins σ (upd H s.heap.objs.size (.tup [x, y])) { s with heap := h'', toks := tk } :=
      I.turnedNew (t' := tk) (ch := [z, TI, TO, i1, i2]) (fun c o hb' e => up c o (fun q => hb' (by simp [q])) (hk c o (fun q => hb' (by simp [q])) (fun q => hb' (by simp [q])) (fun q => hb' (by simp [q])) (fun q => hb' (by simp [q])) e)) hf (Nat.le_refl _) fresh
    refine ⟨.ref s.heap.objs.size, _, J, rfl, ⟨_, x, y, rfl, I.hok.fresh (Nat.le_refl _), rfl, fun l hl => by rw [sqx_inj I hl hqx]; exact hx, fun l hl => by rw [sqx_inj I hl hqy]; exact hy⟩, ⟨z2, ?_, ⟨u, v, ?_⟩, ?_, ?_⟩, fun c hcm => ?_⟩
    · exact up _ _ S.TIz (hk _ _ S.TIz S.TITO S.TIi1 S.TIi2 q2)
    · exact up _ _ S.TOz t1
    · exact d1.1.at fun o e => up _ o (Ne.symm S.zi1) e
    · exact d2.1.at fun o e => up _ o (Ne.symm S.zi2) e
    · have lc : c < s.heap.objs.size := by
        simp only [List.mem_cons, List.not_mem_nil, or_false] at hcm
        rcases hcm with rfl | rfl | rfl | rfl | rfl
        · exact lz
        · exact Heap.lt_size q2
        · exact Heap.lt_size q3
        · obtain ⟨o, e, _⟩ := q4.obj
          exact Heap.lt_size e
        · obtain ⟨o, e, _⟩ := q5.obj
          exact Heap.lt_size e
      rw [upd_ne (Nat.ne_of_lt lc)]
      exact (hf c hcm).1
  done := by
    intro X hP hw hK hc i pins s σ H E I hf st hg
    subst hP hw hK
    obtain ⟨q1, q2, ⟨x0, y0, q3⟩, q4, q5⟩ := st
    obtain ⟨xs, ys, hqx, hqy, hend⟩ := hg
    obtain ⟨its, rv, pa, _⟩ := sqx_get I hqx
    obtain ⟨jts, rw', pb, _⟩ := sqx_get I hqy
    have l1 := rv.length
    have l2 := rw'.length
    have hh : X.A.in1.handled = none := I.ok.hd hc
    exact wpAny_pyNext_zipD2_end (i := i) S (drawX k1 hh i1 a ha its.toArray) (drawX k2 hh i2 b hb jts.toArray) q1 q2 q3 ⟨q4, pa⟩ ⟨q5, pb⟩ (by rw [List.size_toArray]; omega) (by rw [List.size_toArray]; omega) (by rw [List.size_toArray, List.size_toArray]; omega)
      fun h' tk hk => ⟨rfl, I.turnedL (t' := tk) (ch := [z, TI, TO, i1, i2]) (fun c o hb' e => hk c o (fun q => hb' (by simp [q])) (fun q => hb' (by simp [q])) (fun q => hb' (by simp [q])) (fun q => hb' (by simp [q])) e) hf⟩
  self := fun A i s Q E st h => wpAny_pyIter_zip st.1 h
def iZipG (K : PySem.W.Frag) (ta : TA) : TI := fun σ H R => ta σ H fun vs H1 => ∃ (k1 k2 : Bool) (a b : Addr) (xs ys : List V), vs = [.ref a, .ref b] ∧ SqX K H1 k1 a xs ∧ SqX K H1 k2 b ys ∧ R (ItzG K k1 k2 a b) H1
theorem pi_zipG {X : Cx} {e e2 : Expr} {ta : TA} {p pos tpos : Pos} {elts : List Expr} {kk : Nat} (hg : Gl X "zip") (hm : X.mg "zip" = none) (ha : PA X [e, e2] ta)
    (hs : starEach [e, e2] X.env = (false, eval e X.env) :: starEach [e2] X.env := by rfl) (hpl : (backTo pos (starEach [e2] X.env)).any (·.1) = false := by rfl) :
    PI X (.Tuple elts kk tpos) (.Call (.Name "zip" p) [e, e2] [] pos) (iZipG X.K ta) := by
  refine ⟨fun pins s σ H R I h => ?_⟩
  refine Call_ (ld_blt I hg hm PyProof.Rows.boot_zip (PyProof.Rows.callWith_type1 (thn (ha.run pos pins s σ H _ I h) fun us s1 ⟨vs, H1, I1, r1, q1⟩ => ?_) hs hpl))
  obtain ⟨k1, k2, a, b, xs, ys, ex, hqx, hqy, q⟩ := q1
  subst ex
  obtain ⟨u1, u2, rfl, ra, rb⟩ := vals2 r1
  cases (show u1 = Value.ref a from ra)
  cases (show u2 = Value.ref b from rb)
  obtain ⟨its, rv, pa, la⟩ := sqx_get I1 hqx
  obtain ⟨jts, rw', pb, lb⟩ := sqx_get I1 hqy
  obtain ⟨o1, B1, i1⟩ := beginsX k1 a its.toArray
  obtain ⟨o2, B2, i2⟩ := beginsX k2 b jts.toArray
  refine zip_begins2 B1 B2 pa pb fun h' hz hTI hTO h1 h2 hsz hk => wpAny_pyIter_zip hz ?_
  have J : Inv X pins σ H1 { s1 with heap := h' } := I1.kept (t' := s1.toks) hk
  have sep := zip_sep2 (N := s1.heap.objs.size) (fp1 := [a]) (fp2 := [b]) (fun c hc => by rw [List.mem_singleton.mp hc]; exact la) (fun c hc => by rw [List.mem_singleton.mp hc]; exact lb)
  refine ⟨s1.heap.objs.size + 4, [s1.heap.objs.size + 4, s1.heap.objs.size + 2, s1.heap.objs.size + 3, s1.heap.objs.size, s1.heap.objs.size + 1], _, _, H1, rfl, J, turn_zipG sep (Nat.ne_of_lt (Nat.lt_succ_self _)) (Nat.ne_of_lt la) (Nat.ne_of_lt (Nat.lt_succ_of_lt lb)), ⟨hz, hTI, ⟨_, _, hTO⟩, i1 _ _ h1, i2 _ _ h2⟩, fun c hcm => ?_, q⟩
  have hle : s1.heap.objs.size ≤ c := by
    simp only [List.mem_cons, List.not_mem_nil, or_false] at hcm
    rcases hcm with rfl | rfl | rfl | rfl | rfl
    · exact Nat.le_add_right _ _
    · exact Nat.le_add_right _ _
    · exact Nat.le_add_right _ _
    · exact Nat.le_refl _
    · exact Nat.le_add_right _ _
  exact I1.fpOk hle (I1.hok.fresh hle)
theorem walk_zipG {K : PySem.W.Frag} {k1 k2 : Bool} {a b : Addr} {xs ys : List V} {n : Nat} (hn : n = min xs.length ys.length) : Walk (ItzG K k1 k2 a b) n (fun H => SqX K H k1 a xs ∧ SqX K H k2 b ys) (YPair (fun i => xs[i]?) (fun i => ys[i]?)) := by
  subst hn
  refine ⟨fun i _ hi q => ?_, fun _ q => ⟨xs, ys, q.1, q.2, rfl⟩, fun i H v H' _ q y => ?_⟩
  · have h1 : i < xs.length := by omega
    have h2 : i < ys.length := by omega
    exact ⟨xs, ys, xs[i], ys[i], q.1, q.2, by simp [h1], by simp [h2]⟩
  · obtain ⟨T, x, z, h1, h2, h3, h4, h5⟩ := y
    exact ⟨T, x, z, h1, h2, h3, h4 xs q.1, h5 ys q.2⟩
end L2

set_option Elab.async false
set_option linter.all false
set_option maxRecDepth 100000
set_option maxHeartbeats 4000000
/-! my own rules: repr of data, for defs that are called where no repr is under way -/
namespace L2
open PySem PySem.Spec PyProof.Rows
/-- a promise that is kept where no repr is under way -/
structure FnG (P : Program) (w : World) (K : PySem.W.Frag) (mg : Str → Option Value) (base : Heap) (k : Nat) (f : Addr) (fd : FuncData) (ps : List Str) (sp : Sp) : Prop where
  len : ∀ vs H Q E, sp vs H Q E → vs.length = ps.length
  run : ∀ (A : Around) (outer : List Env) (s : Shared) (H : Hp) (args : Args) (us : List Value) (vs : List V) (Q : VK) (E : XK), A.guards = some [] → Room k A → Env0 P w K mg base A outer s H →
    BindsTo s fd args (ps.zip us) → Vals vs us → sp vs H Q E → codeAny (model P w) A (.call (.ref f) args) (CR CX0 outer P w H s Q E) s
theorem FnOk.guarded {P : Program} {w : World} {K : PySem.W.Frag} {mg : Str → Option Value} {base : Heap} {k : Nat} {f : Addr} {fd : FuncData} {ps : List Str} {sp : Sp} (F : FnOk P w K mg base CX0 k f fd ps sp) : FnG P w K mg base k f fd ps sp :=
  ⟨F.len, fun A outer s H args us vs Q E _ hr e0 hb r h => F.run A outer s H args us vs Q E hr e0 hb r h⟩
/-- the rule for such a def -/
theorem Fun.okG {P : Program} {w : World} {K : PySem.W.Frag} {mg : Str → Option Value} {base : Heap} {x qual : Str} {st : Stmt} {f : Addr} {fd : FuncData} {N ps : List Str} {k : Nat} {sp : Sp} (F : Fun K x qual st f fd) (S : FnScope N ps (defScope st))
    (len : ∀ vs H Q E, sp vs H Q E → vs.length = ps.length)
    (hbody : ∀ (cdv : Value) (A : Around) (outer : List Env) (s : Shared) (H : Hp) (vs : List V) (Q : VK) (E : XK), A.guards = some [] → Room k (A.deeper (envOfC qual (defScope st) s.heap.objs.size f cdv)) → sp vs H Q E →
      ∃ t, PSs (cxOf CX0 P w K mg base N qual (defScope st) f cdv A outer s H E).nox (defBody st) t ∧ t { nx := fun _ H' => Q .non H', rt := Q } (start N vs) H) : FnG P w K mg base (k + 1) f fd ps sp := by
  obtain ⟨oc, od, kV, doc, pm, an, cdv, ct, osl, rfl, lk, hcd⟩ := F.ex
  refine ⟨len, fun A outer s H args us vs Q E hgd hr e0 hb r hsp => ?_⟩
  have many := len _ _ _ _ hsp
  have written : K.In s.heap := e0.mod.kin.keeps fun c oo z => (e0.bs c oo z).1
  have noLimit : s.heap.NoLimit := e0.mod.nolimit.keeps fun c oo z => (e0.bs c oo z).1
  have kinds : ∀ y ∈ ps.zip us, (defScope st).names.lookup y.1 = some .local ∨ ((defScope st).names.lookup y.1 = some .cell ∧ ((cellsFrom (s.heap.objs.size + 1) (defScope st).names []).lookup y.1).isSome = true) := fun ⟨n, v⟩ hy => by
    rcases S.par n (List.of_mem_zip hy).1 with z | z
    · exact .inl z
    · exact .inr ⟨z, PySem.W.cellsFrom_some _ _ _ (.inl z)⟩
  refine codeAny_call_function hr.depth (written _ _ lk) rfl S.co S.gen rfl (PySem.W.codeRec_of written hcd) (hb _ _ _ _ ?_)
  refine wpAny_newFunctionEnv_cells S.kind kinds fun env0 he s1 inside => ?_
  subst he
  refine ⟨noLimit.keeps inside.toInCall.keep, codeAny_func ?_⟩
  obtain ⟨t, ht, hq⟩ := hbody cdv A outer s H vs Q E hgd (hr.deeper _) hsp
  have J0 : Inv (cxOf CX0 P w K mg base N qual (defScope st) f cdv A outer s H E) [] (start N vs) H s1 := inv_start S hr.hd e0 many r inside
  refine wpAny_mono (ht.nox.run [] s1 (start N vs) H _ J0 hq) (fun flow s' hs => ?_) fun e s' hs => hs
  have close : ∀ {σ' : St} {H' : Hp} {v : V} {u : Value}, Inv (cxOf CX0 P w K mg base N qual (defScope st) f cdv A outer s H E) [] σ' H' s' → RelV v u → Q v H' → CE outer P w H s Q u s' :=
    fun {σ' H' v u} J rv z => ⟨v, H', J.os, J.bare, J.base, J.hok, rv, z⟩
  cases flow with
  | ret u =>
    obtain ⟨v, σ', H', J, rv, z⟩ := hs
    exact close J rv z
  | next =>
    obtain ⟨σ', H', J, z⟩ := hs
    exact close (v := V.non) (u := Value.none) J rfl z
  | brk =>
    obtain ⟨_, _, _, z⟩ := hs
    exact z.elim
  | cont =>
    obtain ⟨_, _, _, z⟩ := hs
    exact z.elim
/-- the law's own call -/
theorem law_callG {P : Program} {w : World} {K : PySem.W.Frag} {mg mb : Str → Option Value} {k : Nat} {fa a : Addr} {fd : FuncData} {x : Str} {sp : Sp} {s₁ : Shared} {vs : List Value} {ns : List Int}
    (KX : K.In s₁.heap) (hns : s₁.heap.Ns mainGlobals mg) (hb : s₁.heap.Ns builtinsNs mb) (hbb : ∀ x : Str, x ≠ "__name__" → mb x = bootBuiltins x) (hlim : s₁.heap.NoLimit) (hg : s₁.gens = #[])
    (ha : s₁.heap.get? a = some { cls := .type "list", data := .seq vs.toArray }) (hi : IntsAre vs ns) (hl : ns.length ≤ sizeLine) (hr : Room k callerA)
    (F : ∀ base : Heap, K.In base → base.Ns mainGlobals mg → FnG P w K mg base k fa fd [x] sp) (hbind : ∀ (s : Shared) (u : Value), BindsTo s fd ⟨[u], []⟩ [(x, u)])
    (hsp : ∀ H : Hp, Only H → SqL K H a (ns.map V.int) → sp [.ref a] H (fun v _ => v = .bl true) fun _ _ _ => False) :
    codeAny (model P w) callerA (.call (.ref fa) ⟨[.ref a], []⟩) (fun r s' => r = .ok (.ret (.bool true)) ∧ OldK s₁.heap s'.heap ∧ s'.os = s₁.os ∧ AllBare s'.gens) s₁ := by
  have pair := vals_ints hi
  have size := hi.length
  have from_ : ∀ H : Hp, Only H → SqL K H a (ns.map V.int) → HOk P w H s₁.heap → (∀ c, H c ≠ none → c = a) → (H a ≠ none → K.lookup a = none) →
      codeAny (model P w) callerA (.call (.ref fa) ⟨[.ref a], []⟩) (fun r s' => r = .ok (.ret (.bool true)) ∧ OldK s₁.heap s'.heap ∧ s'.os = s₁.os ∧ AllBare s'.gens) s₁ := by
    intro H only row held alone apart
    have below : ∀ {c : Addr} {oo : Obj}, s₁.heap.get? c = some oo → H c = none → (hidT s₁.heap H).get? c = some oo := fun z n => hidT_get z n
    have noDict : ∀ {c : Addr} {oo : Obj} {es : Array DictEntry} {ep : Nat}, s₁.heap.get? c = some oo → oo.data = .dict es ep → H c = none := fun {c oo es ep} z d => by
      cases hc : H c with
      | none => rfl
      | some u =>
        have same : c = a := alone c (by rw [hc]; simp)
        subst same
        rw [ha] at z
        cases z
        cases (show Data.seq vs.toArray _ = Data.dict es ep from d)
    have spaces : ∀ {c : Addr} {m : Str → Option Value}, s₁.heap.Ns c m → (hidT s₁.heap H).Ns c m := fun {c m} ⟨oo, es, ep, z, d, rest⟩ => ⟨oo, es, ep, below z (noDict z d), d, rest⟩
    have hidden : K.In (hidT s₁.heap H) := fun c oo z => below (KX c oo z) (by
      cases hc : H c with
      | none => rfl
      | some u =>
        have same : c = a := alone c (by rw [hc]; simp)
        subst same
        rw [apart (by rw [hc]; simp)] at z
        cases z)
    have module_ : Mod K mg (hidT s₁.heap H) := ⟨hidden, spaces hns, ⟨mb, spaces hb, hbb⟩, let ⟨mc, h1, h2⟩ := hlim; ⟨mc, spaces h1, h2⟩⟩
    have start_ : Env0 P w K mg (hidT s₁.heap H) callerA [] s₁ H := ⟨rfl, module_, fun c oo z => of_hidT z, Nat.le_of_eq (hidT_size _ _), trivial, fun c hc => absurd (show c ∈ ([] : List Addr) from hc) (by simp), held, .of_eq hg⟩
    refine codeAny_mono ((F _ hidden (spaces hns)).run callerA [] s₁ H ⟨[.ref a], []⟩ [.ref a] [.ref a] _ _ rfl hr start_ (hbind s₁ (.ref a)) (.cons rfl .nil) (hsp H only row)) fun r s' after => ?_
    cases r with
    | error e => exact after.elim
    | ok flow =>
      cases flow with
      | next => exact after.elim
      | brk => exact after.elim
      | cont => exact after.elim
      | ret u =>
        obtain ⟨v, H', os, bare, un, held', rel, z⟩ := after
        cases (show v = .bl true from z)
        obtain rfl : u = Value.bool true := rel
        refine ⟨rfl, OldK.of_keep fun c oo e => ?_, os, bare⟩
        cases hc : H c with
        | none => exact un.keep c oo e hc (fun y => absurd (show c ∈ ([] : List Addr) from y) (by simp)) (by simp)
        | some u =>
          rcases only c with y | ⟨ob, xs, y⟩
          · rw [hc] at y
            cases y
          · have y' := un.frzs c ob _ y
            obtain ⟨g1, _⟩ := held c _ y
            obtain ⟨g2, _⟩ := held' c _ y'
            rw [e] at g1
            cases g1
            exact g2
  cases look : K.lookup a with
  | some oo =>
    have e := KX a oo look
    rw [ha] at e
    cases e
    exact from_ (fun _ => none) (fun _ => .inl rfl) (.inr ⟨_, vs.toArray, _, look, rfl, rfl, rfl, by rw [List.size_toArray, size]; exact hl, by simpa using pair⟩) (fun c u z => by cases (show (none : Option HO) = some u from z)) (fun c z => absurd rfl z) fun z => absurd rfl z
  | none =>
    refine from_ (fun c => if c = a then some (.frz { cls := .type "list", data := .seq vs.toArray } (.lst (ns.map V.int))) else none) (fun c => ?_) (.inl (.inr ⟨{ cls := .type "list", data := .seq vs.toArray }, if_pos rfl⟩)) (fun c u z => ?_) (fun c z => ?_) fun _ => look
    · by_cases hc : c = a
      · exact .inr ⟨_, _, if_pos hc⟩
      · exact .inl (if_neg hc)
    · by_cases hc : c = a
      · cases (if_pos hc).symm.trans z
        subst hc
        exact ⟨ha, by rw [List.length_map]; exact hl, vs, _, pair, ha⟩
      · cases (if_neg hc).symm.trans z
    · by_cases hc : c = a
      · exact hc
      · exact absurd (if_neg hc) z
theorem walk_ofG {l : PySem.W.OpenLaw} {n k : Nat} {q : Program} {loose : List Str} {XP : (Str → Option Value) → Heap → Prop} {YP : World → Heap → Prop} {d : DefRec} {K : Params → PySem.W.Frag} {sp : World → Sp} {x : Str}
    (hn : l.most = some n) (hn2 : n ≤ sizeLine) (hdf : d.params.defaults = []) (hr : Room k callerA)
    (hY : ∀ (w : World) (h : Heap), YP w h → (K w.params).In h)
    (F : ∀ (w : World) (mg : Str → Option Value) (fa : Addr) (h : Heap), (K w.params).In h → h.Ns mainGlobals mg → mg d.name = some (.ref fa) →
      ∃ fd : FuncData, (∀ (s : Shared) (u : Value), BindsTo s fd ⟨[u], []⟩ [(x, u)]) ∧ ∀ base : Heap, (K w.params).In base → base.Ns mainGlobals mg → FnG l.prog w (K w.params) mg base k fa fd [x] (sp w))
    (hsp : ∀ (w : World) (H : Hp) (a : Addr) (ns : List Int), ns.length ≤ n → Only H → SqL (K w.params) H a (ns.map V.int) → sp w [.ref a] H (fun v _ => v = .bl true) fun _ _ _ => False) :
    PySem.W.WalkO q loose XP YP l.row.toRowW d [] (fun f vs => PySem.call f vs) := by
  refine Att.attach_call hn hdf fun w s₀ s₁ mg mb fa o pm cd doc a vs ns G Y ho hd hcd hmg hobj hints hlen hg => ?_
  obtain ⟨fd, hb, hF⟩ := F w mg fa _ (hY w _ Y) G.T.g hmg
  exact law_callG (hY w _ Y) G.T.g G.T.b G.T.builtins G.T.nolimit hg hobj hints (Nat.le_trans hlen hn2) hr hF hb fun H only row => hsp w H a ns hlen only row
/-! ### repr of data -/
mutual
theorem dp_noDict {K : PySem.W.Frag} {H : Hp} : ∀ (d : PyData) {v : V}, Dp K H v d → d.hasDict = false
  | .none, _, _ => rfl
  | .bool _, _, _ => rfl
  | .int _, _, _ => rfl
  | .str _, _, _ => rfl
  | .list ds, _, h => by
    cases h with
    | lst _ a => exact dpAll_noDict ds a
  | .tuple ds, _, h => by
    cases h with
    | tup _ a => exact dpAll_noDict ds a
  | .dict _, _, h => nomatch h
theorem dpAll_noDict {K : PySem.W.Frag} {H : Hp} : ∀ (ds : List PyData) {vs : List V}, DpAll K H vs ds → PyData.hasDictAll ds = false
  | [], _, _ => rfl
  | d :: ds, _, h => by
    cases h with
    | cons a b =>
      show (d.hasDict || PyData.hasDictAll ds) = false
      rw [dp_noDict d a, dpAll_noDict ds b]
      rfl
end
def rReprD (K : PySem.W.Frag) : List V → Hp → VK → Prop := fun xs H Q => ∃ (x : V) (d : PyData), xs = [x] ∧ Dp K H x d ∧ d.showable = true ∧ d.depth ≤ 60 ∧ d.shown.length ≤ sizeLine ∧ Q (.str d.shown) H
theorem call_reprD {X : Cx} (hg : X.A.guards = some []) (hu : X.A.units + 64 < cLine) : CallR X (.builtin "repr") (rReprD X.K) := by
  intro pins s σ H xs us Q I r h
  obtain ⟨x, d, rfl, hd, hs, hdep, hz, q⟩ := h
  obtain ⟨u, rfl, ru⟩ := vals1 r
  obtain ⟨as, rd⟩ := Dp.reads I d x u hd ru
  have nd := dp_noDict d hd
  cases hd with
  | non =>
    cases (show u = Value.none from ru)
    exact PySem.P.repr_of_none ⟨.str _, H, I.tok _, ⟨_, rfl⟩, q⟩
  | bl b =>
    cases (show u = Value.bool b from ru)
    exact PySem.P.repr_of_bool ⟨.str _, H, I.tok _, ⟨_, rfl⟩, q⟩
  | int i =>
    obtain ⟨t, rfl⟩ := ru
    exact PySem.P.repr_of_int (of_decide_eq_true hs) ⟨.str _, H, I.tok _, ⟨_, rfl⟩, q⟩
  | str y =>
    obtain ⟨t, rfl⟩ := ru
    exact PySem.P.repr_of_str ⟨.str _, H, I.tok _, ⟨_, rfl⟩, q⟩ (hsz := hz)
  | lst hq ha =>
    cases ru
    exact repr_of_reads' rd hs (fun z => by rw [nd] at z; cases z) hg (by omega) (fun _ _ e => e) (fun h' u tk hk => ⟨.str _, H, I.kept (t' := tk) hk, ⟨_, rfl⟩, q⟩) (hsz := hz)
  | tup hq ha =>
    cases ru
    exact repr_of_reads' rd hs (fun z => by rw [nd] at z; cases z) hg (by omega) (fun _ _ e => e) (fun h' u tk hk => ⟨.str _, H, I.kept (t' := tk) hk, ⟨_, rfl⟩, q⟩) (hsz := hz)
end L2
namespace L2
open PySem PySem.Spec PyProof.Rows
section
variable {X : Cx} {k : Nat} {f : Addr} {fd : FuncData} {ps : List Str} {sp : Sp} {dvs : List V} {ds : List Value} {x : Str} {p pos : Pos} {e : Expr} {es : List Expr} {t : TA}
/-- f(e, ..), f a def that is called where no repr is under way -/
theorem pe_callG (F : FnG X.prog X.w X.K X.mg X.base k f fd ps sp) (hgd : X.A.guards = some []) (hr : Room k X.A) (hg : Gl X x) (hm : X.mg x = some (.ref f)) (hk : PySem.W.keepIn X.K (.ref f) = true) (hb : Binds X.K fd ps ds) (hd : Vals dvs ds)
    (ha : PA X (e :: es) t) (hdb : (x == ("__debug__" : Str)) = false := by decide) (he : starEach (e :: es) X.env = (false, eval e X.env) :: starEach es X.env := by rfl) (hpl : (backTo pos (starEach es X.env)).any (·.1) = false := by rfl) :
    PE X (.Call (.Name x p) (e :: es) [] pos) (tCall sp dvs E0 t) := by
  refine ⟨fun pins s σ H Q I h => ?_⟩
  refine wpAny_Call_Name_kw (ld_glob I hg hm ?_ hdb)
  refine PySem.W.callWith_K (h₀ := X.base) I.ok.mod.kin hk (thn (ha.run pos pins s σ H _ I h) fun us s1 ⟨vs, H1, I1, r, q⟩ => ⟨I1.kIn, ?_⟩) he hpl
  have r2 : Vals (vs ++ dvs) (us ++ ds) := r.append hd
  have hl : (us ++ ds).length = ps.length := by rw [← r2.length]; exact F.len _ _ _ _ q
  refine wpAny_call (codeAny_mono (F.run X.A X.stack s1 H1 ⟨us, []⟩ (us ++ ds) (vs ++ dvs) Q E0 hgd hr I1.env0 (hb s1 us I1.kIn hl) r2 q) fun r s' hq => ?_)
  cases r with
  | error e => exact False.elim hq
  | ok fl =>
    cases fl with
    | ret u => exact I1.after hq
    | next => exact False.elim hq
    | brk => exact False.elim hq
    | cont => exact False.elim hq
end
end L2

set_option Elab.async false
set_option linter.all false
set_option maxRecDepth 100000
set_option maxHeartbeats 4000000
/-! my own: how long a shown datum is at most; data that stand apart from one place -/
namespace Cm
open PySem PySem.Spec PyProof.Rows L2
mutual
/-- a bound of the shown text's length; ints and texts as far as they can be shown -/
def wt : PyData → Nat
  | .none => 4
  | .bool _ => 5
  | .int _ => 2000
  | .str x => 10 * x.length + 2
  | .list xs => wtAll xs + 4
  | .tuple xs => wtAll xs + 4
  | .dict _ => 0
def wtAll : List PyData → Nat
  | [] => 0
  | x :: xs => wt x + 2 + wtAll xs
end
mutual
def okD : PyData → Bool
  | .none => true
  | .bool _ => true
  | .int i => decide (i.natAbs.log2 < 1920)
  | .str x => x.cps.toList.all fun c => decide (c < 16 ^ 8)
  | .list xs => okAll xs
  | .tuple xs => okAll xs
  | .dict _ => false
def okAll : List PyData → Bool
  | [] => true
  | x :: xs => okD x && okAll xs
end
theorem listText_le (ts : List Str) : (listText ts).length ≤ piled ts + 2 := by
  unfold listText
  rw [Str.length_append]
  cases ts with
  | nil => exact (by decide : (textFrom 0 "[" []).length + ("]" : Str).length ≤ piled [] + 2)
  | cons t r =>
    show (textFrom 1 (("[" : Str) ++ (if 0 > 0 then ", " else "" : String) ++ t) r).length + ("]" : Str).length ≤ _
    rw [textFrom_length_pos r 1 _ (by decide), Str.length_append, Str.length_append]
    have e1 : ("[" : Str).length = 1 := rfl
    have e2 : (((if 0 > 0 then ", " else "" : String)) : Str).length = 0 := rfl
    have e3 : ("]" : Str).length = 1 := rfl
    have e4 : piled (t :: r) = t.length + 2 + piled r := by simp [piled]
    rw [e1, e2, e3, e4]
    omega
theorem tupleText_le (ts : List Str) : (tupleText ts).length ≤ piled ts + 2 := by
  unfold tupleText
  rw [Str.length_append, Str.length_append]
  cases ts with
  | nil => exact (by decide : ("(" : Str).length + (Str.join ", " []).length + (((if ([] : List Str).length == 1 then ",)" else ")" : String)) : Str).length ≤ piled [] + 2)
  | cons t r =>
    have j := join_length_add (t :: r) (by simp)
    have e1 : ("(" : Str).length = 1 := rfl
    have e2 : (((if (t :: r).length == 1 then ",)" else ")" : String)) : Str).length ≤ 2 := by
      split
      · exact (by decide : (((",)" : String)) : Str).length ≤ 2)
      · exact (by decide : (((")" : String)) : Str).length ≤ 2)
    omega
mutual
theorem shown_le : ∀ d : PyData, okD d = true → d.shown.length ≤ wt d
  | .none, _ => by decide
  | .bool b, _ => by cases b <;> decide
  | .int i, h => by
    have := int_text_len_1921 (i := i) (of_decide_eq_true h)
    show (Str.ofString (toString i)).length ≤ 2000
    omega
  | .str x, h => PySem.StrLaws.reprText_len x fun c hc => of_decide_eq_true (List.all_eq_true.mp h c hc)
  | .list xs, h => by
    have := shownAll_le xs h
    have := listText_le (PyData.shownAll xs)
    show (listText (PyData.shownAll xs)).length ≤ wtAll xs + 4
    omega
  | .tuple xs, h => by
    have := shownAll_le xs h
    have := tupleText_le (PyData.shownAll xs)
    show (tupleText (PyData.shownAll xs)).length ≤ wtAll xs + 4
    omega
  | .dict _, h => nomatch h
theorem shownAll_le : ∀ ds : List PyData, okAll ds = true → piled (PyData.shownAll ds) ≤ wtAll ds
  | [], _ => by decide
  | d :: ds, h => by
    have h' := Bool.and_eq_true_iff.mp h
    have a := shown_le d h'.1
    have b := shownAll_le ds h'.2
    have e : piled (PyData.shownAll (d :: ds)) = d.shown.length + 2 + piled (PyData.shownAll ds) := by simp [piled, PyData.shownAll]
    rw [e]
    show _ ≤ wt d + 2 + wtAll ds
    omega
end
mutual
theorem ok_showable : ∀ d : PyData, okD d = true → d.showable = true
  | .none, _ => rfl
  | .bool _, _ => rfl
  | .int _, h => h
  | .str _, _ => rfl
  | .list xs, h => okAll_showable xs h
  | .tuple xs, h => okAll_showable xs h
  | .dict _, h => nomatch h
theorem okAll_showable : ∀ ds : List PyData, okAll ds = true → PyData.showableAll ds = true
  | [], _ => rfl
  | d :: ds, h => by
    have h' := Bool.and_eq_true_iff.mp h
    show (d.showable && PyData.showableAll ds) = true
    rw [ok_showable d h'.1, okAll_showable ds h'.2]
    rfl
end
/-! ### data apart from some places -/
mutual
inductive Da (S : Addr → Prop) (H : Hp) : V → PyData → Prop
  | non : Da S H .non .none
  | bl (b : Bool) : Da S H (.bl b) (.bool b)
  | int (i : Int) : Da S H (.int i) (.int i)
  | str (x : Str) : Da S H (.str x) (.str x)
  | lst {a : Addr} {xs : List V} {ds : List PyData} : ¬ S a → H a = some (.lst xs) → DaAll S H xs ds → Da S H (.ref a) (.list ds)
  | tup {a : Addr} {xs : List V} {ds : List PyData} : ¬ S a → H a = some (.tup xs) → DaAll S H xs ds → Da S H (.ref a) (.tuple ds)
inductive DaAll (S : Addr → Prop) (H : Hp) : List V → List PyData → Prop
  | nil : DaAll S H [] []
  | cons {v : V} {vs : List V} {d : PyData} {ds : List PyData} : Da S H v d → DaAll S H vs ds → DaAll S H (v :: vs) (d :: ds)
end
mutual
theorem Da.dp {S : Addr → Prop} {H : Hp} {K : PySem.W.Frag} : ∀ (d : PyData) {v : V}, Da S H v d → Dp K H v d
  | .none, _, h => by cases h; exact .non
  | .bool b, _, h => by cases h; exact .bl b
  | .int i, _, h => by cases h; exact .int i
  | .str x, _, h => by cases h; exact .str x
  | .list ds, _, h => by
    cases h with
    | lst _ e a => exact .lst (.inl (.inl e)) (Da.dpAll ds a)
  | .tuple ds, _, h => by
    cases h with
    | tup _ e a => exact .tup (.inl (.inl e)) (Da.dpAll ds a)
  | .dict _, _, h => nomatch h
theorem Da.dpAll {S : Addr → Prop} {H : Hp} {K : PySem.W.Frag} : ∀ (ds : List PyData) {vs : List V}, DaAll S H vs ds → DpAll K H vs ds
  | [], _, h => by cases h; exact .nil
  | d :: ds, _, h => by
    cases h with
    | cons a b => exact .cons (Da.dp d a) (Da.dpAll ds b)
end
mutual
theorem Da.keep {S : Addr → Prop} {H H' : Hp} (k : ∀ b o, ¬ S b → H b = some o → H' b = some o) : ∀ (d : PyData) {v : V}, Da S H v d → Da S H' v d
  | .none, _, h => by cases h; exact .non
  | .bool b, _, h => by cases h; exact .bl b
  | .int i, _, h => by cases h; exact .int i
  | .str x, _, h => by cases h; exact .str x
  | .list ds, _, h => by
    cases h with
    | lst n e a => exact .lst n (k _ _ n e) (Da.keepAll k ds a)
  | .tuple ds, _, h => by
    cases h with
    | tup n e a => exact .tup n (k _ _ n e) (Da.keepAll k ds a)
  | .dict _, _, h => nomatch h
theorem Da.keepAll {S : Addr → Prop} {H H' : Hp} (k : ∀ b o, ¬ S b → H b = some o → H' b = some o) : ∀ (ds : List PyData) {vs : List V}, DaAll S H vs ds → DaAll S H' vs ds
  | [], _, h => by cases h; exact .nil
  | d :: ds, _, h => by
    cases h with
    | cons a b => exact .cons (Da.keep k d a) (Da.keepAll k ds b)
end
theorem DaAll.length {S : Addr → Prop} {H : Hp} : ∀ {vs : List V} {ds : List PyData}, DaAll S H vs ds → vs.length = ds.length
  | _, _, .nil => rfl
  | _, _, .cons _ t => congrArg Nat.succ (DaAll.length t)
theorem DaAll.get {S : Addr → Prop} {H : Hp} : ∀ {vs : List V} {ds : List PyData} {i : Nat} {v : V}, DaAll S H vs ds → vs[i]? = some v → ∃ d, ds[i]? = some d ∧ Da S H v d
  | _, _, _, _, .nil, e => by simp at e
  | _, _, 0, _, .cons a _, e => by simp at e; subst e; exact ⟨_, rfl, a⟩
  | _, _, i + 1, _, .cons _ t, e => by
    obtain ⟨d, h1, h2⟩ := DaAll.get (i := i) t (by simpa using e)
    exact ⟨d, by simpa using h1, h2⟩
theorem DaAll.append {S : Addr → Prop} {H : Hp} : ∀ {vs us : List V} {ds es : List PyData}, DaAll S H vs ds → DaAll S H us es → DaAll S H (vs ++ us) (ds ++ es)
  | _, _, _, _, .nil, s => s
  | _, _, _, _, .cons a t, s => .cons a (DaAll.append t s)
theorem DaAll.ints {S : Addr → Prop} {H : Hp} : ∀ ns : List Int, DaAll S H (ns.map V.int) (ns.map PyData.int)
  | [] => .nil
  | n :: ns => .cons (.int n) (DaAll.ints ns)
/-- the kinds of a datum -/
theorem Da.kit {S : Addr → Prop} {H : Hp} {K : PySem.W.Frag} {v : V} {d : PyData} (h : Da S H v d) : ∃ (n : String) (bi bb bt : Bool), TyX K H v (.type n) ∧ PySem.W.kitOne K (.type n) (.type "int") = some bi ∧ PySem.W.kitOne K (.type n) (.type "bool") = some bb ∧
    PySem.W.kitOne K (.type n) (.type "tuple") = some bt ∧ (bi && !bb) = (match d with | .int _ => true | _ => false) ∧ bt = (match d with | .tuple _ => true | _ => false) := by
  cases h with
  | non => exact ⟨"NoneType", false, false, false, .base .non, kit_ty (by decide +kernel), kit_ty (by decide +kernel), kit_ty (by decide +kernel), rfl, rfl⟩
  | bl y => exact ⟨"bool", true, true, false, .base (.bl y), kit_ty (by decide +kernel), kit_ty (by decide +kernel), kit_ty (by decide +kernel), rfl, rfl⟩
  | int y => exact ⟨"int", true, false, false, .base (.int y), kit_ty (by decide +kernel), kit_ty (by decide +kernel), kit_ty (by decide +kernel), rfl, rfl⟩
  | str y => exact ⟨"str", false, false, false, .base (.str y), kit_ty (by decide +kernel), kit_ty (by decide +kernel), kit_ty (by decide +kernel), rfl, rfl⟩
  | lst _ e _ => exact ⟨"list", false, false, false, .base (.lst e), kit_ty (by decide +kernel), kit_ty (by decide +kernel), kit_ty (by decide +kernel), rfl, rfl⟩
  | tup _ e _ => exact ⟨"tuple", false, false, true, .base (.tup e), kit_ty (by decide +kernel), kit_ty (by decide +kernel), kit_ty (by decide +kernel), rfl, rfl⟩
end Cm

set_option Elab.async false
set_option linter.all false
set_option maxRecDepth 100000
set_option maxHeartbeats 4000000
/-! my own rules: exceptions of own classes over any built-in class, made and kept as values: by place, by keywords; their fields; isinstance of them -/
namespace PySem
namespace MyX
open PySem.W PySem.Calls PyProof.Rows PySem.HandSPX Builtin Builtin.ObjectAttr
theorem pass_Index (self : Value) : refuseLoop self "__setattr__" [.type "IndexError", .type "LookupError", .type "Exception", .type "BaseException", .type "object"] = pure () := by kernel_rfl
theorem pass_Lookup (self : Value) : refuseLoop self "__setattr__" [.type "LookupError", .type "Exception", .type "BaseException", .type "object"] = pure () := by kernel_rfl
theorem pass_Runtime (self : Value) : refuseLoop self "__setattr__" [.type "RuntimeError", .type "Exception", .type "BaseException", .type "object"] = pure () := by kernel_rfl
theorem pass_Value (self : Value) : refuseLoop self "__setattr__" [.type "ValueError", .type "Exception", .type "BaseException", .type "object"] = pure () := F.store_ValueError.passes self
section
variable {M : Model} {A : Around} {E : Value → Shared → Prop} {h : Heap} {g : Array GenState} {d : Drawn} {t : Nat} {os : OsState}
variable {nm q : Str} {C N : Addr} {bs bm : List Value} {hdct : Bool} {sn : List Str} {sub : List Value} {ab : Bool} {col : Option Bool} {dd : Option Addr} {k0 k1 k2 k3 k5 : Option Value} {B newId initId : String}
/-- C.__new__(..) with keywords is let through -/
theorem check_newK (F : ExcBaseFacts B newId initId bm) {rest : List Value} {kw : List (Str × Value)} {Q : Unit → Shared → Prop}
    (hC : h.get? C = some (excClassObj nm q C N bs bm hdct sn sub ab col dd k0 k1 k2 k3 k5 newId)) (hq : Q () ⟨h, g, d, t, os⟩) : wpAny M A (checkBuiltinCall newId ⟨.ref C :: rest, kw⟩) Q E ⟨h, g, d, t, os⟩ := by
  have under : (Value.ref C :: bm).contains (.type B) = true := by rw [List.contains_cons, F.hasB, Bool.or_true]
  have star := F.noStar
  simp only [checkBuiltinCall, F.newKind, F.newSplit, F.newRow]
  repeat (first | refine wpAny_loadPart_at hC ?_ | (refine wpAny_isSubtype_exc hC ?_; rw [under]) | refine wpAny_staticBase_exc hC ?_ | refine wpAny_madeBy_exc hC ?_ | simp only [bne_self_eq_false, Bool.false_eq_true, if_false] | wp_step)
  exact hq
end
section
variable {prog : Program} {w : World} {A : Around} {E : Value → Shared → Prop} {R : Result → Shared → Prop} {h : Heap} {g : Array GenState} {d : Drawn} {t : Nat} {os : OsState}
variable {nm q : Str} {C N : Addr} {bs bm : List Value} {hdct : Bool} {sn : List Str} {sub : List Value} {ab : Bool} {col : Option Bool} {dd : Option Addr} {k0 k1 k2 k3 k5 : Option Value} {B newId initId : String}
theorem newK (F : ExcBaseFacts B newId initId bm) {rest : List Value} {kw : List (Str × Value)}
    (hC : h.get? C = some (excClassObj nm q C N bs bm hdct sn sub ab col dd k0 k1 k2 k3 k5 newId))
    (hq : R (.ok (.ret (.ref (h.objs.size + 1)))) ⟨(h.push { cls := .type "tuple", data := .seq rest.toArray }).push
      { cls := .ref C, data := .fields #[.ref h.objs.size, .none, .none, .none, .bool false, .none] }, g, d, t, os⟩) (hrest : rest.length ≤ sizeLine) :
    codeAny (model prog w) A (.builtin newId ⟨.ref C :: rest, kw⟩) R ⟨h, g, d, t, os⟩ := by
  have ends := F.ends
  have inB : (Value.ref C :: bm).contains (.type B) = true := by rw [List.contains_cons, F.hasB, Bool.or_true]
  have inA : (Value.ref C :: bm).contains (.type "AttributeError") = false := by rw [List.contains_cons, F.noAttr]; rfl
  have inN : (Value.ref C :: bm).contains (.type "NameError") = false := by rw [List.contains_cons, F.noName]; rfl
  refine codeAny_builtinAt F.entry ?_
  unfold Builtin.«BaseException.__new__»
  refine wpAt_bind ?_
  show wpAt _ _ _ (stack >>= _) _ _ _
  refine wpAt_bind (wpAt_stack fun p below => wpAt_of_wpAny ?_)
  wp_walk
  refine wpAt_of_wpAny ?_
  rw [F.owner]
  repeat (first | with_reducible refine wpAny_madeHere_exc F.canon hC ?_ | with_reducible refine wpAny_loadPart_at hC ?_ | (with_reducible refine wpAny_isSubtype_exc hC ?_; first | rw [inB] | rw [inA] | rw [inN]) | wp_step)
  show R _ _
  rw [Heap.size_push]
  exact hq
theorem type_callK (F : ExcBaseFacts B newId initId bm) {rest : List Value} {kw : List (Str × Value)} {fI : Addr} {Q : Fin → Shared → Prop}
    (hC : h.get? C = some (excClassObj nm q C N bs bm hdct sn sub ab col dd k0 k1 k2 k3 k5 newId))
    (hi : W.Looks (model prog w) h (typeLookup (.ref C) "__init__") (some (.ref fI))) (hb : ∀ self, W.Looks (model prog w) h (bindSpecial (.ref fI) self) (.ref fI, [self])) (hrest : rest.length ≤ sizeLine)
    (hq : codeAny (model prog w) A (.call (.ref fI) ⟨.ref (h.objs.size + 1) :: rest, kw⟩)
      (fun r s' => match r with | .ok (.ret v) => v = .none ∧ Q (.done (.ret (.ref (h.objs.size + 1)))) s' | .ok _ => False | .error e => E e s')
      ⟨(h.push (W.kdv_tup rest)).push (excO C h.objs.size), g, d, t, os⟩) :
    wpAny (model prog w) A (Builtin.«type.__call__» ⟨.ref C :: rest, kw⟩) Q E ⟨h, g, d, t, os⟩ := by
  repeat (first | with_reducible refine wpAny_loadPart_at hC ?_ | with_reducible refine wpAny_madeBy_exc hC ?_ | wp_step)
  refine codeAny_call_builtin_code (Code.quiet_builtin _ F.quiet) (check_newK F hC ?_)
  refine newK F hC ?_ hrest
  show wpAny _ _ _ _ _ _
  have kept : ∀ b o, h.get? b = some o → ((h.push (W.kdv_tup rest)).push (excO C h.objs.size)).get? b = some o := fun b o e => Heap.get?_push_of_some _ (Heap.get?_push_of_some _ e)
  have hC₁ := kept _ _ hC
  have made : ((h.push (W.kdv_tup rest)).push (excO C h.objs.size)).get? (h.objs.size + 1) = some (excO C h.objs.size) := by heap_get
  have self_ : (Value.ref C :: bm).contains (.ref C) = true := by simp
  have i1 := hi.keeps kept
  have b1 := (hb (.ref (h.objs.size + 1))).keeps kept
  unfold isInstance
  repeat (first | with_reducible refine wpAny_loadPart_at made ?_ | (with_reducible refine wpAny_isSubtype_exc hC₁ ?_; rw [self_]) | wp_step)
  show wpAny _ _ (typeLookup (.ref C) _) _ _ _
  refine i1.at ?_
  refine wpAny_holding (wpAny_bind (b1.at ?_))
  refine wpAny_bind (wpAny_call (codeAny_mono hq fun r s' z => ?_))
  rcases r with e | (v | _ | _ | _) <;> first | exact z | exact z.elim | skip
  obtain ⟨rfl, z⟩ := z
  first
    | exact wpAny_pure (wpAny_pure z)
    | (wp_walk; exact z)
/-- C(.., k = v, ..) -/
theorem callK (F : ExcBaseFacts B newId initId bm) {rest : List Value} {kw : List (Str × Value)} {fI : Addr}
    (hC : h.get? C = some (excClassObj nm q C N bs bm hdct sn sub ab col dd k0 k1 k2 k3 k5 newId))
    (hi : W.Looks (model prog w) h (typeLookup (.ref C) "__init__") (some (.ref fI))) (hb : ∀ self, W.Looks (model prog w) h (bindSpecial (.ref fI) self) (.ref fI, [self])) (hrest : rest.length ≤ sizeLine)
    (hq : codeAny (model prog w) (A.under (.builtin "type.__call__" ⟨.ref C :: rest, kw⟩)) (.call (.ref fI) ⟨.ref (h.objs.size + 1) :: rest, kw⟩) (W.InitBack (h.objs.size + 1) R)
      ⟨(h.push (W.kdv_tup rest)).push (excO C h.objs.size), g, d, t, os⟩) :
    codeAny (model prog w) A (.call (.ref C) ⟨rest, kw⟩) R ⟨h, g, d, t, os⟩ := by
  have f1 := tc_lookup
  have f2 := tc_bind (.ref C)
  have isType : (⟨h, g, d, t, os⟩ : Shared).TypeIs (.ref C) "type" := ⟨_, hC, rfl⟩
  refine codeAny_of_tree ?_
  show wpAny _ _ (callAny (.ref C) _) _ _ _
  repeat (any_goals (first | assumption | with_reducible refine wpAny_loadPart_at hC ?_ | wp_step))
  refine ⟨rfl, ?_⟩
  refine codeAny_call_builtin_at (Code.quiet_builtin _ (by decide +kernel)) entry_typeCall (wpAny_check_type_call_sub hC (type_callK F hC hi hb hrest ?_))
  refine codeAny_mono hq fun r s' z => ?_
  rcases r with e | (v | _ | _ | _) <;> exact z
end
/-! ### self.f = v -/
section
variable {prog : Program} {w : World} {A : Around} {E : Value → Shared → Prop} {R : Result → Shared → Prop} {hp : Heap} {g : Array GenState} {d : Drawn} {t : Nat} {os : OsState}
theorem put_new {K : W.Frag} {name : Str} {tk : Tok} {v : Value} {x C : Addr} {fv : Array Value} {cd : ClassData}
    (X : K.In hp) (hx : hp.get? x = some { cls := .ref C, data := .fields fv }) (hcd : W.clsIn K C = some cd) (ne : cd.mro.isEmpty = false) (hob : cd.mro.contains (.type "object") = true) (hps : ∀ self, refuseLoop self "__setattr__" cd.mro = pure ())
    (hh : cd.hasDict = true) (ha : W.findIn K (.ref C) name = some none)
    (hq : ∀ h' tk' dx, (∀ b o, b ≠ x → hp.get? b = some o → h'.get? b = some o) → hp.objs.size ≤ dx → dx ≠ x → h'.get? x = some { cls := .ref C, dict := some dx, data := .fields fv } →
      h'.Ns1 dx (fun y => if y = name then some v else none) → R (.ok (.ret .none)) ⟨h', g, d, tk', os⟩) :
    codeAny (model prog w) A (.call (.builtin "object.__setattr__") ⟨[.ref x, .str name tk, v], []⟩) R ⟨hp, g, d, t, os⟩ := by
  have inst : W.InstAt hp x { cls := .ref C, data := .fields fv } C none := ⟨hx, rfl, rfl, trivial⟩
  have SF := F.store_object
  have apart : x ≠ hp.objs.size := Nat.ne_of_lt (Heap.lt_size hx)
  have under : W.Looks (model prog w) hp (isInstance (.ref x) (.type "object")) true := inst.type.andThen (W.looks_mroIn X (by unfold W.mroIn; rw [hcd, Option.bind_some, if_neg (by rw [ne]; decide), hob]))
  refine codeAny_call_builtin SF.slot.plain SF.entry (@W.check_slot (model prog w) _ _ ⟨hp, g, d, t, os⟩ "object.__setattr__" "object" "__setattr__" (.ref x) [.str name tk, v] [] _ SF.kind SF.split under (SF.args (.ref x) (.str name tk) v) ?_)
  have mros : W.Looks (model prog w) hp (mroOf (.ref C)) cd.mro := (W.looks_clsIn X hcd).andThen .now
  have takes : W.Looks (model prog w) hp (storeTaker? none) none := .now
  have datas : W.Looks (model prog w) hp (classData C) cd := W.looks_clsIn X hcd
  rw [W.osa_eq, refuse_eq]
  refine wpAny_bind (wpAny_bind (inst.type.at (wpAny_bind (mros.at ?_))))
  rw [hps]
  refine wpAny_pure (wpAny_bind (inst.type.at (wpAny_bind ((W.looks_findIn X ha).at (wpAny_bind (takes.at ?_))))))
  show wpAny _ _ (storeInOwnDict (.ref x) (.ref C) (.str name tk) name v false) _ _ _
  obtain ⟨nm, bs, mro, ns, qn, hd, sn, sb, ab, col, del⟩ := cd
  dsimp only at hh
  subst hh
  unfold storeInOwnDict ownDictForStores
  repeat (first | with_reducible refine store_in_new ?_ ?_ | with_reducible refine wpAny_loadPart_at hx ?_ | with_reducible refine datas.at ?_ | wp_step)
  · exact ⟨_, #[], _, (Heap.get?_update_ne _ _ _ _ apart.symm).trans (Heap.get?_push_at rfl rfl), rfl, fun e he => absurd he (by simp), fun _ => rfl⟩
  · intro h' tk' hn' hs
    have hx₁ : (hp.push { cls := .type "dict", data := .dict #[] }).get? x = some { cls := .ref C, data := .fields fv } := Heap.get?_push_of_some _ hx
    refine hq h' tk' hp.objs.size (fun b o hb ho => ?_) (Nat.le_refl _) apart.symm ?_ hn'
    · exact (hs.2 b (Nat.ne_of_lt (Heap.lt_size ho))).trans ((Heap.get?_update_ne _ _ _ _ hb).trans (Heap.get?_push_of_some _ ho))
    · exact (hs.2 x apart).trans (Heap.get?_update_self _ hx₁ rfl)
theorem put_old {K : W.Frag} {name : Str} {tk : Tok} {v : Value} {x C dx : Addr} {fv : Array Value} {cd : ClassData} {m0 : Str → Option Value} {nl : List Str}
    (X : K.In hp) (hx : hp.get? x = some { cls := .ref C, dict := some dx, data := .fields fv }) (hns : hp.Ns1 dx m0) (hw : Within m0 nl) (hz : nl.length ≤ 1000) (hcd : W.clsIn K C = some cd)
    (ne : cd.mro.isEmpty = false) (hob : cd.mro.contains (.type "object") = true) (hps : ∀ self, refuseLoop self "__setattr__" cd.mro = pure ()) (hh : cd.hasDict = true) (ha : W.findIn K (.ref C) name = some none)
    (hq : ∀ h' tk', (∀ b o, b ≠ dx → hp.get? b = some o → h'.get? b = some o) → h'.Ns1 dx (fun y => if y = name then some v else m0 y) → R (.ok (.ret .none)) ⟨h', g, d, tk', os⟩) :
    codeAny (model prog w) A (.call (.builtin "object.__setattr__") ⟨[.ref x, .str name tk, v], []⟩) R ⟨hp, g, d, t, os⟩ := by
  obtain ⟨oD, esD, epD, hoD, hdD, _⟩ := hns.count hw
  have inst : W.InstAt hp x { cls := .ref C, dict := some dx, data := .fields fv } C (some oD) := ⟨hx, rfl, rfl, hoD⟩
  have SF := F.store_object
  have under : W.Looks (model prog w) hp (isInstance (.ref x) (.type "object")) true := inst.type.andThen (W.looks_mroIn X (by unfold W.mroIn; rw [hcd, Option.bind_some, if_neg (by rw [ne]; decide), hob]))
  refine codeAny_call_builtin SF.slot.plain SF.entry (@W.check_slot (model prog w) _ _ ⟨hp, g, d, t, os⟩ "object.__setattr__" "object" "__setattr__" (.ref x) [.str name tk, v] [] _ SF.kind SF.split under (SF.args (.ref x) (.str name tk) v) ?_)
  have mros : W.Looks (model prog w) hp (mroOf (.ref C)) cd.mro := (W.looks_clsIn X hcd).andThen .now
  have takes : W.Looks (model prog w) hp (storeTaker? none) none := .now
  have datas : W.Looks (model prog w) hp (classData C) cd := W.looks_clsIn X hcd
  rw [W.osa_eq, refuse_eq]
  refine wpAny_bind (wpAny_bind (inst.type.at (wpAny_bind (mros.at ?_))))
  rw [hps]
  refine wpAny_pure (wpAny_bind (inst.type.at (wpAny_bind ((W.looks_findIn X ha).at (wpAny_bind (takes.at ?_))))))
  show wpAny _ _ (storeInOwnDict (.ref x) (.ref C) (.str name tk) name v false) _ _ _
  obtain ⟨nm, bs, mro, ns, qn, hd, sn, sb, ab, col, del⟩ := cd
  dsimp only at hh
  subst hh
  unfold storeInOwnDict ownDictForStores
  repeat (first | with_reducible refine OEX.store_in_old hns hw hz ?_ | with_reducible refine wpAny_loadPart_at hx ?_ | with_reducible refine datas.at ?_ | wp_step)
  intro h' tk' hn' hs
  exact hq h' tk' (fun b o hb ho => (hs.2 b hb).trans ho) hn'
end
end MyX
end PySem

set_option Elab.async false
set_option linter.all false
set_option maxRecDepth 100000
set_option maxHeartbeats 4000000
namespace PySem.W
open PySem PySem.Spec PySem.Calls PyProof.Rows
section
variable {prog : Program} {w : World} {A : Around} {E : Value → Shared → Prop} {s : Shared} {K : Frag} {x D : Addr} {ox : Obj} {od : Option Obj}
theorem my_findData {C : Addr} {name : Str} {a g : Value} (hc : (clsIn K C).isSome = true) (ha : findIn K (.ref C) name = some (some a)) (hg : specialIn K a "__get__" = some (some g)) (ht : takesIn K a = some true) : findObj K C od name = some (.bind g a) := by
  obtain ⟨cd, hc⟩ := Option.isSome_iff_exists.mp hc
  unfold findObj
  rw [hc, Option.bind_some, ha, Option.bind_some]
  simp [hg, ht]
/-- x.__class__ of an exception, with fields of its own or without -/
theorem my_class {Q : Option Value → Shared → Prop} (C : L2.ExcC K D) (X : K.In s.heap) (I : InstAt s.heap x ox D od) (h : Q (some (.ref D)) { s with toks := s.toks + 1 }) : wpAny (model prog w) A (getAttr? (.ref x) "__class__") Q E s := by
  have found : findObj K D od "__class__" = some (.bind (.builtin "getset_descriptor.__get__") (.builtin "object.__class__")) := my_findData (by obtain ⟨cd, hc, _⟩ := any_some C.hd; rw [hc]; rfl) C.ha C.hn C.ht
  obtain ⟨hp, g, d, t, os⟩ := s
  have l0 := I.type (M := model prog w)
  have l1 := looks_findIn (M := model prog w) X C.hg
  have l2 := looks_findIn (M := model prog w) X C.hk
  have l3 := looks_find (M := model prog w) X I found
  have under : Looks (model prog w) hp (isInstance (.ref x) (.type "BaseException")) true := l0.andThen (looks_subIn X C.hs)
  have z0 : (false && onTheHeap (Value.builtin "BaseException.__getattribute__")) = false := rfl
  have z2 : (Value.builtin "BaseException.__getattribute__" == Value.builtin "object.__getattribute__") = false := by decide +kernel
  have z1 : (onTheHeap (Value.ref D) && Value.builtin "BaseException.__getattribute__" == Value.builtin "object.__getattribute__") = false := by rw [z2]; rfl
  unfold getAttr? getAttrBy? getAttrBy
  refine wpAny_bind (wpAny_mkText (wpAny_bind (wpAny_attempt (wpAny_holding (wpAny_bind (l0.at (wpAny_bind (l1.at ?_))))))))
  show wpAny _ _ (if (onTheHeap (Value.ref D) && Value.builtin "BaseException.__getattribute__" == Value.builtin "object.__getattribute__") = true then _ else _) _ _ _
  rw [z1, if_neg Bool.false_ne_true]
  unfold getAttrByItsOwn hookBefore
  refine wpAny_bind ?_
  rw [if_pos (show onTheHeap (Value.ref D) = true from rfl)]
  refine l2.at ?_
  refine wpAny_bind (wpAny_attempt (wpAny_holding ?_))
  unfold callGetattribute
  rw [z0, if_neg Bool.false_ne_true]
  unfold boundAndCalled
  rw [PySem.F.excAttr_ValueError.ga.bind (.ref x)]
  refine wpAny_bind (wpAny_pure ?_)
  show wpAny _ _ (call (.builtin "BaseException.__getattribute__") [.ref x, .str "__class__" t]) _ _ _
  refine wpAny_call (codeAny_call_builtin PySem.F.excAttr_ValueError.ga.plain PySem.F.entry_bexc_ga ?_)
  refine @check_slot (model prog w) _ _ ⟨hp, g, d, t + 1, os⟩ "BaseException.__getattribute__" "BaseException" "__getattribute__" (.ref x) [.str "__class__" t] [] _ (by decide +kernel) (by decide +kernel) under (PySem.F.args_bexc_ga (.ref x) (.str "__class__" t)) ?_
  unfold Builtin.«object.__getattribute__»
  refine wpAny_bind (wpAny_of_eq (a := ((Value.ref x : Value), [Value.str "__class__" t])) (by first | rfl | (simp only [slotArgs]; rfl)) ?_)
  refine wpAny_bind (wpAny_pure (wpAny_bind (l0.at (wpAny_bind (l3.at ?_)))))
  show wpAny _ _ (holding [Value.builtin "object.__class__"] (call (.builtin "getset_descriptor.__get__") [.builtin "object.__class__", .ref x, .ref D]) >>= ret) _ _ _
  refine wpAny_bind (wpAny_holding (wpAny_call (class_get (s := ⟨hp, g, d, t + 1, os⟩) (ox := ox) (od := od) X I C.hm ?_)))
  refine wpAny_pure ?_
  show wpAny _ _ (handedOut (.ref D)) _ _ _
  rw [handedOut_of (v := .ref D) rfl]
  first
    | exact wpAny_pure (wpAny_pure h)
    | exact wpAny_pure h
    | exact wpAny_pure (wpAny_bind (wpAny_pure (wpAny_pure h)))
theorem my_kitx (C : L2.ExcC K D) : KitX K (.ref x) (.ref D) (fun h => InstAt h x ox D od) where
  ty := fun _ _ _ I => I.type
  it := fun _ _ X _ => by
    obtain ⟨cdD, hcD, _⟩ := any_some C.hd
    unfold clsIn at hcD
    split at hcD
    · rename_i c' d' cd' sl' ho
      intro A' Q' E' s' k q
      unfold isType loadHead
      exact wpAny_bind (wpAny_loadPart (k _ _ (X _ _ ho)) (wpAny_pure q))
    · cases hcD
  ne := fun h tp dd its n sl X htp => by
    obtain ⟨cdD, hcD, _⟩ := any_some C.hd
    refine Bool.eq_false_iff.mpr fun q => ?_
    have e : D = tp := Value.ref.inj (beq_iff_eq.mp q)
    subst e
    unfold clsIn at hcD
    split at hcD
    · rename_i c' d' cd' sl' ho
      cases (X _ _ ho).symm.trans htp
    · cases hcD
  ca := fun X I k => my_class C X I k
end
end PySem.W
namespace L2
open PySem PySem.Spec PyProof.Rows Builtin Builtin.ObjectAttr
/-- what the written part says of an own class over the built-in class B -/
structure OeC (K : PySem.W.Frag) (C : Addr) (B newId initId : String) (bm : List Value) : Prop where
  base : ExcBaseFacts B newId initId bm
  pass : ∀ self, refuseLoop self "__setattr__" bm = pure ()
  ob : bm.contains (.type "object") = true
  cls : ∃ nm q N bs sn sub ab col dd k0 k1 k2 k3 k5, K.lookup C = some (excClassObj nm q C N bs bm true sn sub ab col dd k0 k1 k2 k3 k5 newId)
  sa : PySem.W.findIn K (.ref C) "__setattr__" = some (some (.builtin "object.__setattr__"))
  is_ : ExcC K C
  ty : PySem.W.typeIn K (.ref C) = some (.type "type")
  kC : PySem.W.keepIn K (.ref C) = true
section
variable {X : Cx} {pins : List (Addr × Obj)} {σ : St} {H : Hp} {s : Shared} {a C dx : Addr} {f : Str} {y : V} {u : Value} {fs : List (Str × V)} {Q : Unit → Shared → Prop} {E : Value → Shared → Prop} {A : Around} {B newId initId : String} {bm : List Value}
theorem oe_new (T : OeC X.K C B newId initId bm) (I : Inv X pins σ H s) (e : H a = some (exo a C none)) (hno : PySem.W.findIn X.K (.ref C) f = some none) (ry : RelV y u)
    (h : ∀ dx s', H dx = none → dx ≠ a → Inv X pins σ (upd (upd H dx (exd dx [(f, y)])) a (exo a C (some dx))) s' → Q () s') : wpAny (model X.prog X.w) A (setAttr (.ref a) f u) Q E s := by
  obtain ⟨nm, q, N, bs, sn, sub, ab, col, dd, k0, k1, k2, k3, k5, hC⟩ := T.cls
  have data : PySem.W.clsIn X.K C = some { name := nm, bases := bs, mro := .ref C :: bm, ns := N, qualname := q, hasDict := true, slotNames := sn, subclasses := sub, abstract := ab, collection := col, hasDel := false } := by unfold PySem.W.clsIn; rw [hC] <;> rfl
  obtain ⟨t1, ho⟩ := exo_at I.hok e
  obtain ⟨hp, g, d, t, os⟩ := s
  refine PySem.W.set_plain I.kIn (ox := { cls := .ref C, dict := none, data := .fields #[.ref t1, .none, .none, .none, .bool false, .none] }) (od := none) ⟨ho, rfl, rfl, trivial⟩ T.sa ?_
  refine PySem.MyX.put_new I.kIn ho data rfl (by rw [List.contains_cons, T.ob, Bool.or_true]) (fun self => by rw [refuseLoop_ref]; exact T.pass self) rfl hno (fun h' tk' dx k dn dne hx hn => ?_)
  have free : H dx = none := I.hok.fresh dn
  have away : ∀ {b : Addr} {o : Obj}, hp.get? b = some o → b ≠ dx := fun {b o} z => Nat.ne_of_lt (Nat.lt_of_lt_of_le (Heap.lt_size z) dn)
  have other : ∀ {b : Addr}, H b = none → b ≠ a := fun {b} n z => by
    rw [z, e] at n
    cases n
  have un : Un X.fs [] H (upd (upd H dx (exd dx [(f, y)])) a (exo a C (some dx))) hp h' := {
    keep := fun b o z n _ _ => k b o (other n) z
    slot := fun b o z n _ _ => ⟨o.slots, k b o (other n) z⟩
    free := fun b o z n _ => by rw [upd_ne (other n), upd_ne (away z)]; exact n
    there := fun b o z _ => by
      by_cases hb : b = a
      · exact ⟨_, by rw [hb]; exact hx⟩
      · exact ⟨o, k b o hb z⟩
    tups := fun b xs z => by rw [upd_ne (at_ne e z exo_tup), upd_ne (ne_of_none z free)]; exact z
    frzs := fun b o v z => by rw [upd_ne (at_ne e z exo_frz), upd_ne (ne_of_none z free)]; exact z
    tbls := fun b ps z => ⟨#[], by rw [upd_ne (at_ne e z exo_tbl), upd_ne (ne_of_none z free), z]; simp⟩ }
  refine h dx _ free dne (I.un (t' := tk') un fun b o z => ?_)
  by_cases hb : b = a
  · subst hb
    rw [upd_same] at z
    cases z
    exact exo_ok hx
  · rw [upd_ne hb] at z
    by_cases hd : b = dx
    · subst hd
      rw [upd_same] at z
      cases z
      exact exd_ok hn (relO_put (fs := []) ry fun g => True.intro)
    · rw [upd_ne hd] at z
      exact (I.hok b o z).stay (fun c v hc r => k c v (by
          rcases hc with hc | hc
          · rw [hc]
            exact hb
          · exact at_ne e hc exo_own) r)
        (fun c hc => by rw [upd_ne (at_ne e hc exo_own), upd_ne (ne_of_none hc free)]; exact hc) (fun c xs hc => by rw [upd_ne (at_ne e hc exo_tup), upd_ne (ne_of_none hc free)]; exact hc)
theorem oe_old (T : OeC X.K C B newId initId bm) (I : Inv X pins σ H s) (e : H a = some (exo a C (some dx))) (ed : H dx = some (exd dx fs)) (hl : fs.length ≤ 900) (hno : PySem.W.findIn X.K (.ref C) f = some none) (ry : RelV y u)
    (h : ∀ s', Inv X pins σ (upd H dx (exd dx ((f, y) :: fs))) s' → Q () s') : wpAny (model X.prog X.w) A (setAttr (.ref a) f u) Q E s := by
  obtain ⟨nm, q, N, bs, sn, sub, ab, col, dd, k0, k1, k2, k3, k5, hC⟩ := T.cls
  have data : PySem.W.clsIn X.K C = some { name := nm, bases := bs, mro := .ref C :: bm, ns := N, qualname := q, hasDict := true, slotNames := sn, subclasses := sub, abstract := ab, collection := col, hasDel := false } := by unfold PySem.W.clsIn; rw [hC] <;> rfl
  obtain ⟨t1, ho⟩ := exo_at I.hok e
  obtain ⟨mA, hns, rel⟩ := exd_at I.hok ed
  have wi := within_of rel
  obtain ⟨hp, g, d, t, os⟩ := s
  obtain ⟨oD, _, _, hoD, _, _⟩ := hns.count wi
  refine PySem.W.set_plain I.kIn (ox := { cls := .ref C, dict := some dx, data := .fields #[.ref t1, .none, .none, .none, .bool false, .none] }) (od := some oD) ⟨ho, rfl, rfl, hoD⟩ T.sa ?_
  refine PySem.MyX.put_old I.kIn ho hns wi (by rw [List.length_map]; omega) data rfl (by rw [List.contains_cons, T.ob, Bool.or_true]) (fun self => by rw [refuseLoop_ref]; exact T.pass self) rfl hno (fun h' tk' k hn => ?_)
  have there : ∃ o, h'.get? dx = some o := by
    obtain ⟨o, _, _, z, _⟩ := hn
    exact ⟨o, z⟩
  exact h _ (I.write (t' := tk') (x := dx) (e := dx) (o := exd dx ((f, y) :: fs)) (by rw [ed]; exact True.intro) (.inl rfl) k there (exd_ok hn (relO_put ry rel)))
theorem oe_init {us : List Value} {Q : Value → Shared → Prop} (T : OeC X.K C B newId initId bm) (I : Inv X pins σ H s) (e : H a = some (exo a C none)) (hl : us.length ≤ sizeLine) (h : ∀ s', Inv X pins σ H s' → Q .none s') :
    wpAny (model X.prog X.w) A (call (.builtin initId) (.ref a :: us)) Q E s := by
  obtain ⟨nm, q, N, bs, sn, sub, ab, col, dd, k0, k1, k2, k3, k5, hC⟩ := T.cls
  obtain ⟨t1, ho⟩ := exo_at I.hok e
  obtain ⟨hp, g, d, t, os⟩ := s
  refine wpAny_call (PySem.HandSPX.init_base T.base (fun _ => rfl) (I.kIn _ _ hC) ho hl fun h' t2 k hx => ?_)
  have J := I.write (t' := t) (x := a) (e := a) (o := exo a C none) (by rw [e]; exact True.intro) (.inl rfl) k ⟨_, hx⟩ (exo_ok hx)
  have same : upd H a (exo a C none) = H := by
    funext b
    by_cases hb : b = a
    · rw [hb, upd_same, e]
    · rw [upd_ne hb]
  rw [same] at J
  exact h _ J
end
/-! ### readings and rules -/
/-- B.__init__(self, ..), B the built-in class above -/
def tEi (K : PySem.W.Frag) (B newId initId : String) (bm : List Value) (ta : TA) : TE := fun σ H Q => ta σ H fun vs H1 => ∃ (a C : Addr) (ws : List V), vs = .ref a :: ws ∧ ws.length ≤ 1000 ∧ OeC K C B newId initId bm ∧ H1 a = some (exo a C none) ∧ Q .non H1
/-- self.f = e -/
def tOe (K : PySem.W.Frag) (B newId initId : String) (bm : List Value) (f : Str) (to te : TE) : TS := fun D σ H => te σ H fun y H1 => to σ H1 fun x H2 => ∃ a C : Addr, x = .ref a ∧ OeC K C B newId initId bm ∧ PySem.W.findIn K (.ref C) f = some none ∧
  ((H2 a = some (exo a C none) ∧ ∀ dx, H2 dx = none → dx ≠ a → D.nx σ (upd (upd H2 dx (exd dx [(f, y)])) a (exo a C (some dx)))) ∨
    ∃ (dx : Addr) (fs : List (Str × V)), H2 a = some (exo a C (some dx)) ∧ H2 dx = some (exd dx fs) ∧ fs.length ≤ 900 ∧ D.nx σ (upd H2 dx (exd dx ((f, y) :: fs))))
/-- C(..), kept as a value -/
def tMkV (C : Addr) (sp : Sp) (ta : TA) : TE := fun σ H Q => ta σ H fun vs H1 => vs.length ≤ 1000 ∧ ∀ a, H1 a = none → sp (.ref a :: vs) (upd H1 a (exo a C none)) (fun v H2 => v = .non ∧ Q (.ref a) H2) E0
def tMkVK (C : Addr) (m : Nat) (sp : Sp) (gV : List V → List V → List V) (tk : TA) : TE := fun σ H Q => tk σ H fun zs H1 => zs.length = m ∧ ∀ a, H1 a = none → sp (gV [.ref a] zs) (upd H1 a (exo a C none)) (fun v H2 => v = .non ∧ Q (.ref a) H2) E0
/-- e.f of a made exception -/
def tEf (K : PySem.W.Frag) (f : Str) (te : TE) : TE := fun σ H Q => te σ H fun x H1 => ∃ (a C d : Addr) (fs : List (Str × V)) (v : V), x = .ref a ∧ H1 a = some (exo a C (some d)) ∧ H1 d = some (exd d fs) ∧ ExcC K C ∧ PySem.W.findIn K (.ref C) f = some none ∧ fs.lookup f = some v ∧ Q v H1
/-- isinstance(e, c) of a made exception -/
def rIsX (K : PySem.W.Frag) : List V → Hp → VK → Prop := fun xs H Q => ∃ (a C d : Addr) (fs : List (Str × V)) (c : V) (u : Value) (b : Bool), xs = [.ref a, c] ∧ H a = some (exo a C (some d)) ∧ H d = some (exd d fs) ∧ ExcC K C ∧ ClsV c u ∧ PySem.W.kitOne K (.ref C) u = some b ∧ Q (.bl b) H
section
variable {X : Cx} {o e : Expr} {es : List Expr} {to te : TE} {ta tk : TA} {f x : Str} {p p' p1 p2 pos : Pos} {B newId initId : String} {bm : List Value} {kws : List Keyword}
theorem pe_einit {pl : Sem Bool} (hg : Gl X x) (hm : X.mg x = none) (hv : bootBuiltins x = some (.type B)) (typ : typeOf (.type B) = pure (.type "type")) (stub : Manifest.isStub B = false)
    (vV : PySem.W.findCls X.K (.type B) (.type "type") "__init__" = some (.val (.builtin initId))) (hnd : PySem.W.handedIn (.builtin initId) = true) (ha : PA X (e :: es) ta) (hn : x ≠ "__name__" := by decide) (hdb : (x == ("__debug__" : Str)) = false := by decide)
    (hc : eval (.Call (.Attribute (.Name x p1) "__init__" p2) (e :: es) [] pos) X.env = (do
      let ov ← eval (.Name x p1) X.env
      standAt p2.atName
      let (f, first) ← holding [ov] (getMethod ov "__init__" pl)
      callWith pos f first (backTo pos (starEach (e :: es) X.env)) (backToKw pos (keywordEach [] X.env))) := by rfl)
    (he : starEach (e :: es) X.env = (false, eval e X.env) :: starEach es X.env := by rfl) (hpl : (backTo pos (starEach es X.env)).any (·.1) = false := by rfl) :
    PE X (.Call (.Attribute (.Name x p1) "__init__" p2) (e :: es) [] pos) (tEi X.K B newId initId bm ta) := by
  refine ⟨fun pins s σ H Q I h => ?_⟩
  refine PySem.W.methodCall_KW (ld_blt I hg hm hv ?_ hn hdb) hc
  obtain ⟨m, fr⟩ := I.fr
  refine PySem.W.method_type fr I.ok.mod.kin typ stub vV hnd ?_
  show wpAny _ _ (callWith pos (Value.builtin initId) [] (backTo pos (starEach (e :: es) X.env)) []) _ _ _
  refine PyProof.Rows.callWith_method1 (thn (ha.run pos pins _ σ H _ (I.tok _) h) fun us s1 ⟨vs, H1, I1, r1, a, C, ws, ev, hl, T, ea, q⟩ => ?_) he hpl
  subst ev
  cases r1 with
  | @cons _ u0 _ ur ra rw' =>
    obtain rfl : u0 = Value.ref a := ra
    have size : ur.length ≤ sizeLine := by
      rw [← Paired.length rw', sizeLine_eq]
      omega
    exact oe_init T I1 ea size fun s' J => ⟨.non, H1, J, rfl, q⟩
theorem ps_oe (ho : PE X o to) (he : PE X e te) (hs : swapsWith e (some (.Attribute o f p')) pos.line X.env = pure false := by rfl) : PS X (.Assign [.Attribute o f p'] e pos) (tOe X.K B newId initId bm f to te) := by
  refine ⟨fun pins s σ H D I h => ?_⟩
  refine plainObj_wpAny_Assign_Attribute (thn (he.run pins s σ H _ I h) fun v s1 ⟨y, H1, I1, r1, q1⟩ => thn (ho.run pins s1 σ H1 _ I1 q1) fun u s2 ⟨x, H2, I2, r2, a, C, ex, T, hno, q⟩ => ?_) hs
  subst ex
  obtain rfl : u = Value.ref a := r2
  rcases q with ⟨ea, q⟩ | ⟨dx, fs, ea, ed, hl, q⟩
  · exact oe_new T I2 ea hno r1 fun dx s' n ne J => ⟨σ, _, J, q dx n ne⟩
  · exact oe_old T I2 ea ed hl hno r1 fun s' J => ⟨σ, _, J, q⟩
theorem pe_mkV {C fI : Addr} {k : Nat} {fd : FuncData} {ps : List Str} {sp : Sp} (T : OeC X.K C B newId initId bm) (iC : PySem.W.findIn X.K (.ref C) "__init__" = some (some (.ref fI))) (tI : PySem.W.typeIn X.K (.ref fI) = some (.type "function"))
    (F1 : FnOk X.prog X.w X.K X.mg X.base CX0 k fI fd ps sp) (hr : Room (k + 1) X.A) (hb : Binds X.K fd ps []) (hg : Gl X x) (hm : X.mg x = some (.ref C)) (ha : PA X (e :: es) ta)
    (hdb : (x == ("__debug__" : Str)) = false := by decide) (he : starEach (e :: es) X.env = (false, eval e X.env) :: starEach es X.env := by rfl) (hpl : (backTo pos (starEach es X.env)).any (·.1) = false := by rfl) :
    PE X (.Call (.Name x p) (e :: es) [] pos) (tMkV C sp ta) := by
  refine ⟨fun pins s σ H Q I h => ?_⟩
  obtain ⟨nm, q, N, bs, sn, sub, ab, col, dd, k0, k1, k2, k3, k5, hC⟩ := T.cls
  refine wpAny_Call_Name_kw (ld_glob I hg hm ?_ hdb)
  refine PySem.W.callWith_K (h₀ := X.base) I.ok.mod.kin T.kC (thn (ha.run pos pins s σ H _ I h) fun us s1 ⟨vs, H1, I1, r1, hz, q1⟩ => ⟨I1.kIn, ?_⟩) he hpl
  show wpAny _ _ (call (.ref C) us) _ _ _
  obtain ⟨hp, g, dr, tk, os⟩ := s1
  have up : hp.objs.size ≤ hp.objs.size + 1 := Nat.le_succ _
  have hq := q1 (hp.objs.size + 1) (I1.hok.fresh up)
  have kept : ∀ b o, hp.get? b = some o → ((hp.push (PySem.W.kdv_tup us)).push (PySem.HandSPX.excO C hp.objs.size)).get? b = some o := fun b o z => Heap.get?_push_of_some _ (Heap.get?_push_of_some _ z)
  have made : ((hp.push (PySem.W.kdv_tup us)).push (PySem.HandSPX.excO C hp.objs.size)).get? (hp.objs.size + 1) = some (PySem.HandSPX.excO C hp.objs.size) := by heap_get
  have I2 : Inv X pins σ (upd H1 (hp.objs.size + 1) (exo (hp.objs.size + 1) C none)) ⟨(hp.push (PySem.W.kdv_tup us)).push (PySem.HandSPX.excO C hp.objs.size), g, dr, tk, os⟩ :=
    I1.laid (t' := tk) (a := hp.objs.size + 1) (o := exo (hp.objs.size + 1) C none) (h' := (hp.push (PySem.W.kdv_tup us)).push (PySem.HandSPX.excO C hp.objs.size)) kept up (exo_ok made)
  have r2 : Vals (V.ref (hp.objs.size + 1) :: vs) (Value.ref (hp.objs.size + 1) :: us) := .cons rfl r1
  have many : (Value.ref (hp.objs.size + 1) :: us ++ []).length = ps.length := by
    have z := r2.length
    rw [F1.len _ _ _ _ hq] at z
    rw [List.append_nil]
    exact z.symm
  have size : us.length ≤ sizeLine := by
    rw [← Paired.length r1, sizeLine_eq]
    omega
  have bnd := hb _ (Value.ref (hp.objs.size + 1) :: us) I2.kIn many
  rw [List.append_nil] at bnd
  refine wpAny_call (PySem.MyX.callK T.base (I1.kIn _ _ hC) (PySem.W.looks_findIn I1.kIn iC) (fun self => PySem.W.bind_fn I1.kIn self tI) size
    (codeAny_mono (F1.run _ X.stack _ _ ⟨Value.ref (hp.objs.size + 1) :: us, []⟩ (Value.ref (hp.objs.size + 1) :: us) _ _ E0 (hr.make C us []) (I2.env0.make C us []) bnd r2 hq) fun r s' after => ?_))
  cases r with
  | error er => exact after.elim
  | ok fl =>
    cases fl with
    | ret u =>
      obtain ⟨v, H', J, rv, ev, z⟩ := I2.after after
      subst ev
      exact ⟨rv, ⟨.ref (hp.objs.size + 1), H', J, rfl, z⟩⟩
    | next => exact after.elim
    | brk => exact after.elim
    | cont => exact after.elim
theorem pe_mkVK {C fI : Addr} {k : Nat} {fd : FuncData} {ps ks : List Str} {sp : Sp} {gg : List Value → List Value → List Value} {gV : List V → List V → List V} (T : OeC X.K C B newId initId bm) (iC : PySem.W.findIn X.K (.ref C) "__init__" = some (some (.ref fI))) (tI : PySem.W.typeIn X.K (.ref fI) = some (.type "function"))
    (F1 : FnOk X.prog X.w X.K X.mg X.base CX0 k fI fd ps sp) (hr : Room (k + 1) X.A) (hb : KBn X.K fd ps 1 ks gg gV) (hg : Gl X x) (hm : X.mg x = some (.ref C)) (hkw : PK X kws tk)
    (hall : (backToKw pos (keywordEach kws X.env)).all (·.1.isSome) = true := by rfl) (hks : (backToKw pos (keywordEach kws X.env)).filterMap (·.1) = ks := by rfl) (hdb : (x == ("__debug__" : Str)) = false := by decide)
    (hpl : ((backTo pos (starEach [] X.env)).any (·.1) || (backToKw pos (keywordEach kws X.env)).any (·.1.isNone)) = false := by rfl) :
    PE X (.Call (.Name x p) [] kws pos) (tMkVK C ks.length sp gV tk) := by
  refine ⟨fun pins s σ H Q I h => ?_⟩
  obtain ⟨nm, q, N, bs, sn, sub, ab, col, dd, k0, k1, k2, k3, k5, hC⟩ := T.cls
  refine wpAny_Call_Name_kw (ld_glob I hg hm ?_ hdb)
  refine PySem.W.callWith_KW0 (h₀ := X.base) I.ok.mod.kin T.kC hall ?_ hpl
  refine thn (hkw.run pos pins s σ H _ I h) fun ws s1 ⟨zs, H1, I1, rz, hz, q1⟩ => ⟨I1.kIn, ?_⟩
  rw [hks]
  obtain ⟨hp, g, dr, tk, os⟩ := s1
  have up : hp.objs.size ≤ hp.objs.size + 1 := Nat.le_succ _
  have hq := q1 (hp.objs.size + 1) (I1.hok.fresh up)
  have kept : ∀ b o, hp.get? b = some o → ((hp.push (PySem.W.kdv_tup [])).push (PySem.HandSPX.excO C hp.objs.size)).get? b = some o := fun b o z => Heap.get?_push_of_some _ (Heap.get?_push_of_some _ z)
  have made : ((hp.push (PySem.W.kdv_tup [])).push (PySem.HandSPX.excO C hp.objs.size)).get? (hp.objs.size + 1) = some (PySem.HandSPX.excO C hp.objs.size) := by heap_get
  have I2 : Inv X pins σ (upd H1 (hp.objs.size + 1) (exo (hp.objs.size + 1) C none)) ⟨(hp.push (PySem.W.kdv_tup [])).push (PySem.HandSPX.excO C hp.objs.size), g, dr, tk, os⟩ :=
    I1.laid (t' := tk) (a := hp.objs.size + 1) (o := exo (hp.objs.size + 1) C none) (h' := (hp.push (PySem.W.kdv_tup [])).push (PySem.HandSPX.excO C hp.objs.size)) kept up (exo_ok made)
  have r2 := hb.rel (vs := [V.ref (hp.objs.size + 1)]) (us := [Value.ref (hp.objs.size + 1)]) (.cons rfl .nil) rz
  have bnd := hb.to ⟨(hp.push (PySem.W.kdv_tup [])).push (PySem.HandSPX.excO C hp.objs.size), g, dr, tk, os⟩ [Value.ref (hp.objs.size + 1)] ws I2.kIn rfl (rz.length.symm.trans hz)
  refine wpAny_call (PySem.MyX.callK (rest := []) (kw := ks.zip ws) T.base (I1.kIn _ _ hC) (PySem.W.looks_findIn I1.kIn iC) (fun self => PySem.W.bind_fn I1.kIn self tI) (Nat.zero_le _)
    (codeAny_mono (F1.run _ X.stack _ _ ⟨[Value.ref (hp.objs.size + 1)], ks.zip ws⟩ (gg [Value.ref (hp.objs.size + 1)] ws) _ _ E0 (hr.make C [] (ks.zip ws)) (I2.env0.make C [] (ks.zip ws)) bnd r2 hq) fun r s' after => ?_))
  cases r with
  | error er => exact after.elim
  | ok fl =>
    cases fl with
    | ret u =>
      obtain ⟨v, H', J, rv, ev, z⟩ := I2.after after
      subst ev
      exact ⟨rv, ⟨.ref (hp.objs.size + 1), H', J, rfl, z⟩⟩
    | next => exact after.elim
    | brk => exact after.elim
    | cont => exact after.elim
theorem exc_inst {pins : List (Addr × Obj)} {σ : St} {H : Hp} {s : Shared} {a C d : Addr} {fs : List (Str × V)} (I : Inv X pins σ H s) (ea : H a = some (exo a C (some d))) (ed : H d = some (exd d fs)) :
    ∃ (ox od : Obj) (mA : Str → Option Value), PySem.W.InstAt s.heap a ox C (some od) ∧ (∀ g, RelO (fs.lookup g) (mA g)) ∧ ∀ n, PySem.W.lookIn n od = some (mA n) := by
  obtain ⟨t1, ho⟩ := exo_at I.hok ea
  obtain ⟨mA, hns, rel⟩ := exd_at I.hok ed
  obtain ⟨od, hod, hl⟩ := lookIn_ns hns
  exact ⟨_, od, mA, ⟨ho, rfl, rfl, hod⟩, rel, fun n => hl n⟩
theorem pe_ef (he : PE X e te) (hb : attributeBase e f X.env (eval e X.env) = eval e X.env := by rfl) : PE X (.Attribute e f pos) (tEf X.K f te) := by
  refine ⟨fun pins s σ H Q I h => ?_⟩
  refine attr_of hb (thn (he.run pins s σ H _ I h) fun u s1 hh => ?_)
  obtain ⟨x, H1, I1, rx, a, C, d, fs, v, ex, ea, ed, T, hno, l, q⟩ := hh
  subst ex
  obtain rfl : u = Value.ref a := rx
  obtain ⟨ox, od, mA, J, rel, hl⟩ := exc_inst I1 ea ed
  obtain ⟨u, hu, ru⟩ := RelO.some_of (v := v) (o := mA f) (by rw [← l]; exact rel f)
  exact HandSPX.exc_get I1.kIn J T.hg T.hk T.hs (PySem.W.findObj_own T.hd hno rfl (by rw [hl, hu])) (handed_of ru) ⟨v, H1, I1.tok _, ru, q⟩
theorem call_isX : CallR X (.builtin "isinstance") (rIsX X.K) := by
  intro pins s σ H xs us Q I r h
  obtain ⟨a, C, d, fs, c, u, b, rfl, ea, ed, T, k, e, q⟩ := h
  obtain ⟨u1, u2, rfl, r1, r2⟩ := vals2 r
  cases (show u1 = Value.ref a from r1)
  have e2 := k.eq r2
  subst e2
  obtain ⟨ox, od, mA, J, rel, hl⟩ := exc_inst I ea ed
  exact PySem.W.kia_one (PySem.W.my_kitx T) I.kIn J e (fun z => nomatch z) fun tk => ⟨.bl b, H, I.tok tk, rfl, q⟩
end
/-- which class an own exception's class stands under -/
theorem oe_mro {K : PySem.W.Frag} {C : Addr} {B newId initId : String} {bm : List Value} (T : OeC K C B newId initId bm) (u : Value) : PySem.W.subIn K (.ref C) u = some ((Value.ref C :: bm).contains u) := by
  obtain ⟨nm, q, N, bs, sn, sub, ab, col, dd, k0, k1, k2, k3, k5, hC⟩ := T.cls
  show PySem.W.mroIn K C u = _
  unfold PySem.W.mroIn PySem.W.clsIn
  rw [hC]
  rfl
theorem oe_cls {K : PySem.W.Frag} {C : Addr} {B newId initId : String} {bm : List Value} (T : OeC K C B newId initId bm) : (PySem.W.clsIn K C).isSome = true := by
  obtain ⟨nm, q, N, bs, sn, sub, ab, col, dd, k0, k1, k2, k3, k5, hC⟩ := T.cls
  unfold PySem.W.clsIn
  rw [hC]
  rfl
theorem oe_own {K : PySem.W.Frag} {C D : Addr} {B newId initId B' newId' initId' : String} {bm bm' : List Value} (T : OeC K C B newId initId bm) (S : OeC K D B' newId' initId' bm') (nr : bm.contains (.ref D) = false) :
    PySem.W.kitOne K (.ref C) (.ref D) = some (decide (C = D)) := by
  unfold PySem.W.kitOne
  by_cases e : C = D
  · subst e
    simp
  · have e1 : (Value.ref C == Value.ref D) = false := beq_eq_false_iff_ne.mpr fun z => e (Value.ref.inj z)
    rw [e1, if_neg Bool.false_ne_true]
    show (if ((PySem.W.clsIn K D).isSome && PySem.W.typeIn K (.ref D) == some (.type "type")) = true then PySem.W.subIn K (.ref C) (.ref D) else none) = _
    rw [oe_cls S, S.ty, if_pos (by simp), oe_mro T, decide_eq_false e, List.contains_cons, nr]
    have e2 : (Value.ref D == Value.ref C) = false := beq_eq_false_iff_ne.mpr fun z => e (Value.ref.inj z).symm
    rw [e2]
    rfl
theorem oe_blt {K : PySem.W.Frag} {C : Addr} {B newId initId t : String} {bm : List Value} (T : OeC K C B newId initId bm) (m : PySem.W.kitMeta t = true) : PySem.W.kitOne K (.ref C) (.type t) = some (bm.contains (.type t)) := by
  unfold PySem.W.kitOne
  have e1 : (Value.ref C == Value.type t) = false := beq_eq_false_iff_ne.mpr fun z => nomatch z
  rw [e1, if_neg Bool.false_ne_true]
  show (if PySem.W.kitMeta t = true then PySem.W.subIn K (.ref C) (.type t) else none) = _
  rw [if_pos m, oe_mro T, List.contains_cons]
  have e2 : (Value.type t == Value.ref C) = false := beq_eq_false_iff_ne.mpr fun z => nomatch z
  rw [e2, Bool.false_or]
end L2

set_option Elab.async false
set_option linter.all false
set_option maxRecDepth 100000
set_option maxHeartbeats 4000000
/-! my own rules: an exception that is caught and kept behind the suite; calls by keywords within a try -/
namespace L2
open PySem PySem.Spec PyProof.Rows
/-- a caught exception's object -/
def exl (a : Addr) (cls : Value) (d : Option Addr) : HO := .ext fun h => ∃ (o : Obj) (vs : Array Value), h.get? a = some o ∧ o.cls = cls ∧ o.dict = d ∧ o.data = .fields vs
theorem exl_ok {P : Program} {w : World} {H : Hp} {h : Heap} {a : Addr} {cls : Value} {d : Option Addr} {o : Obj} {vs : Array Value} (he : h.get? a = some o) (hz : Zc cls d o) (hd : o.data = .fields vs) : ObjOk P w H h a (exl a cls d) :=
  ⟨⟨o, vs, he, hz.1, hz.2, hd⟩, ⟨o, he⟩, fun h1 h2 z k => by
    obtain ⟨o, vs, q, r⟩ := z
    exact ⟨o, vs, k _ q, r⟩⟩
theorem exl_at {P : Program} {w : World} {H : Hp} {h : Heap} {a : Addr} {cls : Value} {d : Option Addr} (hok : HOk P w H h) (he : H a = some (exl a cls d)) : ∃ (o : Obj) (vs : Array Value), h.get? a = some o ∧ o.cls = cls ∧ o.dict = d ∧ o.data = .fields vs := by
  have x : ObjOk P w H h a (.ext fun h => ∃ (o : Obj) (vs : Array Value), h.get? a = some o ∧ o.cls = cls ∧ o.dict = d ∧ o.data = .fields vs) := hok a _ he
  exact x.1
section
variable {X : Cx} {pins : List (Addr × Obj)} {σ : List (Option V)} {H : Hp} {s : Shared}
theorem Inv.adopt (I : Inv X pins σ H s) {a : Addr} {o : HO} (h0 : X.s_0.heap.get? a = none) (na : H a = none) (nL : a ≠ X.env.locals) (nC : ∀ x c, X.env.cells.lookup x = some c → c ≠ a) (nP : ∀ p ∈ X.pn ++ pins, p.1 ≠ a)
    (new : ObjOk X.prog X.w (upd H a o) s.heap a o) : Inv X pins σ (upd H a o) s :=
  ⟨I.ok, I.os, I.bare,
    ⟨I.base.keep, I.base.slot, fun b ob e n hx => by
      rw [upd_ne (fun z => by rw [z, h0] at e; cases e)]
      exact I.base.free b ob e n hx, I.base.there, fun b xs q => by
      have := I.base.tups b xs q
      rw [upd_ne (ne_of_none this na)]
      exact this, fun b ob u q => by
      have := I.base.frzs b ob u q
      rw [upd_ne (ne_of_none this na)]
      exact this, fun b ps q => by
      obtain ⟨more, this⟩ := I.base.tbls b ps q
      exact ⟨more, by rw [upd_ne (ne_of_none this na)]; exact this⟩⟩,
    I.loc, I.cell, by rw [upd_ne (Ne.symm nL)]; exact I.free, fun x c e => by rw [upd_ne (nC x c e)]; exact I.freeC x c e,
    fun p hp => by
      obtain ⟨e, n, r⟩ := I.pin p hp
      exact ⟨e, by rw [upd_ne (nP p hp)]; exact n, r⟩,
    fun b u e => by
      by_cases hb : b = a
      · subst hb; rw [upd_same] at e; cases e; exact new
      · rw [upd_ne hb] at e
        exact (I.hok b u e).stay (fun c v _ q => q) (fun c q => by rw [upd_ne (ne_of_none q na)]; exact q) fun c xs q => by rw [upd_ne (ne_of_none q na)]; exact q,
    I.len⟩
end
/-- what the clause 'except x as n' wishes of an exception of the body, its object being kept -/
def wKp (K : PySem.W.Frag) (c : Value) (i : Nat) (ts : Addr → Value → Option Addr → TS) (Wout : WX) (D : Ends) : WX := fun cls d σ H =>
  ∃ b, PySem.W.exmOne K cls c = some b ∧ (b = true → ∀ a, H a = none → ts a cls d { nx := fun σ' H' => D.nx (σ'.set i none) (upd H' a (exl a cls d)), rt := D.rt, bk := fun σ' H' => D.bk (σ'.set i none) H', ct := fun σ' H' => D.ct (σ'.set i none) H' } (σ.set i (some (.ref a))) H) ∧
    (b = false → Wout cls d σ H)
section
variable {X : Cx} {x n : Str} {c : Value} {i : Nat} {body suite : List Stmt} {b₀ : Stmt} {np pos pos' : Pos} {tb : WX → TS} {ts : Addr → Value → Option Addr → TS} {Wout : WX}
theorem ps_try_kp (hs : X.stack = X.env :: X.outer) (hf : X.env.frame = some X.env.locals) (hex : X.ex = []) (hN : X.N.Nodup) (hi : X.N[i]? = some n) (hln : X.env.kindOf n = some .local) (hc : Names X x c) (tk : Takes X Wout)
    (hb : ∀ (W : WX) (pn : List (Addr × Obj)) (xe : Value → Shared → Prop), Takes (X.tr pn xe) W → PassesOwn (model X.prog X.w) X.A X.env xe → PSs (X.tr pn xe) body (tb W))
    (hsu : ∀ (a : Addr) (oe : Obj) (cls : Value) (d : Option Addr) (pn : List (Addr × Obj)), Zc cls d oe → (∃ vs, oe.data = .fields vs) → PSs (X.suite a ((a, oe) :: pn)) (b₀ :: suite) (ts a cls d)) :
    PS X (.Try body [.ExceptHandler (some (.Name x np)) (some n) (b₀ :: suite) pos'] [] [] pos) (fun D σ H => tb (wKp X.K c i ts Wout D) D σ H) := by
  refine ⟨fun pins s σ H D I h => ?_⟩
  have ok := I.ok
  have hfr : X.A.frames = some (X.env :: X.outer) := by rw [ok.frames, hs]
  have hloc : Loc X.env.scope n := .inl hln
  refine wpAny_Try_except ?_
  refine wpAny_mono ((hb (wKp X.K c i ts Wout D) (X.pn ++ pins) (fun e s₁ => wpAny (model X.prog X.w) X.A (noteFrame e X.env) (fun _ s₂ => wpAny (model X.prog X.w) X.A (setFlight e none) (fun _ s₃ =>
    wpAny (model X.prog X.w) X.A (handleBy e X.env [.ExceptHandler (some (.Name x np)) (some n) (b₀ :: suite) pos']) (SP X pins D) X.xe s₃) X.xe s₂) X.xe s₁) (fun u s' xx => ?_) PassesOwn.looking).run [] s σ H D (I.toTry _) h) (fun f s1 hsp => ?_) (fun e s1 he => he)
  · -- the catch
    obtain ⟨a, B, sI, pins', σ', H', cls, d, rfl, J', nb, up, sky, na, os, ag, b, hb1, hyes, hno⟩ := xx
    have J : Inv X pins σ' H' sI := J'.ofTry ok
    have sky' : Sky B (X.env :: X.outer) a (Zc cls d) X.env.locals s'.heap := by rw [← hs]; exact sky
    show wpAny (model X.prog X.w) X.A (noteFrame (.ref a) X.env) _ _ _
    refine Sky.land Zc.steady hfr hf sky' fun h3 fl3 up3 => ?_
    have J3 : Inv X pins σ' H' { s' with heap := h3 } := J.landed nb fl3.1 (up.trans up3) os ag
    obtain ⟨oe3, vs3, he3, hz3, hd3⟩ := fl3.there
    have notFr : ∀ {h : Heap} {o : Obj} {vs : Array Value}, h.FunFrames B (X.env :: X.outer) → h.get? a = some o → o.data = .fields vs → a ∉ frs (X.env :: X.outer) := fun {h o vs} ff e dd hm => by
      obtain ⟨_, o', e', hnf⟩ := ff.mem hm
      rw [e] at e'; cases e'
      exact hnf _ dd
    have nfr := notFr fl3.2.2.1 he3 hd3
    have nL : a ≠ X.env.locals := fun z => nfr (List.mem_filterMap.mpr ⟨X.env, List.mem_cons_self, by rw [hf, z]⟩)
    have nF : a ∉ X.fs := fun hm => by
      obtain ⟨e, he, q⟩ := List.mem_filterMap.mp hm
      exact nfr (List.mem_filterMap.mpr ⟨e, List.mem_cons_of_mem _ he, q⟩)
    have aI : sI.heap.get? a = none := by
      cases e : sI.heap.get? a with
      | none => rfl
      | some o =>
        have z := nb a o e (by rw [hs]; exact nfr)
        rw [fl3.2.1] at z
        cases z
    have a0 : X.s_0.heap.get? a = none := by
      cases e : X.s_0.heap.get? a with
      | none => rfl
      | some o =>
        obtain ⟨o', z⟩ := J.base.there a o e (by rw [hex]; simp)
        rw [aI] at z
        cases z
    have nP : ∀ p ∈ X.pn ++ pins, p.1 ≠ a := fun p hp z => by
      obtain ⟨e, _⟩ := J.pin p hp
      rw [z, aI] at e
      cases e
    have S3 := J3.suite he3 hd3 na nL nF
    refine wpAny_handleBy_cons (codeAny_handlers_test ?_) (by intro q; cases q)
    have LT : PySem.W.Looks (model X.prog X.w) h3 (typeOf (.ref a)) cls := fun A Q E s k q => wpAny_typeOf_ref (k _ _ he3) (by rw [hz3.1]; exact q)
    have LM := PySem.W.exm_one (M := model X.prog X.w) (J3.kIn) LT hb1
    have test : ∀ {Q : Value → Shared → Prop} {E : Value → Shared → Prop}, Q c { s' with heap := h3 } → wpAny (model X.prog X.w) (X.A.mark (some (.ref a))) (eval (.Name x np) X.env) Q E { s' with heap := h3 } := fun {Q E} q => by
      obtain ⟨hg, hdbg, hm | ⟨hm, hv, hnn⟩⟩ := hc
      · exact ld_glob (X := X.suite a ((a, oe3) :: (X.pn ++ pins))) S3 hg hm q hdbg
      · exact ld_blt (X := X.suite a ((a, oe3) :: (X.pn ++ pins))) S3 hg hm hv q hnn hdbg
    refine test (LM.here ?_)
    cases b with
    | true =>
      refine codeAny_handlers_suite_as ?_
      refine HandSPX.lands_againZ fl3 fun h4 fl4 up4 => ?_
      have J4 : Inv X pins σ' H' { s' with heap := h4 } := J.landed nb fl4.1 ((up.trans up3).trans up4) os ag
      obtain ⟨oe4, vs4, he4, hz4, hd4⟩ := fl4.there
      have S4 := J4.suite he4 hd4 na nL nF
      refine store_ok (X := X.suite a ((a, oe4) :: (X.pn ++ pins))) (v := .ref a) S4 hN hi hloc rfl (fun s5 S5 => ?_) (.inr hln)
      refine wpAny_mono ((hsu a oe4 cls d (X.pn ++ pins) hz4 ⟨_, hd4⟩).run [] s5 _ H' _ S5 (hyes rfl a na)) (fun f s6 hsp => ?_) (fun _ _ z => False.elim z)
      have end_ : ∀ {σ6 : St} {H6 : Hp} {Q : Shared → Prop}, Inv (X.suite a ((a, oe4) :: (X.pn ++ pins))) [] σ6 H6 s6 → (∀ s7, Inv X pins (σ6.set i none) H6 s7 → Q s7) →
          wpAny (model X.prog X.w) X.A (do bindName X.env n .none; unbindBehindTheSuite X.env n pos') (fun _ s7 => Q s7) X.xe s6 := fun {σ6 H6 Q} S6 hq => gone_ok (S6.unsuite ok) hN hi hln hq
      cases f with
      | next =>
        obtain ⟨σ6, H6, S6, q6⟩ := hsp
        obtain ⟨ea6, na6, _, _, nc6⟩ := S6.pin (a, oe4) (List.mem_append_left _ List.mem_cons_self)
        have J6 : Inv X pins σ6 H6 s6 := S6.unsuite ok
        have J6' : Inv X pins σ6 (upd H6 a (exl a cls d)) s6 := J6.adopt a0 na6 nL (fun y c' e z => by
          obtain ⟨v, o, ho, hcd⟩ := J6.cell y c' e
          rw [z] at ho
          have e2 : some o = some oe4 := ho.symm.trans ea6
          cases e2
          exact nc6 v hcd) nP (exl_ok ea6 hz4 hd4)
        exact gone_ok J6' hN hi hln fun s7 J7 => ⟨_, _, J7, q6⟩
      | brk =>
        obtain ⟨σ6, H6, S6, q6⟩ := hsp
        exact end_ S6 fun s7 J7 => ⟨_, _, J7, q6⟩
      | cont =>
        obtain ⟨σ6, H6, S6, q6⟩ := hsp
        exact end_ S6 fun s7 J7 => ⟨_, _, J7, q6⟩
      | ret u =>
        obtain ⟨v6, σ6, H6, S6, r6, q6⟩ := hsp
        exact end_ S6 fun s7 J7 => ⟨_, _, _, J7, r6, q6⟩
    | false =>
      show wpAny _ X.A (handleBy (.ref a) X.env []) _ _ _
      refine wpAny_handleBy_nil ?_
      obtain ⟨k1, k2, k3, oe, vs, T, oT, ts', he, hz, hd, h1, hr⟩ := id fl3
      unfold PySem.passOn
      refine wpAny_bind (wpAny_field he hd h1 ?_)
      rw [if_neg (show ¬ ((Value.ref T == Value.none) = true) from by simp)]
      have fin : wpAny (model X.prog X.w) X.A (setFlight (.ref a) X.env.frame) (fun _ s4 => wpAny (model X.prog X.w) X.A (throw (.ref a) : Sem Flow) (SP X pins D) X.xe s4) X.xe { s' with heap := h3 } := by
        rw [hf]
        refine HandSPX.setFlight_upZ fl3 fun h4 hh4 up4 => wpAny_throw (tk _ _ ?_)
        exact ⟨a, B, sI, pins, σ', H', cls, d, rfl, J, nb, (up.trans up3).trans up4, .inr (.inr (by rw [hs]; exact hh4)), na, os, ag, hno rfl⟩
      first
        | exact wpAny_bind (wpAny_pure (wpAny_bind fin))
        | exact wpAny_bind fin
  · cases f with
    | next =>
      obtain ⟨σ', H', J', q⟩ := hsp
      exact wpAny_execs_nil ⟨σ', H', J'.ofTry ok, q⟩
    | brk =>
      obtain ⟨σ', H', J', q⟩ := hsp
      exact ⟨σ', H', J'.ofTry ok, q⟩
    | cont =>
      obtain ⟨σ', H', J', q⟩ := hsp
      exact ⟨σ', H', J'.ofTry ok, q⟩
    | ret u =>
      obtain ⟨v, σ', H', J', r, q⟩ := hsp
      exact ⟨v, σ', H', J'.ofTry ok, r, q⟩
end
/-! ### calls by keywords within a try -/
def tCallNS (n m : Nat) (sp : Sp) (gV : List V → List V → List V) (E : St → XK) (t tk : TA) : TE := fun σ H Q => t σ H fun vs H1 => tk σ H1 fun zs H2 => vs.length = n ∧ zs.length = m ∧ sp (gV vs zs) H2 Q (E σ)
section
variable {X : Cx} {CX : CXT} {k n : Nat} {f : Addr} {fd : FuncData} {ps ks : List Str} {sp : Sp} {E : St → XK} {x : Str} {p pos : Pos} {e : Expr} {es : List Expr} {kws : List Keyword} {t tk : TA} {g : List Value → List Value → List Value} {gV : List V → List V → List V}
theorem run_fnNS {pins : List (Addr × Obj)} {σ : St} {H : Hp} {s : Shared} {Q : VK} {us ws : List Value} {vs zs : List V} (F : FnOk X.prog X.w X.K X.mg X.base CX k f fd ps sp) (hr : Room k X.A) (hb : KBn X.K fd ps n ks g gV) (hx : PassesAt CX X σ (E σ))
    (I : Inv X pins σ H s) (r : Vals vs us) (rz : Vals zs ws) (l1 : vs.length = n) (l2 : zs.length = ks.length) (h : sp (gV vs zs) H Q (E σ)) : wpAny (model X.prog X.w) X.A (call (.ref f) us (ks.zip ws)) (EP X pins σ Q) X.xe s := by
  have r2 := hb.rel r rz
  refine wpAny_call (codeAny_mono (F.run X.A X.stack s H ⟨us, ks.zip ws⟩ (g us ws) (gV vs zs) Q (E σ) hr I.env0 (hb.to s us ws I.kIn (r.length.symm.trans l1) (rz.length.symm.trans l2)) r2 h) fun r s' hq => ?_)
  cases r with
  | error e => exact hx pins H s e s' I hq
  | ok fl =>
    cases fl with
    | ret u => exact I.after hq
    | next => exact False.elim hq
    | brk => exact False.elim hq
    | cont => exact False.elim hq
theorem pe_callNS (F : FnOk X.prog X.w X.K X.mg X.base CX k f fd ps sp) (hr : Room k X.A) (hg : Gl X x) (hm : X.mg x = some (.ref f)) (hk : PySem.W.keepIn X.K (.ref f) = true) (hb : KBn X.K fd ps n ks g gV) (hx : ∀ σ, PassesAt CX X σ (E σ))
    (ha : PA X (e :: es) t) (hkw : PK X kws tk) (hall : (backToKw pos (keywordEach kws X.env)).all (·.1.isSome) = true := by rfl) (hks : (backToKw pos (keywordEach kws X.env)).filterMap (·.1) = ks := by rfl)
    (hdb : (x == ("__debug__" : Str)) = false := by decide) (he : starEach (e :: es) X.env = (false, eval e X.env) :: starEach es X.env := by rfl)
    (hpl : ((backTo pos (starEach (e :: es) X.env)).any (·.1) || (backToKw pos (keywordEach kws X.env)).any (·.1.isNone)) = false := by rfl) :
    PE X (.Call (.Name x p) (e :: es) kws pos) (tCallNS n ks.length sp gV E t tk) := by
  refine ⟨fun pins s σ H Q I h => ?_⟩
  refine wpAny_Call_Name_kw (ld_glob I hg hm ?_ hdb)
  refine PySem.W.callWith_KW (h₀ := X.base) I.ok.mod.kin hk hall (thn (ha.run pos pins s σ H _ I h) fun us s1 ⟨vs, H1, I1, r, q⟩ => ?_) hpl he
  refine thn (hkw.run pos pins s1 σ H1 _ I1 q) fun ws s2 ⟨zs, H2, I2, rz, l1, l2, q2⟩ => ⟨I2.kIn, ?_⟩
  rw [hks]
  exact run_fnNS F hr hb (hx σ) I2 r rz l1 l2 q2
theorem pe_callN0S (F : FnOk X.prog X.w X.K X.mg X.base CX k f fd ps sp) (hr : Room k X.A) (hg : Gl X x) (hm : X.mg x = some (.ref f)) (hk : PySem.W.keepIn X.K (.ref f) = true) (hb : KBn X.K fd ps 0 ks g gV) (hx : ∀ σ, PassesAt CX X σ (E σ))
    (hkw : PK X kws tk) (hall : (backToKw pos (keywordEach kws X.env)).all (·.1.isSome) = true := by rfl) (hks : (backToKw pos (keywordEach kws X.env)).filterMap (·.1) = ks := by rfl)
    (hdb : (x == ("__debug__" : Str)) = false := by decide)
    (hpl : ((backTo pos (starEach [] X.env)).any (·.1) || (backToKw pos (keywordEach kws X.env)).any (·.1.isNone)) = false := by rfl) :
    PE X (.Call (.Name x p) [] kws pos) (tCallNS 0 ks.length sp gV E tNil tk) := by
  refine ⟨fun pins s σ H Q I h => ?_⟩
  refine wpAny_Call_Name_kw (ld_glob I hg hm ?_ hdb)
  refine PySem.W.callWith_KW0 (h₀ := X.base) I.ok.mod.kin hk hall ?_ hpl
  refine thn (hkw.run pos pins s σ H _ I h) fun ws s2 ⟨zs, H2, I2, rz, l1, l2, q2⟩ => ⟨I2.kIn, ?_⟩
  rw [hks]
  exact run_fnNS (us := []) (vs := []) F hr hb (hx σ) I2 .nil rz rfl l2 q2
end
/-! ### what is asked of a kept exception -/
/-- e.f -/
def tXl (K : PySem.W.Frag) (f : Str) (te : TE) : TE := fun σ H Q => te σ H fun x H1 => ∃ (a C d : Addr) (fs : List (Str × V)) (v : V), x = .ref a ∧ H1 a = some (exl a (.ref C) (some d)) ∧ H1 d = some (.xd fs) ∧ ExcC K C ∧ PySem.W.findIn K (.ref C) f = some none ∧ fs.lookup f = some v ∧ Q v H1
def rIsl (K : PySem.W.Frag) : List V → Hp → VK → Prop := fun xs H Q => ∃ (a C d : Addr) (fs : List (Str × V)) (c : V) (u : Value) (b : Bool), xs = [.ref a, c] ∧ H a = some (exl a (.ref C) (some d)) ∧ H d = some (.xd fs) ∧ ExcC K C ∧ ClsV c u ∧ PySem.W.kitOne K (.ref C) u = some b ∧ Q (.bl b) H
def rIslT (K : PySem.W.Frag) : List V → Hp → VK → Prop := fun xs H Q => ∃ (a C d : Addr) (fs : List (Str × V)) (tp : Addr) (cs : List V) (ws : List Value) (b : Bool), xs = [.ref a, .ref tp] ∧ H a = some (exl a (.ref C) (some d)) ∧ H d = some (.xd fs) ∧ ExcC K C ∧
  H tp = some (.tup cs) ∧ Paired ClsV cs ws ∧ PySem.W.kitAny K (.ref C) ws = some b ∧ Q (.bl b) H
section
variable {X : Cx} {e : Expr} {te : TE} {f : Str} {pos : Pos}
theorem exl_inst {pins : List (Addr × Obj)} {σ : St} {H : Hp} {s : Shared} {a C d : Addr} {fs : List (Str × V)} (I : Inv X pins σ H s) (ea : H a = some (exl a (.ref C) (some d))) (ed : H d = some (.xd fs)) :
    ∃ (ox od : Obj) (mA : Str → Option Value), PySem.W.InstAt s.heap a ox C (some od) ∧ (∀ g, RelO (fs.lookup g) (mA g)) ∧ ∀ n, PySem.W.lookIn n od = some (mA n) := by
  obtain ⟨o, vs, ho, hc, hd, hf⟩ := exl_at I.hok ea
  obtain ⟨mA, hns, rel⟩ := (show ObjOk X.prog X.w H s.heap d (.xd fs) from I.hok d _ ed)
  obtain ⟨od, hod, hl⟩ := lookIn_ns hns
  exact ⟨o, od, mA, ⟨ho, hc, by unfold PySem.W.notCls; rw [hf] <;> rfl, by rw [hd]; exact hod⟩, rel, fun n => hl n⟩
theorem pe_xl (he : PE X e te) (hb : attributeBase e f X.env (eval e X.env) = eval e X.env := by rfl) : PE X (.Attribute e f pos) (tXl X.K f te) := by
  refine ⟨fun pins s σ H Q I h => ?_⟩
  refine attr_of hb (thn (he.run pins s σ H _ I h) fun u s1 hh => ?_)
  obtain ⟨x, H1, I1, rx, a, C, d, fs, v, ex, ea, ed, T, hno, l, q⟩ := hh
  subst ex
  obtain rfl : u = Value.ref a := rx
  obtain ⟨ox, od, mA, J, rel, hl⟩ := exl_inst I1 ea ed
  obtain ⟨u, hu, ru⟩ := RelO.some_of (v := v) (o := mA f) (by rw [← l]; exact rel f)
  exact HandSPX.exc_get I1.kIn J T.hg T.hk T.hs (PySem.W.findObj_own T.hd hno rfl (by rw [hl, hu])) (handed_of ru) ⟨v, H1, I1.tok _, ru, q⟩
theorem call_isl : CallR X (.builtin "isinstance") (rIsl X.K) := by
  intro pins s σ H xs us Q I r h
  obtain ⟨a, C, d, fs, c, u, b, rfl, ea, ed, T, k, e, q⟩ := h
  obtain ⟨u1, u2, rfl, r1, r2⟩ := vals2 r
  cases (show u1 = Value.ref a from r1)
  have e2 := k.eq r2
  subst e2
  obtain ⟨ox, od, mA, J, rel, hl⟩ := exl_inst I ea ed
  exact PySem.W.kia_one (PySem.W.my_kitx T) I.kIn J e (fun z => nomatch z) fun tk => ⟨.bl b, H, I.tok tk, rfl, q⟩
theorem call_islT : CallR X (.builtin "isinstance") (rIslT X.K) := by
  intro pins s σ H xs us Q I r h
  obtain ⟨a, C, d, fs, tp, cs, ws, b, rfl, ea, ed, T, hT, k, e, q⟩ := h
  obtain ⟨u1, u2, rfl, r1, r2⟩ := vals2 r
  cases (show u1 = Value.ref a from r1)
  cases (show u2 = Value.ref tp from r2)
  obtain ⟨ox, od, mA, J, rel, hl⟩ := exl_inst I ea ed
  obtain ⟨_, its, rv, o, h1, h2, n, h3⟩ := (show ObjOk X.prog X.w H s.heap tp (.tup cs) from I.hok tp _ hT)
  have e3 := ClsV.all k rv
  subst e3
  obtain ⟨oc, od', dt, sl⟩ := o
  simp only at h2 h3
  subst h2 h3
  exact PySem.W.kia_tup (PySem.W.my_kitx T) I.kIn J h1 e (fun z => nomatch z) fun tk => ⟨.bl b, H, I.tok tk, rfl, q⟩
end
end L2

set_option Elab.async false
set_option linter.all false
set_option maxRecDepth 100000
set_option maxHeartbeats 4000000
/-! my own rules: a walk over a list or a tuple; methods in a try, by keywords -/
namespace L2
open PySem PySem.Spec PyProof.Rows
section
variable {X : Cx} {tg : Expr}
def iSeqA (K : PySem.W.Frag) (tl : TE) : TI := fun σ H R => tl σ H fun x H1 => ∃ (a : Addr) (xs : List V), x = .ref a ∧ ((SqL K H1 a xs ∧ R (Itl K a) H1) ∨ (SqT K H1 a xs ∧ R (Itt K a) H1))
theorem pi_seqA {l : Expr} {tl : TE} (hl : PE X l tl) : PI X tg l (iSeqA X.K tl) := by
  refine ⟨fun pins s σ H R I h => ?_⟩
  refine thn (hl.run pins s σ H _ I h) fun v s1 ⟨x, H1, I1, r1, q1⟩ => ?_
  obtain ⟨a, xs, e, q1⟩ := q1
  subst e
  cases r1
  rcases q1 with ⟨hq, q⟩ | ⟨hq, q⟩
  · obtain ⟨its, rv, p, hz⟩ := I1.list hq
    refine wpAny_pyIter_list p.isList ?_
    refine ⟨s1.heap.objs.size, [s1.heap.objs.size], _, _, H1, rfl, I1.kept (t' := s1.toks) fun b o e => Heap.get?_push_of_some _ e, turn_list a _, ⟨_, Heap.get?_push_size _ rfl, rfl, rfl⟩, fun b hb => ?_, q⟩
    have e : b = s1.heap.objs.size := by simpa using hb
    subst e
    exact I1.fpOk (Nat.le_refl _) (I1.hok.fresh (Nat.le_refl _))
  · obtain ⟨its, rv, p, hz⟩ := I1.tuple hq
    refine wpAny_pyIter_tuple (show s1.heap.IsTuple a its.toArray from p) ?_
    refine ⟨s1.heap.objs.size, [s1.heap.objs.size], _, _, H1, rfl, I1.kept (t' := s1.toks) fun b o e => Heap.get?_push_of_some _ e, turn_tuple a _, ⟨_, Heap.get?_push_size _ rfl, rfl, rfl⟩, fun b hb => ?_, q⟩
    have e : b = s1.heap.objs.size := by simpa using hb
    subst e
    exact I1.fpOk (Nat.le_refl _) (I1.hok.fresh (Nat.le_refl _))
end
/-! ### o.m(e, ..) in a try -/
section
variable {X : Cx} {CX : CXT} {k : Nat} {f C : Addr} {fd : FuncData} {ps : List Str} {sp : Sp} {E : St → XK} {m : Str} {pos apos : Pos} {e o : Expr} {es : List Expr} {ta : TE} {t : TA} {ds : List Value} {dvs : List V}
def tMethT (C : Addr) (m : Str) (sp : Sp) (dvs : List V) (E : St → XK) (ta : TE) (t : TA) : TE := fun σ H Q => ta σ H fun x H1 => ∃ a dx fs, x = .ref a ∧ H1 a = some (.ins C dx fs) ∧ fs.lookup m = none ∧
  t σ H1 fun vs H2 => sp (x :: (vs ++ dvs)) H2 Q (E σ)
theorem pe_methT {pl : Sem Bool} (he : PE X o ta) (c : Cls X.K C) (hm : Meth X.K C m f) (F : FnOk X.prog X.w X.K X.mg X.base CX k f fd ps sp) (hr : Room k X.A) (hb : Binds X.K fd ps ds) (hd : Vals dvs ds) (hx : ∀ σ, PassesAt CX X σ (E σ)) (ha : PA X (e :: es) t)
    (hst : starEach (e :: es) X.env = (false, eval e X.env) :: starEach es X.env := by rfl) (hpl : (backTo pos (starEach es X.env)).any (·.1) = false := by rfl)
    (ht : eval (.Call (.Attribute o m apos) (e :: es) [] pos) X.env = (do
      let ov ← eval o X.env
      standAt apos.atName
      let (f, first) ← holding [ov] (getMethod ov m pl)
      callWith pos f first (backTo pos (starEach (e :: es) X.env)) (backToKw pos (keywordEach [] X.env))) := by rfl) :
    PE X (.Call (.Attribute o m apos) (e :: es) [] pos) (tMethT C m sp dvs E ta t) := by
  refine ⟨fun pins s σ H Q I h => ?_⟩
  refine PySem.W.methodCall_KW (pl := pl) (thn (he.run pins s σ H _ I h) fun u s1 ⟨x, H1, I1, rx, a, dx, fs, ex, ea, l, q⟩ => ?_) ht
  subst ex
  obtain rfl : u = Value.ref a := rx
  refine getmeth_ok I1 ea c hm l ?_
  refine PySem.W.callWith_K (first := [.ref a]) (h₀ := X.base) I.ok.mod.kin hm.kp (thn (ha.run pos pins s1 σ H1 _ I1 q) fun us s2 ⟨vs, H2, I2, r, q2⟩ => ⟨I2.kIn, ?_⟩) hst hpl
  exact run_fnSD (us := .ref a :: us) (vs := .ref a :: vs) F hr hb hd (hx σ) I2 (.cons rfl r) q2
end
/-! ### a call, in a try, of a local name that holds a def -/
section
variable {X : Cx} {CX : CXT} {k i : Nat} {f : Addr} {fd : FuncData} {ps : List Str} {sp : Sp} {dvs : List V} {ds : List Value} {E : St → XK} {x : Str} {p pos : Pos} {e : Expr} {es : List Expr} {t : TA}
def tCallLS (i : Nat) (f : Addr) (sp : Sp) (dvs : List V) (E : St → XK) (t : TA) : TE := fun σ H Q => σ[i]? = some (some (.ref f)) ∧ t σ H fun vs H1 => sp (vs ++ dvs) H1 Q (E σ)
theorem pe_callLS (F : FnOk X.prog X.w X.K X.mg X.base CX k f fd ps sp) (hr : Room k X.A) (hN : X.N[i]? = some x) (hv : Vis X.env.scope x) (hk : PySem.W.keepIn X.K (.ref f) = true) (hb : Binds X.K fd ps ds) (hd : Vals dvs ds) (hx : ∀ σ, PassesAt CX X σ (E σ)) (ha : PA X (e :: es) t)
    (hdb : (x == ("__debug__" : Str)) = false := by decide) (hcd : (x == ("__classdict__" : Str)) = false := by decide)
    (he : starEach (e :: es) X.env = (false, eval e X.env) :: starEach es X.env := by rfl) (hpl : (backTo pos (starEach es X.env)).any (·.1) = false := by rfl) : PE X (.Call (.Name x p) (e :: es) [] pos) (tCallLS i f sp dvs E t) := by
  refine ⟨fun pins s σ H Q I h => ?_⟩
  obtain ⟨hs, ht⟩ := h
  refine wpAny_Call_Name_kw (thn ((pe_var (pos := p) hN hv hdb hcd).run pins s σ H (fun v H1 => v = .ref f ∧ H1 = H) I ⟨.ref f, hs, rfl, rfl⟩) fun u s1 ⟨v, H1, I1, r1, q1⟩ => ?_)
  obtain ⟨rfl, rfl⟩ := q1
  cases r1
  refine PySem.W.callWith_K (h₀ := X.base) I.ok.mod.kin hk (thn (ha.run pos pins s1 σ _ _ I1 ht) fun us s2 ⟨vs, H2, I2, r, q⟩ => ⟨I2.kIn, ?_⟩) he hpl
  exact run_fnSD F hr hb hd (hx σ) I2 r q
end
end L2

set_option Elab.async false
set_option linter.all false
set_option maxRecDepth 100000
set_option maxHeartbeats 4000000
/-! my own rules: len and str of an own class -/
namespace L2
open PySem PySem.Spec PyProof.Rows
section
variable {X : Cx} {CX : CXT} {k : Nat} {f C : Addr} {fd : FuncData} {ps : List Str} {sp : Sp} {E : XK}
theorem run_own {A : Around} {pins : List (Addr × Obj)} {σ : St} {H : Hp} {s : Shared} {a : Addr} {Q : VK} (F : FnOk X.prog X.w X.K X.mg X.base CX k f fd ps sp) (hb : Binds X.K fd ps []) (hx : Passes CX X E) (sb : Sub X k A) (I : Inv X pins σ H s) (h : sp [.ref a] H Q E) :
    wpAny (model X.prog X.w) A (call (.ref f) [.ref a]) (fun v s' => ∃ z H', Inv X pins σ H' s' ∧ RelV z v ∧ Q z H') X.xe s := by
  have e := I.env0
  have e0 : Env0 X.prog X.w X.K X.mg X.base A X.stack s H := ⟨by rw [sb.fr]; exact e.frames, e.mod, e.bs, e.bsz, e.funs, e.frf, e.hok, e.bare⟩
  have hl := F.len _ _ _ _ h
  have hbb := hb s [.ref a] I.kIn (by simpa using hl)
  rw [List.append_nil] at hbb
  refine wpAny_call (codeAny_mono (F.run A X.stack s H ⟨[.ref a], []⟩ [.ref a] [.ref a] Q E sb.room e0 hbb (.cons rfl .nil) h) fun r s' hq => ?_)
  match r, hq with
  | .error u, hq => exact hx pins σ H s u s' I hq
  | .ok (.ret u), hq =>
    obtain ⟨z, H', I', rz, q⟩ := I.after hq
    exact ⟨z, H', I', rz, q⟩
  | .ok .next, hq => exact hq.elim
  | .ok .brk, hq => exact hq.elim
  | .ok .cont, hq => exact hq.elim
def rLenOwn (C : Addr) (sp : Sp) (E : XK) : List V → Hp → VK → Prop := fun xs H Q => ∃ (a dx : Addr) (fs : List (Str × V)), xs = [.ref a] ∧ H a = some (.ins C dx fs) ∧ sp [.ref a] H (fun v H' => ∃ n : Int, v = .int n ∧ 0 ≤ n ∧ n < 2 ^ 63 ∧ Q (.int n) H') E
theorem call_len_own (F : FnOk X.prog X.w X.K X.mg X.base CX k f fd ps sp) (hm : Meth X.K C "__len__" f) (hb : Binds X.K fd ps []) (hx : Passes CX X E) (hr : Room (k + 1) X.A) : CallR X (.builtin "len") (rLenOwn C sp E) := by
  intro pins s σ H xs us Q I r h
  obtain ⟨a, dx, fs, rfl, ha, q⟩ := h
  obtain ⟨u, rfl, ru⟩ := vals1 r
  obtain rfl : u = Value.ref a := ru
  obtain ⟨mA, J, _⟩ := ins_get I.hok ha
  obtain ⟨od, J, _⟩ := J.look
  obtain ⟨m, hF⟩ := I.fr
  refine PySem.W.len_K hF I.ok.mod.kin J hm.1 hm.2 (wpAny_mono (run_own (A := X.A.in1) F hb hx ⟨hr.in1, rfl⟩ I q) (fun v s' hq => ?_) fun _ _ z => z)
  obtain ⟨z, H', I', rz, n, rfl, n0, n1, q'⟩ := hq
  obtain ⟨t, rfl⟩ := rz
  exact ⟨⟨n0, n1⟩, ⟨.int n, H', I'.tok _, ⟨_, rfl⟩, q'⟩⟩
def rStrOwn (C : Addr) (sp : Sp) (E : XK) : List V → Hp → VK → Prop := fun xs H Q => ∃ (a dx : Addr) (fs : List (Str × V)), xs = [.ref a] ∧ H a = some (.ins C dx fs) ∧ sp [.ref a] H (fun v H' => ∃ y : Str, v = .str y ∧ Q (.str y) H') E
theorem call_str_own (F : FnOk X.prog X.w X.K X.mg X.base CX k f fd ps sp) (hm : Meth X.K C "__str__" f) (hb : Binds X.K fd ps []) (hx : Passes CX X E) (hr : Room (k + 2) X.A) : CallR X (.type "str") (rStrOwn C sp E) := by
  intro pins s σ H xs us Q I r h
  obtain ⟨a, dx, fs, rfl, ha, q⟩ := h
  obtain ⟨u, rfl, ru⟩ := vals1 r
  obtain rfl : u = Value.ref a := ru
  obtain ⟨mA, J, _⟩ := ins_get I.hok ha
  obtain ⟨od, J, _⟩ := J.look
  have hr2 : Room k X.A.in1.in1 := hr.in1.in1
  refine PySem.W.kso_call hr2.units0 I.kIn J hm.1 hm.2 (wpAny_mono (run_own (A := X.A.in1.in1) F hb hx ⟨hr2, rfl⟩ I q) (fun v s' hq => ?_) fun _ _ z => z)
  obtain ⟨z, H', I', rz, y, rfl, q'⟩ := hq
  obtain ⟨t, rfl⟩ := rz
  exact ⟨.str y, H', I', ⟨_, rfl⟩, q'⟩
end
end L2

set_option Elab.async false
set_option linter.all false
set_option maxRecDepth 100000
set_option maxHeartbeats 4000000
namespace K19
open PySem PySem.Spec PyProof.Rows L2
/-! ### the text -/
def topS (i : Nat) : Stmt := PySem.Challenge.pw_slipwire_k19_refused_and_gone_on.main.body.getD i (.Pass ⟨0, 0, 0, 0⟩)
abbrev s_can_stand : Stmt := topS 10
abbrev s_how_long : Stmt := topS 11
abbrev s_sign_of : Stmt := topS 12
abbrev s_cell_at : Stmt := topS 15
abbrev s_box : Stmt := topS 16
abbrev s_take : Stmt := topS 17
abbrev s_same : Stmt := topS 18
abbrev s_of : Stmt := topS 19
abbrev s_signs : Stmt := topS 20
abbrev s_put_told : Stmt := topS 21
abbrev s_seen : Stmt := topS 22
abbrev s_due : Stmt := topS 23
abbrev s_byte : Stmt := topS 24
abbrev s_put : Stmt := topS 25
abbrev s_right : Stmt := topS 26
abbrev s_law : Stmt := topS 27
theorem sc_can_stand : FnScope ["begun", "byte"] ["begun", "byte"] (defScope s_can_stand) := ⟨rfl, rfl, rfl, by decide +kernel, rfl, by decide +kernel, by decide +kernel⟩
theorem sc_how_long : FnScope ["first"] ["first"] (defScope s_how_long) := ⟨rfl, rfl, rfl, by decide +kernel, rfl, by decide +kernel, by decide +kernel⟩
theorem sc_sign_of : FnScope ["parts"] ["parts"] (defScope s_sign_of) := ⟨rfl, rfl, rfl, by decide +kernel, rfl, by decide +kernel, by decide +kernel⟩
theorem sc_cell_at : FnScope ["_law_script", "_law_k"] ["_law_script", "_law_k"] (defScope s_cell_at) := ⟨rfl, rfl, rfl, by decide +kernel, rfl, by decide +kernel, by decide +kernel⟩
theorem sc_box : FnScope ["_law_script", "_law_k", "_law_cell"] ["_law_script", "_law_k"] (defScope s_box) := ⟨rfl, rfl, rfl, by decide +kernel, rfl, by decide +kernel, by decide +kernel⟩
theorem sc_take : FnScope ["_law_box_here", "_law_count", "_law_found", "_law_once", "_law_twice"] ["_law_box_here", "_law_count"] (defScope s_take) := ⟨rfl, rfl, rfl, by decide +kernel, rfl, by decide +kernel, by decide +kernel⟩
theorem sc_same : FnScope ["_law_found", "_law_due_here", "_law_one", "_law_two"] ["_law_found", "_law_due_here"] (defScope s_same) := ⟨rfl, rfl, rfl, by decide +kernel, rfl, by decide +kernel, by decide +kernel⟩
theorem sc_of : FnScope ["_law_box_here", "_law_some"] ["_law_box_here", "_law_some"] (defScope s_of) := ⟨rfl, rfl, rfl, by decide +kernel, rfl, by decide +kernel, by decide +kernel⟩
theorem sc_signs : FnScope ["_law_row", "_law_told", "_law_spot", "_law_first", "_law_count", "_law_sign", "_law_step", "_law_low", "_law_high"] ["_law_row"] (defScope s_signs) := ⟨rfl, rfl, rfl, by decide +kernel, rfl, by decide +kernel, by decide +kernel⟩
theorem sc_put_told : FnScope ["_law_signs_here", "_law_part", "_law_found", "_law_caught", "error", "_law_others"] ["_law_signs_here", "_law_part"] (defScope s_put_told) := ⟨rfl, rfl, rfl, by decide +kernel, rfl, by decide +kernel, by decide +kernel⟩
theorem sc_seen : FnScope ["_law_signs_here"] ["_law_signs_here"] (defScope s_seen) := ⟨rfl, rfl, rfl, by decide +kernel, rfl, by decide +kernel, by decide +kernel⟩
theorem sc_due : FnScope ["_law_row", "_law_told", "_law_bad", "_law_half", "_law_sign"] ["_law_row"] (defScope s_due) := ⟨rfl, rfl, rfl, by decide +kernel, rfl, by decide +kernel, by decide +kernel⟩
theorem sc_byte : FnScope ["_law_box_here", "_law_some"] ["_law_box_here"] (defScope s_byte) := ⟨rfl, rfl, rfl, by decide +kernel, rfl, by decide +kernel, by decide +kernel⟩
theorem sc_put : FnScope ["_law_signs_here", "_law_row", "_law_part", "_law_told", "_law_bad", "_law_half", "_law_had", "_law_due_here"] ["_law_signs_here", "_law_row", "_law_part"] (defScope s_put) := ⟨rfl, rfl, rfl, by decide +kernel, rfl, by decide +kernel, by decide +kernel⟩
theorem sc_right : FnScope ["_law_box_here", "_law_both", "_law_rows", "_law_turn", "_law_at"] ["_law_box_here"] (defScope s_right) := ⟨rfl, rfl, rfl, by decide +kernel, rfl, by decide +kernel, by decide +kernel⟩
theorem sc_law : FnScope ["_law_script", "_law_k"] ["_law_script"] (defScope s_law) := ⟨rfl, rfl, rfl, by decide +kernel, rfl, by decide +kernel, by decide +kernel⟩
abbrev s_BadSlip : Stmt := inClass (topS 3) 0
theorem sc_BadSlip : FnScope ["self", "part"] ["self", "part"] (defScope s_BadSlip) := ⟨rfl, rfl, rfl, by decide +kernel, rfl, by decide +kernel, by decide +kernel⟩
abbrev s_BadLetter : Stmt := inClass (topS 4) 0
theorem sc_BadLetter : FnScope ["self", "part"] ["self", "part"] (defScope s_BadLetter) := ⟨rfl, rfl, rfl, by decide +kernel, rfl, by decide +kernel, by decide +kernel⟩
abbrev s_BadEnd : Stmt := inClass (topS 5) 0
theorem sc_BadEnd : FnScope ["self", "part"] ["self", "part"] (defScope s_BadEnd) := ⟨rfl, rfl, rfl, by decide +kernel, rfl, by decide +kernel, by decide +kernel⟩
abbrev s_BadText : Stmt := inClass (topS 6) 0
theorem sc_BadText : FnScope ["self", "text"] ["self", "text"] (defScope s_BadText) := ⟨rfl, rfl, rfl, by decide +kernel, rfl, by decide +kernel, by decide +kernel⟩
abbrev s_BadRow : Stmt := inClass (topS 7) 0
theorem sc_BadRow : FnScope ["self", "row"] ["self", "row"] (defScope s_BadRow) := ⟨rfl, rfl, rfl, by decide +kernel, rfl, by decide +kernel, by decide +kernel⟩
abbrev s_Fault : Stmt := inClass (topS 8) 0
theorem sc_Fault : FnScope ["self", "code", "at"] ["self", "code", "at"] (defScope s_Fault) := ⟨rfl, rfl, rfl, by decide +kernel, rfl, by decide +kernel, by decide +kernel⟩
abbrev s_Signs_init : Stmt := inClass (topS 13) 0
theorem sc_Signs_init : FnScope ["self"] ["self"] (defScope s_Signs_init) := ⟨rfl, rfl, rfl, by decide +kernel, rfl, by decide +kernel, by decide +kernel⟩
abbrev s_Signs_put : Stmt := inClass (topS 13) 1
theorem sc_Signs_put : FnScope ["self", "byte", "sign"] ["self", "byte"] (defScope s_Signs_put) := ⟨rfl, rfl, rfl, by decide +kernel, rfl, by decide +kernel, by decide +kernel⟩
abbrev s_Signs_how_many : Stmt := inClass (topS 13) 2
theorem sc_Signs_how_many : FnScope ["self"] ["self"] (defScope s_Signs_how_many) := ⟨rfl, rfl, rfl, by decide +kernel, rfl, by decide +kernel, by decide +kernel⟩
abbrev s_Signs_is_whole : Stmt := inClass (topS 13) 3
theorem sc_Signs_is_whole : FnScope ["self"] ["self"] (defScope s_Signs_is_whole) := ⟨rfl, rfl, rfl, by decide +kernel, rfl, by decide +kernel, by decide +kernel⟩
abbrev s_Signs_words : Stmt := inClass (topS 13) 4
theorem sc_Signs_words : FnScope ["self"] ["self"] (defScope s_Signs_words) := ⟨rfl, rfl, rfl, by decide +kernel, rfl, by decide +kernel, by decide +kernel⟩
abbrev s_Signs_len : Stmt := inClass (topS 13) 6
theorem sc_Signs_len : FnScope ["self"] ["self"] (defScope s_Signs_len) := ⟨rfl, rfl, rfl, by decide +kernel, rfl, by decide +kernel, by decide +kernel⟩
abbrev s_Signs_str : Stmt := inClass (topS 13) 8
theorem sc_Signs_str : FnScope ["self", "shown", "sign"] ["self"] (defScope s_Signs_str) := ⟨rfl, rfl, rfl, by decide +kernel, rfl, by decide +kernel, by decide +kernel⟩
abbrev bm_ValueError : List Value := [.type "ValueError", .type "Exception", .type "BaseException", .type "object"]
theorem typ_ValueError : typeOf (.type "ValueError") = pure (.type "type") := by first | rfl | kernel_rfl
/-! ### what stands behind the top -/
structure Tx (K : PySem.W.Frag) (mg : Str → Option Value) where
  f_can_stand : Addr
  fd_can_stand : FuncData
  F_can_stand : Fun K "can_stand" "can_stand" s_can_stand f_can_stand fd_can_stand
  g_can_stand : mg "can_stand" = some (.ref f_can_stand)
  b_can_stand : Binds K fd_can_stand ["begun", "byte"] []
  f_how_long : Addr
  fd_how_long : FuncData
  F_how_long : Fun K "how_long" "how_long" s_how_long f_how_long fd_how_long
  g_how_long : mg "how_long" = some (.ref f_how_long)
  b_how_long : Binds K fd_how_long ["first"] []
  f_sign_of : Addr
  fd_sign_of : FuncData
  F_sign_of : Fun K "sign_of" "sign_of" s_sign_of f_sign_of fd_sign_of
  g_sign_of : mg "sign_of" = some (.ref f_sign_of)
  b_sign_of : Binds K fd_sign_of ["parts"] []
  f_cell_at : Addr
  fd_cell_at : FuncData
  F_cell_at : Fun K "_law_cell_at" "_law_cell_at" s_cell_at f_cell_at fd_cell_at
  g_cell_at : mg "_law_cell_at" = some (.ref f_cell_at)
  b_cell_at : Binds K fd_cell_at ["_law_script", "_law_k"] []
  f_box : Addr
  fd_box : FuncData
  F_box : Fun K "_law_box" "_law_box" s_box f_box fd_box
  g_box : mg "_law_box" = some (.ref f_box)
  b_box : Binds K fd_box ["_law_script", "_law_k"] []
  f_take : Addr
  fd_take : FuncData
  F_take : Fun K "_law_take" "_law_take" s_take f_take fd_take
  g_take : mg "_law_take" = some (.ref f_take)
  b_take : Binds K fd_take ["_law_box_here", "_law_count"] []
  f_same : Addr
  fd_same : FuncData
  F_same : Fun K "_law_same" "_law_same" s_same f_same fd_same
  g_same : mg "_law_same" = some (.ref f_same)
  b_same : Binds K fd_same ["_law_found", "_law_due_here"] []
  f_of : Addr
  fd_of : FuncData
  F_of : Fun K "_law_of" "_law_of" s_of f_of fd_of
  g_of : mg "_law_of" = some (.ref f_of)
  b_of : Binds K fd_of ["_law_box_here", "_law_some"] []
  f_signs : Addr
  fd_signs : FuncData
  F_signs : Fun K "_law_signs" "_law_signs" s_signs f_signs fd_signs
  g_signs : mg "_law_signs" = some (.ref f_signs)
  b_signs : Binds K fd_signs ["_law_row"] []
  f_put_told : Addr
  fd_put_told : FuncData
  F_put_told : Fun K "_law_put_told" "_law_put_told" s_put_told f_put_told fd_put_told
  g_put_told : mg "_law_put_told" = some (.ref f_put_told)
  b_put_told : Binds K fd_put_told ["_law_signs_here", "_law_part"] []
  f_seen : Addr
  fd_seen : FuncData
  F_seen : Fun K "_law_seen" "_law_seen" s_seen f_seen fd_seen
  g_seen : mg "_law_seen" = some (.ref f_seen)
  b_seen : Binds K fd_seen ["_law_signs_here"] []
  f_due : Addr
  fd_due : FuncData
  F_due : Fun K "_law_due" "_law_due" s_due f_due fd_due
  g_due : mg "_law_due" = some (.ref f_due)
  b_due : Binds K fd_due ["_law_row"] []
  f_byte : Addr
  fd_byte : FuncData
  F_byte : Fun K "_law_byte" "_law_byte" s_byte f_byte fd_byte
  g_byte : mg "_law_byte" = some (.ref f_byte)
  b_byte : Binds K fd_byte ["_law_box_here"] []
  f_put : Addr
  fd_put : FuncData
  F_put : Fun K "_law_put" "_law_put" s_put f_put fd_put
  g_put : mg "_law_put" = some (.ref f_put)
  b_put : Binds K fd_put ["_law_signs_here", "_law_row", "_law_part"] []
  f_right : Addr
  fd_right : FuncData
  F_right : Fun K "_law_right" "_law_right" s_right f_right fd_right
  g_right : mg "_law_right" = some (.ref f_right)
  b_right : Binds K fd_right ["_law_box_here"] []
  tk_SIGNS : Tok
  g_SIGNS : mg "SIGNS" = some (.int 14 tk_SIGNS)
  C_BadSlip : Addr
  f_BadSlip : Addr
  fd_BadSlip : FuncData
  F_BadSlip : Fun K "__init__" "BadSlip.__init__" s_BadSlip f_BadSlip fd_BadSlip
  g_BadSlip : mg "BadSlip" = some (.ref C_BadSlip)
  oe_BadSlip : OeC K C_BadSlip "ValueError" "ValueError.__new__" "ValueError.__init__" bm_ValueError
  i_BadSlip : PySem.W.findIn K (.ref C_BadSlip) "__init__" = some (some (.ref f_BadSlip))
  t_BadSlip : PySem.W.typeIn K (.ref f_BadSlip) = some (.type "function")
  b_BadSlip : Binds K fd_BadSlip ["self", "part"] []
  n_BadSlip_part : PySem.W.findIn K (.ref C_BadSlip) "part" = some none
  C_BadLetter : Addr
  f_BadLetter : Addr
  fd_BadLetter : FuncData
  F_BadLetter : Fun K "__init__" "BadLetter.__init__" s_BadLetter f_BadLetter fd_BadLetter
  g_BadLetter : mg "BadLetter" = some (.ref C_BadLetter)
  oe_BadLetter : OeC K C_BadLetter "ValueError" "ValueError.__new__" "ValueError.__init__" bm_ValueError
  i_BadLetter : PySem.W.findIn K (.ref C_BadLetter) "__init__" = some (some (.ref f_BadLetter))
  t_BadLetter : PySem.W.typeIn K (.ref f_BadLetter) = some (.type "function")
  b_BadLetter : Binds K fd_BadLetter ["self", "part"] []
  n_BadLetter_part : PySem.W.findIn K (.ref C_BadLetter) "part" = some none
  C_BadEnd : Addr
  f_BadEnd : Addr
  fd_BadEnd : FuncData
  F_BadEnd : Fun K "__init__" "BadEnd.__init__" s_BadEnd f_BadEnd fd_BadEnd
  g_BadEnd : mg "BadEnd" = some (.ref C_BadEnd)
  oe_BadEnd : OeC K C_BadEnd "ValueError" "ValueError.__new__" "ValueError.__init__" bm_ValueError
  i_BadEnd : PySem.W.findIn K (.ref C_BadEnd) "__init__" = some (some (.ref f_BadEnd))
  t_BadEnd : PySem.W.typeIn K (.ref f_BadEnd) = some (.type "function")
  b_BadEnd : Binds K fd_BadEnd ["self", "part"] []
  n_BadEnd_part : PySem.W.findIn K (.ref C_BadEnd) "part" = some none
  C_BadText : Addr
  f_BadText : Addr
  fd_BadText : FuncData
  F_BadText : Fun K "__init__" "BadText.__init__" s_BadText f_BadText fd_BadText
  g_BadText : mg "BadText" = some (.ref C_BadText)
  oe_BadText : OeC K C_BadText "ValueError" "ValueError.__new__" "ValueError.__init__" bm_ValueError
  i_BadText : PySem.W.findIn K (.ref C_BadText) "__init__" = some (some (.ref f_BadText))
  t_BadText : PySem.W.typeIn K (.ref f_BadText) = some (.type "function")
  b_BadText : Binds K fd_BadText ["self", "text"] []
  n_BadText_text : PySem.W.findIn K (.ref C_BadText) "text" = some none
  C_BadRow : Addr
  f_BadRow : Addr
  fd_BadRow : FuncData
  F_BadRow : Fun K "__init__" "BadRow.__init__" s_BadRow f_BadRow fd_BadRow
  g_BadRow : mg "BadRow" = some (.ref C_BadRow)
  oe_BadRow : OeC K C_BadRow "ValueError" "ValueError.__new__" "ValueError.__init__" bm_ValueError
  i_BadRow : PySem.W.findIn K (.ref C_BadRow) "__init__" = some (some (.ref f_BadRow))
  t_BadRow : PySem.W.typeIn K (.ref f_BadRow) = some (.type "function")
  b_BadRow : Binds K fd_BadRow ["self", "row"] []
  n_BadRow_row : PySem.W.findIn K (.ref C_BadRow) "row" = some none
  C_Fault : Addr
  f_Fault : Addr
  fd_Fault : FuncData
  F_Fault : Fun K "__init__" "Fault.__init__" s_Fault f_Fault fd_Fault
  g_Fault : mg "Fault" = some (.ref C_Fault)
  oe_Fault : OeC K C_Fault "ValueError" "ValueError.__new__" "ValueError.__init__" bm_ValueError
  i_Fault : PySem.W.findIn K (.ref C_Fault) "__init__" = some (some (.ref f_Fault))
  t_Fault : PySem.W.typeIn K (.ref f_Fault) = some (.type "function")
  b_Fault : Binds K fd_Fault ["self", "code", "at"] []
  n_Fault_code : PySem.W.findIn K (.ref C_Fault) "code" = some none
  n_Fault_at : PySem.W.findIn K (.ref C_Fault) "at" = some none
  C_Signs : Addr
  g_Signs : mg "Signs" = some (.ref C_Signs)
  cl_Signs : Cls K C_Signs
  f_Signs_init : Addr
  fd_Signs_init : FuncData
  F_Signs_init : Fun K "__init__" "Signs.__init__" s_Signs_init f_Signs_init fd_Signs_init
  b_Signs_init : Binds K fd_Signs_init ["self"] []
  mk_Signs : Mk K C_Signs f_Signs_init
  f_Signs_put : Addr
  fd_Signs_put : FuncData
  F_Signs_put : Fun K "put" "Signs.put" s_Signs_put f_Signs_put fd_Signs_put
  b_Signs_put : Binds K fd_Signs_put ["self", "byte"] []
  mt_Signs_put : Meth K C_Signs "put" f_Signs_put
  f_Signs_how_many : Addr
  fd_Signs_how_many : FuncData
  F_Signs_how_many : Fun K "how_many" "Signs.how_many" s_Signs_how_many f_Signs_how_many fd_Signs_how_many
  b_Signs_how_many : Binds K fd_Signs_how_many ["self"] []
  mt_Signs_how_many : Meth K C_Signs "how_many" f_Signs_how_many
  f_Signs_is_whole : Addr
  fd_Signs_is_whole : FuncData
  F_Signs_is_whole : Fun K "is_whole" "Signs.is_whole" s_Signs_is_whole f_Signs_is_whole fd_Signs_is_whole
  b_Signs_is_whole : Binds K fd_Signs_is_whole ["self"] []
  mt_Signs_is_whole : Meth K C_Signs "is_whole" f_Signs_is_whole
  f_Signs_words : Addr
  fd_Signs_words : FuncData
  F_Signs_words : Fun K "words" "Signs.words" s_Signs_words f_Signs_words fd_Signs_words
  b_Signs_words : Binds K fd_Signs_words ["self"] []
  mt_Signs_words : Meth K C_Signs "words" f_Signs_words
  f_Signs_len : Addr
  fd_Signs_len : FuncData
  F_Signs_len : Fun K "__len__" "Signs.__len__" s_Signs_len f_Signs_len fd_Signs_len
  b_Signs_len : Binds K fd_Signs_len ["self"] []
  mt_Signs_len : Meth K C_Signs "__len__" f_Signs_len
  f_Signs_str : Addr
  fd_Signs_str : FuncData
  F_Signs_str : Fun K "__str__" "Signs.__str__" s_Signs_str f_Signs_str fd_Signs_str
  b_Signs_str : Binds K fd_Signs_str ["self"] []
  mt_Signs_str : Meth K C_Signs "__str__" f_Signs_str
  n_Signs_signs : NoAttr K C_Signs "signs"
  n_Signs_parts : NoAttr K C_Signs "parts"
  n_Signs_many : NoAttr K C_Signs "many"
  lt_BadSlip : C_BadSlip < C_BadLetter
  lt_BadLetter : C_BadLetter < C_BadEnd
  lt_BadEnd : C_BadEnd < C_BadText
  lt_BadText : C_BadText < C_BadRow
  lt_BadRow : C_BadRow < C_Fault
  v_ValueError : PySem.W.findCls K (.type "ValueError") (.type "type") "__init__" = some (.val (.builtin "ValueError.__init__"))
  m_len : mg "len" = none
  m_abs : mg "abs" = none
  m_int : mg "int" = none
  m_bool : mg "bool" = none
  m_str : mg "str" = none
  m_list : mg "list" = none
  m_tuple : mg "tuple" = none
  m_isinstance : mg "isinstance" = none
  m_all : mg "all" = none
  m_zip : mg "zip" = none
  m_min : mg "min" = none
  m_max : mg "max" = none
  m_range : mg "range" = none
  m_ValueError : mg "ValueError" = none
end K19

set_option Elab.async false
set_option linter.all false
set_option maxRecDepth 100000
set_option maxHeartbeats 4000000
namespace K19
open PySem PySem.Spec PyProof.Rows L2
/-! ### heaps and bytes -/
def Bts (ns : List Int) : Prop := ∀ x ∈ ns, 0 ≤ x ∧ x < 256
/-- all but p is as it was -/
def Keep (p : Addr) (H H' : Hp) : Prop := ∀ b o, b ≠ p → H b = some o → H' b = some o
theorem same_upd {H : Hp} {p : Addr} {o : HO} (h : H p = none) : Same H (upd H p o) := fun b x e => by
  rw [upd_ne (ne_of_none e h)]
  exact e
theorem sq1 {K : PySem.W.Frag} {H : Hp} {a : Addr} {xs : List V} (h : H a = some (.lst xs)) : SqL K H a xs := .inl (.inl h)
theorem st1 {K : PySem.W.Frag} {H : Hp} {a : Addr} {xs : List V} (h : H a = some (.tup xs)) : SqT K H a xs := .inl (.inl h)
/-- an item of a list of ints -/
theorem atI_ints {xs : List Int} {r : Int} (h0 : 0 ≤ r) (h1 : r < xs.length) : ∃ x, x ∈ xs ∧ atI (xs.map V.int) r = some (.int x) := by
  obtain ⟨j, rfl⟩ := Int.eq_ofNat_of_zero_le h0
  have hj : j < xs.length := by omega
  refine ⟨xs[j], List.getElem_mem hj, atI_nat ?_⟩
  rw [List.getElem?_map, List.getElem?_eq_getElem hj]
  rfl
theorem Keep.upd {p : Addr} {H H' : Hp} {o : HO} (k : Keep p H H') : Keep p H (upd H' p o) := fun b x hb e => by
  rw [upd_ne hb]
  exact k b x hb e
theorem Keep.refl (p : Addr) (H : Hp) : Keep p H H := fun _ _ _ e => e
theorem Keep.trans {p : Addr} {H H1 H2 : Hp} (a : Keep p H H1) (b : Keep p H1 H2) : Keep p H H2 := fun c o hc e => b c o hc (a c o hc e)
theorem Keep.new {p q : Addr} {H H' : Hp} {o : HO} (k : Keep p H H') (hq : H' q = none) : Keep p H (L2.upd H' q o) := fun b x hb e => by
  rw [upd_ne (ne_of_none (k b x hb e) hq)]
  exact k b x hb e
theorem Same.seqT {K : PySem.W.Frag} {H H' : Hp} {a : Addr} {xs : List V} (e : Same H H') (h : SqT K H a xs) : SqT K H' a xs := by
  rcases h with (h | ⟨o, h⟩) | h
  · exact .inl (.inl (e _ _ h))
  · exact .inl (.inr ⟨o, e _ _ h⟩)
  · exact .inr h
theorem Same.new {H H' : Hp} {p : Addr} {o : HO} (s : Same H H') (h : H' p = none) : Same H (L2.upd H' p o) := s.trans (same_upd h)
/-- a change at a place that was free -/
theorem Same.mut {H H' : Hp} {p : Addr} {o : HO} (s : Same H H') (h : H p = none) : Same H (L2.upd H' p o) := fun b x e => by
  rw [upd_ne (ne_of_none e h)]
  exact s b x e
theorem walk_zipT {K : PySem.W.Frag} {a b : Addr} {xs ys : List V} {n : Nat} (hn : n = min xs.length ys.length) : Walk (RZ.ItzT K a b) n (fun H => SqT K H a xs ∧ SqT K H b ys) (YPair (fun i => xs[i]?) (fun i => ys[i]?)) := by
  subst hn
  refine ⟨fun i _ hi q => ?_, fun _ q => ⟨xs, ys, q.1, q.2, by omega⟩, fun i H v H' _ q y => ?_⟩
  · have h1 : i < xs.length := by omega
    have h2 : i < ys.length := by omega
    exact ⟨xs, ys, xs[i], ys[i], q.1, q.2, by simp [h1], by simp [h2]⟩
  · obtain ⟨T, x, z, h1, h2, h3, h4, h5⟩ := y
    exact ⟨T, x, z, h1, h2, h3, h4 xs q.1, h5 ys q.2⟩
theorem Same.keep {p : Addr} {H H1 H2 : Hp} (s : Same H H1) (k : Keep p H1 H2) (h : H p = none) : Same H H2 := fun b o e => k b o (ne_of_none e h) (s b o e)
theorem Same.k {p : Addr} {H H' : Hp} (s : Same H H') : Keep p H H' := fun b o _ e => s b o e
theorem Keep.mut {p t : Addr} {H H1 H2 : Hp} (k : Keep p H H1) (m : Keep t H1 H2) (h : H t = none) : Keep p H H2 := fun b o hb e => m b o (ne_of_none e h) (k b o hb e)
theorem Keep.free {p t : Addr} {H H1 : Hp} (k : Keep p H H1) (h : H1 t = none) (ne : t ≠ p) : H t = none := by
  cases e : H t with
  | none => rfl
  | some o => rw [k t o ne e] at h; cases h

section
variable {P : Program} {w : World} {K : PySem.W.Frag} {mg : Str → Option Value} {base : Heap}
/-! ### the cells and the draws -/
def spCell (K : PySem.W.Frag) : Sp := fun vs H Q _ => ∃ (a : Addr) (ns : List Int) (k : Int), vs = [.ref a, .int k] ∧ SqL K H a (ns.map V.int) ∧ 0 ≤ k ∧ ∀ z : Int, Q (.int z) H
theorem ok_cell_at (T : Tx K mg) : FnOk P w K mg base CX0 1 T.f_cell_at T.fd_cell_at ["_law_script", "_law_k"] (spCell K) := by
  refine T.F_cell_at.ok sc_cell_at (fun vs H Q E h => ?_) (fun cdv A outer s H vs Q E hr h => ?_)
  · obtain ⟨a, ns, k, rfl, _⟩ := h
    rfl
  · obtain ⟨a, ns, k, rfl, hS, h0, q⟩ := h
    refine ⟨_, (pss_cons (ps_if (pt_cmpR op_lt (pv 1) (pe_callB call_len_seq (by rfl) T.m_len (by decide +kernel) (pa_cons (pv 0) pa_nil)) (nomark _)) (pss_one (ps_ret (pe_ix (r := rIxL K) ix_list (pv 0) (pv 1) (fun _ _ => rfl)))) pss_nil)
      (pss_one (ps_ret pe_int))), ?_⟩
    refine ⟨.int k, rfl, .ref a, rfl, a, ns.map V.int, rfl, .inl hS, k, _, rfl, rfl, _, rfl, ite2 (fun e => ?_) (fun e => ?_)⟩
    · have e1 : k < ((ns.map V.int).length : Int) := of_decide_eq_true e
      rw [List.length_map] at e1
      obtain ⟨x, _, hx⟩ := atI_ints h0 e1
      exact ⟨.ref a, rfl, .int k, rfl, a, _, k, .int x, rfl, rfl, hS, hx, q x⟩
    · exact q 0
def spBox (K : PySem.W.Frag) : Sp := fun vs H Q _ => ∃ (a : Addr) (ns : List Int) (k : Int), vs = [.ref a, .int k] ∧ SqL K H a (ns.map V.int) ∧ 0 ≤ k ∧ k ≤ 1000 ∧
  ∀ (p : Addr) (x y : Int), H p = none → 0 ≤ x → 0 ≤ y → y < 2 ^ 62 → Q (.ref p) (upd H p (.lst [.int x, .int y, .int 0]))
theorem ok_box (T : Tx K mg) : FnOk P w K mg base CX0 2 T.f_box T.fd_box ["_law_script", "_law_k"] (spBox K) := by
  refine T.F_box.ok sc_box (fun vs H Q E h => ?_) (fun cdv A outer s H vs Q E hr h => ?_)
  · obtain ⟨a, ns, k, rfl, _⟩ := h
    rfl
  · obtain ⟨a, ns, k, rfl, hS, h0, h1, q⟩ := h
    refine ⟨_, (pss_cons (ps_set (i := 2) sc_box.nd rfl (.inl rfl) (pe_call (ok_cell_at T) (hr.mono (by omega)) (by rfl) T.g_cell_at T.F_cell_at.kp T.b_cell_at .nil pass0 (pa_cons (pv 0) (pa_cons (pv 1) pa_nil))))
      (pss_one (ps_ret (pe_lst (pa_cons (pe_op op_mul (pe_callB call_abs (by rfl) T.m_abs (by decide +kernel) (pa_cons (pv 2) pa_nil)) (pe_callTy call_int1 (by rfl) T.m_int (by decide +kernel) (pa_cons (pe_cmpR op_ge (pe_callB call_abs (by rfl) T.m_abs (by decide +kernel) (pa_cons (pv 2) pa_nil)) (pe_op op_pow pe_int pe_int) (nomark _)) pa_nil))) (pa_cons (pe_op op_add (pe_op op_add (pe_op op_mod (pv 2) pe_int) (pe_op op_mul pe_int (pv 1))) pe_int) (pa_cons pe_int pa_nil))))))), ?_⟩
    refine ⟨.ref a, rfl, .int k, rfl, a, ns, k, rfl, hS, h0, fun z => ?_⟩
    -- abs(cell) * int(abs(cell) >= 10 ** 18)
    refine ⟨.int z, rfl, z, rfl, .int z, rfl, z, rfl, 10, 18, rfl, rfl, ⟨by decide, by decide, by decide⟩, _, _, rfl, rfl, .inr ⟨_, rfl, _, _, rfl, rfl, ?_, ?_⟩⟩
    · refine .inr ?_
      constructor <;> (repeat' split) <;> decide
    · refine ⟨.int z, rfl, z, 2305843009213693951, rfl, rfl, (by show (0 : Int) < _; decide), .int k, rfl, 39373, k, rfl, rfl, .inl ⟨by decide, by decide⟩, _, _, rfl, rfl, _, _, rfl, rfl, by show 3 ≤ sizeLine; decide, fun p hp => ?_⟩
      refine q p _ _ hp ?_ ?_ ?_
      · refine Int.mul_nonneg ?_ ?_
        · split <;> omega
        · split <;> omega
      · have := Int.emod_nonneg z (b := 2305843009213693951) (by decide)
        omega
      · have := Int.emod_lt_of_pos z (b := 2305843009213693951) (by decide)
        omega
/-- a draw: the box at p keeps its form, the answer lies below the count -/
def spTake : Sp := fun vs H Q _ => ∃ (p : Addr) (a b c m : Int), vs = [.ref p, .int m] ∧ H p = some (.lst [.int a, .int b, .int c]) ∧ 0 ≤ a ∧ 0 ≤ b ∧ b < 2 ^ 62 ∧ 0 ≤ c ∧ c < 2 ^ 40 ∧ 0 < m ∧ m < 1073741824 ∧
  ∀ a' c' r : Int, 0 ≤ a' → c ≤ c' → c' ≤ c + 1 → 0 ≤ r → r < m → Q (.int r) (upd H p (.lst [.int a', .int b, .int c']))
theorem ok_take (T : Tx K mg) : FnOk P w K mg base CX0 1 T.f_take T.fd_take ["_law_box_here", "_law_count"] spTake := by
  refine T.F_take.ok sc_take (fun vs H Q E h => ?_) (fun cdv A outer s H vs Q E hr h => ?_)
  · obtain ⟨p, a, b, c, m, rfl, _⟩ := h
    rfl
  · obtain ⟨p, a, b, c, m, rfl, hB, a0, b0, b1, c0, c1, m0, m1, q⟩ := h
    refine ⟨_, (pss_cons (ps_if (pt_cmpR op_gt (pe_ix (r := rIxL K) ix_list (pv 0) pe_int (fun _ _ => rfl)) pe_int (nomark _)) (pss_cons (ps_set (i := 2) sc_take.nd rfl (.inl rfl) (pe_op op_mod (pe_ix (r := rIxL K) ix_list (pv 0) pe_int (fun _ _ => rfl)) (pv 1)))
      (pss_cons (ps_asg (pe_op op_fdiv (pe_ix (r := rIxL K) ix_list (pv 0) pe_int (fun _ _ => rfl)) (pv 1)) (pg_sub (pv 0) pe_int set_list))
      (pss_one (ps_ret (pv 2))))) pss_nil)
      (pss_cons (ps_asg (pe_op op_add (pe_ix (r := rIxL K) ix_list (pv 0) pe_int (fun _ _ => rfl)) pe_int) (pg_sub (pv 0) pe_int set_list))
      (pss_cons (ps_set (i := 3) sc_take.nd rfl (.inl rfl) (pe_op op_mod (pe_op op_mul (pe_op op_add (pe_ix (r := rIxL K) ix_list (pv 0) pe_int (fun _ _ => rfl)) (pe_op op_mul pe_int (pe_ix (r := rIxL K) ix_list (pv 0) pe_int (fun _ _ => rfl)))) (pe_op op_add pe_int (pe_ix (r := rIxL K) ix_list (pv 0) pe_int (fun _ _ => rfl)))) pe_int))
      (pss_cons (ps_set (i := 4) sc_take.nd rfl (.inl rfl) (pe_op op_mod (pe_op op_mul (pe_op op_add (pe_op op_add (pv 3) (pe_ix (r := rIxL K) ix_list (pv 0) pe_int (fun _ _ => rfl))) (pe_op op_fdiv (pe_ix (r := rIxL K) ix_list (pv 0) pe_int (fun _ _ => rfl)) pe_int)) (pe_op op_add (pe_op op_mod (pv 3) pe_int) pe_int)) pe_int))
      (pss_one (ps_ret (pe_op op_mod (pe_op op_fdiv (pe_op op_mod (pe_op op_add (pe_op op_mul (pv 4) pe_int) (pv 3)) pe_int) pe_int) (pv 1)))))))), ?_⟩
    refine ⟨.ref p, rfl, p, _, 0, .int a, rfl, rfl, sq1 hB, rfl, _, _, rfl, rfl, _, rfl, ite2 (fun e => ?_) (fun e => ?_)⟩
    · -- found = box[0] % count; box[0] = box[0] // count
      refine ⟨.ref p, rfl, p, _, 0, .int a, rfl, rfl, sq1 hB, rfl, .int m, rfl, a, m, rfl, rfl, m0, ?_⟩
      refine ⟨.ref p, rfl, p, _, 0, .int a, rfl, rfl, sq1 hB, rfl, .int m, rfl, a, m, rfl, rfl, ⟨m0, m1⟩, ?_⟩
      refine ⟨.ref p, rfl, p, _, 0, 0, rfl, rfl, hB, rfl, ?_⟩
      refine ⟨.int (a % m), rfl, ?_⟩
      exact q _ _ _ (Int.ediv_nonneg a0 (by omega)) (Int.le_refl _) (by omega) (Int.emod_nonneg _ (by omega)) (Int.emod_lt_of_pos _ m0)
    · -- box[2] = box[2] + 1
      refine ⟨.ref p, rfl, p, _, 2, .int c, rfl, rfl, sq1 hB, rfl, c, 1, rfl, rfl, .ref p, rfl, p, _, 2, 2, rfl, rfl, hB, rfl, ?_⟩
      have hB1 : (upd H p (.lst [.int a, .int b, .int (c + 1)])) p = some (.lst [.int a, .int b, .int (c + 1)]) := upd_same
      show (tSeq _ _) _ _ (upd H p (.lst [.int a, .int b, .int (c + 1)]))
      -- once
      refine ⟨.ref p, rfl, p, _, 1, .int b, rfl, rfl, sq1 hB1, rfl, .ref p, rfl, p, _, 2, .int (c + 1), rfl, rfl, sq1 hB1, rfl, 48271, c + 1, rfl, rfl, .inl ⟨by decide, by decide⟩, b, _, rfl, rfl,
        .ref p, rfl, p, _, 2, .int (c + 1), rfl, rfl, sq1 hB1, rfl, 39373, c + 1, rfl, rfl, _, _, rfl, rfl, .inr ⟨by omega, by omega⟩, _, 2147483647, rfl, rfl, (by show (0 : Int) < _; decide), ?_⟩
      -- twice
      have o2 := Int.emod_nonneg ((b + 48271 * (c + 1)) * (39373 + (c + 1)) % 2147483647) (b := 40009) (by decide)
      have o3 := Int.emod_lt_of_pos ((b + 48271 * (c + 1)) * (39373 + (c + 1)) % 2147483647) (b := 40009) (by decide)
      refine ⟨_, rfl, .ref p, rfl, p, _, 2, .int (c + 1), rfl, rfl, sq1 hB1, rfl, _, c + 1, rfl, rfl, .ref p, rfl, p, _, 1, .int b, rfl, rfl, sq1 hB1, rfl, b, 1000003, rfl, rfl, ⟨by decide, by decide⟩, _, _, rfl, rfl,
        _, rfl, _, 40009, rfl, rfl, (by show (0 : Int) < _; decide), _, 7, rfl, rfl, _, _, rfl, rfl, .inr ⟨?_, ?_⟩, _, 2147483629, rfl, rfl, (by show (0 : Int) < _; decide), ?_⟩
      · exact Int.lt_of_lt_of_le (by decide) (Int.add_le_add_right o2 7)
      · exact Int.lt_trans (Int.add_lt_add_right o3 7) (by decide)
      -- the answer
      refine ⟨_, rfl, _, 48271, rfl, rfl, .inr ⟨by decide, by decide⟩, _, rfl, _, _, rfl, rfl, _, 2147483587, rfl, rfl, (by show (0 : Int) < _; decide), _, 64, rfl, rfl, ⟨by decide, by decide⟩, .int m, rfl, _, m, rfl, rfl, m0, ?_⟩
      exact q _ _ _ a0 (by omega) (Int.le_refl _) (Int.emod_nonneg _ (by omega)) (Int.emod_lt_of_pos _ m0)
end

/-! ### the same, kind by kind -/
/-- x and y are the same data, at most n deep -/
def Sm (H : Hp) : Nat → V → V → Prop
  | 0, x, y => x = y ∧ flatV x = true
  | n + 1, x, y => (x = y ∧ flatV x = true) ∨ ∃ (a b : Addr) (xs ys : List V), x = .ref a ∧ y = .ref b ∧ xs.length = ys.length ∧ xs.length ≤ 1000000 ∧ (∀ (i : Nat) u v, xs[i]? = some u → ys[i]? = some v → Sm H n u v) ∧
      ((H a = some (.lst xs) ∧ H b = some (.lst ys)) ∨ (H a = some (.tup xs) ∧ H b = some (.tup ys)))
theorem Sm.mono {H H' : Hp} (s : Same H H') : ∀ {n : Nat} {x y : V}, Sm H n x y → Sm H' n x y
  | 0, _, _, h => h
  | n + 1, _, _, .inl h => .inl h
  | n + 1, _, _, .inr ⟨a, b, xs, ys, e1, e2, l, hl, hi, h⟩ => .inr ⟨a, b, xs, ys, e1, e2, l, hl, fun i u v hu hv => Sm.mono s (hi i u v hu hv), by
    rcases h with ⟨h1, h2⟩ | ⟨h1, h2⟩
    · exact .inl ⟨s _ _ h1, s _ _ h2⟩
    · exact .inr ⟨s _ _ h1, s _ _ h2⟩⟩
theorem Sm.flat {H : Hp} {n : Nat} {x : V} (h : flatV x = true) : Sm H n x x := by
  cases n with
  | zero => exact ⟨rfl, h⟩
  | succ n => exact .inl ⟨rfl, h⟩
/-- two lists of the same ints -/
theorem Sm.ints {H : Hp} {n : Nat} {a b : Addr} {ns : List Int} (h1 : H a = some (.lst (ns.map V.int))) (h2 : H b = some (.lst (ns.map V.int))) (hl : ns.length ≤ 1000000) : Sm H (n + 1) (.ref a) (.ref b) :=
  .inr ⟨a, b, _, _, rfl, rfl, rfl, by rw [List.length_map]; exact hl, fun i u v hu hv => by
    rw [hu] at hv
    cases hv
    rw [List.getElem?_map] at hu
    obtain ⟨z, _, rfl⟩ := Option.map_eq_some_iff.mp hu
    exact Sm.flat rfl, .inl ⟨h1, h2⟩⟩
theorem leaf_kit {K : PySem.W.Frag} {H : Hp} {x : V} (h : flatV x = true) : ∃ (n : String) (bb bi : Bool), (∀ H', TyX K H' x (.type n)) ∧ PySem.W.kitAny K (.type n) [.type "list", .type "tuple"] = some false ∧
    PySem.W.kitOne K (.type n) (.type "bool") = some bb ∧ PySem.W.kitOne K (.type n) (.type "int") = some bi := by
  cases x with
  | non => exact ⟨"NoneType", false, false, fun _ => .base .non, kitAny_cons (b := false) (kit_ty (by decide +kernel)) (fun _ => kitAny_cons (b := false) (kit_ty (by decide +kernel)) (fun _ => rfl) (fun z => nomatch z)) (fun z => nomatch z), kit_ty (by decide +kernel), kit_ty (by decide +kernel)⟩
  | bl y => exact ⟨"bool", true, true, fun _ => .base (.bl y), kitAny_cons (b := false) (kit_ty (by decide +kernel)) (fun _ => kitAny_cons (b := false) (kit_ty (by decide +kernel)) (fun _ => rfl) (fun z => nomatch z)) (fun z => nomatch z), kit_ty (by decide +kernel), kit_ty (by decide +kernel)⟩
  | int y => exact ⟨"int", false, true, fun _ => .base (.int y), kitAny_cons (b := false) (kit_ty (by decide +kernel)) (fun _ => kitAny_cons (b := false) (kit_ty (by decide +kernel)) (fun _ => rfl) (fun z => nomatch z)) (fun z => nomatch z), kit_ty (by decide +kernel), kit_ty (by decide +kernel)⟩
  | str y => exact ⟨"str", false, false, fun _ => .base (.str y), kitAny_cons (b := false) (kit_ty (by decide +kernel)) (fun _ => kitAny_cons (b := false) (kit_ty (by decide +kernel)) (fun _ => rfl) (fun z => nomatch z)) (fun z => nomatch z), kit_ty (by decide +kernel), kit_ty (by decide +kernel)⟩
  | byt _ => cases h
  | flt _ => cases h
  | ref _ => cases h
  | ty _ => cases h
theorem seq_kit {K : PySem.W.Frag} {H : Hp} {a b : Addr} {xs ys : List V} (h : (H a = some (.lst xs) ∧ H b = some (.lst ys)) ∨ (H a = some (.tup xs) ∧ H b = some (.tup ys))) :
    ∃ (n : String) (bl bt : Bool), (∀ H', Same H H' → TyX K H' (.ref a) (.type n) ∧ TyX K H' (.ref b) (.type n)) ∧ PySem.W.kitAny K (.type n) [.type "list", .type "tuple"] = some true ∧
      PySem.W.kitOne K (.type n) (.type "list") = some bl ∧ PySem.W.kitOne K (.type n) (.type "tuple") = some bt := by
  rcases h with ⟨h1, h2⟩ | ⟨h1, h2⟩
  · exact ⟨"list", true, false, fun H' s => ⟨.base (.lst (s _ _ h1)), .base (.lst (s _ _ h2))⟩, kitAny_cons (b := true) (kit_ty (by decide +kernel)) (fun z => nomatch z) (fun _ => rfl), kit_ty (by decide +kernel), kit_ty (by decide +kernel)⟩
  · exact ⟨"tuple", false, true, fun H' s => ⟨.base (.tup (s _ _ h1)), .base (.tup (s _ _ h2))⟩, kitAny_cons (b := false) (kit_ty (by decide +kernel)) (fun _ => kitAny_cons (b := true) (kit_ty (by decide +kernel)) (fun z => nomatch z) (fun _ => rfl)) (fun z => nomatch z), kit_ty (by decide +kernel), kit_ty (by decide +kernel)⟩
theorem rep_all (n : Nat) : (List.replicate n true).all id = true := by
  induction n with
  | zero => rfl
  | succ n ih => rw [List.replicate_succ, List.all_cons, ih]; rfl
section
variable {P : Program} {w : World} {K : PySem.W.Frag} {mg : Str → Option Value} {base : Heap}
def spSame : Nat → Sp
  | 0 => fun _ _ _ _ => False
  | n + 1 => fun vs H Q _ => ∃ (x y : V), vs = [x, y] ∧ Sm H n x y ∧ ∀ H', Same H H' → Q (.bl true) H'
theorem ok_same (T : Tx K mg) : ∀ n : Nat, FnOk P w K mg base CX0 n T.f_same T.fd_same ["_law_found", "_law_due_here"] (spSame n)
  | 0 => ⟨fun _ _ _ _ h => h.elim, fun _ _ _ _ _ _ _ _ _ _ _ _ _ h => h.elim⟩
  | n + 1 => by
    have ih := ok_same T n
    refine T.F_same.ok sc_same (fun vs H Q E h => ?_) (fun cdv A outer s H vs Q E hr h => ?_)
    · obtain ⟨x, y, rfl, _⟩ := h
      rfl
    · obtain ⟨x, y, rfl, h, q⟩ := h
      refine ⟨_, (pss_cons (ps_if (pt_val (pe_callB (r := rIsiT K) call_isiT (by rfl) T.m_isinstance (by decide +kernel) (pa_cons (pv 1) (pa_cons (pe_tup (pa_cons (pe_bltn (v := .ty "list") (u := .type "list") (by rfl) T.m_list (by decide +kernel) rfl) (pa_cons (pe_bltn (v := .ty "tuple") (u := .type "tuple") (by rfl) T.m_tuple (by decide +kernel) rfl) pa_nil))) pa_nil)))) (pss_cons (ps_if (pw_or (pt_cmpR op_ne (pe_callB (r := rIsi K) call_isi (by rfl) T.m_isinstance (by decide +kernel) (pa_cons (pv 0) (pa_cons (pe_bltn (v := .ty "list") (u := .type "list") (by rfl) T.m_list (by decide +kernel) rfl) pa_nil))) (pe_callB (r := rIsi K) call_isi (by rfl) T.m_isinstance (by decide +kernel) (pa_cons (pv 1) (pa_cons (pe_bltn (v := .ty "list") (u := .type "list") (by rfl) T.m_list (by decide +kernel) rfl) pa_nil))) (nomark _)) (pw_or1 (pt_cmpR op_ne (pe_callB (r := rIsi K) call_isi (by rfl) T.m_isinstance (by decide +kernel) (pa_cons (pv 0) (pa_cons (pe_bltn (v := .ty "tuple") (u := .type "tuple") (by rfl) T.m_tuple (by decide +kernel) rfl) pa_nil))) (pe_callB (r := rIsi K) call_isi (by rfl) T.m_isinstance (by decide +kernel) (pa_cons (pv 1) (pa_cons (pe_bltn (v := .ty "tuple") (u := .type "tuple") (by rfl) T.m_tuple (by decide +kernel) rfl) pa_nil))) (nomark _)))).pt (pss_one (ps_ret pe_bl)) pss_nil)
      (pss_one (ps_ret (pe_and (pe_cmpR op_eq (pe_callB call_len_seq (by rfl) T.m_len (by decide +kernel) (pa_cons (pv 0) pa_nil)) (pe_callB call_len_seq (by rfl) T.m_len (by decide +kernel) (pa_cons (pv 1) pa_nil)) (nomark _)) (pe_one (pe_callB (cr_all rfl) (by rfl) T.m_all (by decide +kernel) (pa_cons (pe_lc (own := [("_law_one", 2), ("_law_two", 3)]) (g := gTup K 2 (gCons (gName 2) (gCons (gName 3) gNil))) (tt := tYes) rfl sc_same.nd (RZ.pi_zipA (by rfl) T.m_zip (pa_cons (pv 0) (pa_cons (pv 1) pa_nil))) (blkOk_by (N := ["_law_found", "_law_due_here", "_law_one", "_law_two"]) (sc := defScope s_same) (by decide +kernel)) (fun _ _ _ _ _ => (pg_tup rfl (pgs_cons (pg_name (i := 2) sc_same.nd rfl (.inl rfl)) (pgs_cons (pg_name (i := 3) sc_same.nd rfl (.inl rfl)) pgs_nil)))) (fun _ _ _ _ _ => pts_nil) (fun _ _ _ _ _ => (pe_call ih (hr.mono (by omega)) (by rfl) T.g_same T.F_same.kp T.b_same .nil pass0 (pa_cons (pv 2) (pa_cons (pv 3) pa_nil))))) pa_nil))))))) pss_nil)
      (pss_cons (ps_if (pw_or (pt_cmpR op_ne (pe_callB (r := rIsi K) call_isi (by rfl) T.m_isinstance (by decide +kernel) (pa_cons (pv 0) (pa_cons (pe_bltn (v := .ty "bool") (u := .type "bool") (by rfl) T.m_bool (by decide +kernel) rfl) pa_nil))) (pe_callB (r := rIsi K) call_isi (by rfl) T.m_isinstance (by decide +kernel) (pa_cons (pv 1) (pa_cons (pe_bltn (v := .ty "bool") (u := .type "bool") (by rfl) T.m_bool (by decide +kernel) rfl) pa_nil))) (nomark _)) (pw_or1 (pt_cmpR op_ne (pe_callB (r := rIsi K) call_isi (by rfl) T.m_isinstance (by decide +kernel) (pa_cons (pv 0) (pa_cons (pe_bltn (v := .ty "int") (u := .type "int") (by rfl) T.m_int (by decide +kernel) rfl) pa_nil))) (pe_callB (r := rIsi K) call_isi (by rfl) T.m_isinstance (by decide +kernel) (pa_cons (pv 1) (pa_cons (pe_bltn (v := .ty "int") (u := .type "int") (by rfl) T.m_int (by decide +kernel) rfl) pa_nil))) (nomark _)))).pt (pss_one (ps_ret pe_bl)) pss_nil)
      (pss_one (ps_ret (pe_cmpR op_eq (pv 0) (pv 1) (nomark _)))))), ?_⟩
      have hc : (x = y ∧ flatV x = true) ∨ ∃ (a b : Addr) (xs ys : List V), x = .ref a ∧ y = .ref b ∧ xs.length = ys.length ∧ xs.length ≤ 1000000 ∧ (∀ (i : Nat) u v, xs[i]? = some u → ys[i]? = some v → n ≠ 0 ∧ Sm H (n - 1) u v) ∧
          ((H a = some (.lst xs) ∧ H b = some (.lst ys)) ∨ (H a = some (.tup xs) ∧ H b = some (.tup ys))) := by
        cases n with
        | zero => exact .inl h
        | succ n =>
          rcases h with h | ⟨a, b, xs, ys, e1, e2, l, hl, hi, h⟩
          · exact .inl h
          · exact .inr ⟨a, b, xs, ys, e1, e2, l, hl, fun i u v hu hv => ⟨Nat.succ_ne_zero _, hi i u v hu hv⟩, h⟩
      rcases hc with ⟨rfl, hf⟩ | ⟨a, b, xs, ys, rfl, rfl, hl, hlm, hi2, hh⟩
      · -- a leaf
        obtain ⟨t, bb, bi, ty, k1, k2, k3⟩ := leaf_kit (K := K) (H := H) hf
        refine ⟨x, rfl, by show 2 ≤ sizeLine; decide, fun p hp => ?_⟩
        refine ⟨x, p, _, _, _, false, rfl, upd_same, .cons (.ty _) (.cons (.ty _) .nil), ty _, k1, _, rfl, ?_⟩
        refine ⟨x, rfl, x, _, _, _, bb, rfl, .ty _, ty _, k2, x, rfl, x, _, _, _, bb, rfl, .ty _, ty _, k2, rfl, _, rfl, ?_⟩
        rw [decide_eq_true rfl]
        refine ⟨x, rfl, x, _, _, _, bi, rfl, .ty _, ty _, k3, x, rfl, x, _, _, _, bi, rfl, .ty _, ty _, k3, rfl, _, rfl, ?_⟩
        rw [decide_eq_true rfl]
        refine ⟨x, rfl, x, rfl, ?_, ?_⟩
        · cases x <;> first | rfl | cases hf
        · rw [decide_eq_true rfl]
          exact q _ (same_upd hp)
      · -- two rows
        obtain ⟨t, bl, bt, ty, k1, k2, k3⟩ := seq_kit (K := K) hh
        refine ⟨.ref b, rfl, by show 2 ≤ sizeLine; decide, fun p hp => ?_⟩
        have s1 : Same H (upd H p (.tup [.ty "list", .ty "tuple"])) := same_upd hp
        obtain ⟨ta, tb⟩ := ty _ s1
        refine ⟨.ref b, p, _, _, _, true, rfl, upd_same, .cons (.ty _) (.cons (.ty _) .nil), tb, k1, _, rfl, ?_⟩
        refine ⟨.ref a, rfl, .ref a, _, _, _, bl, rfl, .ty _, ta, k2, .ref b, rfl, .ref b, _, _, _, bl, rfl, .ty _, tb, k2, rfl, _, rfl, ?_⟩
        rw [decide_eq_true rfl]
        refine ⟨.ref a, rfl, .ref a, _, _, _, bt, rfl, .ty _, ta, k3, .ref b, rfl, .ref b, _, _, _, bt, rfl, .ty _, tb, k3, rfl, _, rfl, ?_⟩
        rw [decide_eq_true rfl]
        have hsq : ∀ Hc, Same H Hc → (SqL K Hc a xs ∧ SqL K Hc b ys) ∨ (SqT K Hc a xs ∧ SqT K Hc b ys) := fun Hc s => by
          rcases hh with ⟨h1, h2⟩ | ⟨h1, h2⟩
          · exact .inl ⟨sq1 (s _ _ h1), sq1 (s _ _ h2)⟩
          · exact .inr ⟨st1 (s _ _ h1), st1 (s _ _ h2)⟩
        have hla : SqL K (upd H p (.tup [.ty "list", .ty "tuple"])) a xs ∨ SqT K (upd H p (.tup [.ty "list", .ty "tuple"])) a xs := by
          rcases hsq _ s1 with h | h
          · exact .inl h.1
          · exact .inr h.1
        have hlb : SqL K (upd H p (.tup [.ty "list", .ty "tuple"])) b ys ∨ SqT K (upd H p (.tup [.ty "list", .ty "tuple"])) b ys := by
          rcases hsq _ s1 with h | h
          · exact .inl h.2
          · exact .inr h.2
        refine ⟨.ref a, rfl, a, xs, rfl, hla, .ref b, rfl, b, ys, rfl, hlb, rfl, true, ?_, ?_⟩
        · rw [hl, decide_eq_true rfl]
        refine ⟨.ref a, rfl, .ref b, rfl, a, b, xs, ys, rfl, ?_⟩
        rcases hh with ⟨h1, h2⟩ | ⟨h1, h2⟩
        · refine .inl ⟨sq1 (s1 _ _ h1), sq1 (s1 _ _ h2), fun D hD => lc_it (walk_zip (xs := xs) (ys := ys) (n := xs.length) (by omega)) (fun i Hc => Same (upd H p (.tup [.ty "list", .ty "tuple"])) Hc ∧ Hc D = some (.lst ((List.replicate i true).map V.bl))) ?_ ?_ ?_ ?_⟩
          · refine ⟨same_upd hD, ?_⟩
            rw [upd_same]
            rfl
          · rintro i Hc hi ⟨sm, _⟩
            exact ⟨sq1 (sm _ _ (s1 _ _ h1)), sq1 (sm _ _ (s1 _ _ h2))⟩
          · rintro i x Hc H' hi ⟨sm, eD⟩ ⟨T', v1, v2, rfl, hT, rfl, e1, e2⟩
            have sm2 : Same (upd H p (.tup [.ty "list", .ty "tuple"])) (upd Hc T' (.tup [v1, v2])) := sm.trans (same_upd hT)
            have nDT : D ≠ T' := ne_of_none eD hT
            refine ⟨T', [v1, v2], rfl, .inl (.inl upd_same), rfl, _, _, rfl, _, _, rfl, rfl, rfl, ?_⟩
            refine ⟨_, rfl, _, rfl, ?_⟩
            obtain ⟨hn, hS⟩ := hi2 i v1 v2 e1 e2
            cases n with
            | zero => exact absurd rfl hn
            | succ n =>
              refine ⟨v1, v2, rfl, Sm.mono (s1.trans sm2) hS, fun H3 s3 => ?_⟩
              refine ⟨_, s3 _ _ (by rw [upd_ne nDT]; exact eD), ?_, ?_, ?_⟩
              · rw [List.length_map, List.length_replicate]
                exact Nat.lt_of_le_of_lt (show i ≤ 1000000 by omega) (by decide)
              · exact Same.mut (sm2.trans s3) hD
              · rw [upd_same, List.replicate_succ', List.map_append]
                rfl
          · rintro Hc ⟨sm, eD⟩
            refine ⟨D, List.replicate xs.length true, rfl, sq1 eD, ?_⟩
            rw [rep_all]
            exact q Hc (s1.trans sm)
        · refine .inr ⟨st1 (s1 _ _ h1), st1 (s1 _ _ h2), fun D hD => lc_it (walk_zipT (xs := xs) (ys := ys) (n := xs.length) (by omega)) (fun i Hc => Same (upd H p (.tup [.ty "list", .ty "tuple"])) Hc ∧ Hc D = some (.lst ((List.replicate i true).map V.bl))) ?_ ?_ ?_ ?_⟩
          · refine ⟨same_upd hD, ?_⟩
            rw [upd_same]
            rfl
          · rintro i Hc hi ⟨sm, _⟩
            exact ⟨st1 (sm _ _ (s1 _ _ h1)), st1 (sm _ _ (s1 _ _ h2))⟩
          · rintro i x Hc H' hi ⟨sm, eD⟩ ⟨T', v1, v2, rfl, hT, rfl, e1, e2⟩
            have sm2 : Same (upd H p (.tup [.ty "list", .ty "tuple"])) (upd Hc T' (.tup [v1, v2])) := sm.trans (same_upd hT)
            have nDT : D ≠ T' := ne_of_none eD hT
            refine ⟨T', [v1, v2], rfl, .inl (.inl upd_same), rfl, _, _, rfl, _, _, rfl, rfl, rfl, ?_⟩
            refine ⟨_, rfl, _, rfl, ?_⟩
            obtain ⟨hn, hS⟩ := hi2 i v1 v2 e1 e2
            cases n with
            | zero => exact absurd rfl hn
            | succ n =>
              refine ⟨v1, v2, rfl, Sm.mono (s1.trans sm2) hS, fun H3 s3 => ?_⟩
              refine ⟨_, s3 _ _ (by rw [upd_ne nDT]; exact eD), ?_, ?_, ?_⟩
              · rw [List.length_map, List.length_replicate]
                exact Nat.lt_of_le_of_lt (show i ≤ 1000000 by omega) (by decide)
              · exact Same.mut (sm2.trans s3) hD
              · rw [upd_same, List.replicate_succ', List.map_append]
                rfl
          · rintro Hc ⟨sm, eD⟩
            refine ⟨D, List.replicate xs.length true, rfl, sq1 eD, ?_⟩
            rw [rep_all]
            exact q Hc (s1.trans sm)
end

/-! ### rows of the same, item by item -/
inductive SmAll (H : Hp) (n : Nat) : List V → List V → Prop
  | nil : SmAll H n [] []
  | cons {u v : V} {us vs : List V} : Sm H n u v → SmAll H n us vs → SmAll H n (u :: us) (v :: vs)
theorem SmAll.len {H : Hp} {n : Nat} {us vs : List V} (h : SmAll H n us vs) : us.length = vs.length := by
  induction h with
  | nil => rfl
  | cons _ _ ih => simp [ih]
theorem SmAll.get {H : Hp} {n : Nat} {us vs : List V} (h : SmAll H n us vs) : ∀ (i : Nat) (u v : V), us[i]? = some u → vs[i]? = some v → Sm H n u v := by
  induction h with
  | nil =>
    intro i u v h
    cases h
  | cons s _ ih =>
    intro i u v h1 h2
    cases i with
    | zero =>
      cases h1
      cases h2
      exact s
    | succ i => exact ih i u v h1 h2
theorem Sm.lst {H : Hp} {n : Nat} {a b : Addr} {xs ys : List V} (h1 : H a = some (.lst xs)) (h2 : H b = some (.lst ys)) (al : SmAll H n xs ys) (hm : xs.length ≤ 1000000) : Sm H (n + 1) (.ref a) (.ref b) :=
  .inr ⟨a, b, xs, ys, rfl, rfl, al.len, hm, al.get, .inl ⟨h1, h2⟩⟩
theorem Sm.tup {H : Hp} {n : Nat} {a b : Addr} {xs ys : List V} (h1 : H a = some (.tup xs)) (h2 : H b = some (.tup ys)) (al : SmAll H n xs ys) (hm : xs.length ≤ 1000000) : Sm H (n + 1) (.ref a) (.ref b) :=
  .inr ⟨a, b, xs, ys, rfl, rfl, al.len, hm, al.get, .inr ⟨h1, h2⟩⟩
theorem SmAll.flat {H : Hp} {n : Nat} : ∀ {xs : List V}, xs.all flatV = true → SmAll H n xs xs
  | [], _ => .nil
  | x :: xs, h => by
    rw [List.all_cons, Bool.and_eq_true] at h
    exact .cons (Sm.flat h.1) (SmAll.flat h.2)

section
variable {P : Program} {w : World} {K : PySem.W.Frag} {mg : Str → Option Value} {base : Heap}
/-- one of a list, drawn -/
def spOf : Sp := fun vs H Q _ => ∃ (p l : Addr) (a b c : Int) (xs : List V), vs = [.ref p, .ref l] ∧ H p = some (.lst [.int a, .int b, .int c]) ∧ 0 ≤ a ∧ 0 ≤ b ∧ b < 2 ^ 62 ∧ 0 ≤ c ∧ c < 2 ^ 40 ∧ l ≠ p ∧ H l = some (.lst xs) ∧ 0 < xs.length ∧ xs.length < 1000 ∧
  ∀ (a' c' : Int) (x : V), 0 ≤ a' → c ≤ c' → c' ≤ c + 1 → x ∈ xs → Q x (upd H p (.lst [.int a', .int b, .int c']))
theorem ok_of (T : Tx K mg) : FnOk P w K mg base CX0 2 T.f_of T.fd_of ["_law_box_here", "_law_some"] spOf := by
  refine T.F_of.ok sc_of (fun vs H Q E h => ?_) (fun cdv A outer s H vs Q E hr h => ?_)
  · obtain ⟨p, l, a, b, c, xs, rfl, _⟩ := h
    rfl
  · obtain ⟨p, l, a, b, c, xs, rfl, hB, a0, b0, b1, c0, c1, npl, hL, l0, l1, q⟩ := h
    refine ⟨_, (pss_one (ps_ret (pe_ix (r := rIxL K) ix_list (pv 1) (pe_call (ok_take T) (hr.mono (by omega)) (by rfl) T.g_take T.F_take.kp T.b_take .nil pass0 (pa_cons (pv 0) (pa_cons (pe_callB call_len_seq (by rfl) T.m_len (by decide +kernel) (pa_cons (pv 1) pa_nil)) pa_nil))) (fun _ _ => rfl)))), ?_⟩
    refine ⟨.ref l, rfl, .ref p, rfl, .ref l, rfl, l, xs, rfl, .inl (sq1 hL), p, a, b, c, _, rfl, hB, a0, b0, b1, c0, c1, by omega, by omega, fun a' c' r a'0 cl cu r0 r1 => ?_⟩
    obtain ⟨j, rfl⟩ := Int.eq_ofNat_of_zero_le r0
    have hj : j < xs.length := by omega
    exact ⟨l, xs, _, xs[j], rfl, rfl, sq1 (by rw [upd_ne npl]; exact hL), atI_nat (List.getElem?_eq_getElem hj), q a' c' _ a'0 cl cu (List.getElem_mem hj)⟩
end

/-! ### data of ints -/
theorem dp_all {K : PySem.W.Frag} {H : Hp} : ∀ ns : List Int, DpAll K H (ns.map V.int) (ns.map PyData.int)
  | [] => .nil
  | n :: ns => .cons (.int n) (dp_all ns)
theorem dp_ints {K : PySem.W.Frag} {H : Hp} {a : Addr} {ns : List Int} (h : SqL K H a (ns.map V.int)) : Dp K H (.ref a) (.list (ns.map PyData.int)) := .lst h (dp_all ns)
theorem can_ints : ∀ ns : List Int, PyData.canLayAll0 (ns.map PyData.int) = true
  | [] => rfl
  | n :: ns => by
    show (PyData.canLay0 (.int n) && PyData.canLayAll0 (ns.map PyData.int)) = true
    rw [can_ints ns]
    rfl
theorem depth_ints : ∀ ns : List Int, PyData.depthAll (ns.map PyData.int) ≤ 1
  | [] => by decide
  | n :: ns => by
    have ih := depth_ints ns
    show max (PyData.depth (.int n)) (PyData.depthAll (ns.map PyData.int)) ≤ 1
    have e : PyData.depth (.int n) ≤ 1 := by
      unfold PyData.depth
      decide
    omega
theorem shaped_ints (ns : List Int) : SeqAt.shaped (.list (ns.map PyData.int)) = true := by
  unfold SeqAt.shaped
  have h1 : (PyData.list (ns.map PyData.int)).canLay0 = true := can_ints ns
  have h2 : (PyData.list (ns.map PyData.int)).depth ≤ 64 := by
    have := depth_ints ns
    show PyData.depthAll (ns.map PyData.int) + 1 ≤ 64
    omega
  rw [h1, decide_eq_true h2]
  rfl
theorem eqv_ints (ns : List Int) : PyData.eqv (.list (ns.map PyData.int)) (.list (ns.map PyData.int)) = true := SeqAt.eqv_refl _ (can_ints ns)
end K19

set_option Elab.async false
set_option linter.all false
set_option maxRecDepth 100000
set_option maxHeartbeats 4000000
namespace K19
open PySem PySem.Spec PyProof.Rows L2
/-! ### texts of refusals -/
/-- a text or a number that can be written -/
def Fm (x : V) : Prop := (∃ y : Str, x = .str y ∧ y.length ≤ 1000) ∨ ∃ i : Int, x = .int i ∧ 0 ≤ i ∧ i < 10 ^ 10
def Pc (t : TE) (σ : L2.St) (H : Hp) : Prop := ∃ y : Str, y.length ≤ 1000 ∧ ∀ Q : VK, Q (.str y) H → t σ H Q
def PcAll : List TE → L2.St → Hp → Prop
  | [], _, _ => True
  | t :: ts, σ, H => Pc t σ H ∧ PcAll ts σ H
theorem js_fit {σ : L2.St} {H : Hp} {Q : Str → Hp → Prop} : ∀ {ts : List TE} {acc : Str} {n : Nat}, PcAll ts σ H → acc.length ≤ n → n + 1000 * ts.length ≤ 16777216 → (∀ out, Q out H) → tJs ts acc σ H Q
  | [], acc, n, _, _, _, q => q acc
  | t :: ts, acc, n, ⟨⟨y, hy, k⟩, r⟩, hn, hl, q => by
    refine k _ ⟨y, rfl, ?_, js_fit (n := n + 1000) r ?_ ?_ q⟩
    · rw [PySem.Str.length_append, sizeLine_eq]
      rw [List.length_cons] at hl
      omega
    · rw [PySem.Str.length_append]
      omega
    · rw [List.length_cons] at hl
      omega
theorem pc_lit {σ : L2.St} {H : Hp} {y : Str} (h : y.length ≤ 1000) : Pc (tC (.str y)) σ H := ⟨y, h, fun _ q => q⟩
theorem pc_fmt {σ : L2.St} {H : Hp} {i : Nat} {x : V} (fx : Fm x) (e : σ[i]? = some (some x)) : Pc (tFmt (tVar i)) σ H := by
  rcases fx with ⟨y, rfl, hy⟩ | ⟨n, rfl, h0, h1⟩
  · exact ⟨y, hy, fun Q q => ⟨_, e, .inl ⟨y, rfl, by rw [sizeLine_eq]; omega, q⟩⟩⟩
  · have l : (Str.ofString (toString n)).length ≤ 10 := toString_length_le h0 (by decide) h1
    have lg : n.natAbs.log2 < 1920 := by
      by_cases z : n.natAbs = 0
      · rw [z]
        decide
      · refine (Nat.log2_lt z).mpr (Nat.lt_of_lt_of_le (show n.natAbs < 2 ^ 40 by omega) (Nat.pow_le_pow_right (by decide) (by decide)))
    exact ⟨Str.ofString (toString n), by omega, fun Q q => ⟨_, e, .inr ⟨n, rfl, lg, q⟩⟩⟩
theorem oex_of {K : PySem.W.Frag} {C : Addr} {initId : String} {bm : List Value} (T : OeC K C "ValueError" "ValueError.__new__" initId bm) (h : PySem.HandSPX.refsVE bm = true) : OexC K C := by
  obtain ⟨nm, q, N, bs, sn, sub, ab, col, dd, k0, k1, k2, k3, k5, hC⟩ := T.cls
  exact ⟨⟨nm, q, N, bs, bm, sn, sub, ab, col, dd, k0, k1, k2, k3, k5, hC, h⟩, T.sa, T.is_.3, T.ty, T.kC⟩
/-- a refusal's fields put -/
def spFI (C : Addr) (f g : Str) : Sp := fun vs H Q _ => ∃ (a : Addr) (x y : V), vs = [.ref a, x, y] ∧ H a = some (exo a C none) ∧ Fm x ∧ Fm y ∧ ∀ (H' : Hp) (d : Addr), Keep a H H' → H d = none → H' a = some (exo a C (some d)) → H' d = some (exd d [(g, y), (f, x)]) → Q .non H'
section
variable {P : Program} {w : World} {K : PySem.W.Frag} {mg : Str → Option Value} {base : Heap}
theorem ok_Fault (T : Tx K mg) : FnOk P w K mg base CX0 1 T.f_Fault T.fd_Fault ["self", "code", "at"] (spFI T.C_Fault "code" "at") := by
  refine T.F_Fault.ok sc_Fault (fun vs H Q E h => ?_) (fun cdv A outer s H vs Q E hr h => ?_)
  · obtain ⟨a, x, y, rfl, _⟩ := h
    rfl
  · obtain ⟨a, x, y, rfl, ea, fx, fy, q⟩ := h
    refine ⟨_, (pss_cons (ps_expr (pe_einit (B := "ValueError") (newId := "ValueError.__new__") (initId := "ValueError.__init__") (bm := bm_ValueError) (by rfl) T.m_ValueError (by decide +kernel) typ_ValueError (by decide +kernel) T.v_ValueError (by decide +kernel) (pa_cons (pv 0) (pa_cons (pe_joined (.cons pe_str (.cons (pe_fmt (pv 1)) (.cons pe_str (.cons (pe_fmt (pv 2)) .nil))))) pa_nil))))
      (pss_cons (ps_oe (B := "ValueError") (newId := "ValueError.__new__") (initId := "ValueError.__init__") (bm := bm_ValueError) (pv 0) (pv 1))
      (pss_one (ps_oe (B := "ValueError") (newId := "ValueError.__new__") (initId := "ValueError.__init__") (bm := bm_ValueError) (pv 0) (pv 2))))), ?_⟩
    refine ⟨.ref a, rfl, ?_⟩
    show tJs _ _ _ _ _
    refine js_fit (n := 0) (show PcAll _ _ _ from ⟨pc_lit (by decide +kernel), pc_fmt fx rfl, pc_lit (by decide +kernel), pc_fmt fy rfl, trivial⟩) (by decide) (by decide) fun out => ⟨a, T.C_Fault, [.str out], rfl, (by decide : 1 ≤ 1000), T.oe_Fault, ea, ?_⟩
    refine ⟨x, rfl, .ref a, rfl, a, T.C_Fault, rfl, T.oe_Fault, T.n_Fault_code, .inl ⟨ea, fun dx hdx ne => ?_⟩⟩
    have e1 : (upd (upd H dx (exd dx [("code", x)])) a (exo a T.C_Fault (some dx))) a = some (exo a T.C_Fault (some dx)) := upd_same
    have e2 : (upd (upd H dx (exd dx [("code", x)])) a (exo a T.C_Fault (some dx))) dx = some (exd dx [("code", x)]) := by rw [upd_ne ne]; exact upd_same
    have k : Keep a H (upd (upd H dx (exd dx [("code", x)])) a (exo a T.C_Fault (some dx))) := ((Keep.refl a H).new hdx).upd
    refine ⟨y, rfl, .ref a, rfl, a, T.C_Fault, rfl, T.oe_Fault, T.n_Fault_at, .inr ⟨dx, _, e1, e2, (show 1 ≤ 900 by decide), ?_⟩⟩
    refine q _ dx (fun b o hb e => ?_) hdx (by rw [upd_ne (Ne.symm ne)]; exact e1) upd_same
    rw [upd_ne (fun z => by rw [z, hdx] at e; cases e)]
    exact k b o hb e
end
/-- what is known where a Fault leaves: its class, its code and place -/
def Flt (C : Addr) (code at_ : Int) (H : Hp) (E : XK) : Prop := ∀ (H' : Hp) (d : Addr), Same H H' → H d = none → H' d = some (.xd [("at", .int at_), ("code", .int code)]) → E (.ref C) (some d) H'
theorem raiseF {C : Addr} {x y : Int} {H : Hp} {E : XK} (fx : Fm (.int x)) (fy : Fm (.int y)) (q : Flt C x y H E) : ∀ a, H a = none → spFI C "code" "at" (.ref a :: ([.int x, .int y] ++ [])) (upd H a (exo a C none))
    (fun v H2 => v = .non ∧ ∃ (d : Addr) (fs : List (Str × V)), H2 a = some (exo a C (some d)) ∧ H2 d = some (exd d fs) ∧ H d = none ∧ E (.ref C) (some d) (upd (del H2 a) d (.xd fs))) (fun _ _ _ => False) := fun a ha => by
  refine ⟨a, .int x, .int y, rfl, upd_same, fx, fy, fun H' d k hd e1 e2 => ⟨rfl, d, _, e1, e2, ?_, ?_⟩⟩
  · by_cases z : d = a
    · rw [z]; exact ha
    · rw [upd_ne z] at hd; exact hd
  · have nda : d ≠ a := fun z => by rw [z, upd_same] at hd; cases hd
    have hd' : H d = none := by rw [upd_ne nda] at hd; exact hd
    refine q _ d (fun b o e => ?_) hd' upd_same
    have nba : b ≠ a := fun z => by rw [z, ha] at e; cases e
    have nbd : b ≠ d := fun z => by rw [z, hd'] at e; cases e
    rw [upd_ne nbd, del_ne nba]
    exact k b o nba (by rw [upd_ne nba]; exact e)

/-- a list or a tuple -/
def Sq2 (K : PySem.W.Frag) (H : Hp) (a : Addr) (xs : List V) : Prop := SqL K H a xs ∨ SqT K H a xs
theorem Sq2.same {K : PySem.W.Frag} {H H' : Hp} {a : Addr} {xs : List V} (h : Sq2 K H a xs) (s : Same H H') : Sq2 K H' a xs := by
  rcases h with h | h
  · exact .inl (s.seq h)
  · exact .inr (Same.seqT s h)
theorem ix2 {K : PySem.W.Frag} {H : Hp} {a : Addr} {xs : List V} {i : Int} {v : V} {Q : VK} (h : Sq2 K H a xs) (e : atI xs i = some v) (q : Q v H) : rIx K (.ref a) (.int i) H Q := by
  rcases h with h | h
  · exact .inl ⟨a, xs, i, v, rfl, rfl, h, e, q⟩
  · exact .inr (.inl ⟨a, xs, i, v, rfl, rfl, h, e, q⟩)
theorem at_ints {ns : List Int} {i : Nat} {x : Int} (h : ns[i]? = some x) : atI (ns.map V.int) (i : Int) = some (.int x) := atI_nat (by rw [List.getElem?_map, h]; rfl)
theorem get_of_lt {ns : List Int} {i : Nat} (h : i < ns.length) : ∃ x, ns[i]? = some x ∧ x ∈ ns := ⟨ns[i], List.getElem?_eq_getElem h, List.getElem_mem h⟩
theorem get_none {ns : List Int} {i : Nat} (h : ns.length ≤ i) : ns[i]? = none := List.getElem?_eq_none h
theorem fm_int {z : Int} (h0 : 0 ≤ z) (h1 : z < 10 ^ 10) : Fm (.int z) := .inr ⟨z, rfl, h0, h1⟩

/-! ### signs: the mathematics -/
def sgB (n : Int) : List Int := if n < 128 then [n] else if n < 2048 then [192 + n / 64, 128 + n % 64] else [224 + n / 4096, 128 + n / 64 % 64, 128 + n % 64]
def canSt (ps : List Int) (b : Int) : Bool := if ps = [] then (decide (b < 128) || (decide (194 ≤ b) && decide (b ≤ 239))) else if ps = [224] then (decide (160 ≤ b) && decide (b ≤ 191)) else if ps = [237] then (decide (128 ≤ b) && decide (b ≤ 159)) else (decide (128 ≤ b) && decide (b ≤ 191))
def hlong (f : Int) : Int := if f < 128 then 1 else if f < 224 then 2 else 3
def sgOf : List Int → Int
  | [a] => a
  | [a, b] => (a - 192) * 64 + b - 128
  | [a, b, c] => (a - 224) * 4096 + (b - 128) * 64 + c - 128
  | _ => 0
/-- whether the sign that is begun goes on behind b -/
def goesOn (ps : List Int) (b : Int) : Bool := decide (((ps ++ [b]).length : Int) < hlong ((ps ++ [b]).headD 0))
def wsB (ws : List Int) : List Int := ws.flatMap sgB
/-- a sign -/
def Sg (n : Int) : Prop := (0 ≤ n ∧ n < 55296) ∨ (57344 ≤ n ∧ n < 65536)
def Sgs (ws : List Int) : Prop := ∀ n ∈ ws, Sg n
def signD : PyData → Bool
  | .int i => (decide (0 ≤ i) && decide (i ≤ 55295)) || (decide (57344 ≤ i) && decide (i ≤ 65535))
  | _ => false
theorem eqv_list {xs ys : List Int} : PyData.eqv (.list (xs.map PyData.int)) (.list (ys.map PyData.int)) = decide (xs = ys) := by
  show PyData.eqv (.list _) (.list _) = _
  simp only [PyData.eqv]
  induction xs generalizing ys with
  | nil =>
    cases ys with
    | nil => rfl
    | cons y ys => simp only [List.map_nil, List.map_cons, PyData.eqvAll]; simp
  | cons x xs ih =>
    cases ys with
    | nil => simp only [List.map_nil, List.map_cons, PyData.eqvAll]; simp
    | cons y ys =>
      simp only [List.map_cons, PyData.eqvAll, PyData.eqv, ih]
      by_cases h : x = y
      · subst h
        simp
      · have e : (x == y) = false := beq_eq_false_iff_ne.mpr h
        simp [e, h]
theorem sgB_bts {n : Int} (h : Sg n) : Bts (sgB n) := by
  have h0 : 0 ≤ n ∧ n < 65536 := by
    rcases h with h | h <;> omega
  unfold sgB
  split
  · intro x hx
    rw [List.mem_singleton.mp hx]
    omega
  · split
    · intro x hx
      simp only [List.mem_cons, List.not_mem_nil, or_false] at hx
      rcases hx with rfl | rfl <;> omega
    · intro x hx
      simp only [List.mem_cons, List.not_mem_nil, or_false] at hx
      rcases hx with rfl | rfl | rfl <;> omega
theorem sgB_len (n : Int) : 1 ≤ (sgB n).length ∧ (sgB n).length ≤ 3 := by
  unfold sgB
  split
  · exact ⟨by simp, by simp⟩
  · split
    · exact ⟨by simp, by simp⟩
    · exact ⟨by simp, by simp⟩
theorem hlong_le (f : Int) : 1 ≤ hlong f ∧ hlong f ≤ 3 := by
  unfold hlong
  split
  · omega
  · split <;> omega
/-- bytes read as signs: the signs that are whole, what is begun, the place of a fault -/
def rd : List Int → List Int → List Int → Int → List Int × List Int × Option Int
  | [], sg, ps, _ => (sg, ps, none)
  | b :: t, sg, ps, n => if canSt ps b = true then (if goesOn ps b = true then rd t sg (ps ++ [b]) (n + 1) else rd t (sg ++ [sgOf (ps ++ [b])]) [] (n + 1)) else (sg, ps, some n)
def wordsIn (codes : List Int) : Int ⊕ List Int := match rd codes [] [] 0 with
  | (_, _, some n) => .inl n
  | (sg, [], none) => .inr sg
  | (_, _ :: _, none) => .inl (codes.length : Int)
/-! ### signs: the defs -/
section
variable {P : Program} {w : World} {K : PySem.W.Frag} {mg : Str → Option Value} {base : Heap}
def spCan (K : PySem.W.Frag) : Sp := fun vs H Q _ => ∃ (l : Addr) (ps : List Int) (b : Int), vs = [.ref l, .int b] ∧ H l = some (.lst (ps.map V.int)) ∧ ∀ H', Same H H' → Q (.bl (canSt ps b)) H'
theorem ok_can_stand (T : Tx K mg) : FnOk P w K mg base CX0 1 T.f_can_stand T.fd_can_stand ["begun", "byte"] (spCan K) := by
  refine T.F_can_stand.ok sc_can_stand (fun vs H Q E h => ?_) (fun cdv A outer s H vs Q E hr h => ?_)
  · obtain ⟨l, ps, b, rfl, _⟩ := h
    rfl
  · obtain ⟨l, ps, b, rfl, hl, q⟩ := h
    refine ⟨_, (pss_cons (ps_if (pt_cmpR (op_eqD hr.units) (pv 0) (pe_lst pa_nil) (nomark _)) (pss_one (ps_ret (pe_or (pe_cmpR op_lt (pv 1) pe_int (nomark _)) (pe_one (pe_chain op_le op_le pe_int (pv 1) pe_int))))) pss_nil)
      (pss_cons (ps_if (pt_cmpR (op_eqD hr.units) (pv 0) (pe_lst (pa_cons pe_int pa_nil)) (nomark _)) (pss_one (ps_ret (pe_chain op_le op_le pe_int (pv 1) pe_int))) pss_nil)
      (pss_cons (ps_if (pt_cmpR (op_eqD hr.units) (pv 0) (pe_lst (pa_cons pe_int pa_nil)) (nomark _)) (pss_one (ps_ret (pe_chain op_le op_le pe_int (pv 1) pe_int))) pss_nil)
      (pss_one (ps_ret (pe_chain op_le op_le pe_int (pv 1) pe_int)))))), ?_⟩
    unfold canSt at q
    refine ⟨.ref l, rfl, by show 0 ≤ sizeLine; decide, fun l1 hl1 => ?_⟩
    have sm := Same.refl H
    have sH1 : Same H (upd H l1 (.lst [])) := same_upd hl1
    have eH1 : (upd H l1 (.lst [])) l1 = some (.lst []) := upd_same
    generalize upd H l1 (.lst []) = H1 at sH1 eH1 ⊢
    replace hl := sH1 _ _ hl
    replace sm := sm.trans sH1
    refine ⟨_, _, dp_ints (sq1 hl), dp_ints (ns := []) (sq1 eH1), shaped_ints _, shaped_ints _, _, rfl, ?_⟩
    rw [eqv_list]
    refine ite2 (fun e => ?_) (fun e => ?_)
    · rw [if_pos (of_decide_eq_true e)] at q
      refine ⟨.int b, rfl, b, 128, rfl, rfl, _, rfl, ?_⟩
      cases h1 : decide (b < 128)
      · rw [h1] at q
        refine ⟨.int b, rfl, 194, b, rfl, rfl, _, rfl, ?_⟩
        cases h2 : decide (194 ≤ b)
        · rw [h2] at q
          exact q _ sm
        · rw [h2] at q
          exact ⟨b, 239, rfl, rfl, q _ sm⟩
      · rw [h1] at q
        exact q _ sm
    · rw [if_neg (fun z => e (decide_eq_true z))] at q
      refine ⟨.ref l, rfl, by show 1 ≤ sizeLine; decide, fun l2 hl2 => ?_⟩
      have sH2 : Same H1 (upd H1 l2 (.lst [.int 224])) := same_upd hl2
      have eH2 : (upd H1 l2 (.lst [.int 224])) l2 = some (.lst [.int 224]) := upd_same
      generalize upd H1 l2 (.lst [.int 224]) = H2 at sH2 eH2 ⊢
      replace hl := sH2 _ _ hl
      replace sm := sm.trans sH2
      refine ⟨_, _, dp_ints (sq1 hl), dp_ints (ns := [224]) (sq1 eH2), shaped_ints _, shaped_ints _, _, rfl, ?_⟩
      rw [eqv_list]
      refine ite2 (fun e => ?_) (fun e => ?_)
      · rw [if_pos (of_decide_eq_true e)] at q
        refine ⟨.int b, rfl, 160, b, rfl, rfl, _, rfl, ?_⟩
        cases h2 : decide (160 ≤ b)
        · rw [h2] at q
          exact q _ sm
        · rw [h2] at q
          exact ⟨b, 191, rfl, rfl, q _ sm⟩
      · rw [if_neg (fun z => e (decide_eq_true z))] at q
        refine ⟨.ref l, rfl, by show 1 ≤ sizeLine; decide, fun l3 hl3 => ?_⟩
        have sH3 : Same H2 (upd H2 l3 (.lst [.int 237])) := same_upd hl3
        have eH3 : (upd H2 l3 (.lst [.int 237])) l3 = some (.lst [.int 237]) := upd_same
        generalize upd H2 l3 (.lst [.int 237]) = H3 at sH3 eH3 ⊢
        replace hl := sH3 _ _ hl
        replace sm := sm.trans sH3
        refine ⟨_, _, dp_ints (sq1 hl), dp_ints (ns := [237]) (sq1 eH3), shaped_ints _, shaped_ints _, _, rfl, ?_⟩
        rw [eqv_list]
        refine ite2 (fun e => ?_) (fun e => ?_)
        · rw [if_pos (of_decide_eq_true e)] at q
          refine ⟨.int b, rfl, 128, b, rfl, rfl, _, rfl, ?_⟩
          cases h2 : decide (128 ≤ b)
          · rw [h2] at q
            exact q _ sm
          · rw [h2] at q
            exact ⟨b, 159, rfl, rfl, q _ sm⟩
        · rw [if_neg (fun z => e (decide_eq_true z))] at q
          refine ⟨.int b, rfl, 128, b, rfl, rfl, _, rfl, ?_⟩
          cases h2 : decide (128 ≤ b)
          · rw [h2] at q
            exact q _ sm
          · rw [h2] at q
            exact ⟨b, 191, rfl, rfl, q _ sm⟩
def spLong : Sp := fun vs H Q _ => ∃ f : Int, vs = [.int f] ∧ Q (.int (hlong f)) H
theorem ok_how_long (T : Tx K mg) : FnOk P w K mg base CX0 1 T.f_how_long T.fd_how_long ["first"] spLong := by
  refine T.F_how_long.ok sc_how_long (fun vs H Q E h => ?_) (fun cdv A outer s H vs Q E hr h => ?_)
  · obtain ⟨f, rfl, _⟩ := h
    rfl
  · obtain ⟨f, rfl, q⟩ := h
    refine ⟨_, (pss_cons (ps_if (pt_cmpR op_lt (pv 0) pe_int (nomark _)) (pss_one (ps_ret pe_int)) pss_nil)
      (pss_one (ps_ret (pe_ifExp (pt_cmpR op_lt (pv 0) pe_int (nomark _)) pe_int pe_int)))), ?_⟩
    unfold hlong at q
    refine ⟨.int f, rfl, f, 128, rfl, rfl, _, rfl, ite2 (fun e => ?_) (fun e => ?_)⟩
    · rw [if_pos (of_decide_eq_true e)] at q
      exact q
    · rw [if_neg (fun z => e (decide_eq_true z))] at q
      refine ⟨.int f, rfl, f, 224, rfl, rfl, _, rfl, ite2 (fun e => ?_) (fun e => ?_)⟩
      · rw [if_pos (of_decide_eq_true e)] at q
        exact q
      · rw [if_neg (fun z => e (decide_eq_true z))] at q
        exact q
def spSgOf (K : PySem.W.Frag) : Sp := fun vs H Q _ => ∃ (l : Addr) (ps : List Int), vs = [.ref l] ∧ H l = some (.lst (ps.map V.int)) ∧ 1 ≤ ps.length ∧ ps.length ≤ 3 ∧ Q (.int (sgOf ps)) H
theorem ok_sign_of (T : Tx K mg) : FnOk P w K mg base CX0 1 T.f_sign_of T.fd_sign_of ["parts"] (spSgOf K) := by
  refine T.F_sign_of.ok sc_sign_of (fun vs H Q E h => ?_) (fun cdv A outer s H vs Q E hr h => ?_)
  · obtain ⟨l, ps, rfl, _⟩ := h
    rfl
  · obtain ⟨l, ps, rfl, hl, l0, l1, q⟩ := h
    refine ⟨_, (pss_cons (ps_if (pt_cmpR op_eq (pe_callB call_len_seq (by rfl) T.m_len (by decide +kernel) (pa_cons (pv 0) pa_nil)) pe_int (nomark _)) (pss_one (ps_ret (pe_ix (r := rIxL K) ix_list (pv 0) pe_int (fun _ _ => rfl)))) pss_nil)
      (pss_cons (ps_if (pt_cmpR op_eq (pe_callB call_len_seq (by rfl) T.m_len (by decide +kernel) (pa_cons (pv 0) pa_nil)) pe_int (nomark _)) (pss_one (ps_ret (pe_op op_sub (pe_op op_add (pe_op op_mul (pe_op op_sub (pe_ix (r := rIxL K) ix_list (pv 0) pe_int (fun _ _ => rfl)) pe_int) pe_int) (pe_ix (r := rIxL K) ix_list (pv 0) pe_int (fun _ _ => rfl))) pe_int))) pss_nil)
      (pss_one (ps_ret (pe_op op_sub (pe_op op_add (pe_op op_add (pe_op op_mul (pe_op op_sub (pe_ix (r := rIxL K) ix_list (pv 0) pe_int (fun _ _ => rfl)) pe_int) pe_int) (pe_op op_mul (pe_op op_sub (pe_ix (r := rIxL K) ix_list (pv 0) pe_int (fun _ _ => rfl)) pe_int) pe_int)) (pe_ix (r := rIxL K) ix_list (pv 0) pe_int (fun _ _ => rfl))) pe_int))))), ?_⟩
    match ps, hl, l0, l1, q with
    | [a], hl, _, _, q =>
      exact ⟨.ref l, rfl, l, _, rfl, .inl (sq1 hl), rfl, _, rfl, .ref l, rfl, l, _, 0, .int a, rfl, rfl, sq1 hl, rfl, q⟩
    | [a, b], hl, _, _, q =>
      refine ⟨.ref l, rfl, l, _, rfl, .inl (sq1 hl), rfl, _, rfl, ?_⟩
      refine ⟨.ref l, rfl, l, _, rfl, .inl (sq1 hl), rfl, _, rfl, ?_⟩
      exact ⟨.ref l, rfl, l, _, 0, .int a, rfl, rfl, sq1 hl, rfl, a, 192, rfl, rfl, _, 64, rfl, rfl, .inr ⟨by decide, by decide⟩, .ref l, rfl, l, _, 1, .int b, rfl, rfl, sq1 hl, rfl, _, b, rfl, rfl, _, 128, rfl, rfl, q⟩
    | [a, b, c], hl, _, _, q =>
      refine ⟨.ref l, rfl, l, _, rfl, .inl (sq1 hl), rfl, _, rfl, ?_⟩
      refine ⟨.ref l, rfl, l, _, rfl, .inl (sq1 hl), rfl, _, rfl, ?_⟩
      exact ⟨.ref l, rfl, l, _, 0, .int a, rfl, rfl, sq1 hl, rfl, a, 224, rfl, rfl, _, 4096, rfl, rfl, .inr ⟨by decide, by decide⟩, .ref l, rfl, l, _, 1, .int b, rfl, rfl, sq1 hl, rfl, b, 128, rfl, rfl, _, 64, rfl, rfl, .inr ⟨by decide, by decide⟩, _, _, rfl, rfl, .ref l, rfl, l, _, 2, .int c, rfl, rfl, sq1 hl, rfl, _, c, rfl, rfl, _, 128, rfl, rfl, q⟩
    | [], hl, h, _, q => exact absurd h (by simp)
    | _ :: _ :: _ :: _ :: _, hl, _, h, q => exact absurd h (by simp)
end

theorem nr_ValueError : ∀ D : Addr, (bm_ValueError).contains (.ref D) = false := fun D => by simp
section
variable {K : PySem.W.Frag} {mg : Str → Option Value}
theorem other_Fault_BadSlip (T : Tx K mg) : PySem.W.kitOne K (.ref T.C_Fault) (.ref T.C_BadSlip) = some false := by
  rw [oe_own T.oe_Fault T.oe_BadSlip (nr_ValueError _), decide_eq_false (Nat.ne_of_gt (Nat.lt_trans (Nat.lt_trans (Nat.lt_trans (Nat.lt_trans T.lt_BadSlip T.lt_BadLetter) T.lt_BadEnd) T.lt_BadText) T.lt_BadRow))]
theorem other_Fault_BadLetter (T : Tx K mg) : PySem.W.kitOne K (.ref T.C_Fault) (.ref T.C_BadLetter) = some false := by
  rw [oe_own T.oe_Fault T.oe_BadLetter (nr_ValueError _), decide_eq_false (Nat.ne_of_gt (Nat.lt_trans (Nat.lt_trans (Nat.lt_trans T.lt_BadLetter T.lt_BadEnd) T.lt_BadText) T.lt_BadRow))]
theorem other_Fault_BadEnd (T : Tx K mg) : PySem.W.kitOne K (.ref T.C_Fault) (.ref T.C_BadEnd) = some false := by
  rw [oe_own T.oe_Fault T.oe_BadEnd (nr_ValueError _), decide_eq_false (Nat.ne_of_gt (Nat.lt_trans (Nat.lt_trans T.lt_BadEnd T.lt_BadText) T.lt_BadRow))]
theorem other_Fault_BadText (T : Tx K mg) : PySem.W.kitOne K (.ref T.C_Fault) (.ref T.C_BadText) = some false := by
  rw [oe_own T.oe_Fault T.oe_BadText (nr_ValueError _), decide_eq_false (Nat.ne_of_gt (Nat.lt_trans T.lt_BadText T.lt_BadRow))]
theorem other_Fault_BadRow (T : Tx K mg) : PySem.W.kitOne K (.ref T.C_Fault) (.ref T.C_BadRow) = some false := by
  rw [oe_own T.oe_Fault T.oe_BadRow (nr_ValueError _), decide_eq_false (Nat.ne_of_gt T.lt_BadRow)]
theorem under_Fault (T : Tx K mg) : PySem.W.kitOne K (.ref T.C_Fault) (.type "ValueError") = some true := by
  rw [oe_blt T.oe_Fault (by decide +kernel)]
  rfl
theorem exm_Fault (T : Tx K mg) : PySem.W.exmOne K (.ref T.C_Fault) (.ref T.C_Fault) = some true := PySem.W.exm_ref T.oe_Fault.is_.hs T.oe_Fault.is_.hd T.oe_Fault.ty (by rw [oe_mro T.oe_Fault, List.contains_cons]; simp)
end
end K19

set_option Elab.async false
set_option linter.all false
set_option maxRecDepth 100000
set_option maxHeartbeats 4000000
namespace K19
open PySem PySem.Spec PyProof.Rows L2
/-! ### a Signs -/
def SgFs (ls lp : Addr) (n : Int) : List (Str × V) := [("signs", .ref ls), ("parts", .ref lp), ("many", .int n)]
structure SgAt (C : Addr) (H : Hp) (a dx ls lp : Addr) (sg ps : List Int) (n : Int) : Prop where
  obj : H a = some (.ins C dx (SgFs ls lp n))
  sgs : H ls = some (.lst (sg.map V.int))
  pts : H lp = some (.lst (ps.map V.int))
  ne : ls ≠ lp
theorem SgAt.same {C : Addr} {H H' : Hp} {a dx ls lp : Addr} {sg ps : List Int} {n : Int} (h : SgAt C H a dx ls lp sg ps n) (s : Same H H') : SgAt C H' a dx ls lp sg ps n := ⟨s _ _ h.obj, s _ _ h.sgs, s _ _ h.pts, h.ne⟩
theorem SgAt.als {C : Addr} {H : Hp} {a dx ls lp : Addr} {sg ps : List Int} {n : Int} (h : SgAt C H a dx ls lp sg ps n) : ls ≠ a := fun z => by
  have e := h.sgs
  rw [z, h.obj] at e
  cases e
theorem SgAt.alp {C : Addr} {H : Hp} {a dx ls lp : Addr} {sg ps : List Int} {n : Int} (h : SgAt C H a dx ls lp sg ps n) : lp ≠ a := fun z => by
  have e := h.pts
  rw [z, h.obj] at e
  cases e
/-- all but a Signs' own three is as it was -/
def Keep3 (a b c : Addr) (H H' : Hp) : Prop := ∀ x o, x ≠ a → x ≠ b → x ≠ c → H x = some o → H' x = some o
section
variable {P : Program} {w : World} {K : PySem.W.Frag} {mg : Str → Option Value} {base : Heap}
def spSgInit (C : Addr) : Sp := fun vs H Q _ => ∃ (a dx : Addr), vs = [.ref a] ∧ H a = some (.ins C dx []) ∧ ∀ (H' : Hp) (ls lp : Addr), SgAt C H' a dx ls lp [] [] 0 → H ls = none → H lp = none → Keep a H H' → Q .non H'
theorem ok_Signs_init (T : Tx K mg) : FnOk P w K mg base CX0 1 T.f_Signs_init T.fd_Signs_init ["self"] (spSgInit T.C_Signs) := by
  refine T.F_Signs_init.ok sc_Signs_init (fun vs H Q E h => ?_) (fun cdv A outer s H vs Q E hr h => ?_)
  · obtain ⟨a, dx, rfl, _⟩ := h
    rfl
  · obtain ⟨a, dx, rfl, ea, q⟩ := h
    refine ⟨_, (pss_cons (ps_fld (pv 0) (pe_lst pa_nil) rfl)
      (pss_cons (ps_fld (pv 0) (pe_lst pa_nil) rfl)
      (pss_one (ps_fld (pv 0) pe_int rfl)))), ?_⟩
    have kp := Keep.refl a H
    refine ⟨Nat.zero_le _, fun l1 hl1 => ?_⟩
    have n1 := ne_of_none ea hl1
    have sH1 : Same H (upd H l1 (.lst [])) := same_upd hl1
    have eH1 : (upd H l1 (.lst [])) l1 = some (.lst []) := upd_same
    generalize upd H l1 (.lst []) = H1 at sH1 eH1 ⊢
    replace ea := sH1 _ _ ea
    replace kp := kp.trans (Same.k sH1)
    refine ⟨.ref a, rfl, a, T.C_Signs, dx, _, rfl, ea, T.cl_Signs, T.n_Signs_signs, (by decide), ?_⟩
    have kH2 : Keep a H1 (upd H1 a (.ins T.C_Signs dx (putF "signs" (.ref l1) []))) := (Keep.refl a H1).upd
    have eH2 : (upd H1 a (.ins T.C_Signs dx (putF "signs" (.ref l1) []))) a = some (.ins T.C_Signs dx (putF "signs" (.ref l1) [])) := upd_same
    generalize upd H1 a (.ins T.C_Signs dx (putF "signs" (.ref l1) [])) = H2 at kH2 eH2 ⊢
    replace eH1 := kH2 _ _ (Ne.symm n1) eH1
    replace kp := kp.trans kH2
    refine ⟨Nat.zero_le _, fun l2 hl2 => ?_⟩
    have n2 := ne_of_none eH2 hl2
    have n12 := ne_of_none eH1 hl2
    have hl2' : H l2 = none := kp.free hl2 (Ne.symm n2)
    have sH3 : Same H2 (upd H2 l2 (.lst [])) := same_upd hl2
    have eH3 : (upd H2 l2 (.lst [])) l2 = some (.lst []) := upd_same
    generalize upd H2 l2 (.lst []) = H3 at sH3 eH3 ⊢
    replace eH1 := sH3 _ _ eH1
    replace eH2 := sH3 _ _ eH2
    replace kp := kp.trans (Same.k sH3)
    refine ⟨.ref a, rfl, a, T.C_Signs, dx, _, rfl, eH2, T.cl_Signs, T.n_Signs_parts, (by show 1 < 1000; decide), ?_⟩
    have kH4 : Keep a H3 (upd H3 a (.ins T.C_Signs dx (putF "parts" (.ref l2) (putF "signs" (.ref l1) [])))) := (Keep.refl a H3).upd
    have eH4 : (upd H3 a (.ins T.C_Signs dx (putF "parts" (.ref l2) (putF "signs" (.ref l1) [])))) a = some (.ins T.C_Signs dx (putF "parts" (.ref l2) (putF "signs" (.ref l1) []))) := upd_same
    generalize upd H3 a (.ins T.C_Signs dx (putF "parts" (.ref l2) (putF "signs" (.ref l1) []))) = H4 at kH4 eH4 ⊢
    replace eH1 := kH4 _ _ (Ne.symm n1) eH1
    replace eH3 := kH4 _ _ (Ne.symm n2) eH3
    replace kp := kp.trans kH4
    refine ⟨.ref a, rfl, a, T.C_Signs, dx, _, rfl, eH4, T.cl_Signs, T.n_Signs_many, (by show 2 < 1000; decide), ?_⟩
    have kH5 : Keep a H4 (upd H4 a (.ins T.C_Signs dx (putF "many" (.int 0) (putF "parts" (.ref l2) (putF "signs" (.ref l1) []))))) := (Keep.refl a H4).upd
    have eH5 : (upd H4 a (.ins T.C_Signs dx (putF "many" (.int 0) (putF "parts" (.ref l2) (putF "signs" (.ref l1) []))))) a = some (.ins T.C_Signs dx (putF "many" (.int 0) (putF "parts" (.ref l2) (putF "signs" (.ref l1) [])))) := upd_same
    generalize upd H4 a (.ins T.C_Signs dx (putF "many" (.int 0) (putF "parts" (.ref l2) (putF "signs" (.ref l1) [])))) = H5 at kH5 eH5 ⊢
    replace eH1 := kH5 _ _ (Ne.symm n1) eH1
    replace eH3 := kH5 _ _ (Ne.symm n2) eH3
    replace kp := kp.trans kH5
    exact q H5 l1 l2 ⟨eH5, eH1, eH3, n12⟩ hl1 hl2' kp
/-- Signs() -/
theorem mkSigns (T : Tx K mg) {H : Hp} {R : Hp → Prop} {x dx : Addr} (hx : H x = none) (hdx : H dx = none) (ne : dx ≠ x) (q : ∀ (H' : Hp) (ls lp : Addr), SgAt T.C_Signs H' x dx ls lp [] [] 0 → Same H H' → H ls = none → H lp = none → R H') :
    spSgInit T.C_Signs [.ref x] (upd (upd H dx (.own x)) x (.ins T.C_Signs dx [])) (fun v H2 => v = .non ∧ R H2) E0 :=
  ⟨x, dx, rfl, upd_same, fun H' ls lp h h1 h2 k => by
    have s1 : Same H (upd H dx (.own x)) := same_upd hdx
    have hx1 : (upd H dx (.own x)) x = none := by rw [upd_ne (Ne.symm ne)]; exact hx
    have s2 : Same H (upd (upd H dx (.own x)) x (.ins T.C_Signs dx [])) := s1.trans (same_upd hx1)
    exact ⟨rfl, q H' ls lp h (Same.keep s2 k hx) (Same.free s2 h1) (Same.free s2 h2)⟩⟩
/-- one byte put -/
def spSgPut (C CF : Addr) : Sp := fun vs H Q E => ∃ (a dx ls lp : Addr) (sg ps : List Int) (n b : Int), vs = [.ref a, .int b] ∧ SgAt C H a dx ls lp sg ps n ∧ ps.length ≤ 2 ∧ sg.length ≤ 1000000 ∧ 0 ≤ n ∧ n ≤ 1000000000 ∧
  (if canSt ps b = true then
    (if goesOn ps b = true then ∀ H', SgAt C H' a dx ls lp sg (ps ++ [b]) (n + 1) → Keep3 a ls lp H H' → Q .non H'
      else ∀ H' lp', SgAt C H' a dx ls lp' (sg ++ [sgOf (ps ++ [b])]) [] (n + 1) → H lp' = none → Keep3 a ls lp H H' → Q (.int (sgOf (ps ++ [b]))) H')
    else Flt CF 14 n H E)
theorem ok_Signs_put (T : Tx K mg) : FnOk P w K mg base (L2.CX P w) 3 T.f_Signs_put T.fd_Signs_put ["self", "byte"] (spSgPut T.C_Signs T.C_Fault) := by
  refine T.F_Signs_put.okX sc_Signs_put (fun vs H Q E h => ?_) (fun cdv A outer s H vs Q E hr h => ?_)
  · obtain ⟨a, dx, ls, lp, sg, ps, n, b, rfl, _⟩ := h
    rfl
  · obtain ⟨a, dx, ls, lp, sg, ps, n, b, rfl, hA, hp, hsg, n0, n1, q⟩ := h
    refine ⟨_, (pss_cons (ps_if (pt_not (pt_val (pe_call (ok_can_stand T) (hr.mono (by omega)) (by rfl) T.g_can_stand T.F_can_stand.kp T.b_can_stand .nil pass0 (pa_cons (pe_fld (pv 0) rfl) (pa_cons (pv 1) pa_nil))))) (pss_one (ps_raise rfl (takes_of rfl rfl rfl rfl) (pmk_oex (oex_of T.oe_Fault rfl) T.i_Fault T.t_Fault (ok_Fault T) (hr.mono (by omega)) T.b_Fault .nil pass0 (by rfl) T.g_Fault (pa_cons (pe_glob (v := .int 14) (by rfl) T.g_SIGNS ⟨_, rfl⟩) (pa_cons (pe_fld (pv 0) rfl) pa_nil))))) pss_nil)
      (pss_cons (ps_fldaug (pv 0) pe_int in_add)
      (pss_cons (ps_expr (pe_bm PySem.F.plainAttrs_list PySem.F.slot_list_append PySem.F.type_list_append mt_append (pe_fld (pv 0) rfl) (pa_cons (pv 1) pa_nil)))
      (pss_cons (ps_if (pt_cmpR op_lt (pe_callB call_len_seq (by rfl) T.m_len (by decide +kernel) (pa_cons (pe_fld (pv 0) rfl) pa_nil)) (pe_call (ok_how_long T) (hr.mono (by omega)) (by rfl) T.g_how_long T.F_how_long.kp T.b_how_long .nil pass0 (pa_cons (pe_ix (r := rIxL K) ix_list (pe_fld (pv 0) rfl) pe_int (fun _ _ => rfl)) pa_nil)) (nomark _)) (pss_one (ps_ret pe_non)) pss_nil)
      (pss_cons (ps_set (i := 2) sc_Signs_put.nd rfl (.inl rfl) (pe_call (ok_sign_of T) (hr.mono (by omega)) (by rfl) T.g_sign_of T.F_sign_of.kp T.b_sign_of .nil pass0 (pa_cons (pe_fld (pv 0) rfl) pa_nil)))
      (pss_cons (ps_expr (pe_bm PySem.F.plainAttrs_list PySem.F.slot_list_append PySem.F.type_list_append mt_append (pe_fld (pv 0) rfl) (pa_cons (pv 2) pa_nil)))
      (pss_cons (ps_fld (pv 0) (pe_lst pa_nil) rfl)
      (pss_one (ps_ret (pv 2)))))))))), ?_⟩
    refine ⟨.ref a, rfl, a, T.C_Signs, dx, _, .ref lp, rfl, hA.obj, T.cl_Signs, T.n_Signs_parts, by rfl, .int b, rfl, lp, ps, b, rfl, hA.pts, fun H1 s1 => ?_⟩
    replace hA := hA.same s1
    refine ⟨_, rfl, ?_⟩
    by_cases hc : canSt ps b = true
    · rw [if_pos hc] at q
      rw [hc]
      have nsa := hA.als
      have npa := hA.alp
      have nsp := hA.ne
      obtain ⟨eo, es, ep, _⟩ := hA
      have k3 : Keep3 a ls lp H H1 := fun x o _ _ _ e => s1 x o e
      -- many += 1
      refine ⟨.ref a, rfl, a, T.C_Signs, dx, _, .int n, rfl, eo, T.cl_Signs, T.n_Signs_many, by rfl, n, 1, rfl, rfl, _, _, eo, (by show 3 < 1000; decide), ?_⟩
      have kH2 : Keep a H1 (upd H1 a (.ins T.C_Signs dx (putF "many" (.int (n + 1)) (SgFs ls lp n)))) := (Keep.refl a H1).upd
      have eH2 : (upd H1 a (.ins T.C_Signs dx (putF "many" (.int (n + 1)) (SgFs ls lp n)))) a = some (.ins T.C_Signs dx (putF "many" (.int (n + 1)) (SgFs ls lp n))) := upd_same
      generalize upd H1 a (.ins T.C_Signs dx (putF "many" (.int (n + 1)) (SgFs ls lp n))) = H2 at kH2 eH2 ⊢
      replace es := kH2 _ _ nsa es
      replace ep := kH2 _ _ npa ep
      have eo2 : H2 a = some (.ins T.C_Signs dx (SgFs ls lp (n + 1))) := eH2
      replace k3 : Keep3 a ls lp H H2 := fun x o h1 h2 h3 e => kH2 x o h1 (k3 x o h1 h2 h3 e)
      -- parts.append(byte)
      refine ⟨.ref a, rfl, a, T.C_Signs, dx, _, .ref lp, rfl, eo2, T.cl_Signs, T.n_Signs_parts, by rfl, .inl ⟨rfl, _, sq1 ep⟩, .int b, rfl, lp, _, _, rfl, rfl, ep, (by rw [List.length_map, sizeLine_eq]; omega), ?_⟩
      have kH3 : Keep lp H2 (upd H2 lp (.lst (ps.map V.int ++ [.int b]))) := (Keep.refl lp H2).upd
      have eH3 : (upd H2 lp (.lst (ps.map V.int ++ [.int b]))) lp = some (.lst (ps.map V.int ++ [.int b])) := upd_same
      generalize upd H2 lp (.lst (ps.map V.int ++ [.int b])) = H3 at kH3 eH3 ⊢
      replace es := kH3 _ _ nsp es
      replace eo2 := kH3 _ _ (Ne.symm npa) eo2
      replace k3 : Keep3 a ls lp H H3 := fun x o h1 h2 h3 e => kH3 x o h3 (k3 x o h1 h2 h3 e)
      have ep3 : H3 lp = some (.lst ((ps ++ [b]).map V.int)) := by rw [List.map_append]; exact eH3
      have hl1 : 1 ≤ (ps ++ [b]).length := by simp
      have hl3 : (ps ++ [b]).length ≤ 3 := by rw [List.length_append]; show _ + 1 ≤ 3; omega
      obtain ⟨f, t, hft⟩ : ∃ f t, ps ++ [b] = f :: t := by
        cases ps with
        | nil => exact ⟨b, [], rfl⟩
        | cons x t => exact ⟨x, t ++ [b], rfl⟩
      have hg : goesOn ps b = decide (((ps ++ [b]).length : Int) < hlong f) := by
        unfold goesOn
        rw [hft]
        rfl
      have hat : atI ((ps ++ [b]).map V.int) 0 = some (.int f) := by
        rw [hft]
        exact atI_nat (xs := .int f :: t.map V.int) (j := 0) rfl
      refine ⟨.ref a, rfl, a, T.C_Signs, dx, _, .ref lp, rfl, eo2, T.cl_Signs, T.n_Signs_parts, by rfl, lp, _, rfl, .inl (sq1 ep3), ?_⟩
      refine ⟨.ref a, rfl, a, T.C_Signs, dx, _, .ref lp, rfl, eo2, T.cl_Signs, T.n_Signs_parts, by rfl, lp, _, 0, .int f, rfl, rfl, sq1 ep3, hat, f, rfl, _, _, rfl, rfl, _, rfl, ?_⟩
      rw [List.length_map, ← hg]
      by_cases hgo : goesOn ps b = true
      · rw [if_pos hgo] at q
        rw [hgo]
        exact q H3 ⟨eo2, es, ep3, nsp⟩ k3
      · rw [if_neg hgo] at q
        rw [Bool.eq_false_iff.mpr hgo]
        -- sign = sign_of(parts)
        refine ⟨.ref a, rfl, a, T.C_Signs, dx, _, .ref lp, rfl, eo2, T.cl_Signs, T.n_Signs_parts, by rfl, lp, ps ++ [b], rfl, ep3, hl1, hl3, ?_⟩
        refine ⟨.ref a, rfl, a, T.C_Signs, dx, _, .ref ls, rfl, eo2, T.cl_Signs, T.n_Signs_signs, by rfl, .inl ⟨rfl, _, sq1 es⟩, .int _, rfl, ls, _, _, rfl, rfl, es, (by rw [List.length_map, sizeLine_eq]; omega), ?_⟩
        have kH4 : Keep ls H3 (upd H3 ls (.lst (sg.map V.int ++ [.int (sgOf (ps ++ [b]))]))) := (Keep.refl ls H3).upd
        have eH4 : (upd H3 ls (.lst (sg.map V.int ++ [.int (sgOf (ps ++ [b]))]))) ls = some (.lst (sg.map V.int ++ [.int (sgOf (ps ++ [b]))])) := upd_same
        generalize upd H3 ls (.lst (sg.map V.int ++ [.int (sgOf (ps ++ [b]))])) = H4 at kH4 eH4 ⊢
        replace eo2 := kH4 _ _ (Ne.symm nsa) eo2
        replace k3 : Keep3 a ls lp H H4 := fun x o h1 h2 h3 e => kH4 x o h2 (k3 x o h1 h2 h3 e)
        have es4 : H4 ls = some (.lst ((sg ++ [sgOf (ps ++ [b])]).map V.int)) := by rw [List.map_append]; exact eH4
        refine ⟨Nat.zero_le _, fun l2 hl2 => ?_⟩
        have n2a := ne_of_none eo2 hl2
        have n2s := ne_of_none es4 hl2
        have sH5 : Same H4 (upd H4 l2 (.lst [])) := same_upd hl2
        have eH5 : (upd H4 l2 (.lst [])) l2 = some (.lst []) := upd_same
        generalize upd H4 l2 (.lst []) = H5 at sH5 eH5 ⊢
        replace eo2 := sH5 _ _ eo2
        replace es4 := sH5 _ _ es4
        replace k3 : Keep3 a ls lp H H5 := fun x o h1 h2 h3 e => sH5 x o (k3 x o h1 h2 h3 e)
        refine ⟨.ref a, rfl, a, T.C_Signs, dx, _, rfl, eo2, T.cl_Signs, T.n_Signs_parts, (by show 3 < 1000; decide), ?_⟩
        have kH6 : Keep a H5 (upd H5 a (.ins T.C_Signs dx (putF "parts" (.ref l2) (SgFs ls lp (n + 1))))) := (Keep.refl a H5).upd
        have eH6 : (upd H5 a (.ins T.C_Signs dx (putF "parts" (.ref l2) (SgFs ls lp (n + 1))))) a = some (.ins T.C_Signs dx (putF "parts" (.ref l2) (SgFs ls lp (n + 1)))) := upd_same
        generalize upd H5 a (.ins T.C_Signs dx (putF "parts" (.ref l2) (SgFs ls lp (n + 1)))) = H6 at kH6 eH6 ⊢
        replace es4 := kH6 _ _ nsa es4
        replace eH5 := kH6 _ _ (Ne.symm n2a) eH5
        replace k3 : Keep3 a ls lp H H6 := fun x o h1 h2 h3 e => kH6 x o h1 (k3 x o h1 h2 h3 e)
        have hl2' : H l2 = none := by
          cases e : H l2 with
          | none => rfl
          | some o =>
            have n2p : l2 ≠ lp := fun z => by
              have e4 : H4 lp = some (.lst ((ps ++ [b]).map V.int)) := kH4 _ _ (Ne.symm nsp) ep3
              rw [z, e4] at hl2
              cases hl2
            have := kH4 _ _ (Ne.symm n2s) (kH3 _ _ n2p (kH2 _ _ (Ne.symm n2a) (s1 _ _ e)))
            rw [this] at hl2
            cases hl2
        exact ⟨_, rfl, q H6 l2 ⟨eH6, es4, eH5, n2s⟩ hl2' k3⟩
    · rw [if_neg hc] at q
      rw [Bool.eq_false_iff.mpr hc]
      refine ⟨.ref a, rfl, a, T.C_Signs, dx, _, .int n, rfl, hA.obj, T.cl_Signs, T.n_Signs_many, by rfl, (by decide : 2 ≤ 1000), raiseF (fm_int (by decide) (by decide)) (fm_int n0 (by omega)) ?_⟩
      exact fun H' d s' hd e => q H' d (s1.trans s') (Same.free s1 hd) e
def spSgWhole (C : Addr) : Sp := fun vs H Q _ => ∃ (a dx ls lp : Addr) (sg ps : List Int) (n : Int), vs = [.ref a] ∧ SgAt C H a dx ls lp sg ps n ∧ Q (.bl (decide (ps = []))) H
theorem ok_Signs_is_whole (T : Tx K mg) : FnOk P w K mg base CX0 1 T.f_Signs_is_whole T.fd_Signs_is_whole ["self"] (spSgWhole T.C_Signs) := by
  refine T.F_Signs_is_whole.ok sc_Signs_is_whole (fun vs H Q E h => ?_) (fun cdv A outer s H vs Q E hr h => ?_)
  · obtain ⟨a, dx, ls, lp, sg, ps, n, rfl, _⟩ := h
    rfl
  · obtain ⟨a, dx, ls, lp, sg, ps, n, rfl, hA, q⟩ := h
    refine ⟨_, (pss_one (ps_ret (pe_cmpR op_eq (pe_callB call_len_seq (by rfl) T.m_len (by decide +kernel) (pa_cons (pe_fld (pv 0) rfl) pa_nil)) pe_int (nomark _)))), ?_⟩
    refine ⟨.ref a, rfl, a, T.C_Signs, dx, _, .ref lp, rfl, hA.obj, T.cl_Signs, T.n_Signs_parts, by rfl, lp, _, rfl, .inl (sq1 hA.pts), rfl, ?_⟩
    cases ps with
    | nil => exact q
    | cons x t =>
      have e : decide (V.int (((x :: t).map V.int).length : Int) = V.int 0) = false := decide_eq_false fun z => by
        have := V.int.inj z
        simp only [List.map_cons, List.length_cons] at this
        omega
      have q2 : Q (.bl false) H := q
      rw [← e] at q2
      exact q2
def spSgWords (C : Addr) : Sp := fun vs H Q _ => ∃ (a dx ls lp : Addr) (sg ps : List Int) (n : Int), vs = [.ref a] ∧ SgAt C H a dx ls lp sg ps n ∧ ∀ l, H l = none → Q (.ref l) (upd H l (.lst (sg.map V.int)))
theorem ok_Signs_words (T : Tx K mg) : FnOk P w K mg base CX0 1 T.f_Signs_words T.fd_Signs_words ["self"] (spSgWords T.C_Signs) := by
  refine T.F_Signs_words.ok sc_Signs_words (fun vs H Q E h => ?_) (fun cdv A outer s H vs Q E hr h => ?_)
  · obtain ⟨a, dx, ls, lp, sg, ps, n, rfl, _⟩ := h
    rfl
  · obtain ⟨a, dx, ls, lp, sg, ps, n, rfl, hA, q⟩ := h
    refine ⟨_, (pss_one (ps_ret (pe_callTy call_list_of (by rfl) T.m_list (by decide +kernel) (pa_cons (pe_fld (pv 0) rfl) pa_nil)))), ?_⟩
    exact ⟨.ref a, rfl, a, T.C_Signs, dx, _, .ref ls, rfl, hA.obj, T.cl_Signs, T.n_Signs_signs, by rfl, ls, _, rfl, .inl (sq1 hA.sgs), q⟩
end

/-! ### a Signs asked -/
def sT (n : Int) : Str := Str.ofString (toString n)
def txS (sg : List Int) (half : Bool) : Str := Txt.join (Str.ofString " ") (sg.map sT ++ if half = true then [Str.ofString ".."] else [])
def SgB (sg : List Int) : Prop := ∀ n ∈ sg, 0 ≤ n ∧ n < 65536
theorem sT_len {n : Int} (h : 0 ≤ n ∧ n < 65536) : (sT n).length ≤ 5 := toString_length_le h.1 (by decide) (by omega)
theorem sT_log {n : Int} (h : 0 ≤ n ∧ n < 65536) : n.natAbs.log2 < 1920 := by
  by_cases z : n.natAbs = 0
  · rw [z]
    decide
  · exact (Nat.log2_lt z).mpr (Nat.lt_of_lt_of_le (show n.natAbs < 2 ^ 40 by omega) (Nat.pow_le_pow_right (by decide) (by decide)))
theorem sT_sum : ∀ {sg : List Int}, SgB sg → ((sg.map sT).map (·.length)).sum ≤ 5 * sg.length
  | [], _ => Nat.le_refl _
  | n :: sg, h => by
    have h1 := sT_len (h n List.mem_cons_self)
    have h2 := sT_sum (fun m hm => h m (List.mem_cons_of_mem _ hm))
    show (sT n).length + ((sg.map sT).map (·.length)).sum ≤ 5 * (sg.length + 1)
    omega
theorem tx_fits {sg : List Int} (hb : SgB sg) (hl : sg.length ≤ 1000) (half : Bool) : ((sg.map sT ++ if half = true then [Str.ofString ".."] else []).map (·.length)).sum + (sg.map sT ++ if half = true then [Str.ofString ".."] else []).length * (Str.ofString " ").length ≤ 16777216 := by
  have h1 := sT_sum hb
  have e1 : (Str.ofString " ").length = 1 := by decide +kernel
  have e2 : (Str.ofString "..").length = 2 := by decide +kernel
  rw [List.map_append, List.sum_append, List.length_append, List.length_map, e1]
  cases half with
  | true =>
    rw [if_pos rfl]
    show _ + ((Str.ofString "..").length + 0) + (sg.length + 1) * 1 ≤ _
    omega
  | false =>
    rw [if_neg (by decide)]
    show _ + 0 + (sg.length + 0) * 1 ≤ _
    omega
section
variable {P : Program} {w : World} {K : PySem.W.Frag} {mg : Str → Option Value} {base : Heap}
def spSgMany (C : Addr) : Sp := fun vs H Q _ => ∃ (a dx ls lp : Addr) (sg ps : List Int) (n : Int), vs = [.ref a] ∧ SgAt C H a dx ls lp sg ps n ∧ Q (.int n) H
theorem ok_Signs_how_many (T : Tx K mg) : FnOk P w K mg base CX0 1 T.f_Signs_how_many T.fd_Signs_how_many ["self"] (spSgMany T.C_Signs) := by
  refine T.F_Signs_how_many.ok sc_Signs_how_many (fun vs H Q E h => ?_) (fun cdv A outer s H vs Q E hr h => ?_)
  · obtain ⟨a, dx, ls, lp, sg, ps, n, rfl, _⟩ := h
    rfl
  · obtain ⟨a, dx, ls, lp, sg, ps, n, rfl, hA, q⟩ := h
    refine ⟨_, (pss_one (ps_ret (pe_fld (pv 0) rfl))), ?_⟩
    exact ⟨.ref a, rfl, a, T.C_Signs, dx, _, .int n, rfl, hA.obj, T.cl_Signs, T.n_Signs_many, by rfl, q⟩
def spSgLen (C : Addr) : Sp := fun vs H Q _ => ∃ (a dx ls lp : Addr) (sg ps : List Int) (n : Int), vs = [.ref a] ∧ SgAt C H a dx ls lp sg ps n ∧ Q (.int (sg.length : Int)) H
theorem ok_Signs_len (T : Tx K mg) : FnOk P w K mg base CX0 1 T.f_Signs_len T.fd_Signs_len ["self"] (spSgLen T.C_Signs) := by
  refine T.F_Signs_len.ok sc_Signs_len (fun vs H Q E h => ?_) (fun cdv A outer s H vs Q E hr h => ?_)
  · obtain ⟨a, dx, ls, lp, sg, ps, n, rfl, _⟩ := h
    rfl
  · obtain ⟨a, dx, ls, lp, sg, ps, n, rfl, hA, q⟩ := h
    refine ⟨_, (pss_one (ps_ret (pe_callB call_len_seq (by rfl) T.m_len (by decide +kernel) (pa_cons (pe_fld (pv 0) rfl) pa_nil)))), ?_⟩
    refine ⟨.ref a, rfl, a, T.C_Signs, dx, _, .ref ls, rfl, hA.obj, T.cl_Signs, T.n_Signs_signs, by rfl, ls, _, rfl, .inl (sq1 hA.sgs), ?_⟩
    rw [List.length_map]
    exact q
def spSgStr (C : Addr) : Sp := fun vs H Q _ => ∃ (a dx ls lp : Addr) (sg ps : List Int) (n : Int), vs = [.ref a] ∧ SgAt C H a dx ls lp sg ps n ∧ SgB sg ∧ sg.length ≤ 1000 ∧ ∀ H', Same H H' → Q (.str (txS sg (!decide (ps = [])))) H'
theorem ok_Signs_str (T : Tx K mg) : FnOk P w K mg base CX0 1 T.f_Signs_str T.fd_Signs_str ["self"] (spSgStr T.C_Signs) := by
  refine T.F_Signs_str.ok sc_Signs_str (fun vs H Q E h => ?_) (fun cdv A outer s H vs Q E hr h => ?_)
  · obtain ⟨a, dx, ls, lp, sg, ps, n, rfl, _⟩ := h
    rfl
  · obtain ⟨a, dx, ls, lp, sg, ps, n, rfl, hA, hb, hl, q⟩ := h
    refine ⟨_, (pss_cons (ps_setLc (i := 1) rfl sc_Signs_str.nd rfl rfl (sw_true rfl rfl rfl (by decide +kernel)) (own := [("sign", 2)]) (g := gName 2) (tt := tYes) (pi_list (pe_fld (pv 0) rfl)) (blkOk_by (N := ["self", "shown", "sign"]) (sc := defScope s_Signs_str) (by decide +kernel)) (fun _ _ _ _ _ => (pg_name (i := 2) sc_Signs_str.nd rfl (.inl rfl))) (fun _ _ _ _ _ => pts_nil) (fun _ _ _ _ _ => (pe_callTy call_str_int (by rfl) T.m_str (by decide +kernel) (pa_cons (pv 2) pa_nil))))
      (pss_cons (ps_if (pt_cmpR op_gt (pe_callB call_len_seq (by rfl) T.m_len (by decide +kernel) (pa_cons (pe_fld (pv 0) rfl) pa_nil)) pe_int (nomark _)) (pss_one (ps_expr (pe_bm PySem.F.plainAttrs_list PySem.F.slot_list_append PySem.F.type_list_append mt_append (pv 1) (pa_cons pe_str pa_nil)))) pss_nil)
      (pss_one (ps_ret (pe_bm PySem.F.plainAttrs_str PySem.F.slot_str_join PySem.F.type_str_join mt_join pe_str (pa_cons (pv 1) pa_nil)))))), ?_⟩
    refine ⟨.ref a, rfl, a, T.C_Signs, dx, _, .ref ls, rfl, hA.obj, T.cl_Signs, T.n_Signs_signs, by rfl, ls, rfl, ⟨_, sq1 hA.sgs⟩, fun D hD => ?_⟩
    refine lc_it (walk_list (xs := sg.map V.int)) (fun i Hc => Same H Hc ∧ Hc D = some (.lst (((sg.take i).map sT).map V.str))) ?_ ?_ ?_ ?_
    · exact ⟨same_upd hD, upd_same⟩
    · rintro i Hc hi ⟨sm, _⟩
      exact sq1 (sm _ _ hA.sgs)
    · rintro i y Hc H' hi ⟨sm, eD⟩ ⟨rfl, hy⟩
      have hy2 := hy
      rw [List.getElem?_map] at hy2
      obtain ⟨z, hz, rfl⟩ := Option.map_eq_some_iff.mp hy2
      refine ⟨rfl, .int z, rfl, z, rfl, sT_log (hb z (List.mem_of_getElem? hz)), ?_⟩
      refine ⟨_, eD, ?_, Same.mut sm hD, ?_⟩
      · rw [List.length_map, List.length_map, List.length_take, sizeLine_eq]
        omega
      · rw [upd_same, List.take_add_one, hz, List.map_append, List.map_append]
        rfl
    · rintro Hc ⟨sm, eD⟩
      rw [List.length_map, List.take_of_length_le (Nat.le_refl _)] at eD
      have hA2 := hA.same sm
      refine ⟨.ref a, rfl, a, T.C_Signs, dx, _, .ref lp, rfl, hA2.obj, T.cl_Signs, T.n_Signs_parts, by rfl, lp, _, rfl, .inl (sq1 hA2.pts), _, 0, rfl, rfl, _, rfl, ?_⟩
      cases hps : ps with
      | nil =>
        subst hps
        have z := q Hc sm
        have f := tx_fits hb hl false
        rw [if_neg (by decide), List.append_nil] at f
        refine ⟨rfl, .ref D, rfl, Str.ofString " ", D, sg.map sT, rfl, rfl, .inl (sq1 eD), f, ?_⟩
        have e : txS sg (!decide (([] : List Int) = [])) = Txt.join (Str.ofString " ") (sg.map sT) := by
          unfold txS
          rw [show (!decide (([] : List Int) = [])) = false from by decide, if_neg (by decide), List.append_nil]
        rw [e] at z
        exact z
      | cons x t =>
        subst hps
        rw [decide_eq_true (show (0 : Int) < (((x :: t).map V.int).length : Int) by rw [List.length_map, List.length_cons]; omega)]
        refine ⟨.ref D, rfl, .inl ⟨rfl, _, sq1 eD⟩, D, _, _, rfl, rfl, eD, (by rw [List.length_map, List.length_map, sizeLine_eq]; omega), ?_⟩
        have kH2 : Keep D Hc (upd Hc D (.lst ((sg.map sT).map V.str ++ [.str (Str.ofString "..")]))) := (Keep.refl D Hc).upd
        have eH2 : (upd Hc D (.lst ((sg.map sT).map V.str ++ [.str (Str.ofString "..")]))) D = some (.lst ((sg.map sT).map V.str ++ [.str (Str.ofString "..")])) := upd_same
        generalize upd Hc D (.lst ((sg.map sT).map V.str ++ [.str (Str.ofString "..")])) = H2 at kH2 eH2 ⊢
        replace sm := Same.keep sm kH2 hD
        have e2 : H2 D = some (.lst ((sg.map sT ++ [Str.ofString ".."]).map V.str)) := by rw [List.map_append]; exact eH2
        have z := q H2 sm
        have f := tx_fits hb hl true
        rw [if_pos rfl] at f
        refine ⟨rfl, .ref D, rfl, Str.ofString " ", D, sg.map sT ++ [Str.ofString ".."], rfl, rfl, .inl (sq1 e2), f, ?_⟩
        have e : txS sg (!decide (x :: t = [])) = Txt.join (Str.ofString " ") (sg.map sT ++ [Str.ofString ".."]) := by
          unfold txS
          rw [show (!decide (x :: t = [])) = true from by simp, if_pos rfl]
        rw [e] at z
        exact z
end
end K19

set_option Elab.async false
set_option linter.all false
set_option maxRecDepth 100000
set_option maxHeartbeats 4000000
namespace K19
open PySem PySem.Spec PyProof.Rows L2
theorem drop_get {cs : List Int} {i : Nat} {b : Int} (h : cs[i]? = some b) : cs.drop i = b :: cs.drop (i + 1) := by
  have hi : i < cs.length := (List.getElem?_eq_some_iff.mp h).1
  rw [List.drop_eq_getElem_cons hi, (List.getElem?_eq_some_iff.mp h).2]

/-! ### the law's own reading of signs -/
def badV : Option Int → V
  | none => .non
  | some n => .int n
def halfB (r : List Int × List Int × Option Int) : Bool := match r with
  | (_, _ :: _, none) => true
  | _ => false
def cnt (f : Int) : Int := if f < 128 then 1 else if 194 ≤ f ∧ f < 224 then 2 else if 224 ≤ f ∧ f < 240 then 3 else 0
def bas (k : Int) : Int := if k = 2 then 192 else if k = 3 then 224 else 0
def foldS (f : Int) (bs : List Int) : Int := bs.foldl (fun a b => 64 * a + b - 128) f
def loB (f : Int) (i : Nat) : Int := if i = 0 ∧ f = 224 then 160 else 128
def hiB (f : Int) (i : Nat) : Int := if i = 0 ∧ f = 237 then 159 else 191
theorem can_first {f : Int} (h : 0 ≤ f) : canSt [] f = decide (cnt f ≠ 0) := by
  show (decide (f < 128) || (decide (194 ≤ f) && decide (f ≤ 239))) = _
  unfold cnt
  by_cases h1 : f < 128
  · rw [if_pos h1, decide_eq_true h1]
    rfl
  · rw [if_neg h1, decide_eq_false h1]
    by_cases h2 : 194 ≤ f ∧ f < 224
    · rw [if_pos h2, decide_eq_true h2.1, decide_eq_true (by omega : f ≤ 239)]
      rfl
    · rw [if_neg h2]
      by_cases h3 : 224 ≤ f ∧ f < 240
      · rw [if_pos h3, decide_eq_true (by omega : 194 ≤ f), decide_eq_true (by omega : f ≤ 239)]
        rfl
      · rw [if_neg h3]
        have : ¬ (194 ≤ f ∧ f ≤ 239) := by omega
        by_cases h4 : 194 ≤ f
        · rw [decide_eq_true h4, decide_eq_false (by omega : ¬ f ≤ 239)]
          rfl
        · rw [decide_eq_false h4]
          rfl
theorem cnt_long {f : Int} (h : cnt f ≠ 0) : hlong f = cnt f := by
  unfold cnt at h ⊢
  unfold hlong
  by_cases h1 : f < 128
  · rw [if_pos h1, if_pos h1]
  · rw [if_neg h1] at h ⊢
    rw [if_neg h1]
    by_cases h2 : 194 ≤ f ∧ f < 224
    · rw [if_pos h2, if_pos h2.2]
    · rw [if_neg h2] at h ⊢
      by_cases h3 : 224 ≤ f ∧ f < 240
      · rw [if_pos h3, if_neg (by omega)]
      · rw [if_neg h3] at h
        exact absurd rfl h
theorem cnt_range (f : Int) : cnt f = 0 ∨ cnt f = 1 ∨ cnt f = 2 ∨ cnt f = 3 := by
  unfold cnt
  split
  · omega
  · split
    · omega
    · split <;> omega
theorem can_more {f b : Int} {bs : List Int} : canSt (f :: bs) b = (decide (loB f bs.length ≤ b) && decide (b ≤ hiB f bs.length)) := by
  unfold canSt loB hiB
  rw [if_neg (by simp)]
  cases bs with
  | nil =>
    by_cases h1 : f = 224
    · subst h1
      rfl
    · rw [if_neg (by intro z; exact h1 (List.head_eq_of_cons_eq z))]
      by_cases h2 : f = 237
      · subst h2
        rfl
      · rw [if_neg (by intro z; exact h2 (List.head_eq_of_cons_eq z)), if_neg (by intro z; exact h1 z.2), if_neg (by intro z; exact h2 z.2)]
  | cons x t =>
    rw [if_neg (by simp), if_neg (by simp), if_neg (by simp), if_neg (by simp)]
theorem goes_more {f b : Int} {bs : List Int} (h : cnt f ≠ 0) : goesOn (f :: bs) b = decide ((bs.length : Int) + 2 < cnt f) := by
  unfold goesOn
  have e : (f :: bs ++ [b]).headD 0 = f := rfl
  rw [e, cnt_long h, List.length_append, List.length_cons]
  show decide (((bs.length + 1 + 1 : Nat) : Int) < cnt f) = _
  rw [show ((bs.length + 1 + 1 : Nat) : Int) = (bs.length : Int) + 2 by omega]
theorem goes_first {f : Int} (h : cnt f ≠ 0) : goesOn [] f = decide (1 < cnt f) := by
  unfold goesOn
  have e : ([] ++ [f]).headD 0 = f := rfl
  rw [e, cnt_long h]
  rfl
theorem sg_fold {f b : Int} {bs : List Int} (h : cnt f = (bs.length : Int) + 2) : sgOf (f :: bs ++ [b]) = foldS (f - bas (cnt f)) (bs ++ [b]) := by
  unfold foldS
  rw [List.foldl_append]
  match bs, h with
  | [], h =>
    rw [h]
    show (f - 192) * 64 + b - 128 = 64 * (f - bas 2) + b - 128
    show (f - 192) * 64 + b - 128 = 64 * (f - 192) + b - 128
    omega
  | [x], h =>
    rw [h]
    show (f - 224) * 4096 + (x - 128) * 64 + b - 128 = 64 * (64 * (f - 224) + x - 128) + b - 128
    omega
  | x :: y :: t, h =>
    rcases cnt_range f with z | z | z | z <;> simp only [List.length_cons] at h <;> omega
section
variable {P : Program} {w : World} {K : PySem.W.Frag} {mg : Str → Option Value} {base : Heap}
def spLS (K : PySem.W.Frag) : Sp := fun vs H Q _ => ∃ (a : Addr) (cs : List Int), vs = [.ref a] ∧ SqL K H a (cs.map V.int) ∧ Bts cs ∧ cs.length ≤ 1000000 ∧
  ∀ (H' : Hp) (t l : Addr), Same H H' → H t = none → H l = none → H' t = some (.tup [.ref l, badV (rd cs [] [] 0).2.2, .bl (halfB (rd cs [] [] 0))]) → H' l = some (.lst ((rd cs [] [] 0).1.map V.int)) → Q (.ref t) H'
theorem ok_signs (T : Tx K mg) : FnOk P w K mg base CX0 1 T.f_signs T.fd_signs ["_law_row"] (spLS K) := by
  refine T.F_signs.ok sc_signs (fun vs H Q E h => ?_) (fun cdv A outer s H vs Q E hr h => ?_)
  · obtain ⟨a, cs, rfl, _⟩ := h
    rfl
  · obtain ⟨a, cs, rfl, hS, hb, hl, q⟩ := h
    refine ⟨_, (pss_cons (ps_par (i := 1) (j := 2) rfl sc_signs.nd rfl rfl (by decide) rfl rfl (pa_cons (pe_lst pa_nil) (pa_cons pe_int pa_nil)) rfl)
      (pss_cons (ps_while PassesOwn.never (pt_cmpR op_lt (pv 2) (pe_callB call_len_seq (by rfl) T.m_len (by decide +kernel) (pa_cons (pv 0) pa_nil)) (nomark _)) (pss_cons (ps_set (i := 3) sc_signs.nd rfl (.inl rfl) (pe_ix (r := rIxL K) ix_list (pv 0) (pv 2) (fun _ _ => rfl)))
      (pss_cons (ps_set (i := 4) sc_signs.nd rfl (.inl rfl) (pe_ifExp (pt_cmpR op_lt (pv 3) pe_int (nomark _)) pe_int (pe_ifExp (pt_chain op_le op_lt pe_int (pv 3) pe_int) pe_int (pe_ifExp (pt_chain op_le op_lt pe_int (pv 3) pe_int) pe_int pe_int))))
      (pss_cons (ps_if (pt_cmpR op_eq (pv 4) pe_int (nomark _)) (pss_one (ps_ret (pe_tup (pa_cons (pv 1) (pa_cons (pv 2) (pa_cons pe_bl pa_nil)))))) pss_nil)
      (pss_cons (ps_set (i := 5) sc_signs.nd rfl (.inl rfl) (pe_op op_sub (pv 3) (pe_ix (r := rIxL K) ix_list (pe_lst (pa_cons pe_int (pa_cons pe_int (pa_cons pe_int (pa_cons pe_int pa_nil))))) (pv 4) (fun _ _ => rfl))))
      (pss_cons (ps_for PassesOwn.never rfl (pi_range2 (by rfl) T.m_range (pa_cons pe_int (pa_cons (pv 4) pa_nil))) (pg_name (i := 6) sc_signs.nd rfl (.inl rfl)) (pss_cons (ps_asg (pe_ifExp (pt_cmpR op_eq (pv 6) pe_int (nomark _)) (pe_tup (pa_cons (pe_ifExp (pt_cmpR op_eq (pv 3) pe_int (nomark _)) pe_int pe_int) (pa_cons (pe_ifExp (pt_cmpR op_eq (pv 3) pe_int (nomark _)) pe_int pe_int) pa_nil))) (pe_tup (pa_cons pe_int (pa_cons pe_int pa_nil)))) (pg_tup rfl (pgs_cons (pg_name (i := 7) sc_signs.nd rfl (.inl rfl)) (pgs_cons (pg_name (i := 8) sc_signs.nd rfl (.inl rfl)) pgs_nil))))
      (pss_cons (ps_if (pt_cmpR op_ge (pe_op op_add (pv 2) (pv 6)) (pe_callB call_len_seq (by rfl) T.m_len (by decide +kernel) (pa_cons (pv 0) pa_nil)) (nomark _)) (pss_one (ps_ret (pe_tup (pa_cons (pv 1) (pa_cons pe_non (pa_cons pe_bl pa_nil)))))) pss_nil)
      (pss_cons (ps_if (pt_not (pt_chain op_le op_le (pv 7) (pe_ix (r := rIxL K) ix_list (pv 0) (pe_op op_add (pv 2) (pv 6)) (fun _ _ => rfl)) (pv 8))) (pss_one (ps_ret (pe_tup (pa_cons (pv 1) (pa_cons (pe_op op_add (pv 2) (pv 6)) (pa_cons pe_bl pa_nil)))))) pss_nil)
      (pss_one (ps_set (i := 5) sc_signs.nd rfl (.inl rfl) (pe_op op_sub (pe_op op_add (pe_op op_mul pe_int (pv 5)) (pe_ix (r := rIxL K) ix_list (pv 0) (pe_op op_add (pv 2) (pv 6)) (fun _ _ => rfl))) pe_int)))))))
      (pss_cons (ps_expr (pe_bm PySem.F.plainAttrs_list PySem.F.slot_list_append PySem.F.type_list_append mt_append (pv 1) (pa_cons (pv 5) pa_nil)))
      (pss_one (ps_set (i := 2) sc_signs.nd rfl (.inl rfl) (pe_op op_add (pv 2) (pv 4)))))))))))
      (pss_one (ps_ret (pe_tup (pa_cons (pv 1) (pa_cons pe_non (pa_cons pe_bl pa_nil)))))))), ?_⟩
    refine ⟨Nat.zero_le _, fun l hl0 => ⟨_, _, rfl, ?_⟩⟩
    have sm0 : Same H (upd H l (.lst [])) := same_upd hl0
    have el0 : (upd H l (.lst [])) l = some (.lst (([] : List Int).map V.int)) := upd_same
    generalize upd H l (.lst []) = H1 at sm0 el0 ⊢
    refine ⟨fun m σ Hc => ∃ (y3 y4 y5 y6 y7 y8 : Option V) (sg : List Int) (i : Nat), m = cs.length - i ∧ i ≤ cs.length ∧ σ = [some (.ref a), some (.ref l), some (.int (i : Int)), y3, y4, y5, y6, y7, y8] ∧ Same H Hc ∧ Hc l = some (.lst (sg.map V.int)) ∧ sg.length ≤ i ∧ rd cs [] [] 0 = rd (cs.drop i) sg [] (i : Int), ⟨_, none, none, none, none, none, none, [], 0, rfl, Nat.zero_le _, rfl, sm0, el0, Nat.le_refl _, rfl⟩, ?_⟩
    rintro m σ Hc ⟨y3, y4, y5, y6, y7, y8, sg, i, rfl, hi, rfl, sm, el, hsg, hrd⟩
    have hSc := sm.seq hS
    refine ⟨.int (i : Int), rfl, .ref a, rfl, a, _, rfl, .inl hSc, _, _, rfl, rfl, _, rfl, ite2 (fun e => ?_) (fun e => ?_)⟩
    · have h1 : (i : Int) < ((cs.map V.int).length : Int) := of_decide_eq_true e
      rw [List.length_map] at h1
      obtain ⟨f, hf, mf⟩ := get_of_lt (ns := cs) (i := i) (by omega)
      have bf := hb f mf
      have hdr : cs.drop i = f :: cs.drop (i + 1) := by
        rw [List.drop_eq_getElem_cons (by omega : i < cs.length), (List.getElem?_eq_some_iff.mp hf).2]
      rw [hdr] at hrd
      refine ⟨fun σ' Hc' => ∃ (y3 y4 y5 y6 y7 y8 : Option V) (sg : List Int) (j : Nat), i < j ∧ j ≤ cs.length ∧ σ' = [some (.ref a), some (.ref l), some (.int (j : Int)), y3, y4, y5, y6, y7, y8] ∧ Same H Hc' ∧ Hc' l = some (.lst (sg.map V.int)) ∧ sg.length ≤ j ∧ rd cs [] [] 0 = rd (cs.drop j) sg [] (j : Int), fun σ' Hc' ⟨y3, y4, y5, y6, y7, y8, sg, j, h1, h2, h3, h4, h5, h6, h7⟩ => ⟨cs.length - j, by omega, y3, y4, y5, y6, y7, y8, sg, j, rfl, h2, h3, h4, h5, h6, h7⟩, ?_⟩
      refine ⟨.ref a, rfl, .int (i : Int), rfl, a, _, _, .int f, rfl, rfl, hSc, at_ints hf, ?_⟩
      refine ⟨.int f, rfl, f, 128, rfl, rfl, _, rfl, ite2 (fun e => ?_) (fun e => ?_)⟩
      · have g1 : f < 128 := of_decide_eq_true e
        have hk : cnt f = 1 := if_pos g1
        refine ⟨.int 1, rfl, rfl, _, rfl, ?_⟩
        refine ⟨.int f, rfl, by show 4 ≤ sizeLine; decide, fun l2 hl2 => ?_⟩
        have sH2 : Same Hc (upd Hc l2 (.lst [.int 0, .int 0, .int 192, .int 224])) := same_upd hl2
        have eH2 : (upd Hc l2 (.lst [.int 0, .int 0, .int 192, .int 224])) l2 = some (.lst [.int 0, .int 0, .int 192, .int 224]) := upd_same
        generalize upd Hc l2 (.lst [.int 0, .int 0, .int 192, .int 224]) = H2 at sH2 eH2 ⊢
        replace el := sH2 _ _ el
        replace sm := sm.trans sH2
        refine ⟨.int 1, rfl, l2, _, 1, .int 0, rfl, rfl, sq1 eH2, rfl, f, 0, rfl, rfl, ?_⟩
        refine ⟨.int 1, rfl, 1, 1, rfl, ⟨by decide, by decide, by decide, by decide⟩, ?_⟩
        refine for_it (walk_range (lo := 1) (n := 0)) (fun j σ Hd => j = 0 ∧ σ = [some (.ref a), some (.ref l), some (.int (i : Int)), some (.int f), some (.int 1), some (.int (f - 0)), y6, y7, y8] ∧ Hd = H2) ⟨rfl, rfl, rfl⟩ (fun _ _ _ _ _ => trivial) (fun j x σ Hd H' hj _ _ => absurd hj (Nat.not_lt_zero j)) ?_
        rintro σ Hd ⟨_, rfl, rfl⟩
        refine ⟨.ref l, rfl, .inl ⟨rfl, _, sq1 el⟩, .int _, rfl, l, _, _, rfl, rfl, el, (by rw [List.length_map, sizeLine_eq]; omega), ?_⟩
        refine ⟨.int (i : Int), rfl, .int 1, rfl, (i : Int), 1, rfl, rfl, ?_⟩
        refine ⟨_, _, _, _, _, _, sg ++ [f], i + 1, by omega, by omega, rfl, Same.mut sm hl0, ?_, by rw [List.length_append]; show _ + 1 ≤ _; omega, ?_⟩
        · rw [upd_same, List.map_append, Int.sub_zero]
          rfl
        · rw [hrd, rd, if_pos (by rw [can_first bf.1, hk]; rfl), if_neg (by rw [goes_first (by rw [hk]; decide), hk]; decide)]
          rfl
      have g1 : ¬ f < 128 := fun z => e (decide_eq_true z)
      have zero : ∀ (hk : cnt f = 0) Hx t, Same Hc Hx → Hx t = none → Q (.ref t) (upd Hx t (.tup [.ref l, .int (i : Int), .bl false])) := fun hk Hx t sx ht => by
        rw [rd, if_neg (by rw [can_first bf.1, hk]; decide)] at hrd
        rw [hrd] at q
        have sy := sm.trans sx
        exact q _ t l (sy.trans (same_upd ht)) (Same.free sy ht) hl0 upd_same (by rw [upd_ne (ne_of_none (sx _ _ el) ht)]; exact sx _ _ el)
      refine ⟨.int f, rfl, 194, f, rfl, rfl, _, rfl, ?_⟩
      cases k1 : decide ((194 : Int) ≤ f) with
      | false =>
        have g2 : ¬ (194 ≤ f ∧ f < 224) := fun z => absurd z.1 (of_decide_eq_false k1)
        refine ⟨_, rfl, ?_⟩
        refine ⟨.int f, rfl, 224, f, rfl, rfl, _, rfl, ?_⟩
        cases k1 : decide ((224 : Int) ≤ f) with
        | false =>
          have hk : cnt f = 0 := by
            have := of_decide_eq_false k1
            unfold cnt
            rw [if_neg g1, if_neg g2, if_neg (by omega)]
          refine ⟨_, rfl, ?_⟩
          exact ⟨.int 0, rfl, rfl, _, rfl, .ref l, rfl, .int (i : Int), rfl, by show 3 ≤ sizeLine; decide, fun t ht => zero hk _ t (Same.refl _) ht⟩
        | true =>
          refine ⟨f, 240, rfl, rfl, _, rfl, ?_⟩
          cases k2 : decide (f < (240 : Int)) with
          | false =>
            have hk : cnt f = 0 := by
              have := of_decide_eq_false k2
              unfold cnt
              rw [if_neg g1, if_neg g2, if_neg (by omega)]
            exact ⟨.int 0, rfl, rfl, _, rfl, .ref l, rfl, .int (i : Int), rfl, by show 3 ≤ sizeLine; decide, fun t ht => zero hk _ t (Same.refl _) ht⟩
          | true =>
            have g3 := of_decide_eq_true k1
            have g4 := of_decide_eq_true k2
            have hk : cnt f = 3 := by
              unfold cnt
              rw [if_neg g1, if_neg g2, if_pos ⟨g3, g4⟩]
            refine ⟨.int 3, rfl, rfl, _, rfl, ?_⟩
            refine ⟨.int f, rfl, by show 4 ≤ sizeLine; decide, fun l2 hl2 => ?_⟩
            have sH2 : Same Hc (upd Hc l2 (.lst [.int 0, .int 0, .int 192, .int 224])) := same_upd hl2
            have eH2 : (upd Hc l2 (.lst [.int 0, .int 0, .int 192, .int 224])) l2 = some (.lst [.int 0, .int 0, .int 192, .int 224]) := upd_same
            generalize upd Hc l2 (.lst [.int 0, .int 0, .int 192, .int 224]) = H2 at sH2 eH2 ⊢
            replace el := sH2 _ _ el
            replace sm := sm.trans sH2
            refine ⟨.int 3, rfl, l2, _, 3, .int 224, rfl, rfl, sq1 eH2, rfl, f, 224, rfl, rfl, ?_⟩
            refine ⟨.int 3, rfl, 1, 3, rfl, ⟨by decide, by decide, by decide, by decide⟩, ?_⟩
            refine for_it (walk_range (lo := 1) (n := 2)) (fun j σ Hd => ∃ (y6 y7 y8 : Option V) (bs : List Int), bs.length = j ∧ σ = [some (.ref a), some (.ref l), some (.int (i : Int)), some (.int f), some (.int 3), some (.int (foldS (f - 224) bs)), y6, y7, y8] ∧ Same H Hd ∧ Hd l = some (.lst (sg.map V.int)) ∧ i + 1 + j ≤ cs.length ∧
              (if j + 1 < 3 then rd cs [] [] 0 = rd (cs.drop (i + 1 + j)) sg (f :: bs) ((i : Int) + 1 + (j : Int)) else rd cs [] [] 0 = rd (cs.drop (i + 1 + j)) (sg ++ [foldS (f - 224) bs]) [] ((i : Int) + 1 + (j : Int)))) ?_ (fun _ _ _ _ _ => trivial) ?_ ?_
            · refine ⟨_, _, _, [], rfl, rfl, sm, el, by omega, ?_⟩
              rw [if_pos (by decide)]
              rw [hrd, rd, if_pos (by rw [can_first bf.1, hk]; rfl), if_pos (by rw [goes_first (by rw [hk]; decide), hk]; rfl), show (i : Int) + 1 + ((0 : Nat) : Int) = (i : Int) + 1 by omega]
              rfl
            · rintro j x σ Hd H' hj ⟨y6, y7, y8, bs, hbl, rfl, smd, eld, hil, hA⟩ ⟨rfl, rfl⟩
              have hj1 : j + 1 < 3 := by
                have z : j < 2 := hj
                omega
              rw [if_pos hj1] at hA
              generalize hHd : H' = Hd at smd eld ⊢
              clear hHd
              refine ⟨.int (1 + (j : Int)), rfl, rfl, _, rfl, ite2 (fun e => ?_) (fun e => ?_)⟩
              · have hj0 : j = 0 := by
                  have := V.int.inj (of_decide_eq_true e)
                  omega
                refine ⟨.int f, rfl, rfl, _, rfl, ite2 (fun e => ?_) (fun e => ?_)⟩
                · have hf2 : f = 224 := V.int.inj (of_decide_eq_true e)
                  refine ⟨.int f, rfl, rfl, _, rfl, ite2 (fun e => absurd (V.int.inj (of_decide_eq_true e)) (by omega)) (fun e => ?_)⟩
                  refine ⟨by show 2 ≤ sizeLine; decide, fun t2 ht2 => ?_⟩
                  have sG : Same Hd (upd Hd t2 (.tup [.int 160, .int 191])) := same_upd ht2
                  have eG : (upd Hd t2 (.tup [.int 160, .int 191])) t2 = some (.tup [.int 160, .int 191]) := upd_same
                  generalize upd Hd t2 (.tup [.int 160, .int 191]) = G at sG eG ⊢
                  refine ⟨t2, [.int 160, .int 191], rfl, .inl (.inl eG), rfl, _, _, rfl, _, _, rfl, rfl, ?_⟩
                  have smG := smd.trans sG
                  have elG := sG _ _ eld
                  have hSG := smG.seq hS
                  refine ⟨.int (i : Int), rfl, .int (1 + (j : Int)), rfl, (i : Int), 1 + (j : Int), rfl, rfl, .ref a, rfl, a, _, rfl, .inl hSG, _, _, rfl, rfl, _, rfl, ite2 (fun e => ?_) (fun e => ?_)⟩
                  · have h5 : ((cs.map V.int).length : Int) ≤ (i : Int) + (1 + (j : Int)) := of_decide_eq_true e
                    rw [List.length_map] at h5
                    have e5 : rd cs [] [] 0 = (sg, f :: bs, none) := by
                      rw [hA, List.drop_of_length_le (by omega)]
                      rfl
                    rw [e5] at q
                    exact ⟨.ref l, rfl, by show 3 ≤ sizeLine; decide, fun t ht => q _ t l (smG.trans (same_upd ht)) (Same.free smG ht) hl0 upd_same (by rw [upd_ne (ne_of_none elG ht)]; exact elG)⟩
                  · have h5 : ¬ ((cs.map V.int).length : Int) ≤ (i : Int) + (1 + (j : Int)) := fun z => e (decide_eq_true z)
                    rw [List.length_map] at h5
                    obtain ⟨b, hb', mb⟩ := get_of_lt (ns := cs) (i := i + 1 + j) (by omega)
                    have hat : atI (cs.map V.int) ((i : Int) + (1 + (j : Int))) = some (.int b) := by
                      rw [show (i : Int) + (1 + (j : Int)) = ((i + 1 + j : Nat) : Int) by omega]
                      exact at_ints hb'
                    rw [List.drop_eq_getElem_cons (by omega : i + 1 + j < cs.length), (List.getElem?_eq_some_iff.mp hb').2, rd] at hA
                    have hcan : canSt (f :: bs) b = (decide (160 ≤ b) && decide (b ≤ 191)) := by
                      rw [can_more, hbl, show loB f j = 160 from if_pos ⟨hj0, hf2⟩, show hiB f j = 191 from if_neg (fun z => by omega)]
                    have flt : canSt (f :: bs) b = false → ∀ Hx t, Same G Hx → Hx t = none → Q (.ref t) (upd Hx t (.tup [.ref l, .int ((i : Int) + (1 + (j : Int))), .bl false])) := fun hc Hx t sx ht => by
                      rw [if_neg (by rw [hc]; decide)] at hA
                      rw [hA] at q
                      have sy := smG.trans sx
                      have eq' : ((i : Int) + 1 + (j : Int)) = (i : Int) + (1 + (j : Int)) := by omega
                      refine q _ t l (sy.trans (same_upd ht)) (Same.free sy ht) hl0 ?_ (by rw [upd_ne (ne_of_none (sx _ _ elG) ht)]; exact sx _ _ elG)
                      rw [upd_same, ← eq']
                      rfl
                    refine ⟨.int 160, rfl, .ref a, rfl, .int (i : Int), rfl, .int (1 + (j : Int)), rfl, (i : Int), 1 + (j : Int), rfl, rfl, a, _, _, .int b, rfl, rfl, hSG, hat, 160, b, rfl, rfl, _, rfl, ?_⟩
                    cases hlo : decide ((160 : Int) ≤ b) with
                    | false =>
                      refine ⟨_, rfl, ?_⟩
                      exact ⟨.ref l, rfl, .int (i : Int), rfl, .int (1 + (j : Int)), rfl, (i : Int), 1 + (j : Int), rfl, rfl, by show 3 ≤ sizeLine; decide, fun t ht => flt (by rw [hcan, hlo]; rfl) _ t (Same.refl _) ht⟩
                    | true =>
                      refine ⟨.int 191, rfl, b, 191, rfl, rfl, _, rfl, ?_⟩
                      cases hhi : decide (b ≤ (191 : Int)) with
                      | false =>
                        exact ⟨.ref l, rfl, .int (i : Int), rfl, .int (1 + (j : Int)), rfl, (i : Int), 1 + (j : Int), rfl, rfl, by show 3 ≤ sizeLine; decide, fun t ht => flt (by rw [hcan, hlo, hhi]; rfl) _ t (Same.refl _) ht⟩
                      | true =>
                        rw [if_pos (by rw [hcan, hlo, hhi]; rfl), goes_more (by rw [hk]; decide), hbl, hk] at hA
                        have hfold : foldS (f - 224) (bs ++ [b]) = 64 * foldS (f - 224) bs + b - 128 := by
                          unfold foldS
                          rw [List.foldl_append]
                          rfl
                        refine ⟨.int _, rfl, 64, _, rfl, rfl, .inl ⟨by decide, by decide⟩, .ref a, rfl, .int (i : Int), rfl, .int (1 + (j : Int)), rfl, (i : Int), 1 + (j : Int), rfl, rfl, a, _, _, .int b, rfl, rfl, hSG, hat, _, b, rfl, rfl, _, 128, rfl, rfl, ?_⟩
                        refine ⟨_, _, _, bs ++ [b], by rw [List.length_append, hbl]; rfl, by rw [hfold]; rfl, smG, elG, by omega, ?_⟩
                        by_cases hj2 : (j + 1 : Nat) + 1 < 3
                        · rw [if_pos hj2]
                          rw [if_pos (decide_eq_true (by omega))] at hA
                          rw [hA, show (i : Int) + 1 + ((j + 1 : Nat) : Int) = (i : Int) + 1 + (j : Int) + 1 by omega]
                          rfl
                        · rw [if_neg hj2]
                          rw [if_neg (by intro z; exact hj2 (by have := of_decide_eq_true z; omega)), sg_fold (by rw [hk, hbl]; omega), hk] at hA
                          rw [hA, show (i : Int) + 1 + ((j + 1 : Nat) : Int) = (i : Int) + 1 + (j : Int) + 1 by omega]
                          rfl
                · have hf2 : ¬ f = 224 := fun z => e (decide_eq_true (congrArg V.int z))
                  refine ⟨.int f, rfl, rfl, _, rfl, ite2 (fun e => ?_) (fun e => ?_)⟩
                  · have hf3 : f = 237 := V.int.inj (of_decide_eq_true e)
                    refine ⟨by show 2 ≤ sizeLine; decide, fun t2 ht2 => ?_⟩
                    have sG : Same Hd (upd Hd t2 (.tup [.int 128, .int 159])) := same_upd ht2
                    have eG : (upd Hd t2 (.tup [.int 128, .int 159])) t2 = some (.tup [.int 128, .int 159]) := upd_same
                    generalize upd Hd t2 (.tup [.int 128, .int 159]) = G at sG eG ⊢
                    refine ⟨t2, [.int 128, .int 159], rfl, .inl (.inl eG), rfl, _, _, rfl, _, _, rfl, rfl, ?_⟩
                    have smG := smd.trans sG
                    have elG := sG _ _ eld
                    have hSG := smG.seq hS
                    refine ⟨.int (i : Int), rfl, .int (1 + (j : Int)), rfl, (i : Int), 1 + (j : Int), rfl, rfl, .ref a, rfl, a, _, rfl, .inl hSG, _, _, rfl, rfl, _, rfl, ite2 (fun e => ?_) (fun e => ?_)⟩
                    · have h5 : ((cs.map V.int).length : Int) ≤ (i : Int) + (1 + (j : Int)) := of_decide_eq_true e
                      rw [List.length_map] at h5
                      have e5 : rd cs [] [] 0 = (sg, f :: bs, none) := by
                        rw [hA, List.drop_of_length_le (by omega)]
                        rfl
                      rw [e5] at q
                      exact ⟨.ref l, rfl, by show 3 ≤ sizeLine; decide, fun t ht => q _ t l (smG.trans (same_upd ht)) (Same.free smG ht) hl0 upd_same (by rw [upd_ne (ne_of_none elG ht)]; exact elG)⟩
                    · have h5 : ¬ ((cs.map V.int).length : Int) ≤ (i : Int) + (1 + (j : Int)) := fun z => e (decide_eq_true z)
                      rw [List.length_map] at h5
                      obtain ⟨b, hb', mb⟩ := get_of_lt (ns := cs) (i := i + 1 + j) (by omega)
                      have hat : atI (cs.map V.int) ((i : Int) + (1 + (j : Int))) = some (.int b) := by
                        rw [show (i : Int) + (1 + (j : Int)) = ((i + 1 + j : Nat) : Int) by omega]
                        exact at_ints hb'
                      rw [List.drop_eq_getElem_cons (by omega : i + 1 + j < cs.length), (List.getElem?_eq_some_iff.mp hb').2, rd] at hA
                      have hcan : canSt (f :: bs) b = (decide (128 ≤ b) && decide (b ≤ 159)) := by
                        rw [can_more, hbl, show loB f j = 128 from if_neg (fun z => hf2 z.2), show hiB f j = 159 from if_pos ⟨hj0, hf3⟩]
                      have flt : canSt (f :: bs) b = false → ∀ Hx t, Same G Hx → Hx t = none → Q (.ref t) (upd Hx t (.tup [.ref l, .int ((i : Int) + (1 + (j : Int))), .bl false])) := fun hc Hx t sx ht => by
                        rw [if_neg (by rw [hc]; decide)] at hA
                        rw [hA] at q
                        have sy := smG.trans sx
                        have eq' : ((i : Int) + 1 + (j : Int)) = (i : Int) + (1 + (j : Int)) := by omega
                        refine q _ t l (sy.trans (same_upd ht)) (Same.free sy ht) hl0 ?_ (by rw [upd_ne (ne_of_none (sx _ _ elG) ht)]; exact sx _ _ elG)
                        rw [upd_same, ← eq']
                        rfl
                      refine ⟨.int 128, rfl, .ref a, rfl, .int (i : Int), rfl, .int (1 + (j : Int)), rfl, (i : Int), 1 + (j : Int), rfl, rfl, a, _, _, .int b, rfl, rfl, hSG, hat, 128, b, rfl, rfl, _, rfl, ?_⟩
                      cases hlo : decide ((128 : Int) ≤ b) with
                      | false =>
                        refine ⟨_, rfl, ?_⟩
                        exact ⟨.ref l, rfl, .int (i : Int), rfl, .int (1 + (j : Int)), rfl, (i : Int), 1 + (j : Int), rfl, rfl, by show 3 ≤ sizeLine; decide, fun t ht => flt (by rw [hcan, hlo]; rfl) _ t (Same.refl _) ht⟩
                      | true =>
                        refine ⟨.int 159, rfl, b, 159, rfl, rfl, _, rfl, ?_⟩
                        cases hhi : decide (b ≤ (159 : Int)) with
                        | false =>
                          exact ⟨.ref l, rfl, .int (i : Int), rfl, .int (1 + (j : Int)), rfl, (i : Int), 1 + (j : Int), rfl, rfl, by show 3 ≤ sizeLine; decide, fun t ht => flt (by rw [hcan, hlo, hhi]; rfl) _ t (Same.refl _) ht⟩
                        | true =>
                          rw [if_pos (by rw [hcan, hlo, hhi]; rfl), goes_more (by rw [hk]; decide), hbl, hk] at hA
                          have hfold : foldS (f - 224) (bs ++ [b]) = 64 * foldS (f - 224) bs + b - 128 := by
                            unfold foldS
                            rw [List.foldl_append]
                            rfl
                          refine ⟨.int _, rfl, 64, _, rfl, rfl, .inl ⟨by decide, by decide⟩, .ref a, rfl, .int (i : Int), rfl, .int (1 + (j : Int)), rfl, (i : Int), 1 + (j : Int), rfl, rfl, a, _, _, .int b, rfl, rfl, hSG, hat, _, b, rfl, rfl, _, 128, rfl, rfl, ?_⟩
                          refine ⟨_, _, _, bs ++ [b], by rw [List.length_append, hbl]; rfl, by rw [hfold]; rfl, smG, elG, by omega, ?_⟩
                          by_cases hj2 : (j + 1 : Nat) + 1 < 3
                          · rw [if_pos hj2]
                            rw [if_pos (decide_eq_true (by omega))] at hA
                            rw [hA, show (i : Int) + 1 + ((j + 1 : Nat) : Int) = (i : Int) + 1 + (j : Int) + 1 by omega]
                            rfl
                          · rw [if_neg hj2]
                            rw [if_neg (by intro z; exact hj2 (by have := of_decide_eq_true z; omega)), sg_fold (by rw [hk, hbl]; omega), hk] at hA
                            rw [hA, show (i : Int) + 1 + ((j + 1 : Nat) : Int) = (i : Int) + 1 + (j : Int) + 1 by omega]
                            rfl
                  · have hf3 : ¬ f = 237 := fun z => e (decide_eq_true (congrArg V.int z))
                    refine ⟨by show 2 ≤ sizeLine; decide, fun t2 ht2 => ?_⟩
                    have sG : Same Hd (upd Hd t2 (.tup [.int 128, .int 191])) := same_upd ht2
                    have eG : (upd Hd t2 (.tup [.int 128, .int 191])) t2 = some (.tup [.int 128, .int 191]) := upd_same
                    generalize upd Hd t2 (.tup [.int 128, .int 191]) = G at sG eG ⊢
                    refine ⟨t2, [.int 128, .int 191], rfl, .inl (.inl eG), rfl, _, _, rfl, _, _, rfl, rfl, ?_⟩
                    have smG := smd.trans sG
                    have elG := sG _ _ eld
                    have hSG := smG.seq hS
                    refine ⟨.int (i : Int), rfl, .int (1 + (j : Int)), rfl, (i : Int), 1 + (j : Int), rfl, rfl, .ref a, rfl, a, _, rfl, .inl hSG, _, _, rfl, rfl, _, rfl, ite2 (fun e => ?_) (fun e => ?_)⟩
                    · have h5 : ((cs.map V.int).length : Int) ≤ (i : Int) + (1 + (j : Int)) := of_decide_eq_true e
                      rw [List.length_map] at h5
                      have e5 : rd cs [] [] 0 = (sg, f :: bs, none) := by
                        rw [hA, List.drop_of_length_le (by omega)]
                        rfl
                      rw [e5] at q
                      exact ⟨.ref l, rfl, by show 3 ≤ sizeLine; decide, fun t ht => q _ t l (smG.trans (same_upd ht)) (Same.free smG ht) hl0 upd_same (by rw [upd_ne (ne_of_none elG ht)]; exact elG)⟩
                    · have h5 : ¬ ((cs.map V.int).length : Int) ≤ (i : Int) + (1 + (j : Int)) := fun z => e (decide_eq_true z)
                      rw [List.length_map] at h5
                      obtain ⟨b, hb', mb⟩ := get_of_lt (ns := cs) (i := i + 1 + j) (by omega)
                      have hat : atI (cs.map V.int) ((i : Int) + (1 + (j : Int))) = some (.int b) := by
                        rw [show (i : Int) + (1 + (j : Int)) = ((i + 1 + j : Nat) : Int) by omega]
                        exact at_ints hb'
                      rw [List.drop_eq_getElem_cons (by omega : i + 1 + j < cs.length), (List.getElem?_eq_some_iff.mp hb').2, rd] at hA
                      have hcan : canSt (f :: bs) b = (decide (128 ≤ b) && decide (b ≤ 191)) := by
                        rw [can_more, hbl, show loB f j = 128 from if_neg (fun z => hf2 z.2), show hiB f j = 191 from if_neg (fun z => hf3 z.2)]
                      have flt : canSt (f :: bs) b = false → ∀ Hx t, Same G Hx → Hx t = none → Q (.ref t) (upd Hx t (.tup [.ref l, .int ((i : Int) + (1 + (j : Int))), .bl false])) := fun hc Hx t sx ht => by
                        rw [if_neg (by rw [hc]; decide)] at hA
                        rw [hA] at q
                        have sy := smG.trans sx
                        have eq' : ((i : Int) + 1 + (j : Int)) = (i : Int) + (1 + (j : Int)) := by omega
                        refine q _ t l (sy.trans (same_upd ht)) (Same.free sy ht) hl0 ?_ (by rw [upd_ne (ne_of_none (sx _ _ elG) ht)]; exact sx _ _ elG)
                        rw [upd_same, ← eq']
                        rfl
                      refine ⟨.int 128, rfl, .ref a, rfl, .int (i : Int), rfl, .int (1 + (j : Int)), rfl, (i : Int), 1 + (j : Int), rfl, rfl, a, _, _, .int b, rfl, rfl, hSG, hat, 128, b, rfl, rfl, _, rfl, ?_⟩
                      cases hlo : decide ((128 : Int) ≤ b) with
                      | false =>
                        refine ⟨_, rfl, ?_⟩
                        exact ⟨.ref l, rfl, .int (i : Int), rfl, .int (1 + (j : Int)), rfl, (i : Int), 1 + (j : Int), rfl, rfl, by show 3 ≤ sizeLine; decide, fun t ht => flt (by rw [hcan, hlo]; rfl) _ t (Same.refl _) ht⟩
                      | true =>
                        refine ⟨.int 191, rfl, b, 191, rfl, rfl, _, rfl, ?_⟩
                        cases hhi : decide (b ≤ (191 : Int)) with
                        | false =>
                          exact ⟨.ref l, rfl, .int (i : Int), rfl, .int (1 + (j : Int)), rfl, (i : Int), 1 + (j : Int), rfl, rfl, by show 3 ≤ sizeLine; decide, fun t ht => flt (by rw [hcan, hlo, hhi]; rfl) _ t (Same.refl _) ht⟩
                        | true =>
                          rw [if_pos (by rw [hcan, hlo, hhi]; rfl), goes_more (by rw [hk]; decide), hbl, hk] at hA
                          have hfold : foldS (f - 224) (bs ++ [b]) = 64 * foldS (f - 224) bs + b - 128 := by
                            unfold foldS
                            rw [List.foldl_append]
                            rfl
                          refine ⟨.int _, rfl, 64, _, rfl, rfl, .inl ⟨by decide, by decide⟩, .ref a, rfl, .int (i : Int), rfl, .int (1 + (j : Int)), rfl, (i : Int), 1 + (j : Int), rfl, rfl, a, _, _, .int b, rfl, rfl, hSG, hat, _, b, rfl, rfl, _, 128, rfl, rfl, ?_⟩
                          refine ⟨_, _, _, bs ++ [b], by rw [List.length_append, hbl]; rfl, by rw [hfold]; rfl, smG, elG, by omega, ?_⟩
                          by_cases hj2 : (j + 1 : Nat) + 1 < 3
                          · rw [if_pos hj2]
                            rw [if_pos (decide_eq_true (by omega))] at hA
                            rw [hA, show (i : Int) + 1 + ((j + 1 : Nat) : Int) = (i : Int) + 1 + (j : Int) + 1 by omega]
                            rfl
                          · rw [if_neg hj2]
                            rw [if_neg (by intro z; exact hj2 (by have := of_decide_eq_true z; omega)), sg_fold (by rw [hk, hbl]; omega), hk] at hA
                            rw [hA, show (i : Int) + 1 + ((j + 1 : Nat) : Int) = (i : Int) + 1 + (j : Int) + 1 by omega]
                            rfl
              · have hj0 : ¬ j = 0 := fun z => e (decide_eq_true (by rw [z]; rfl))
                refine ⟨by show 2 ≤ sizeLine; decide, fun t2 ht2 => ?_⟩
                have sG : Same Hd (upd Hd t2 (.tup [.int 128, .int 191])) := same_upd ht2
                have eG : (upd Hd t2 (.tup [.int 128, .int 191])) t2 = some (.tup [.int 128, .int 191]) := upd_same
                generalize upd Hd t2 (.tup [.int 128, .int 191]) = G at sG eG ⊢
                refine ⟨t2, [.int 128, .int 191], rfl, .inl (.inl eG), rfl, _, _, rfl, _, _, rfl, rfl, ?_⟩
                have smG := smd.trans sG
                have elG := sG _ _ eld
                have hSG := smG.seq hS
                refine ⟨.int (i : Int), rfl, .int (1 + (j : Int)), rfl, (i : Int), 1 + (j : Int), rfl, rfl, .ref a, rfl, a, _, rfl, .inl hSG, _, _, rfl, rfl, _, rfl, ite2 (fun e => ?_) (fun e => ?_)⟩
                · have h5 : ((cs.map V.int).length : Int) ≤ (i : Int) + (1 + (j : Int)) := of_decide_eq_true e
                  rw [List.length_map] at h5
                  have e5 : rd cs [] [] 0 = (sg, f :: bs, none) := by
                    rw [hA, List.drop_of_length_le (by omega)]
                    rfl
                  rw [e5] at q
                  exact ⟨.ref l, rfl, by show 3 ≤ sizeLine; decide, fun t ht => q _ t l (smG.trans (same_upd ht)) (Same.free smG ht) hl0 upd_same (by rw [upd_ne (ne_of_none elG ht)]; exact elG)⟩
                · have h5 : ¬ ((cs.map V.int).length : Int) ≤ (i : Int) + (1 + (j : Int)) := fun z => e (decide_eq_true z)
                  rw [List.length_map] at h5
                  obtain ⟨b, hb', mb⟩ := get_of_lt (ns := cs) (i := i + 1 + j) (by omega)
                  have hat : atI (cs.map V.int) ((i : Int) + (1 + (j : Int))) = some (.int b) := by
                    rw [show (i : Int) + (1 + (j : Int)) = ((i + 1 + j : Nat) : Int) by omega]
                    exact at_ints hb'
                  rw [List.drop_eq_getElem_cons (by omega : i + 1 + j < cs.length), (List.getElem?_eq_some_iff.mp hb').2, rd] at hA
                  have hcan : canSt (f :: bs) b = (decide (128 ≤ b) && decide (b ≤ 191)) := by
                    rw [can_more, hbl, show loB f j = 128 from if_neg (fun z => hj0 z.1), show hiB f j = 191 from if_neg (fun z => hj0 z.1)]
                  have flt : canSt (f :: bs) b = false → ∀ Hx t, Same G Hx → Hx t = none → Q (.ref t) (upd Hx t (.tup [.ref l, .int ((i : Int) + (1 + (j : Int))), .bl false])) := fun hc Hx t sx ht => by
                    rw [if_neg (by rw [hc]; decide)] at hA
                    rw [hA] at q
                    have sy := smG.trans sx
                    have eq' : ((i : Int) + 1 + (j : Int)) = (i : Int) + (1 + (j : Int)) := by omega
                    refine q _ t l (sy.trans (same_upd ht)) (Same.free sy ht) hl0 ?_ (by rw [upd_ne (ne_of_none (sx _ _ elG) ht)]; exact sx _ _ elG)
                    rw [upd_same, ← eq']
                    rfl
                  refine ⟨.int 128, rfl, .ref a, rfl, .int (i : Int), rfl, .int (1 + (j : Int)), rfl, (i : Int), 1 + (j : Int), rfl, rfl, a, _, _, .int b, rfl, rfl, hSG, hat, 128, b, rfl, rfl, _, rfl, ?_⟩
                  cases hlo : decide ((128 : Int) ≤ b) with
                  | false =>
                    refine ⟨_, rfl, ?_⟩
                    exact ⟨.ref l, rfl, .int (i : Int), rfl, .int (1 + (j : Int)), rfl, (i : Int), 1 + (j : Int), rfl, rfl, by show 3 ≤ sizeLine; decide, fun t ht => flt (by rw [hcan, hlo]; rfl) _ t (Same.refl _) ht⟩
                  | true =>
                    refine ⟨.int 191, rfl, b, 191, rfl, rfl, _, rfl, ?_⟩
                    cases hhi : decide (b ≤ (191 : Int)) with
                    | false =>
                      exact ⟨.ref l, rfl, .int (i : Int), rfl, .int (1 + (j : Int)), rfl, (i : Int), 1 + (j : Int), rfl, rfl, by show 3 ≤ sizeLine; decide, fun t ht => flt (by rw [hcan, hlo, hhi]; rfl) _ t (Same.refl _) ht⟩
                    | true =>
                      rw [if_pos (by rw [hcan, hlo, hhi]; rfl), goes_more (by rw [hk]; decide), hbl, hk] at hA
                      have hfold : foldS (f - 224) (bs ++ [b]) = 64 * foldS (f - 224) bs + b - 128 := by
                        unfold foldS
                        rw [List.foldl_append]
                        rfl
                      refine ⟨.int _, rfl, 64, _, rfl, rfl, .inl ⟨by decide, by decide⟩, .ref a, rfl, .int (i : Int), rfl, .int (1 + (j : Int)), rfl, (i : Int), 1 + (j : Int), rfl, rfl, a, _, _, .int b, rfl, rfl, hSG, hat, _, b, rfl, rfl, _, 128, rfl, rfl, ?_⟩
                      refine ⟨_, _, _, bs ++ [b], by rw [List.length_append, hbl]; rfl, by rw [hfold]; rfl, smG, elG, by omega, ?_⟩
                      by_cases hj2 : (j + 1 : Nat) + 1 < 3
                      · rw [if_pos hj2]
                        rw [if_pos (decide_eq_true (by omega))] at hA
                        rw [hA, show (i : Int) + 1 + ((j + 1 : Nat) : Int) = (i : Int) + 1 + (j : Int) + 1 by omega]
                        rfl
                      · rw [if_neg hj2]
                        rw [if_neg (by intro z; exact hj2 (by have := of_decide_eq_true z; omega)), sg_fold (by rw [hk, hbl]; omega), hk] at hA
                        rw [hA, show (i : Int) + 1 + ((j + 1 : Nat) : Int) = (i : Int) + 1 + (j : Int) + 1 by omega]
                        rfl
            · rintro σ Hd ⟨y6, y7, y8, bs, hbl, rfl, smd, eld, hil, hA⟩
              rw [if_neg (by decide)] at hA
              refine ⟨.ref l, rfl, .inl ⟨rfl, _, sq1 eld⟩, .int _, rfl, l, _, _, rfl, rfl, eld, (by rw [List.length_map, sizeLine_eq]; omega), ?_⟩
              refine ⟨.int (i : Int), rfl, .int 3, rfl, (i : Int), 3, rfl, rfl, ?_⟩
              refine ⟨_, _, _, _, _, _, sg ++ [foldS (f - 224) bs], i + 3, by omega, by omega, rfl, Same.mut smd hl0, ?_, by rw [List.length_append]; show _ + 1 ≤ _; omega, ?_⟩
              · rw [upd_same, List.map_append]
                rfl
              · rw [hA]
                rfl
      | true =>
        refine ⟨f, 224, rfl, rfl, _, rfl, ?_⟩
        cases k2 : decide (f < (224 : Int)) with
        | false =>
          have g2 : ¬ (194 ≤ f ∧ f < 224) := fun z => absurd z.2 (of_decide_eq_false k2)
          refine ⟨.int f, rfl, 224, f, rfl, rfl, _, rfl, ?_⟩
          cases k1 : decide ((224 : Int) ≤ f) with
          | false =>
            have hk : cnt f = 0 := by
              have := of_decide_eq_false k1
              unfold cnt
              rw [if_neg g1, if_neg g2, if_neg (by omega)]
            refine ⟨_, rfl, ?_⟩
            exact ⟨.int 0, rfl, rfl, _, rfl, .ref l, rfl, .int (i : Int), rfl, by show 3 ≤ sizeLine; decide, fun t ht => zero hk _ t (Same.refl _) ht⟩
          | true =>
            refine ⟨f, 240, rfl, rfl, _, rfl, ?_⟩
            cases k2 : decide (f < (240 : Int)) with
            | false =>
              have hk : cnt f = 0 := by
                have := of_decide_eq_false k2
                unfold cnt
                rw [if_neg g1, if_neg g2, if_neg (by omega)]
              exact ⟨.int 0, rfl, rfl, _, rfl, .ref l, rfl, .int (i : Int), rfl, by show 3 ≤ sizeLine; decide, fun t ht => zero hk _ t (Same.refl _) ht⟩
            | true =>
              have g3 := of_decide_eq_true k1
              have g4 := of_decide_eq_true k2
              have hk : cnt f = 3 := by
                unfold cnt
                rw [if_neg g1, if_neg g2, if_pos ⟨g3, g4⟩]
              refine ⟨.int 3, rfl, rfl, _, rfl, ?_⟩
              refine ⟨.int f, rfl, by show 4 ≤ sizeLine; decide, fun l2 hl2 => ?_⟩
              have sH2 : Same Hc (upd Hc l2 (.lst [.int 0, .int 0, .int 192, .int 224])) := same_upd hl2
              have eH2 : (upd Hc l2 (.lst [.int 0, .int 0, .int 192, .int 224])) l2 = some (.lst [.int 0, .int 0, .int 192, .int 224]) := upd_same
              generalize upd Hc l2 (.lst [.int 0, .int 0, .int 192, .int 224]) = H2 at sH2 eH2 ⊢
              replace el := sH2 _ _ el
              replace sm := sm.trans sH2
              refine ⟨.int 3, rfl, l2, _, 3, .int 224, rfl, rfl, sq1 eH2, rfl, f, 224, rfl, rfl, ?_⟩
              refine ⟨.int 3, rfl, 1, 3, rfl, ⟨by decide, by decide, by decide, by decide⟩, ?_⟩
              refine for_it (walk_range (lo := 1) (n := 2)) (fun j σ Hd => ∃ (y6 y7 y8 : Option V) (bs : List Int), bs.length = j ∧ σ = [some (.ref a), some (.ref l), some (.int (i : Int)), some (.int f), some (.int 3), some (.int (foldS (f - 224) bs)), y6, y7, y8] ∧ Same H Hd ∧ Hd l = some (.lst (sg.map V.int)) ∧ i + 1 + j ≤ cs.length ∧
                (if j + 1 < 3 then rd cs [] [] 0 = rd (cs.drop (i + 1 + j)) sg (f :: bs) ((i : Int) + 1 + (j : Int)) else rd cs [] [] 0 = rd (cs.drop (i + 1 + j)) (sg ++ [foldS (f - 224) bs]) [] ((i : Int) + 1 + (j : Int)))) ?_ (fun _ _ _ _ _ => trivial) ?_ ?_
              · refine ⟨_, _, _, [], rfl, rfl, sm, el, by omega, ?_⟩
                rw [if_pos (by decide)]
                rw [hrd, rd, if_pos (by rw [can_first bf.1, hk]; rfl), if_pos (by rw [goes_first (by rw [hk]; decide), hk]; rfl), show (i : Int) + 1 + ((0 : Nat) : Int) = (i : Int) + 1 by omega]
                rfl
              · rintro j x σ Hd H' hj ⟨y6, y7, y8, bs, hbl, rfl, smd, eld, hil, hA⟩ ⟨rfl, rfl⟩
                have hj1 : j + 1 < 3 := by
                  have z : j < 2 := hj
                  omega
                rw [if_pos hj1] at hA
                generalize hHd : H' = Hd at smd eld ⊢
                clear hHd
                refine ⟨.int (1 + (j : Int)), rfl, rfl, _, rfl, ite2 (fun e => ?_) (fun e => ?_)⟩
                · have hj0 : j = 0 := by
                    have := V.int.inj (of_decide_eq_true e)
                    omega
                  refine ⟨.int f, rfl, rfl, _, rfl, ite2 (fun e => ?_) (fun e => ?_)⟩
                  · have hf2 : f = 224 := V.int.inj (of_decide_eq_true e)
                    refine ⟨.int f, rfl, rfl, _, rfl, ite2 (fun e => absurd (V.int.inj (of_decide_eq_true e)) (by omega)) (fun e => ?_)⟩
                    refine ⟨by show 2 ≤ sizeLine; decide, fun t2 ht2 => ?_⟩
                    have sG : Same Hd (upd Hd t2 (.tup [.int 160, .int 191])) := same_upd ht2
                    have eG : (upd Hd t2 (.tup [.int 160, .int 191])) t2 = some (.tup [.int 160, .int 191]) := upd_same
                    generalize upd Hd t2 (.tup [.int 160, .int 191]) = G at sG eG ⊢
                    refine ⟨t2, [.int 160, .int 191], rfl, .inl (.inl eG), rfl, _, _, rfl, _, _, rfl, rfl, ?_⟩
                    have smG := smd.trans sG
                    have elG := sG _ _ eld
                    have hSG := smG.seq hS
                    refine ⟨.int (i : Int), rfl, .int (1 + (j : Int)), rfl, (i : Int), 1 + (j : Int), rfl, rfl, .ref a, rfl, a, _, rfl, .inl hSG, _, _, rfl, rfl, _, rfl, ite2 (fun e => ?_) (fun e => ?_)⟩
                    · have h5 : ((cs.map V.int).length : Int) ≤ (i : Int) + (1 + (j : Int)) := of_decide_eq_true e
                      rw [List.length_map] at h5
                      have e5 : rd cs [] [] 0 = (sg, f :: bs, none) := by
                        rw [hA, List.drop_of_length_le (by omega)]
                        rfl
                      rw [e5] at q
                      exact ⟨.ref l, rfl, by show 3 ≤ sizeLine; decide, fun t ht => q _ t l (smG.trans (same_upd ht)) (Same.free smG ht) hl0 upd_same (by rw [upd_ne (ne_of_none elG ht)]; exact elG)⟩
                    · have h5 : ¬ ((cs.map V.int).length : Int) ≤ (i : Int) + (1 + (j : Int)) := fun z => e (decide_eq_true z)
                      rw [List.length_map] at h5
                      obtain ⟨b, hb', mb⟩ := get_of_lt (ns := cs) (i := i + 1 + j) (by omega)
                      have hat : atI (cs.map V.int) ((i : Int) + (1 + (j : Int))) = some (.int b) := by
                        rw [show (i : Int) + (1 + (j : Int)) = ((i + 1 + j : Nat) : Int) by omega]
                        exact at_ints hb'
                      rw [List.drop_eq_getElem_cons (by omega : i + 1 + j < cs.length), (List.getElem?_eq_some_iff.mp hb').2, rd] at hA
                      have hcan : canSt (f :: bs) b = (decide (160 ≤ b) && decide (b ≤ 191)) := by
                        rw [can_more, hbl, show loB f j = 160 from if_pos ⟨hj0, hf2⟩, show hiB f j = 191 from if_neg (fun z => by omega)]
                      have flt : canSt (f :: bs) b = false → ∀ Hx t, Same G Hx → Hx t = none → Q (.ref t) (upd Hx t (.tup [.ref l, .int ((i : Int) + (1 + (j : Int))), .bl false])) := fun hc Hx t sx ht => by
                        rw [if_neg (by rw [hc]; decide)] at hA
                        rw [hA] at q
                        have sy := smG.trans sx
                        have eq' : ((i : Int) + 1 + (j : Int)) = (i : Int) + (1 + (j : Int)) := by omega
                        refine q _ t l (sy.trans (same_upd ht)) (Same.free sy ht) hl0 ?_ (by rw [upd_ne (ne_of_none (sx _ _ elG) ht)]; exact sx _ _ elG)
                        rw [upd_same, ← eq']
                        rfl
                      refine ⟨.int 160, rfl, .ref a, rfl, .int (i : Int), rfl, .int (1 + (j : Int)), rfl, (i : Int), 1 + (j : Int), rfl, rfl, a, _, _, .int b, rfl, rfl, hSG, hat, 160, b, rfl, rfl, _, rfl, ?_⟩
                      cases hlo : decide ((160 : Int) ≤ b) with
                      | false =>
                        refine ⟨_, rfl, ?_⟩
                        exact ⟨.ref l, rfl, .int (i : Int), rfl, .int (1 + (j : Int)), rfl, (i : Int), 1 + (j : Int), rfl, rfl, by show 3 ≤ sizeLine; decide, fun t ht => flt (by rw [hcan, hlo]; rfl) _ t (Same.refl _) ht⟩
                      | true =>
                        refine ⟨.int 191, rfl, b, 191, rfl, rfl, _, rfl, ?_⟩
                        cases hhi : decide (b ≤ (191 : Int)) with
                        | false =>
                          exact ⟨.ref l, rfl, .int (i : Int), rfl, .int (1 + (j : Int)), rfl, (i : Int), 1 + (j : Int), rfl, rfl, by show 3 ≤ sizeLine; decide, fun t ht => flt (by rw [hcan, hlo, hhi]; rfl) _ t (Same.refl _) ht⟩
                        | true =>
                          rw [if_pos (by rw [hcan, hlo, hhi]; rfl), goes_more (by rw [hk]; decide), hbl, hk] at hA
                          have hfold : foldS (f - 224) (bs ++ [b]) = 64 * foldS (f - 224) bs + b - 128 := by
                            unfold foldS
                            rw [List.foldl_append]
                            rfl
                          refine ⟨.int _, rfl, 64, _, rfl, rfl, .inl ⟨by decide, by decide⟩, .ref a, rfl, .int (i : Int), rfl, .int (1 + (j : Int)), rfl, (i : Int), 1 + (j : Int), rfl, rfl, a, _, _, .int b, rfl, rfl, hSG, hat, _, b, rfl, rfl, _, 128, rfl, rfl, ?_⟩
                          refine ⟨_, _, _, bs ++ [b], by rw [List.length_append, hbl]; rfl, by rw [hfold]; rfl, smG, elG, by omega, ?_⟩
                          by_cases hj2 : (j + 1 : Nat) + 1 < 3
                          · rw [if_pos hj2]
                            rw [if_pos (decide_eq_true (by omega))] at hA
                            rw [hA, show (i : Int) + 1 + ((j + 1 : Nat) : Int) = (i : Int) + 1 + (j : Int) + 1 by omega]
                            rfl
                          · rw [if_neg hj2]
                            rw [if_neg (by intro z; exact hj2 (by have := of_decide_eq_true z; omega)), sg_fold (by rw [hk, hbl]; omega), hk] at hA
                            rw [hA, show (i : Int) + 1 + ((j + 1 : Nat) : Int) = (i : Int) + 1 + (j : Int) + 1 by omega]
                            rfl
                  · have hf2 : ¬ f = 224 := fun z => e (decide_eq_true (congrArg V.int z))
                    refine ⟨.int f, rfl, rfl, _, rfl, ite2 (fun e => ?_) (fun e => ?_)⟩
                    · have hf3 : f = 237 := V.int.inj (of_decide_eq_true e)
                      refine ⟨by show 2 ≤ sizeLine; decide, fun t2 ht2 => ?_⟩
                      have sG : Same Hd (upd Hd t2 (.tup [.int 128, .int 159])) := same_upd ht2
                      have eG : (upd Hd t2 (.tup [.int 128, .int 159])) t2 = some (.tup [.int 128, .int 159]) := upd_same
                      generalize upd Hd t2 (.tup [.int 128, .int 159]) = G at sG eG ⊢
                      refine ⟨t2, [.int 128, .int 159], rfl, .inl (.inl eG), rfl, _, _, rfl, _, _, rfl, rfl, ?_⟩
                      have smG := smd.trans sG
                      have elG := sG _ _ eld
                      have hSG := smG.seq hS
                      refine ⟨.int (i : Int), rfl, .int (1 + (j : Int)), rfl, (i : Int), 1 + (j : Int), rfl, rfl, .ref a, rfl, a, _, rfl, .inl hSG, _, _, rfl, rfl, _, rfl, ite2 (fun e => ?_) (fun e => ?_)⟩
                      · have h5 : ((cs.map V.int).length : Int) ≤ (i : Int) + (1 + (j : Int)) := of_decide_eq_true e
                        rw [List.length_map] at h5
                        have e5 : rd cs [] [] 0 = (sg, f :: bs, none) := by
                          rw [hA, List.drop_of_length_le (by omega)]
                          rfl
                        rw [e5] at q
                        exact ⟨.ref l, rfl, by show 3 ≤ sizeLine; decide, fun t ht => q _ t l (smG.trans (same_upd ht)) (Same.free smG ht) hl0 upd_same (by rw [upd_ne (ne_of_none elG ht)]; exact elG)⟩
                      · have h5 : ¬ ((cs.map V.int).length : Int) ≤ (i : Int) + (1 + (j : Int)) := fun z => e (decide_eq_true z)
                        rw [List.length_map] at h5
                        obtain ⟨b, hb', mb⟩ := get_of_lt (ns := cs) (i := i + 1 + j) (by omega)
                        have hat : atI (cs.map V.int) ((i : Int) + (1 + (j : Int))) = some (.int b) := by
                          rw [show (i : Int) + (1 + (j : Int)) = ((i + 1 + j : Nat) : Int) by omega]
                          exact at_ints hb'
                        rw [List.drop_eq_getElem_cons (by omega : i + 1 + j < cs.length), (List.getElem?_eq_some_iff.mp hb').2, rd] at hA
                        have hcan : canSt (f :: bs) b = (decide (128 ≤ b) && decide (b ≤ 159)) := by
                          rw [can_more, hbl, show loB f j = 128 from if_neg (fun z => hf2 z.2), show hiB f j = 159 from if_pos ⟨hj0, hf3⟩]
                        have flt : canSt (f :: bs) b = false → ∀ Hx t, Same G Hx → Hx t = none → Q (.ref t) (upd Hx t (.tup [.ref l, .int ((i : Int) + (1 + (j : Int))), .bl false])) := fun hc Hx t sx ht => by
                          rw [if_neg (by rw [hc]; decide)] at hA
                          rw [hA] at q
                          have sy := smG.trans sx
                          have eq' : ((i : Int) + 1 + (j : Int)) = (i : Int) + (1 + (j : Int)) := by omega
                          refine q _ t l (sy.trans (same_upd ht)) (Same.free sy ht) hl0 ?_ (by rw [upd_ne (ne_of_none (sx _ _ elG) ht)]; exact sx _ _ elG)
                          rw [upd_same, ← eq']
                          rfl
                        refine ⟨.int 128, rfl, .ref a, rfl, .int (i : Int), rfl, .int (1 + (j : Int)), rfl, (i : Int), 1 + (j : Int), rfl, rfl, a, _, _, .int b, rfl, rfl, hSG, hat, 128, b, rfl, rfl, _, rfl, ?_⟩
                        cases hlo : decide ((128 : Int) ≤ b) with
                        | false =>
                          refine ⟨_, rfl, ?_⟩
                          exact ⟨.ref l, rfl, .int (i : Int), rfl, .int (1 + (j : Int)), rfl, (i : Int), 1 + (j : Int), rfl, rfl, by show 3 ≤ sizeLine; decide, fun t ht => flt (by rw [hcan, hlo]; rfl) _ t (Same.refl _) ht⟩
                        | true =>
                          refine ⟨.int 159, rfl, b, 159, rfl, rfl, _, rfl, ?_⟩
                          cases hhi : decide (b ≤ (159 : Int)) with
                          | false =>
                            exact ⟨.ref l, rfl, .int (i : Int), rfl, .int (1 + (j : Int)), rfl, (i : Int), 1 + (j : Int), rfl, rfl, by show 3 ≤ sizeLine; decide, fun t ht => flt (by rw [hcan, hlo, hhi]; rfl) _ t (Same.refl _) ht⟩
                          | true =>
                            rw [if_pos (by rw [hcan, hlo, hhi]; rfl), goes_more (by rw [hk]; decide), hbl, hk] at hA
                            have hfold : foldS (f - 224) (bs ++ [b]) = 64 * foldS (f - 224) bs + b - 128 := by
                              unfold foldS
                              rw [List.foldl_append]
                              rfl
                            refine ⟨.int _, rfl, 64, _, rfl, rfl, .inl ⟨by decide, by decide⟩, .ref a, rfl, .int (i : Int), rfl, .int (1 + (j : Int)), rfl, (i : Int), 1 + (j : Int), rfl, rfl, a, _, _, .int b, rfl, rfl, hSG, hat, _, b, rfl, rfl, _, 128, rfl, rfl, ?_⟩
                            refine ⟨_, _, _, bs ++ [b], by rw [List.length_append, hbl]; rfl, by rw [hfold]; rfl, smG, elG, by omega, ?_⟩
                            by_cases hj2 : (j + 1 : Nat) + 1 < 3
                            · rw [if_pos hj2]
                              rw [if_pos (decide_eq_true (by omega))] at hA
                              rw [hA, show (i : Int) + 1 + ((j + 1 : Nat) : Int) = (i : Int) + 1 + (j : Int) + 1 by omega]
                              rfl
                            · rw [if_neg hj2]
                              rw [if_neg (by intro z; exact hj2 (by have := of_decide_eq_true z; omega)), sg_fold (by rw [hk, hbl]; omega), hk] at hA
                              rw [hA, show (i : Int) + 1 + ((j + 1 : Nat) : Int) = (i : Int) + 1 + (j : Int) + 1 by omega]
                              rfl
                    · have hf3 : ¬ f = 237 := fun z => e (decide_eq_true (congrArg V.int z))
                      refine ⟨by show 2 ≤ sizeLine; decide, fun t2 ht2 => ?_⟩
                      have sG : Same Hd (upd Hd t2 (.tup [.int 128, .int 191])) := same_upd ht2
                      have eG : (upd Hd t2 (.tup [.int 128, .int 191])) t2 = some (.tup [.int 128, .int 191]) := upd_same
                      generalize upd Hd t2 (.tup [.int 128, .int 191]) = G at sG eG ⊢
                      refine ⟨t2, [.int 128, .int 191], rfl, .inl (.inl eG), rfl, _, _, rfl, _, _, rfl, rfl, ?_⟩
                      have smG := smd.trans sG
                      have elG := sG _ _ eld
                      have hSG := smG.seq hS
                      refine ⟨.int (i : Int), rfl, .int (1 + (j : Int)), rfl, (i : Int), 1 + (j : Int), rfl, rfl, .ref a, rfl, a, _, rfl, .inl hSG, _, _, rfl, rfl, _, rfl, ite2 (fun e => ?_) (fun e => ?_)⟩
                      · have h5 : ((cs.map V.int).length : Int) ≤ (i : Int) + (1 + (j : Int)) := of_decide_eq_true e
                        rw [List.length_map] at h5
                        have e5 : rd cs [] [] 0 = (sg, f :: bs, none) := by
                          rw [hA, List.drop_of_length_le (by omega)]
                          rfl
                        rw [e5] at q
                        exact ⟨.ref l, rfl, by show 3 ≤ sizeLine; decide, fun t ht => q _ t l (smG.trans (same_upd ht)) (Same.free smG ht) hl0 upd_same (by rw [upd_ne (ne_of_none elG ht)]; exact elG)⟩
                      · have h5 : ¬ ((cs.map V.int).length : Int) ≤ (i : Int) + (1 + (j : Int)) := fun z => e (decide_eq_true z)
                        rw [List.length_map] at h5
                        obtain ⟨b, hb', mb⟩ := get_of_lt (ns := cs) (i := i + 1 + j) (by omega)
                        have hat : atI (cs.map V.int) ((i : Int) + (1 + (j : Int))) = some (.int b) := by
                          rw [show (i : Int) + (1 + (j : Int)) = ((i + 1 + j : Nat) : Int) by omega]
                          exact at_ints hb'
                        rw [List.drop_eq_getElem_cons (by omega : i + 1 + j < cs.length), (List.getElem?_eq_some_iff.mp hb').2, rd] at hA
                        have hcan : canSt (f :: bs) b = (decide (128 ≤ b) && decide (b ≤ 191)) := by
                          rw [can_more, hbl, show loB f j = 128 from if_neg (fun z => hf2 z.2), show hiB f j = 191 from if_neg (fun z => hf3 z.2)]
                        have flt : canSt (f :: bs) b = false → ∀ Hx t, Same G Hx → Hx t = none → Q (.ref t) (upd Hx t (.tup [.ref l, .int ((i : Int) + (1 + (j : Int))), .bl false])) := fun hc Hx t sx ht => by
                          rw [if_neg (by rw [hc]; decide)] at hA
                          rw [hA] at q
                          have sy := smG.trans sx
                          have eq' : ((i : Int) + 1 + (j : Int)) = (i : Int) + (1 + (j : Int)) := by omega
                          refine q _ t l (sy.trans (same_upd ht)) (Same.free sy ht) hl0 ?_ (by rw [upd_ne (ne_of_none (sx _ _ elG) ht)]; exact sx _ _ elG)
                          rw [upd_same, ← eq']
                          rfl
                        refine ⟨.int 128, rfl, .ref a, rfl, .int (i : Int), rfl, .int (1 + (j : Int)), rfl, (i : Int), 1 + (j : Int), rfl, rfl, a, _, _, .int b, rfl, rfl, hSG, hat, 128, b, rfl, rfl, _, rfl, ?_⟩
                        cases hlo : decide ((128 : Int) ≤ b) with
                        | false =>
                          refine ⟨_, rfl, ?_⟩
                          exact ⟨.ref l, rfl, .int (i : Int), rfl, .int (1 + (j : Int)), rfl, (i : Int), 1 + (j : Int), rfl, rfl, by show 3 ≤ sizeLine; decide, fun t ht => flt (by rw [hcan, hlo]; rfl) _ t (Same.refl _) ht⟩
                        | true =>
                          refine ⟨.int 191, rfl, b, 191, rfl, rfl, _, rfl, ?_⟩
                          cases hhi : decide (b ≤ (191 : Int)) with
                          | false =>
                            exact ⟨.ref l, rfl, .int (i : Int), rfl, .int (1 + (j : Int)), rfl, (i : Int), 1 + (j : Int), rfl, rfl, by show 3 ≤ sizeLine; decide, fun t ht => flt (by rw [hcan, hlo, hhi]; rfl) _ t (Same.refl _) ht⟩
                          | true =>
                            rw [if_pos (by rw [hcan, hlo, hhi]; rfl), goes_more (by rw [hk]; decide), hbl, hk] at hA
                            have hfold : foldS (f - 224) (bs ++ [b]) = 64 * foldS (f - 224) bs + b - 128 := by
                              unfold foldS
                              rw [List.foldl_append]
                              rfl
                            refine ⟨.int _, rfl, 64, _, rfl, rfl, .inl ⟨by decide, by decide⟩, .ref a, rfl, .int (i : Int), rfl, .int (1 + (j : Int)), rfl, (i : Int), 1 + (j : Int), rfl, rfl, a, _, _, .int b, rfl, rfl, hSG, hat, _, b, rfl, rfl, _, 128, rfl, rfl, ?_⟩
                            refine ⟨_, _, _, bs ++ [b], by rw [List.length_append, hbl]; rfl, by rw [hfold]; rfl, smG, elG, by omega, ?_⟩
                            by_cases hj2 : (j + 1 : Nat) + 1 < 3
                            · rw [if_pos hj2]
                              rw [if_pos (decide_eq_true (by omega))] at hA
                              rw [hA, show (i : Int) + 1 + ((j + 1 : Nat) : Int) = (i : Int) + 1 + (j : Int) + 1 by omega]
                              rfl
                            · rw [if_neg hj2]
                              rw [if_neg (by intro z; exact hj2 (by have := of_decide_eq_true z; omega)), sg_fold (by rw [hk, hbl]; omega), hk] at hA
                              rw [hA, show (i : Int) + 1 + ((j + 1 : Nat) : Int) = (i : Int) + 1 + (j : Int) + 1 by omega]
                              rfl
                · have hj0 : ¬ j = 0 := fun z => e (decide_eq_true (by rw [z]; rfl))
                  refine ⟨by show 2 ≤ sizeLine; decide, fun t2 ht2 => ?_⟩
                  have sG : Same Hd (upd Hd t2 (.tup [.int 128, .int 191])) := same_upd ht2
                  have eG : (upd Hd t2 (.tup [.int 128, .int 191])) t2 = some (.tup [.int 128, .int 191]) := upd_same
                  generalize upd Hd t2 (.tup [.int 128, .int 191]) = G at sG eG ⊢
                  refine ⟨t2, [.int 128, .int 191], rfl, .inl (.inl eG), rfl, _, _, rfl, _, _, rfl, rfl, ?_⟩
                  have smG := smd.trans sG
                  have elG := sG _ _ eld
                  have hSG := smG.seq hS
                  refine ⟨.int (i : Int), rfl, .int (1 + (j : Int)), rfl, (i : Int), 1 + (j : Int), rfl, rfl, .ref a, rfl, a, _, rfl, .inl hSG, _, _, rfl, rfl, _, rfl, ite2 (fun e => ?_) (fun e => ?_)⟩
                  · have h5 : ((cs.map V.int).length : Int) ≤ (i : Int) + (1 + (j : Int)) := of_decide_eq_true e
                    rw [List.length_map] at h5
                    have e5 : rd cs [] [] 0 = (sg, f :: bs, none) := by
                      rw [hA, List.drop_of_length_le (by omega)]
                      rfl
                    rw [e5] at q
                    exact ⟨.ref l, rfl, by show 3 ≤ sizeLine; decide, fun t ht => q _ t l (smG.trans (same_upd ht)) (Same.free smG ht) hl0 upd_same (by rw [upd_ne (ne_of_none elG ht)]; exact elG)⟩
                  · have h5 : ¬ ((cs.map V.int).length : Int) ≤ (i : Int) + (1 + (j : Int)) := fun z => e (decide_eq_true z)
                    rw [List.length_map] at h5
                    obtain ⟨b, hb', mb⟩ := get_of_lt (ns := cs) (i := i + 1 + j) (by omega)
                    have hat : atI (cs.map V.int) ((i : Int) + (1 + (j : Int))) = some (.int b) := by
                      rw [show (i : Int) + (1 + (j : Int)) = ((i + 1 + j : Nat) : Int) by omega]
                      exact at_ints hb'
                    rw [List.drop_eq_getElem_cons (by omega : i + 1 + j < cs.length), (List.getElem?_eq_some_iff.mp hb').2, rd] at hA
                    have hcan : canSt (f :: bs) b = (decide (128 ≤ b) && decide (b ≤ 191)) := by
                      rw [can_more, hbl, show loB f j = 128 from if_neg (fun z => hj0 z.1), show hiB f j = 191 from if_neg (fun z => hj0 z.1)]
                    have flt : canSt (f :: bs) b = false → ∀ Hx t, Same G Hx → Hx t = none → Q (.ref t) (upd Hx t (.tup [.ref l, .int ((i : Int) + (1 + (j : Int))), .bl false])) := fun hc Hx t sx ht => by
                      rw [if_neg (by rw [hc]; decide)] at hA
                      rw [hA] at q
                      have sy := smG.trans sx
                      have eq' : ((i : Int) + 1 + (j : Int)) = (i : Int) + (1 + (j : Int)) := by omega
                      refine q _ t l (sy.trans (same_upd ht)) (Same.free sy ht) hl0 ?_ (by rw [upd_ne (ne_of_none (sx _ _ elG) ht)]; exact sx _ _ elG)
                      rw [upd_same, ← eq']
                      rfl
                    refine ⟨.int 128, rfl, .ref a, rfl, .int (i : Int), rfl, .int (1 + (j : Int)), rfl, (i : Int), 1 + (j : Int), rfl, rfl, a, _, _, .int b, rfl, rfl, hSG, hat, 128, b, rfl, rfl, _, rfl, ?_⟩
                    cases hlo : decide ((128 : Int) ≤ b) with
                    | false =>
                      refine ⟨_, rfl, ?_⟩
                      exact ⟨.ref l, rfl, .int (i : Int), rfl, .int (1 + (j : Int)), rfl, (i : Int), 1 + (j : Int), rfl, rfl, by show 3 ≤ sizeLine; decide, fun t ht => flt (by rw [hcan, hlo]; rfl) _ t (Same.refl _) ht⟩
                    | true =>
                      refine ⟨.int 191, rfl, b, 191, rfl, rfl, _, rfl, ?_⟩
                      cases hhi : decide (b ≤ (191 : Int)) with
                      | false =>
                        exact ⟨.ref l, rfl, .int (i : Int), rfl, .int (1 + (j : Int)), rfl, (i : Int), 1 + (j : Int), rfl, rfl, by show 3 ≤ sizeLine; decide, fun t ht => flt (by rw [hcan, hlo, hhi]; rfl) _ t (Same.refl _) ht⟩
                      | true =>
                        rw [if_pos (by rw [hcan, hlo, hhi]; rfl), goes_more (by rw [hk]; decide), hbl, hk] at hA
                        have hfold : foldS (f - 224) (bs ++ [b]) = 64 * foldS (f - 224) bs + b - 128 := by
                          unfold foldS
                          rw [List.foldl_append]
                          rfl
                        refine ⟨.int _, rfl, 64, _, rfl, rfl, .inl ⟨by decide, by decide⟩, .ref a, rfl, .int (i : Int), rfl, .int (1 + (j : Int)), rfl, (i : Int), 1 + (j : Int), rfl, rfl, a, _, _, .int b, rfl, rfl, hSG, hat, _, b, rfl, rfl, _, 128, rfl, rfl, ?_⟩
                        refine ⟨_, _, _, bs ++ [b], by rw [List.length_append, hbl]; rfl, by rw [hfold]; rfl, smG, elG, by omega, ?_⟩
                        by_cases hj2 : (j + 1 : Nat) + 1 < 3
                        · rw [if_pos hj2]
                          rw [if_pos (decide_eq_true (by omega))] at hA
                          rw [hA, show (i : Int) + 1 + ((j + 1 : Nat) : Int) = (i : Int) + 1 + (j : Int) + 1 by omega]
                          rfl
                        · rw [if_neg hj2]
                          rw [if_neg (by intro z; exact hj2 (by have := of_decide_eq_true z; omega)), sg_fold (by rw [hk, hbl]; omega), hk] at hA
                          rw [hA, show (i : Int) + 1 + ((j + 1 : Nat) : Int) = (i : Int) + 1 + (j : Int) + 1 by omega]
                          rfl
              · rintro σ Hd ⟨y6, y7, y8, bs, hbl, rfl, smd, eld, hil, hA⟩
                rw [if_neg (by decide)] at hA
                refine ⟨.ref l, rfl, .inl ⟨rfl, _, sq1 eld⟩, .int _, rfl, l, _, _, rfl, rfl, eld, (by rw [List.length_map, sizeLine_eq]; omega), ?_⟩
                refine ⟨.int (i : Int), rfl, .int 3, rfl, (i : Int), 3, rfl, rfl, ?_⟩
                refine ⟨_, _, _, _, _, _, sg ++ [foldS (f - 224) bs], i + 3, by omega, by omega, rfl, Same.mut smd hl0, ?_, by rw [List.length_append]; show _ + 1 ≤ _; omega, ?_⟩
                · rw [upd_same, List.map_append]
                  rfl
                · rw [hA]
                  rfl
        | true =>
          have g3 := of_decide_eq_true k1
          have g4 := of_decide_eq_true k2
          have hk : cnt f = 2 := by
            unfold cnt
            rw [if_neg g1, if_pos ⟨g3, g4⟩]
          refine ⟨.int 2, rfl, rfl, _, rfl, ?_⟩
          refine ⟨.int f, rfl, by show 4 ≤ sizeLine; decide, fun l2 hl2 => ?_⟩
          have sH2 : Same Hc (upd Hc l2 (.lst [.int 0, .int 0, .int 192, .int 224])) := same_upd hl2
          have eH2 : (upd Hc l2 (.lst [.int 0, .int 0, .int 192, .int 224])) l2 = some (.lst [.int 0, .int 0, .int 192, .int 224]) := upd_same
          generalize upd Hc l2 (.lst [.int 0, .int 0, .int 192, .int 224]) = H2 at sH2 eH2 ⊢
          replace el := sH2 _ _ el
          replace sm := sm.trans sH2
          refine ⟨.int 2, rfl, l2, _, 2, .int 192, rfl, rfl, sq1 eH2, rfl, f, 192, rfl, rfl, ?_⟩
          refine ⟨.int 2, rfl, 1, 2, rfl, ⟨by decide, by decide, by decide, by decide⟩, ?_⟩
          refine for_it (walk_range (lo := 1) (n := 1)) (fun j σ Hd => ∃ (y6 y7 y8 : Option V) (bs : List Int), bs.length = j ∧ σ = [some (.ref a), some (.ref l), some (.int (i : Int)), some (.int f), some (.int 2), some (.int (foldS (f - 192) bs)), y6, y7, y8] ∧ Same H Hd ∧ Hd l = some (.lst (sg.map V.int)) ∧ i + 1 + j ≤ cs.length ∧
            (if j + 1 < 2 then rd cs [] [] 0 = rd (cs.drop (i + 1 + j)) sg (f :: bs) ((i : Int) + 1 + (j : Int)) else rd cs [] [] 0 = rd (cs.drop (i + 1 + j)) (sg ++ [foldS (f - 192) bs]) [] ((i : Int) + 1 + (j : Int)))) ?_ (fun _ _ _ _ _ => trivial) ?_ ?_
          · refine ⟨_, _, _, [], rfl, rfl, sm, el, by omega, ?_⟩
            rw [if_pos (by decide)]
            rw [hrd, rd, if_pos (by rw [can_first bf.1, hk]; rfl), if_pos (by rw [goes_first (by rw [hk]; decide), hk]; rfl), show (i : Int) + 1 + ((0 : Nat) : Int) = (i : Int) + 1 by omega]
            rfl
          · rintro j x σ Hd H' hj ⟨y6, y7, y8, bs, hbl, rfl, smd, eld, hil, hA⟩ ⟨rfl, rfl⟩
            have hj1 : j + 1 < 2 := by
              have z : j < 1 := hj
              omega
            rw [if_pos hj1] at hA
            generalize hHd : H' = Hd at smd eld ⊢
            clear hHd
            refine ⟨.int (1 + (j : Int)), rfl, rfl, _, rfl, ite2 (fun e => ?_) (fun e => ?_)⟩
            · have hj0 : j = 0 := by
                have := V.int.inj (of_decide_eq_true e)
                omega
              refine ⟨.int f, rfl, rfl, _, rfl, ite2 (fun e => ?_) (fun e => ?_)⟩
              · have hf2 : f = 224 := V.int.inj (of_decide_eq_true e)
                refine ⟨.int f, rfl, rfl, _, rfl, ite2 (fun e => absurd (V.int.inj (of_decide_eq_true e)) (by omega)) (fun e => ?_)⟩
                refine ⟨by show 2 ≤ sizeLine; decide, fun t2 ht2 => ?_⟩
                have sG : Same Hd (upd Hd t2 (.tup [.int 160, .int 191])) := same_upd ht2
                have eG : (upd Hd t2 (.tup [.int 160, .int 191])) t2 = some (.tup [.int 160, .int 191]) := upd_same
                generalize upd Hd t2 (.tup [.int 160, .int 191]) = G at sG eG ⊢
                refine ⟨t2, [.int 160, .int 191], rfl, .inl (.inl eG), rfl, _, _, rfl, _, _, rfl, rfl, ?_⟩
                have smG := smd.trans sG
                have elG := sG _ _ eld
                have hSG := smG.seq hS
                refine ⟨.int (i : Int), rfl, .int (1 + (j : Int)), rfl, (i : Int), 1 + (j : Int), rfl, rfl, .ref a, rfl, a, _, rfl, .inl hSG, _, _, rfl, rfl, _, rfl, ite2 (fun e => ?_) (fun e => ?_)⟩
                · have h5 : ((cs.map V.int).length : Int) ≤ (i : Int) + (1 + (j : Int)) := of_decide_eq_true e
                  rw [List.length_map] at h5
                  have e5 : rd cs [] [] 0 = (sg, f :: bs, none) := by
                    rw [hA, List.drop_of_length_le (by omega)]
                    rfl
                  rw [e5] at q
                  exact ⟨.ref l, rfl, by show 3 ≤ sizeLine; decide, fun t ht => q _ t l (smG.trans (same_upd ht)) (Same.free smG ht) hl0 upd_same (by rw [upd_ne (ne_of_none elG ht)]; exact elG)⟩
                · have h5 : ¬ ((cs.map V.int).length : Int) ≤ (i : Int) + (1 + (j : Int)) := fun z => e (decide_eq_true z)
                  rw [List.length_map] at h5
                  obtain ⟨b, hb', mb⟩ := get_of_lt (ns := cs) (i := i + 1 + j) (by omega)
                  have hat : atI (cs.map V.int) ((i : Int) + (1 + (j : Int))) = some (.int b) := by
                    rw [show (i : Int) + (1 + (j : Int)) = ((i + 1 + j : Nat) : Int) by omega]
                    exact at_ints hb'
                  rw [List.drop_eq_getElem_cons (by omega : i + 1 + j < cs.length), (List.getElem?_eq_some_iff.mp hb').2, rd] at hA
                  have hcan : canSt (f :: bs) b = (decide (160 ≤ b) && decide (b ≤ 191)) := by
                    rw [can_more, hbl, show loB f j = 160 from if_pos ⟨hj0, hf2⟩, show hiB f j = 191 from if_neg (fun z => by omega)]
                  have flt : canSt (f :: bs) b = false → ∀ Hx t, Same G Hx → Hx t = none → Q (.ref t) (upd Hx t (.tup [.ref l, .int ((i : Int) + (1 + (j : Int))), .bl false])) := fun hc Hx t sx ht => by
                    rw [if_neg (by rw [hc]; decide)] at hA
                    rw [hA] at q
                    have sy := smG.trans sx
                    have eq' : ((i : Int) + 1 + (j : Int)) = (i : Int) + (1 + (j : Int)) := by omega
                    refine q _ t l (sy.trans (same_upd ht)) (Same.free sy ht) hl0 ?_ (by rw [upd_ne (ne_of_none (sx _ _ elG) ht)]; exact sx _ _ elG)
                    rw [upd_same, ← eq']
                    rfl
                  refine ⟨.int 160, rfl, .ref a, rfl, .int (i : Int), rfl, .int (1 + (j : Int)), rfl, (i : Int), 1 + (j : Int), rfl, rfl, a, _, _, .int b, rfl, rfl, hSG, hat, 160, b, rfl, rfl, _, rfl, ?_⟩
                  cases hlo : decide ((160 : Int) ≤ b) with
                  | false =>
                    refine ⟨_, rfl, ?_⟩
                    exact ⟨.ref l, rfl, .int (i : Int), rfl, .int (1 + (j : Int)), rfl, (i : Int), 1 + (j : Int), rfl, rfl, by show 3 ≤ sizeLine; decide, fun t ht => flt (by rw [hcan, hlo]; rfl) _ t (Same.refl _) ht⟩
                  | true =>
                    refine ⟨.int 191, rfl, b, 191, rfl, rfl, _, rfl, ?_⟩
                    cases hhi : decide (b ≤ (191 : Int)) with
                    | false =>
                      exact ⟨.ref l, rfl, .int (i : Int), rfl, .int (1 + (j : Int)), rfl, (i : Int), 1 + (j : Int), rfl, rfl, by show 3 ≤ sizeLine; decide, fun t ht => flt (by rw [hcan, hlo, hhi]; rfl) _ t (Same.refl _) ht⟩
                    | true =>
                      rw [if_pos (by rw [hcan, hlo, hhi]; rfl), goes_more (by rw [hk]; decide), hbl, hk] at hA
                      have hfold : foldS (f - 192) (bs ++ [b]) = 64 * foldS (f - 192) bs + b - 128 := by
                        unfold foldS
                        rw [List.foldl_append]
                        rfl
                      refine ⟨.int _, rfl, 64, _, rfl, rfl, .inl ⟨by decide, by decide⟩, .ref a, rfl, .int (i : Int), rfl, .int (1 + (j : Int)), rfl, (i : Int), 1 + (j : Int), rfl, rfl, a, _, _, .int b, rfl, rfl, hSG, hat, _, b, rfl, rfl, _, 128, rfl, rfl, ?_⟩
                      refine ⟨_, _, _, bs ++ [b], by rw [List.length_append, hbl]; rfl, by rw [hfold]; rfl, smG, elG, by omega, ?_⟩
                      by_cases hj2 : (j + 1 : Nat) + 1 < 2
                      · rw [if_pos hj2]
                        rw [if_pos (decide_eq_true (by omega))] at hA
                        rw [hA, show (i : Int) + 1 + ((j + 1 : Nat) : Int) = (i : Int) + 1 + (j : Int) + 1 by omega]
                        rfl
                      · rw [if_neg hj2]
                        rw [if_neg (by intro z; exact hj2 (by have := of_decide_eq_true z; omega)), sg_fold (by rw [hk, hbl]; omega), hk] at hA
                        rw [hA, show (i : Int) + 1 + ((j + 1 : Nat) : Int) = (i : Int) + 1 + (j : Int) + 1 by omega]
                        rfl
              · have hf2 : ¬ f = 224 := fun z => e (decide_eq_true (congrArg V.int z))
                refine ⟨.int f, rfl, rfl, _, rfl, ite2 (fun e => ?_) (fun e => ?_)⟩
                · have hf3 : f = 237 := V.int.inj (of_decide_eq_true e)
                  refine ⟨by show 2 ≤ sizeLine; decide, fun t2 ht2 => ?_⟩
                  have sG : Same Hd (upd Hd t2 (.tup [.int 128, .int 159])) := same_upd ht2
                  have eG : (upd Hd t2 (.tup [.int 128, .int 159])) t2 = some (.tup [.int 128, .int 159]) := upd_same
                  generalize upd Hd t2 (.tup [.int 128, .int 159]) = G at sG eG ⊢
                  refine ⟨t2, [.int 128, .int 159], rfl, .inl (.inl eG), rfl, _, _, rfl, _, _, rfl, rfl, ?_⟩
                  have smG := smd.trans sG
                  have elG := sG _ _ eld
                  have hSG := smG.seq hS
                  refine ⟨.int (i : Int), rfl, .int (1 + (j : Int)), rfl, (i : Int), 1 + (j : Int), rfl, rfl, .ref a, rfl, a, _, rfl, .inl hSG, _, _, rfl, rfl, _, rfl, ite2 (fun e => ?_) (fun e => ?_)⟩
                  · have h5 : ((cs.map V.int).length : Int) ≤ (i : Int) + (1 + (j : Int)) := of_decide_eq_true e
                    rw [List.length_map] at h5
                    have e5 : rd cs [] [] 0 = (sg, f :: bs, none) := by
                      rw [hA, List.drop_of_length_le (by omega)]
                      rfl
                    rw [e5] at q
                    exact ⟨.ref l, rfl, by show 3 ≤ sizeLine; decide, fun t ht => q _ t l (smG.trans (same_upd ht)) (Same.free smG ht) hl0 upd_same (by rw [upd_ne (ne_of_none elG ht)]; exact elG)⟩
                  · have h5 : ¬ ((cs.map V.int).length : Int) ≤ (i : Int) + (1 + (j : Int)) := fun z => e (decide_eq_true z)
                    rw [List.length_map] at h5
                    obtain ⟨b, hb', mb⟩ := get_of_lt (ns := cs) (i := i + 1 + j) (by omega)
                    have hat : atI (cs.map V.int) ((i : Int) + (1 + (j : Int))) = some (.int b) := by
                      rw [show (i : Int) + (1 + (j : Int)) = ((i + 1 + j : Nat) : Int) by omega]
                      exact at_ints hb'
                    rw [List.drop_eq_getElem_cons (by omega : i + 1 + j < cs.length), (List.getElem?_eq_some_iff.mp hb').2, rd] at hA
                    have hcan : canSt (f :: bs) b = (decide (128 ≤ b) && decide (b ≤ 159)) := by
                      rw [can_more, hbl, show loB f j = 128 from if_neg (fun z => hf2 z.2), show hiB f j = 159 from if_pos ⟨hj0, hf3⟩]
                    have flt : canSt (f :: bs) b = false → ∀ Hx t, Same G Hx → Hx t = none → Q (.ref t) (upd Hx t (.tup [.ref l, .int ((i : Int) + (1 + (j : Int))), .bl false])) := fun hc Hx t sx ht => by
                      rw [if_neg (by rw [hc]; decide)] at hA
                      rw [hA] at q
                      have sy := smG.trans sx
                      have eq' : ((i : Int) + 1 + (j : Int)) = (i : Int) + (1 + (j : Int)) := by omega
                      refine q _ t l (sy.trans (same_upd ht)) (Same.free sy ht) hl0 ?_ (by rw [upd_ne (ne_of_none (sx _ _ elG) ht)]; exact sx _ _ elG)
                      rw [upd_same, ← eq']
                      rfl
                    refine ⟨.int 128, rfl, .ref a, rfl, .int (i : Int), rfl, .int (1 + (j : Int)), rfl, (i : Int), 1 + (j : Int), rfl, rfl, a, _, _, .int b, rfl, rfl, hSG, hat, 128, b, rfl, rfl, _, rfl, ?_⟩
                    cases hlo : decide ((128 : Int) ≤ b) with
                    | false =>
                      refine ⟨_, rfl, ?_⟩
                      exact ⟨.ref l, rfl, .int (i : Int), rfl, .int (1 + (j : Int)), rfl, (i : Int), 1 + (j : Int), rfl, rfl, by show 3 ≤ sizeLine; decide, fun t ht => flt (by rw [hcan, hlo]; rfl) _ t (Same.refl _) ht⟩
                    | true =>
                      refine ⟨.int 159, rfl, b, 159, rfl, rfl, _, rfl, ?_⟩
                      cases hhi : decide (b ≤ (159 : Int)) with
                      | false =>
                        exact ⟨.ref l, rfl, .int (i : Int), rfl, .int (1 + (j : Int)), rfl, (i : Int), 1 + (j : Int), rfl, rfl, by show 3 ≤ sizeLine; decide, fun t ht => flt (by rw [hcan, hlo, hhi]; rfl) _ t (Same.refl _) ht⟩
                      | true =>
                        rw [if_pos (by rw [hcan, hlo, hhi]; rfl), goes_more (by rw [hk]; decide), hbl, hk] at hA
                        have hfold : foldS (f - 192) (bs ++ [b]) = 64 * foldS (f - 192) bs + b - 128 := by
                          unfold foldS
                          rw [List.foldl_append]
                          rfl
                        refine ⟨.int _, rfl, 64, _, rfl, rfl, .inl ⟨by decide, by decide⟩, .ref a, rfl, .int (i : Int), rfl, .int (1 + (j : Int)), rfl, (i : Int), 1 + (j : Int), rfl, rfl, a, _, _, .int b, rfl, rfl, hSG, hat, _, b, rfl, rfl, _, 128, rfl, rfl, ?_⟩
                        refine ⟨_, _, _, bs ++ [b], by rw [List.length_append, hbl]; rfl, by rw [hfold]; rfl, smG, elG, by omega, ?_⟩
                        by_cases hj2 : (j + 1 : Nat) + 1 < 2
                        · rw [if_pos hj2]
                          rw [if_pos (decide_eq_true (by omega))] at hA
                          rw [hA, show (i : Int) + 1 + ((j + 1 : Nat) : Int) = (i : Int) + 1 + (j : Int) + 1 by omega]
                          rfl
                        · rw [if_neg hj2]
                          rw [if_neg (by intro z; exact hj2 (by have := of_decide_eq_true z; omega)), sg_fold (by rw [hk, hbl]; omega), hk] at hA
                          rw [hA, show (i : Int) + 1 + ((j + 1 : Nat) : Int) = (i : Int) + 1 + (j : Int) + 1 by omega]
                          rfl
                · have hf3 : ¬ f = 237 := fun z => e (decide_eq_true (congrArg V.int z))
                  refine ⟨by show 2 ≤ sizeLine; decide, fun t2 ht2 => ?_⟩
                  have sG : Same Hd (upd Hd t2 (.tup [.int 128, .int 191])) := same_upd ht2
                  have eG : (upd Hd t2 (.tup [.int 128, .int 191])) t2 = some (.tup [.int 128, .int 191]) := upd_same
                  generalize upd Hd t2 (.tup [.int 128, .int 191]) = G at sG eG ⊢
                  refine ⟨t2, [.int 128, .int 191], rfl, .inl (.inl eG), rfl, _, _, rfl, _, _, rfl, rfl, ?_⟩
                  have smG := smd.trans sG
                  have elG := sG _ _ eld
                  have hSG := smG.seq hS
                  refine ⟨.int (i : Int), rfl, .int (1 + (j : Int)), rfl, (i : Int), 1 + (j : Int), rfl, rfl, .ref a, rfl, a, _, rfl, .inl hSG, _, _, rfl, rfl, _, rfl, ite2 (fun e => ?_) (fun e => ?_)⟩
                  · have h5 : ((cs.map V.int).length : Int) ≤ (i : Int) + (1 + (j : Int)) := of_decide_eq_true e
                    rw [List.length_map] at h5
                    have e5 : rd cs [] [] 0 = (sg, f :: bs, none) := by
                      rw [hA, List.drop_of_length_le (by omega)]
                      rfl
                    rw [e5] at q
                    exact ⟨.ref l, rfl, by show 3 ≤ sizeLine; decide, fun t ht => q _ t l (smG.trans (same_upd ht)) (Same.free smG ht) hl0 upd_same (by rw [upd_ne (ne_of_none elG ht)]; exact elG)⟩
                  · have h5 : ¬ ((cs.map V.int).length : Int) ≤ (i : Int) + (1 + (j : Int)) := fun z => e (decide_eq_true z)
                    rw [List.length_map] at h5
                    obtain ⟨b, hb', mb⟩ := get_of_lt (ns := cs) (i := i + 1 + j) (by omega)
                    have hat : atI (cs.map V.int) ((i : Int) + (1 + (j : Int))) = some (.int b) := by
                      rw [show (i : Int) + (1 + (j : Int)) = ((i + 1 + j : Nat) : Int) by omega]
                      exact at_ints hb'
                    rw [List.drop_eq_getElem_cons (by omega : i + 1 + j < cs.length), (List.getElem?_eq_some_iff.mp hb').2, rd] at hA
                    have hcan : canSt (f :: bs) b = (decide (128 ≤ b) && decide (b ≤ 191)) := by
                      rw [can_more, hbl, show loB f j = 128 from if_neg (fun z => hf2 z.2), show hiB f j = 191 from if_neg (fun z => hf3 z.2)]
                    have flt : canSt (f :: bs) b = false → ∀ Hx t, Same G Hx → Hx t = none → Q (.ref t) (upd Hx t (.tup [.ref l, .int ((i : Int) + (1 + (j : Int))), .bl false])) := fun hc Hx t sx ht => by
                      rw [if_neg (by rw [hc]; decide)] at hA
                      rw [hA] at q
                      have sy := smG.trans sx
                      have eq' : ((i : Int) + 1 + (j : Int)) = (i : Int) + (1 + (j : Int)) := by omega
                      refine q _ t l (sy.trans (same_upd ht)) (Same.free sy ht) hl0 ?_ (by rw [upd_ne (ne_of_none (sx _ _ elG) ht)]; exact sx _ _ elG)
                      rw [upd_same, ← eq']
                      rfl
                    refine ⟨.int 128, rfl, .ref a, rfl, .int (i : Int), rfl, .int (1 + (j : Int)), rfl, (i : Int), 1 + (j : Int), rfl, rfl, a, _, _, .int b, rfl, rfl, hSG, hat, 128, b, rfl, rfl, _, rfl, ?_⟩
                    cases hlo : decide ((128 : Int) ≤ b) with
                    | false =>
                      refine ⟨_, rfl, ?_⟩
                      exact ⟨.ref l, rfl, .int (i : Int), rfl, .int (1 + (j : Int)), rfl, (i : Int), 1 + (j : Int), rfl, rfl, by show 3 ≤ sizeLine; decide, fun t ht => flt (by rw [hcan, hlo]; rfl) _ t (Same.refl _) ht⟩
                    | true =>
                      refine ⟨.int 191, rfl, b, 191, rfl, rfl, _, rfl, ?_⟩
                      cases hhi : decide (b ≤ (191 : Int)) with
                      | false =>
                        exact ⟨.ref l, rfl, .int (i : Int), rfl, .int (1 + (j : Int)), rfl, (i : Int), 1 + (j : Int), rfl, rfl, by show 3 ≤ sizeLine; decide, fun t ht => flt (by rw [hcan, hlo, hhi]; rfl) _ t (Same.refl _) ht⟩
                      | true =>
                        rw [if_pos (by rw [hcan, hlo, hhi]; rfl), goes_more (by rw [hk]; decide), hbl, hk] at hA
                        have hfold : foldS (f - 192) (bs ++ [b]) = 64 * foldS (f - 192) bs + b - 128 := by
                          unfold foldS
                          rw [List.foldl_append]
                          rfl
                        refine ⟨.int _, rfl, 64, _, rfl, rfl, .inl ⟨by decide, by decide⟩, .ref a, rfl, .int (i : Int), rfl, .int (1 + (j : Int)), rfl, (i : Int), 1 + (j : Int), rfl, rfl, a, _, _, .int b, rfl, rfl, hSG, hat, _, b, rfl, rfl, _, 128, rfl, rfl, ?_⟩
                        refine ⟨_, _, _, bs ++ [b], by rw [List.length_append, hbl]; rfl, by rw [hfold]; rfl, smG, elG, by omega, ?_⟩
                        by_cases hj2 : (j + 1 : Nat) + 1 < 2
                        · rw [if_pos hj2]
                          rw [if_pos (decide_eq_true (by omega))] at hA
                          rw [hA, show (i : Int) + 1 + ((j + 1 : Nat) : Int) = (i : Int) + 1 + (j : Int) + 1 by omega]
                          rfl
                        · rw [if_neg hj2]
                          rw [if_neg (by intro z; exact hj2 (by have := of_decide_eq_true z; omega)), sg_fold (by rw [hk, hbl]; omega), hk] at hA
                          rw [hA, show (i : Int) + 1 + ((j + 1 : Nat) : Int) = (i : Int) + 1 + (j : Int) + 1 by omega]
                          rfl
            · have hj0 : ¬ j = 0 := fun z => e (decide_eq_true (by rw [z]; rfl))
              refine ⟨by show 2 ≤ sizeLine; decide, fun t2 ht2 => ?_⟩
              have sG : Same Hd (upd Hd t2 (.tup [.int 128, .int 191])) := same_upd ht2
              have eG : (upd Hd t2 (.tup [.int 128, .int 191])) t2 = some (.tup [.int 128, .int 191]) := upd_same
              generalize upd Hd t2 (.tup [.int 128, .int 191]) = G at sG eG ⊢
              refine ⟨t2, [.int 128, .int 191], rfl, .inl (.inl eG), rfl, _, _, rfl, _, _, rfl, rfl, ?_⟩
              have smG := smd.trans sG
              have elG := sG _ _ eld
              have hSG := smG.seq hS
              refine ⟨.int (i : Int), rfl, .int (1 + (j : Int)), rfl, (i : Int), 1 + (j : Int), rfl, rfl, .ref a, rfl, a, _, rfl, .inl hSG, _, _, rfl, rfl, _, rfl, ite2 (fun e => ?_) (fun e => ?_)⟩
              · have h5 : ((cs.map V.int).length : Int) ≤ (i : Int) + (1 + (j : Int)) := of_decide_eq_true e
                rw [List.length_map] at h5
                have e5 : rd cs [] [] 0 = (sg, f :: bs, none) := by
                  rw [hA, List.drop_of_length_le (by omega)]
                  rfl
                rw [e5] at q
                exact ⟨.ref l, rfl, by show 3 ≤ sizeLine; decide, fun t ht => q _ t l (smG.trans (same_upd ht)) (Same.free smG ht) hl0 upd_same (by rw [upd_ne (ne_of_none elG ht)]; exact elG)⟩
              · have h5 : ¬ ((cs.map V.int).length : Int) ≤ (i : Int) + (1 + (j : Int)) := fun z => e (decide_eq_true z)
                rw [List.length_map] at h5
                obtain ⟨b, hb', mb⟩ := get_of_lt (ns := cs) (i := i + 1 + j) (by omega)
                have hat : atI (cs.map V.int) ((i : Int) + (1 + (j : Int))) = some (.int b) := by
                  rw [show (i : Int) + (1 + (j : Int)) = ((i + 1 + j : Nat) : Int) by omega]
                  exact at_ints hb'
                rw [List.drop_eq_getElem_cons (by omega : i + 1 + j < cs.length), (List.getElem?_eq_some_iff.mp hb').2, rd] at hA
                have hcan : canSt (f :: bs) b = (decide (128 ≤ b) && decide (b ≤ 191)) := by
                  rw [can_more, hbl, show loB f j = 128 from if_neg (fun z => hj0 z.1), show hiB f j = 191 from if_neg (fun z => hj0 z.1)]
                have flt : canSt (f :: bs) b = false → ∀ Hx t, Same G Hx → Hx t = none → Q (.ref t) (upd Hx t (.tup [.ref l, .int ((i : Int) + (1 + (j : Int))), .bl false])) := fun hc Hx t sx ht => by
                  rw [if_neg (by rw [hc]; decide)] at hA
                  rw [hA] at q
                  have sy := smG.trans sx
                  have eq' : ((i : Int) + 1 + (j : Int)) = (i : Int) + (1 + (j : Int)) := by omega
                  refine q _ t l (sy.trans (same_upd ht)) (Same.free sy ht) hl0 ?_ (by rw [upd_ne (ne_of_none (sx _ _ elG) ht)]; exact sx _ _ elG)
                  rw [upd_same, ← eq']
                  rfl
                refine ⟨.int 128, rfl, .ref a, rfl, .int (i : Int), rfl, .int (1 + (j : Int)), rfl, (i : Int), 1 + (j : Int), rfl, rfl, a, _, _, .int b, rfl, rfl, hSG, hat, 128, b, rfl, rfl, _, rfl, ?_⟩
                cases hlo : decide ((128 : Int) ≤ b) with
                | false =>
                  refine ⟨_, rfl, ?_⟩
                  exact ⟨.ref l, rfl, .int (i : Int), rfl, .int (1 + (j : Int)), rfl, (i : Int), 1 + (j : Int), rfl, rfl, by show 3 ≤ sizeLine; decide, fun t ht => flt (by rw [hcan, hlo]; rfl) _ t (Same.refl _) ht⟩
                | true =>
                  refine ⟨.int 191, rfl, b, 191, rfl, rfl, _, rfl, ?_⟩
                  cases hhi : decide (b ≤ (191 : Int)) with
                  | false =>
                    exact ⟨.ref l, rfl, .int (i : Int), rfl, .int (1 + (j : Int)), rfl, (i : Int), 1 + (j : Int), rfl, rfl, by show 3 ≤ sizeLine; decide, fun t ht => flt (by rw [hcan, hlo, hhi]; rfl) _ t (Same.refl _) ht⟩
                  | true =>
                    rw [if_pos (by rw [hcan, hlo, hhi]; rfl), goes_more (by rw [hk]; decide), hbl, hk] at hA
                    have hfold : foldS (f - 192) (bs ++ [b]) = 64 * foldS (f - 192) bs + b - 128 := by
                      unfold foldS
                      rw [List.foldl_append]
                      rfl
                    refine ⟨.int _, rfl, 64, _, rfl, rfl, .inl ⟨by decide, by decide⟩, .ref a, rfl, .int (i : Int), rfl, .int (1 + (j : Int)), rfl, (i : Int), 1 + (j : Int), rfl, rfl, a, _, _, .int b, rfl, rfl, hSG, hat, _, b, rfl, rfl, _, 128, rfl, rfl, ?_⟩
                    refine ⟨_, _, _, bs ++ [b], by rw [List.length_append, hbl]; rfl, by rw [hfold]; rfl, smG, elG, by omega, ?_⟩
                    by_cases hj2 : (j + 1 : Nat) + 1 < 2
                    · rw [if_pos hj2]
                      rw [if_pos (decide_eq_true (by omega))] at hA
                      rw [hA, show (i : Int) + 1 + ((j + 1 : Nat) : Int) = (i : Int) + 1 + (j : Int) + 1 by omega]
                      rfl
                    · rw [if_neg hj2]
                      rw [if_neg (by intro z; exact hj2 (by have := of_decide_eq_true z; omega)), sg_fold (by rw [hk, hbl]; omega), hk] at hA
                      rw [hA, show (i : Int) + 1 + ((j + 1 : Nat) : Int) = (i : Int) + 1 + (j : Int) + 1 by omega]
                      rfl
          · rintro σ Hd ⟨y6, y7, y8, bs, hbl, rfl, smd, eld, hil, hA⟩
            rw [if_neg (by decide)] at hA
            refine ⟨.ref l, rfl, .inl ⟨rfl, _, sq1 eld⟩, .int _, rfl, l, _, _, rfl, rfl, eld, (by rw [List.length_map, sizeLine_eq]; omega), ?_⟩
            refine ⟨.int (i : Int), rfl, .int 2, rfl, (i : Int), 2, rfl, rfl, ?_⟩
            refine ⟨_, _, _, _, _, _, sg ++ [foldS (f - 192) bs], i + 2, by omega, by omega, rfl, Same.mut smd hl0, ?_, by rw [List.length_append]; show _ + 1 ≤ _; omega, ?_⟩
            · rw [upd_same, List.map_append]
              rfl
            · rw [hA]
              rfl
    · have h1 : ¬ (i : Int) < ((cs.map V.int).length : Int) := fun z => e (decide_eq_true z)
      rw [List.length_map] at h1
      rw [List.drop_of_length_le (by omega)] at hrd
      have e1 : (rd cs [] [] 0) = (sg, [], none) := hrd
      rw [e1] at q
      exact ⟨.ref l, rfl, by show 3 ≤ sizeLine; decide, fun t ht => q _ t l (sm.trans (same_upd ht)) (Same.free sm ht) hl0 upd_same (by rw [upd_ne (ne_of_none el ht)]; exact el)⟩
end
end K19

set_option Elab.async false
set_option linter.all false
set_option maxRecDepth 100000
set_option maxHeartbeats 4000000
namespace K19
open PySem PySem.Spec PyProof.Rows L2
/-! ### states of a Signs, by the bytes put -/
def PsOk (ps : List Int) : Prop := ps = [] ∨ (∃ f, ps = [f] ∧ 194 ≤ f ∧ f ≤ 239) ∨ ∃ f b, ps = [f, b] ∧ 224 ≤ f ∧ f ≤ 239 ∧ 128 ≤ b ∧ b ≤ 191
theorem can1 {f b : Int} (h : canSt [f] b = true) : 128 ≤ b ∧ b ≤ 191 := by
  unfold canSt at h
  rw [if_neg (by simp)] at h
  split at h
  · rw [Bool.and_eq_true, decide_eq_true_iff, decide_eq_true_iff] at h
    omega
  · split at h
    · rw [Bool.and_eq_true, decide_eq_true_iff, decide_eq_true_iff] at h
      omega
    · rw [Bool.and_eq_true, decide_eq_true_iff, decide_eq_true_iff] at h
      exact h
theorem can2 {f c b : Int} (h : canSt [f, c] b = true) : 128 ≤ b ∧ b ≤ 191 := by
  unfold canSt at h
  rw [if_neg (by simp), if_neg (by simp), if_neg (by simp), Bool.and_eq_true, decide_eq_true_iff, decide_eq_true_iff] at h
  exact h
theorem step_ok {ps : List Int} {b : Int} (h : PsOk ps) (hb : 0 ≤ b ∧ b < 256) (hc : canSt ps b = true) : (goesOn ps b = true → PsOk (ps ++ [b])) ∧ (¬ goesOn ps b = true → 0 ≤ sgOf (ps ++ [b]) ∧ sgOf (ps ++ [b]) < 65536) := by
  rcases h with rfl | ⟨f, rfl, f0, f1⟩ | ⟨f, c, rfl, f0, f1, c0, c1⟩
  · have hc' : (decide (b < 128) || (decide (194 ≤ b) && decide (b ≤ 239))) = true := hc
    simp only [Bool.or_eq_true, Bool.and_eq_true, decide_eq_true_iff] at hc'
    have hg : goesOn [] b = decide (((1 : Nat) : Int) < hlong b) := rfl
    refine ⟨fun g => ?_, fun g => ?_⟩
    · rw [hg, decide_eq_true_iff] at g
      unfold hlong at g
      split at g
      · exact absurd g (by decide)
      · exact .inr (.inl ⟨b, rfl, by omega, by omega⟩)
    · rw [hg, decide_eq_true_iff] at g
      unfold hlong at g
      split at g
      · show 0 ≤ b ∧ b < 65536
        omega
      · split at g
        · exact absurd (by decide : ((1 : Nat) : Int) < 2) g
        · exact absurd (by decide : ((1 : Nat) : Int) < 3) g
  · have hb2 := can1 hc
    have hg : goesOn [f] b = decide (((2 : Nat) : Int) < hlong f) := rfl
    refine ⟨fun g => ?_, fun g => ?_⟩
    · rw [hg, decide_eq_true_iff] at g
      unfold hlong at g
      rw [if_neg (by omega)] at g
      split at g
      · exact absurd g (by decide)
      · exact .inr (.inr ⟨f, b, rfl, by omega, f1, hb2.1, hb2.2⟩)
    · rw [hg, decide_eq_true_iff] at g
      unfold hlong at g
      rw [if_neg (by omega)] at g
      split at g
      · show 0 ≤ (f - 192) * 64 + b - 128 ∧ (f - 192) * 64 + b - 128 < 65536
        omega
      · exact absurd (by decide : ((2 : Nat) : Int) < 3) g
  · have hb2 := can2 hc
    have hg : goesOn [f, c] b = decide (((3 : Nat) : Int) < hlong f) := rfl
    refine ⟨fun g => ?_, fun g => ?_⟩
    · rw [hg, decide_eq_true_iff] at g
      have := (hlong_le f).2
      omega
    · show 0 ≤ (f - 224) * 4096 + (c - 128) * 64 + b - 128 ∧ (f - 224) * 4096 + (c - 128) * 64 + b - 128 < 65536
      omega
theorem rd_ok : ∀ (cs : List Int) {sg ps : List Int} {m : Int}, Bts cs → PsOk ps → SgB sg → PsOk (rd cs sg ps m).2.1 ∧ SgB (rd cs sg ps m).1
  | [], sg, ps, m, _, hp, hs => ⟨hp, hs⟩
  | b :: t, sg, ps, m, hb, hp, hs => by
    have hb0 := hb b List.mem_cons_self
    have hbt : Bts t := fun x hx => hb x (List.mem_cons_of_mem _ hx)
    rw [rd]
    by_cases hc : canSt ps b = true
    · rw [if_pos hc]
      have st := step_ok hp hb0 hc
      by_cases hg : goesOn ps b = true
      · rw [if_pos hg]
        exact rd_ok t hbt (st.1 hg) hs
      · rw [if_neg hg]
        refine rd_ok t hbt (.inl rfl) (fun n hn => ?_)
        rcases List.mem_append.mp hn with hn | hn
        · exact hs n hn
        · rw [List.mem_singleton.mp hn]
          exact st.2 hg
    · rw [if_neg hc]
      exact ⟨hp, hs⟩
theorem rd_snoc : ∀ (cs : List Int) {sg ps sg' ps' : List Int} {m : Int} {b : Int}, rd cs sg ps m = (sg', ps', none) → rd (cs ++ [b]) sg ps m = rd [b] sg' ps' (m + (cs.length : Int))
  | [], sg, ps, sg', ps', m, b, h => by
    cases h
    rw [List.nil_append, List.length_nil]
    congr 1
    omega
  | c :: t, sg, ps, sg', ps', m, b, h => by
    rw [List.cons_append, rd]
    rw [rd] at h
    have e : m + ((c :: t).length : Int) = m + 1 + (t.length : Int) := by
      rw [List.length_cons]
      omega
    rw [e]
    by_cases hc : canSt ps c = true
    · rw [if_pos hc] at h ⊢
      by_cases hg : goesOn ps c = true
      · rw [if_pos hg] at h ⊢
        exact rd_snoc t h
      · rw [if_neg hg] at h ⊢
        exact rd_snoc t h
    · rw [if_neg hc] at h
      cases h
/-- what is whole and begun of these bytes -/
structure Stt (cs sg ps : List Int) : Prop where
  rd : rd cs [] [] 0 = (sg, ps, none)
  bt : Bts cs
theorem Stt.ok {cs sg ps : List Int} (h : Stt cs sg ps) : PsOk ps ∧ SgB sg := by
  have z := rd_ok cs (m := 0) h.bt (.inl rfl) (sg := []) (fun n hn => by cases hn)
  rw [h.rd] at z
  exact z
theorem rd_many : ∀ (cs : List Int) {sg ps sg' ps' : List Int} {m : Int} {o : Option Int}, rd cs sg ps m = (sg', ps', o) → sg'.length ≤ sg.length + cs.length
  | [], sg, ps, sg', ps', m, o, h => by cases h; exact Nat.le_refl _
  | c :: t, sg, ps, sg', ps', m, o, h => by
    rw [rd] at h
    rw [List.length_cons]
    by_cases hc : canSt ps c = true
    · rw [if_pos hc] at h
      by_cases hg : goesOn ps c = true
      · rw [if_pos hg] at h
        have := rd_many t h
        omega
      · rw [if_neg hg] at h
        have := rd_many t h
        rw [List.length_append] at this
        have e : [sgOf (ps ++ [c])].length = 1 := rfl
        omega
    · rw [if_neg hc] at h
      cases h
      omega
theorem PsOk.len {ps : List Int} (h : PsOk ps) : ps.length ≤ 2 := by
  rcases h with rfl | ⟨f, rfl, _⟩ | ⟨f, c, rfl, _⟩
  · decide
  · show 1 ≤ 2; decide
  · show 2 ≤ 2; decide
section
variable {P : Program} {w : World} {K : PySem.W.Frag} {mg : Str → Option Value} {base : Heap}
def spPT (C : Addr) : Sp := fun vs H Q _ => ∃ (a dx ls lp : Addr) (sg ps : List Int) (n b : Int), vs = [.ref a, .int b] ∧ SgAt C H a dx ls lp sg ps n ∧ ps.length ≤ 2 ∧ sg.length ≤ 1000000 ∧ 0 ≤ n ∧ n ≤ 1000000000 ∧
  (if canSt ps b = true then
    (if goesOn ps b = true then ∀ H', SgAt C H' a dx ls lp sg (ps ++ [b]) (n + 1) → Keep3 a ls lp H H' → Q .non H'
      else ∀ H' lp', SgAt C H' a dx ls lp' (sg ++ [sgOf (ps ++ [b])]) [] (n + 1) → H lp' = none → Keep3 a ls lp H H' → Q (.int (sgOf (ps ++ [b]))) H')
    else ∀ (H' : Hp) (t : Addr), Same H H' → H' t = some (.tup [.int 14, .int n]) → Q (.ref t) H')
theorem ok_put_told (T : Tx K mg) : FnOk P w K mg base CX0 5 T.f_put_told T.fd_put_told ["_law_signs_here", "_law_part"] (spPT T.C_Signs) := by
  refine T.F_put_told.ok sc_put_told (fun vs H Q E h => ?_) (fun cdv A outer s H vs Q E hr h => ?_)
  · obtain ⟨a, dx, ls, lp, sg, ps, n, b, rfl, _⟩ := h
    rfl
  · obtain ⟨a, dx, ls, lp, sg, ps, n, b, rfl, hA, hp, hsg, n0, n1, q⟩ := h
    refine ⟨_, (pss_cons (ps_asg (pe_tup (pa_cons pe_non (pa_cons pe_non pa_nil))) (pg_tup rfl (pgs_cons (pg_name (i := 2) sc_put_told.nd rfl (.inl rfl)) (pgs_cons (pg_name (i := 3) sc_put_told.nd rfl (.inl rfl)) pgs_nil))))
      (pss_cons (ps_try_kp (i := 4) rfl rfl rfl sc_put_told.nd rfl rfl ⟨rfl, by decide, .inl T.g_Fault⟩ takes0 (fun W pn xe tk _ => (pss_one (ps_set (i := 2) sc_put_told.nd rfl (.inl rfl) (pe_methT (pv 0) T.cl_Signs T.mt_Signs_put (ok_Signs_put T) (hr.mono (by omega)) T.b_Signs_put .nil (fun σ => passAt tk σ) (pa_cons (pv 1) pa_nil))))) (fun a oe cls d pn hz hf => (pss_one (ps_set (i := 3) sc_put_told.nd rfl (.inl rfl) (pv 4)))))
      (pss_cons (ps_if (pt_cmpR op_isN (pv 3) pe_non (nomark _)) (pss_one (ps_ret (pv 2))) pss_nil)
      (pss_cons (ps_set (i := 5) sc_put_told.nd rfl (.inl rfl) (pe_callB (r := rIslT K) call_islT (by rfl) T.m_isinstance (by decide +kernel) (pa_cons (pv 3) (pa_cons (pe_tup (pa_cons (pe_glob (v := .ref T.C_BadEnd) (by rfl) T.g_BadEnd rfl) (pa_cons (pe_glob (v := .ref T.C_BadLetter) (by rfl) T.g_BadLetter rfl) (pa_cons (pe_glob (v := .ref T.C_BadRow) (by rfl) T.g_BadRow rfl) (pa_cons (pe_glob (v := .ref T.C_BadSlip) (by rfl) T.g_BadSlip rfl) (pa_cons (pe_glob (v := .ref T.C_BadText) (by rfl) T.g_BadText rfl) pa_nil)))))) pa_nil))))
      (pss_one (ps_ret (pe_ifExp (pw_or (pt_val (pv 5)) (pw_or1 (pt_not (pt_val (pe_callB (r := rIsl K) call_isl (by rfl) T.m_isinstance (by decide +kernel) (pa_cons (pv 3) (pa_cons (pe_bltn (v := .ty "ValueError") (u := .type "ValueError") (by rfl) T.m_ValueError (by decide +kernel) rfl) pa_nil))))))).pt pe_non (pe_tup (pa_cons (pe_xl (pv 3)) (pa_cons (pe_xl (pv 3)) pa_nil)))))))))), ?_⟩
    refine ⟨by show 2 ≤ sizeLine; decide, fun t0 ht0 => ⟨t0, [.non, .non], rfl, .inl (.inl upd_same), rfl, _, _, rfl, _, _, rfl, rfl, ?_⟩⟩
    have s0 : Same H (upd H t0 (.tup [.non, .non])) := same_upd ht0
    generalize upd H t0 (.tup [.non, .non]) = H0 at s0 ⊢
    refine ⟨.ref a, rfl, a, dx, _, rfl, (hA.same s0).obj, by rfl, .int b, rfl, a, dx, ls, lp, sg, ps, n, b, rfl, hA.same s0, hp, hsg, n0, n1, ?_⟩
    by_cases hc : canSt ps b = true
    · rw [if_pos hc] at q ⊢
      by_cases hg : goesOn ps b = true
      · rw [if_pos hg] at q ⊢
        intro H' hA' k3
        exact ⟨.non, rfl, rfl, _, rfl, .non, rfl, q H' hA' (fun x o h1 h2 h3 e => k3 x o h1 h2 h3 (s0 x o e))⟩
      · rw [if_neg hg] at q ⊢
        intro H' lp' hA' hl' k3
        exact ⟨.non, rfl, rfl, _, rfl, _, rfl, q H' lp' hA' (Same.free s0 hl') (fun x o h1 h2 h3 e => k3 x o h1 h2 h3 (s0 x o e))⟩
    · rw [if_neg hc] at q ⊢
      intro H1 d s1 hd ed
      refine ⟨true, exm_Fault T, fun _ ax hax => ?_, fun z => nomatch z⟩
      refine ⟨.ref ax, rfl, ?_⟩
      refine ⟨.ref ax, rfl, rfl, _, rfl, ?_⟩
      have sH2 : Same H1 (upd H1 ax (exl ax (.ref T.C_Fault) (some d))) := same_upd hax
      have eH2 : (upd H1 ax (exl ax (.ref T.C_Fault) (some d))) ax = some (exl ax (.ref T.C_Fault) (some d)) := upd_same
      generalize upd H1 ax (exl ax (.ref T.C_Fault) (some d)) = H2 at sH2 eH2 ⊢
      replace s1 := s1.trans sH2
      replace ed := sH2 _ _ ed
      refine ⟨.ref ax, rfl, by show 5 ≤ sizeLine; decide, fun tp htp => ?_⟩
      have sH3 : Same H2 (upd H2 tp (.tup [.ref T.C_BadEnd, .ref T.C_BadLetter, .ref T.C_BadRow, .ref T.C_BadSlip, .ref T.C_BadText])) := same_upd htp
      have eH3 : (upd H2 tp (.tup [.ref T.C_BadEnd, .ref T.C_BadLetter, .ref T.C_BadRow, .ref T.C_BadSlip, .ref T.C_BadText])) tp = some (.tup [.ref T.C_BadEnd, .ref T.C_BadLetter, .ref T.C_BadRow, .ref T.C_BadSlip, .ref T.C_BadText]) := upd_same
      generalize upd H2 tp (.tup [.ref T.C_BadEnd, .ref T.C_BadLetter, .ref T.C_BadRow, .ref T.C_BadSlip, .ref T.C_BadText]) = H3 at sH3 eH3 ⊢
      replace s1 := s1.trans sH3
      replace ed := sH3 _ _ ed
      replace eH2 := sH3 _ _ eH2
      refine ⟨ax, T.C_Fault, d, _, tp, _, _, false, rfl, eH2, ed, T.oe_Fault.is_, eH3, (.cons (.own _) (.cons (.own _) (.cons (.own _) (.cons (.own _) (.cons (.own _) .nil))))), kitAny_cons (b := false) (other_Fault_BadEnd T) (fun _ => kitAny_cons (b := false) (other_Fault_BadLetter T) (fun _ => kitAny_cons (b := false) (other_Fault_BadRow T) (fun _ => kitAny_cons (b := false) (other_Fault_BadSlip T) (fun _ => kitAny_cons (b := false) (other_Fault_BadText T) (fun _ => rfl) (fun z => nomatch z)) (fun z => nomatch z)) (fun z => nomatch z)) (fun z => nomatch z)) (fun z => nomatch z), ?_⟩
      refine ⟨.bl false, rfl, false, rfl, ?_⟩
      refine ⟨.ref ax, rfl, ax, T.C_Fault, d, _, _, _, true, rfl, eH2, ed, T.oe_Fault.is_, .ty _, under_Fault T, true, rfl, ?_⟩
      refine ⟨.ref ax, rfl, ax, T.C_Fault, d, _, .int 14, rfl, eH2, ed, T.oe_Fault.is_, T.n_Fault_code, by rfl, ?_⟩
      refine ⟨.ref ax, rfl, ax, T.C_Fault, d, _, .int n, rfl, eH2, ed, T.oe_Fault.is_, T.n_Fault_at, by rfl, by show 2 ≤ sizeLine; decide, fun l hl' => ?_⟩
      exact q _ l (s0.trans (s1.trans (same_upd hl'))) upd_same
def spSeen (C : Addr) : Sp := fun vs H Q _ => ∃ (a dx ls lp : Addr) (sg ps : List Int) (n : Int), vs = [.ref a] ∧ SgAt C H a dx ls lp sg ps n ∧ SgB sg ∧ sg.length ≤ 1000 ∧
  ∀ (H' : Hp) (l w : Addr), Same H H' → H' l = some (.lst [.int n, .bl (decide (ps = [])), .ref w, .int (sg.length : Int), .str (txS sg (!decide (ps = [])))]) → H' w = some (.lst (sg.map V.int)) → Q (.ref l) H'
theorem ok_seen (T : Tx K mg) : FnOk P w K mg base CX0 5 T.f_seen T.fd_seen ["_law_signs_here"] (spSeen T.C_Signs) := by
  refine T.F_seen.ok sc_seen (fun vs H Q E h => ?_) (fun cdv A outer s H vs Q E hr h => ?_)
  · obtain ⟨a, dx, ls, lp, sg, ps, n, rfl, _⟩ := h
    rfl
  · obtain ⟨a, dx, ls, lp, sg, ps, n, rfl, hA, hb, hl, q⟩ := h
    refine ⟨_, (pss_one (ps_ret (pe_lst (pa_cons (pe_meth0 (pv 0) T.cl_Signs T.mt_Signs_how_many (ok_Signs_how_many T) (hr.mono (by omega)) T.b_Signs_how_many .nil pass0) (pa_cons (pe_meth0 (pv 0) T.cl_Signs T.mt_Signs_is_whole (ok_Signs_is_whole T) (hr.mono (by omega)) T.b_Signs_is_whole .nil pass0) (pa_cons (pe_meth0 (pv 0) T.cl_Signs T.mt_Signs_words (ok_Signs_words T) (hr.mono (by omega)) T.b_Signs_words .nil pass0) (pa_cons (pe_callB (r := rLenOwn T.C_Signs (spSgLen T.C_Signs) E0) (call_len_own (ok_Signs_len T) T.mt_Signs_len T.b_Signs_len pass0 (hr.mono (by omega))) (by rfl) T.m_len (by decide +kernel) (pa_cons (pv 0) pa_nil)) (pa_cons (pe_callTy (r := rStrOwn T.C_Signs (spSgStr T.C_Signs) E0) (call_str_own (ok_Signs_str T) T.mt_Signs_str T.b_Signs_str pass0 (hr.mono (by omega))) (by rfl) T.m_str (by decide +kernel) (pa_cons (pv 0) pa_nil)) pa_nil)))))))), ?_⟩
    refine ⟨.ref a, rfl, a, dx, _, rfl, hA.obj, by rfl, a, dx, ls, lp, sg, ps, n, rfl, hA, .ref a, rfl, a, dx, _, rfl, hA.obj, by rfl, a, dx, ls, lp, sg, ps, n, rfl, hA, .ref a, rfl, a, dx, _, rfl, hA.obj, by rfl, a, dx, ls, lp, sg, ps, n, rfl, hA, fun w hw => ?_⟩
    have sH1 : Same H (upd H w (.lst (sg.map V.int))) := same_upd hw
    have eH1 : (upd H w (.lst (sg.map V.int))) w = some (.lst (sg.map V.int)) := upd_same
    generalize upd H w (.lst (sg.map V.int)) = H1 at sH1 eH1 ⊢
    have s1 := sH1
    replace hA := hA.same sH1
    refine ⟨.ref a, rfl, a, dx, _, rfl, hA.obj, a, dx, ls, lp, sg, ps, n, rfl, hA, (sg.length : Int), rfl, by omega, by omega, ?_⟩
    refine ⟨.ref a, rfl, a, dx, _, rfl, hA.obj, a, dx, ls, lp, sg, ps, n, rfl, hA, hb, hl, fun H2 s2 => ⟨_, rfl, ?_⟩⟩
    replace eH1 := s2 _ _ eH1
    replace s1 := s1.trans s2
    refine ⟨by show 5 ≤ sizeLine; decide, fun l hl' => ?_⟩
    have sH3 : Same H2 (upd H2 l (.lst [.int n, .bl (decide (ps = [])), .ref w, .int (sg.length : Int), .str (txS sg (!decide (ps = [])))])) := same_upd hl'
    have eH3 : (upd H2 l (.lst [.int n, .bl (decide (ps = [])), .ref w, .int (sg.length : Int), .str (txS sg (!decide (ps = [])))])) l = some (.lst [.int n, .bl (decide (ps = [])), .ref w, .int (sg.length : Int), .str (txS sg (!decide (ps = [])))]) := upd_same
    generalize upd H2 l (.lst [.int n, .bl (decide (ps = [])), .ref w, .int (sg.length : Int), .str (txS sg (!decide (ps = [])))]) = H3 at sH3 eH3 ⊢
    replace eH1 := sH3 _ _ eH1
    replace s1 := s1.trans sH3
    exact q H3 l w s1 eH3 eH1
def spDue19 (K : PySem.W.Frag) : Sp := fun vs H Q _ => ∃ (r : Addr) (cs sg ps : List Int), vs = [.ref r] ∧ H r = some (.lst (cs.map V.int)) ∧ Stt cs sg ps ∧ cs.length ≤ 1000 ∧
  ∀ (H' : Hp) (l w : Addr), Same H H' → H' l = some (.lst [.int (cs.length : Int), .bl (decide (ps = [])), .ref w, .int (sg.length : Int), .str (txS sg (!decide (ps = [])))]) → H' w = some (.lst (sg.map V.int)) → Q (.ref l) H'
theorem half_of (sg ps : List Int) : halfB (sg, ps, none) = !decide (ps = []) := by
  cases ps with
  | nil => rfl
  | cons x t =>
    show true = _
    simp
theorem rep_half (h : Bool) : (List.replicate (if h = true then (1 : Int) else 0).toNat [V.str (Str.ofString "..")]).flatten = (if h = true then [Str.ofString ".."] else []).map V.str := by cases h <;> rfl
theorem ok_due (T : Tx K mg) : FnOk P w K mg base CX0 2 T.f_due T.fd_due ["_law_row"] (spDue19 K) := by
  refine T.F_due.ok sc_due (fun vs H Q E h => ?_) (fun cdv A outer s H vs Q E hr h => ?_)
  · obtain ⟨r, cs, sg, ps, rfl, _⟩ := h
    rfl
  · obtain ⟨r, cs, sg, ps, rfl, er, st, hcl, q⟩ := h
    have hb := st.ok.2
    have hl := rd_many cs st.rd
    rw [List.length_nil, Nat.zero_add] at hl
    refine ⟨_, (pss_cons (ps_asg (pe_call (ok_signs T) (hr.mono (by omega)) (by rfl) T.g_signs T.F_signs.kp T.b_signs .nil pass0 (pa_cons (pv 0) pa_nil)) (pg_tup rfl (pgs_cons (pg_name (i := 1) sc_due.nd rfl (.inl rfl)) (pgs_cons (pg_name (i := 2) sc_due.nd rfl (.inl rfl)) (pgs_cons (pg_name (i := 3) sc_due.nd rfl (.inl rfl)) pgs_nil)))))
      (pss_one (ps_ret (pe_lst (pa_cons (pe_callB call_len_seq (by rfl) T.m_len (by decide +kernel) (pa_cons (pv 0) pa_nil)) (pa_cons (pe_not (pv 3)) (pa_cons (pv 1) (pa_cons (pe_callB call_len_seq (by rfl) T.m_len (by decide +kernel) (pa_cons (pv 1) pa_nil)) (pa_cons (pe_bm PySem.F.plainAttrs_str PySem.F.slot_str_join PySem.F.type_str_join mt_join pe_str (pa_cons (pe_op op_cat (pe_lc (own := [("_law_sign", 4)]) (g := gName 4) (tt := tYes) rfl sc_due.nd (pi_list (pv 1)) (blkOk_by (N := ["_law_row", "_law_told", "_law_bad", "_law_half", "_law_sign"]) (sc := defScope s_due) (by decide +kernel)) (fun _ _ _ _ _ => (pg_name (i := 4) sc_due.nd rfl (.inl rfl))) (fun _ _ _ _ _ => pts_nil) (fun _ _ _ _ _ => (pe_callTy call_str_int (by rfl) T.m_str (by decide +kernel) (pa_cons (pv 4) pa_nil)))) (pe_op op_rep (pe_lst (pa_cons pe_str pa_nil)) (pe_callTy call_int1 (by rfl) T.m_int (by decide +kernel) (pa_cons (pv 3) pa_nil)))) pa_nil)) pa_nil))))))))), ?_⟩
    refine ⟨.ref r, rfl, r, cs, rfl, sq1 er, st.bt, by omega, fun H1 t l s1 ht hl1 et el => ?_⟩
    rw [st.rd] at et el
    rw [half_of] at et
    have q0 : ∀ (H' : Hp) (l w : Addr), Same H H' → H' l = some (.lst [.int (cs.length : Int), .bl (!(!decide (ps = []))), .ref w, .int (sg.length : Int), .str (txS sg (!decide (ps = [])))]) → H' w = some (.lst (sg.map V.int)) → Q (.ref l) H' := fun H' l w s e1 e2 => q H' l w s (by rw [Bool.not_not] at e1; exact e1) e2
    generalize (!decide (ps = [])) = hf at et q0
    refine ⟨t, _, rfl, .inl (.inl et), rfl, _, _, rfl, _, _, rfl, _, _, rfl, rfl, ?_⟩
    have er1 := s1 _ _ er
    refine ⟨.ref r, rfl, r, _, rfl, .inl (sq1 er1), ?_⟩
    rw [List.length_map]
    refine ⟨.bl hf, rfl, hf, rfl, .ref l, rfl, .ref l, rfl, l, _, rfl, .inl (sq1 el), ?_⟩
    rw [List.length_map]
    refine ⟨rfl, .ref l, rfl, l, rfl, ⟨_, sq1 el⟩, fun D hD => ?_⟩
    refine lc_it (walk_list (xs := sg.map V.int)) (fun i Hc => Same H1 Hc ∧ Hc D = some (.lst (((sg.take i).map sT).map V.str))) ?_ ?_ ?_ ?_
    · exact ⟨same_upd hD, upd_same⟩
    · rintro i Hc hi ⟨sm, _⟩
      exact sq1 (sm _ _ el)
    · rintro i y Hc H' hi ⟨sm, eD⟩ ⟨rfl, hy⟩
      have hy2 := hy
      rw [List.getElem?_map] at hy2
      obtain ⟨z, hz, rfl⟩ := Option.map_eq_some_iff.mp hy2
      refine ⟨rfl, .int z, rfl, z, rfl, sT_log (hb z (List.mem_of_getElem? hz)), ?_⟩
      refine ⟨_, eD, ?_, Same.mut sm hD, ?_⟩
      · rw [List.length_map, List.length_map, List.length_take, sizeLine_eq]
        omega
      · rw [upd_same, List.take_add_one, hz, List.map_append, List.map_append]
        rfl
    · rintro Hc ⟨sm, eD⟩
      rw [List.length_map, List.take_of_length_le (Nat.le_refl _)] at eD
      replace s1 := s1.trans sm
      replace el := sm _ _ el
      refine ⟨by show 1 ≤ sizeLine; decide, fun l2 hl2 => ?_⟩
      have sH2 : Same Hc (upd Hc l2 (.lst [.str (Str.ofString "..")])) := same_upd hl2
      have eH2 : (upd Hc l2 (.lst [.str (Str.ofString "..")])) l2 = some (.lst [.str (Str.ofString "..")]) := upd_same
      generalize upd Hc l2 (.lst [.str (Str.ofString "..")]) = H2 at sH2 eH2 ⊢
      replace eD := sH2 _ _ eD
      replace el := sH2 _ _ el
      replace s1 := s1.trans sH2
      refine ⟨.bl hf, rfl, .inr ⟨hf, rfl, l2, _, _, rfl, rfl, eH2, by split <;> omega, by split <;> omega, (by show 1 * (if hf = true then (1 : Int) else 0).toNat ≤ sizeLine; rw [sizeLine_eq]; split <;> decide), fun l3 hl3 => ?_⟩⟩
      have sH3 : Same H2 (upd H2 l3 (.lst (List.replicate (if hf = true then (1 : Int) else 0).toNat [V.str (Str.ofString "..")]).flatten)) := same_upd hl3
      have eH3 : (upd H2 l3 (.lst (List.replicate (if hf = true then (1 : Int) else 0).toNat [V.str (Str.ofString "..")]).flatten)) l3 = some (.lst (List.replicate (if hf = true then (1 : Int) else 0).toNat [V.str (Str.ofString "..")]).flatten) := upd_same
      generalize upd H2 l3 (.lst (List.replicate (if hf = true then (1 : Int) else 0).toNat [V.str (Str.ofString "..")]).flatten) = H3 at sH3 eH3 ⊢
      replace eD := sH3 _ _ eD
      replace el := sH3 _ _ el
      replace s1 := s1.trans sH3
      rw [rep_half] at eH3
      have fit := tx_fits hb (by omega) hf
      have hll : (if hf = true then [Str.ofString ".."] else ([] : List Str)).length ≤ 1 := by cases hf <;> decide
      refine ⟨D, l3, _, _, rfl, rfl, eD, eH3, (by rw [List.length_map, List.length_map, List.length_map, sizeLine_eq]; omega), fun l4 hl4 => ?_⟩
      have sH4 : Same H3 (upd H3 l4 (.lst ((sg.map sT).map V.str ++ (if hf = true then [Str.ofString ".."] else []).map V.str))) := same_upd hl4
      have eH4 : (upd H3 l4 (.lst ((sg.map sT).map V.str ++ (if hf = true then [Str.ofString ".."] else []).map V.str))) l4 = some (.lst ((sg.map sT).map V.str ++ (if hf = true then [Str.ofString ".."] else []).map V.str)) := upd_same
      generalize upd H3 l4 (.lst ((sg.map sT).map V.str ++ (if hf = true then [Str.ofString ".."] else []).map V.str)) = H4 at sH4 eH4 ⊢
      replace el := sH4 _ _ el
      replace s1 := s1.trans sH4
      rw [← List.map_append] at eH4
      refine ⟨Str.ofString " ", l4, _, rfl, rfl, .inl (sq1 eH4), fit, ?_⟩
      refine ⟨by show 5 ≤ sizeLine; decide, fun l5 hl5 => ?_⟩
      exact q0 _ l5 l (s1.trans (same_upd hl5)) upd_same (same_upd hl5 _ _ el)
end
end K19

set_option Elab.async false
set_option linter.all false
set_option maxRecDepth 100000
set_option maxHeartbeats 4000000
namespace K19
open PySem PySem.Spec PyProof.Rows L2
/-! ### a byte drawn -/
section
variable {P : Program} {w : World} {K : PySem.W.Frag} {mg : Str → Option Value} {base : Heap}
def spByte19 : Sp := fun vs H Q _ => ∃ (p : Addr) (a b c : Int), vs = [.ref p] ∧ H p = some (.lst [.int a, .int b, .int c]) ∧ 0 ≤ a ∧ 0 ≤ b ∧ b < 2 ^ 62 ∧ 0 ≤ c ∧ c < 2 ^ 38 ∧
  ∀ (H' : Hp) (x a' c' : Int), Keep p H H' → H' p = some (.lst [.int a', .int b, .int c']) → 0 ≤ a' → c ≤ c' → c' ≤ c + 2 → 0 ≤ x → x < 256 → Q (.int x) H'
theorem ok_byte (T : Tx K mg) : FnOk P w K mg base CX0 3 T.f_byte T.fd_byte ["_law_box_here"] spByte19 := by
  refine T.F_byte.ok sc_byte (fun vs H Q E h => ?_) (fun cdv A outer s H vs Q E hr h => ?_)
  · obtain ⟨p, a, b, c, rfl, _⟩ := h
    rfl
  · obtain ⟨p, a, b, c, rfl, hB, a0, b0, b1, c0, c1, q⟩ := h
    refine ⟨_, (pss_cons (ps_set (i := 1) sc_byte.nd rfl (.inl rfl) (pe_lst (pa_cons pe_int (pa_cons pe_int (pa_cons pe_int (pa_cons pe_int (pa_cons pe_int (pa_cons pe_int (pa_cons pe_int (pa_cons pe_int (pa_cons pe_int (pa_cons pe_int (pa_cons pe_int (pa_cons pe_int (pa_cons pe_int (pa_cons pe_int (pa_cons pe_int (pa_cons pe_int (pa_cons pe_int (pa_cons pe_int (pa_cons pe_int pa_nil)))))))))))))))))))))
      (pss_one (ps_ret (pe_ifExp (pt_cmpR op_eq (pe_call (ok_take T) (hr.mono (by omega)) (by rfl) T.g_take T.F_take.kp T.b_take .nil pass0 (pa_cons (pv 0) (pa_cons pe_int pa_nil))) pe_int (nomark _)) (pe_call (ok_take T) (hr.mono (by omega)) (by rfl) T.g_take T.F_take.kp T.b_take .nil pass0 (pa_cons (pv 0) (pa_cons pe_int pa_nil))) (pe_call (ok_of T) (hr.mono (by omega)) (by rfl) T.g_of T.F_of.kp T.b_of .nil pass0 (pa_cons (pv 0) (pa_cons (pe_op op_cat (pv 1) (pe_lst (pa_cons pe_int (pa_cons pe_int (pa_cons pe_int (pa_cons pe_int pa_nil)))))) pa_nil))))))), ?_⟩
    have kp := Keep.refl p H
    refine ⟨by show 19 ≤ sizeLine; decide, fun l1 hl1 => ?_⟩
    have n1 := ne_of_none hB hl1
    have sH1 : Same H (upd H l1 (.lst [.int 0, .int 65, .int 127, .int 128, .int 143, .int 159, .int 160, .int 191, .int 192, .int 193, .int 194, .int 223, .int 224, .int 225, .int 237, .int 238, .int 239, .int 240, .int 255])) := same_upd hl1
    have eH1 : (upd H l1 (.lst [.int 0, .int 65, .int 127, .int 128, .int 143, .int 159, .int 160, .int 191, .int 192, .int 193, .int 194, .int 223, .int 224, .int 225, .int 237, .int 238, .int 239, .int 240, .int 255])) l1 = some (.lst [.int 0, .int 65, .int 127, .int 128, .int 143, .int 159, .int 160, .int 191, .int 192, .int 193, .int 194, .int 223, .int 224, .int 225, .int 237, .int 238, .int 239, .int 240, .int 255]) := upd_same
    generalize upd H l1 (.lst [.int 0, .int 65, .int 127, .int 128, .int 143, .int 159, .int 160, .int 191, .int 192, .int 193, .int 194, .int 223, .int 224, .int 225, .int 237, .int 238, .int 239, .int 240, .int 255]) = H1 at sH1 eH1 ⊢
    replace hB := sH1 _ _ hB
    replace kp := kp.trans (Same.k sH1)
    refine ⟨.ref p, rfl, p, a, b, c, 4, rfl, hB, a0, b0, b1, c0, by omega, by decide, by decide, fun a1 c1' z a10 cl1 cu1 z0 z1 => ?_⟩
    have kH2 : Keep p H1 (upd H1 p (.lst [.int a1, .int b, .int c1'])) := (Keep.refl p H1).upd
    have eH2 : (upd H1 p (.lst [.int a1, .int b, .int c1'])) p = some (.lst [.int a1, .int b, .int c1']) := upd_same
    generalize upd H1 p (.lst [.int a1, .int b, .int c1']) = H2 at kH2 eH2 ⊢
    replace eH1 := kH2 _ _ (Ne.symm n1) eH1
    replace kp := kp.trans kH2
    refine ⟨rfl, _, rfl, ite2 (fun e => ?_) (fun e => ?_)⟩
    · refine ⟨.ref p, rfl, p, a1, b, c1', 256, rfl, eH2, a10, b0, b1, by omega, by omega, by decide, by decide, fun a2 c2 u a20 cl2 cu2 u0 u1 => ?_⟩
      have kH3 : Keep p H2 (upd H2 p (.lst [.int a2, .int b, .int c2])) := (Keep.refl p H2).upd
      have eH3 : (upd H2 p (.lst [.int a2, .int b, .int c2])) p = some (.lst [.int a2, .int b, .int c2]) := upd_same
      generalize upd H2 p (.lst [.int a2, .int b, .int c2]) = H3 at kH3 eH3 ⊢
      replace kp := kp.trans kH3
      exact q H3 u a2 c2 kp eH3 a20 (by omega) (by omega) u0 u1
    · refine ⟨.ref p, rfl, .ref l1, rfl, by show 4 ≤ sizeLine; decide, fun l2 hl2 => ?_⟩
      have sH3 : Same H2 (upd H2 l2 (.lst [.int 128, .int 160, .int 159, .int 191])) := same_upd hl2
      have eH3 : (upd H2 l2 (.lst [.int 128, .int 160, .int 159, .int 191])) l2 = some (.lst [.int 128, .int 160, .int 159, .int 191]) := upd_same
      generalize upd H2 l2 (.lst [.int 128, .int 160, .int 159, .int 191]) = H3 at sH3 eH3 ⊢
      replace eH1 := sH3 _ _ eH1
      replace eH2 := sH3 _ _ eH2
      replace kp := kp.trans (Same.k sH3)
      refine ⟨l1, l2, _, _, rfl, rfl, eH1, eH3, (by show 19 + 4 ≤ sizeLine; decide), fun l3 hl3 => ?_⟩
      have n3 := ne_of_none eH2 hl3
      have hL : ∀ L : List Int, L = [0, 65, 127, 128, 143, 159, 160, 191, 192, 193, 194, 223, 224, 225, 237, 238, 239, 240, 255, 128, 160, 159, 191] → ([.int 0, .int 65, .int 127, .int 128, .int 143, .int 159, .int 160, .int 191, .int 192, .int 193, .int 194, .int 223, .int 224, .int 225, .int 237, .int 238, .int 239, .int 240, .int 255] ++ [.int 128, .int 160, .int 159, .int 191] : List V) = L.map V.int := fun L e => by rw [e]; rfl
      have sH4 : Same H3 (upd H3 l3 (.lst ([.int 0, .int 65, .int 127, .int 128, .int 143, .int 159, .int 160, .int 191, .int 192, .int 193, .int 194, .int 223, .int 224, .int 225, .int 237, .int 238, .int 239, .int 240, .int 255] ++ [.int 128, .int 160, .int 159, .int 191]))) := same_upd hl3
      have eH4 : (upd H3 l3 (.lst ([.int 0, .int 65, .int 127, .int 128, .int 143, .int 159, .int 160, .int 191, .int 192, .int 193, .int 194, .int 223, .int 224, .int 225, .int 237, .int 238, .int 239, .int 240, .int 255] ++ [.int 128, .int 160, .int 159, .int 191]))) l3 = some (.lst ([.int 0, .int 65, .int 127, .int 128, .int 143, .int 159, .int 160, .int 191, .int 192, .int 193, .int 194, .int 223, .int 224, .int 225, .int 237, .int 238, .int 239, .int 240, .int 255] ++ [.int 128, .int 160, .int 159, .int 191])) := upd_same
      generalize upd H3 l3 (.lst ([.int 0, .int 65, .int 127, .int 128, .int 143, .int 159, .int 160, .int 191, .int 192, .int 193, .int 194, .int 223, .int 224, .int 225, .int 237, .int 238, .int 239, .int 240, .int 255] ++ [.int 128, .int 160, .int 159, .int 191])) = H4 at sH4 eH4 ⊢
      replace eH2 := sH4 _ _ eH2
      replace kp := kp.trans (Same.k sH4)
      rw [hL _ rfl] at eH4
      refine ⟨p, l3, a1, b, c1', _, rfl, eH2, a10, b0, b1, by omega, by omega, Ne.symm n3, eH4, (by decide), (by decide), fun a2 c2 x a20 cl2 cu2 hx => ?_⟩
      obtain ⟨v, hv, rfl⟩ := List.mem_map.mp hx
      have hvb : 0 ≤ v ∧ v < 256 := (by decide : ∀ n ∈ ([0, 65, 127, 128, 143, 159, 160, 191, 192, 193, 194, 223, 224, 225, 237, 238, 239, 240, 255, 128, 160, 159, 191] : List Int), 0 ≤ n ∧ n < 256) v hv
      have kH5 : Keep p H4 (upd H4 p (.lst [.int a2, .int b, .int c2])) := (Keep.refl p H4).upd
      have eH5 : (upd H4 p (.lst [.int a2, .int b, .int c2])) p = some (.lst [.int a2, .int b, .int c2]) := upd_same
      generalize upd H4 p (.lst [.int a2, .int b, .int c2]) = H5 at kH5 eH5 ⊢
      replace kp := kp.trans kH5
      exact q H5 v a2 c2 kp eH5 a20 (by omega) (by omega) hvb.1 hvb.2
end
end K19

set_option Elab.async false
set_option linter.all false
set_option maxRecDepth 100000
set_option maxHeartbeats 4000000
namespace K19
open PySem PySem.Spec PyProof.Rows L2
/-! ### one byte put, or refused -/
def Keep4 (a b c d : Addr) (H H' : Hp) : Prop := ∀ x o, x ≠ a → x ≠ b → x ≠ c → x ≠ d → H x = some o → H' x = some o
theorem at_last {xs : List Int} {v : Int} : atI ((xs ++ [v]).map V.int) (-1) = some (.int v) := by
  have e : ixN ((xs ++ [v]).map V.int).length (-1) = some xs.length := by
    rw [List.length_map, List.length_append]
    show ixN (xs.length + 1) (-1) = _
    have h1 : ¬ (0 : Int) ≤ -1 := by decide
    have h2 : -((xs.length + 1 : Nat) : Int) ≤ -1 := by omega
    simp only [ixN, h1, h2, if_true, if_false]
    congr 1
    omega
  unfold atI
  rw [e]
  show ((xs ++ [v]).map V.int)[xs.length]? = _
  rw [List.getElem?_map, List.getElem?_append_right (Nat.le_refl _), Nat.sub_self]
  rfl
section
variable {P : Program} {w : World} {K : PySem.W.Frag} {mg : Str → Option Value} {base : Heap}
def spPut19 (C : Addr) : Sp := fun vs H Q _ => ∃ (a dx ls lp r : Addr) (cs sg ps : List Int) (b : Int), vs = [.ref a, .ref r, .int b] ∧ SgAt C H a dx ls lp sg ps (cs.length : Int) ∧ Stt cs sg ps ∧ H r = some (.lst (cs.map V.int)) ∧ r ≠ a ∧ r ≠ ls ∧ r ≠ lp ∧ 0 ≤ b ∧ b < 256 ∧ cs.length ≤ 500 ∧
  ∀ (H' : Hp) (lp' : Addr) (cs' sg' ps' : List Int), SgAt C H' a dx ls lp' sg' ps' (cs'.length : Int) → Stt cs' sg' ps' → H' r = some (.lst (cs'.map V.int)) → r ≠ a → r ≠ ls → r ≠ lp' → (lp' = lp ∨ H lp' = none) → cs'.length ≤ cs.length + 1 → Keep4 a ls lp r H H' → Q (.bl true) H'
theorem ok_put (T : Tx K mg) : FnOk P w K mg base CX0 7 T.f_put T.fd_put ["_law_signs_here", "_law_row", "_law_part"] (spPut19 T.C_Signs) := by
  refine T.F_put.ok sc_put (fun vs H Q E h => ?_) (fun cdv A outer s H vs Q E hr h => ?_)
  · obtain ⟨a, dx, ls, lp, r, cs, sg, ps, b, rfl, _⟩ := h
    rfl
  · obtain ⟨a, dx, ls, lp, r, cs, sg, ps, b, rfl, hA0, st, er, nra, nrs, nrp, hb0, hb1, hcl, q⟩ := h
    have hsl := rd_many cs st.rd
    rw [List.length_nil, Nat.zero_add] at hsl
    have bts1 : Bts (cs ++ [b]) := fun x hx => by
      rcases List.mem_append.mp hx with hx | hx
      · exact st.bt x hx
      · rw [List.mem_singleton.mp hx]
        exact ⟨hb0, hb1⟩
    refine ⟨_, (pss_cons (ps_asg (pe_call (ok_signs T) (hr.mono (by omega)) (by rfl) T.g_signs T.F_signs.kp T.b_signs .nil pass0 (pa_cons (pe_op op_cat (pv 1) (pe_lst (pa_cons (pv 2) pa_nil))) pa_nil)) (pg_tup rfl (pgs_cons (pg_name (i := 3) sc_put.nd rfl (.inl rfl)) (pgs_cons (pg_name (i := 4) sc_put.nd rfl (.inl rfl)) (pgs_cons (pg_name (i := 5) sc_put.nd rfl (.inl rfl)) pgs_nil)))))
      (pss_cons (ps_set (i := 6) sc_put.nd rfl (.inl rfl) (pe_callB call_len_seq (by rfl) T.m_len (by decide +kernel) (pa_cons (pe_ix (r := rIxT K) ix_tup (pe_call (ok_signs T) (hr.mono (by omega)) (by rfl) T.g_signs T.F_signs.kp T.b_signs .nil pass0 (pa_cons (pv 1) pa_nil)) pe_int (fun _ _ => rfl)) pa_nil)))
      (pss_cons (ps_set (i := 7) sc_put.nd rfl (.inl rfl) (pe_ifExp (pt_cmpR op_notN (pv 4) pe_non (nomark _)) (pe_tup (pa_cons pe_int (pa_cons (pe_callB call_len_seq (by rfl) T.m_len (by decide +kernel) (pa_cons (pv 1) pa_nil)) pa_nil))) (pe_ifExp (pt_cmpR op_gt (pe_callB call_len_seq (by rfl) T.m_len (by decide +kernel) (pa_cons (pv 3) pa_nil)) (pv 6) (nomark _)) (pe_ix (r := rIxL K) ix_list (pv 3) (pe_un un_neg pe_int) (fun _ _ => rfl)) pe_non)))
      (pss_cons (ps_if (pt_not (pt_val (pe_call (ok_same T 3) (hr.mono (by omega)) (by rfl) T.g_same T.F_same.kp T.b_same .nil pass0 (pa_cons (pe_call (ok_put_told T) (hr.mono (by omega)) (by rfl) T.g_put_told T.F_put_told.kp T.b_put_told .nil pass0 (pa_cons (pv 0) (pa_cons (pv 2) pa_nil))) (pa_cons (pv 7) pa_nil))))) (pss_one (ps_ret pe_bl)) pss_nil)
      (pss_cons (ps_expr (pe_bm PySem.F.plainAttrs_list PySem.F.slot_list_extend PySem.F.type_list_extend mt_extend (pv 1) (pa_cons (pe_op op_rep (pe_lst (pa_cons (pv 2) pa_nil)) (pe_callTy call_int1 (by rfl) T.m_int (by decide +kernel) (pa_cons (pe_cmpR op_isN (pv 4) pe_non (nomark _)) pa_nil))) pa_nil)))
      (pss_one (ps_ret (pe_call (ok_same T 3) (hr.mono (by omega)) (by rfl) T.g_same T.F_same.kp T.b_same .nil pass0 (pa_cons (pe_call (ok_seen T) (hr.mono (by omega)) (by rfl) T.g_seen T.F_seen.kp T.b_seen .nil pass0 (pa_cons (pv 0) pa_nil)) (pa_cons (pe_call (ok_due T) (hr.mono (by omega)) (by rfl) T.g_due T.F_due.kp T.b_due .nil pass0 (pa_cons (pv 1) pa_nil)) pa_nil)))))))))), ?_⟩
    refine ⟨.ref r, rfl, .int b, rfl, by show 1 ≤ sizeLine; decide, fun l1 hl1 => ?_⟩
    have sH1 : Same H (upd H l1 (.lst [.int b])) := same_upd hl1
    have eH1 : (upd H l1 (.lst [.int b])) l1 = some (.lst [.int b]) := upd_same
    generalize upd H l1 (.lst [.int b]) = H1 at sH1 eH1 ⊢
    replace er := sH1 _ _ er
    have s0 := sH1
    refine ⟨r, l1, _, _, rfl, rfl, er, eH1, (by rw [List.length_map, sizeLine_eq]; show _ + 1 ≤ _; omega), fun l2 hl2 => ?_⟩
    have sH2 : Same H1 (upd H1 l2 (.lst (cs.map V.int ++ [.int b]))) := same_upd hl2
    have eH2 : (upd H1 l2 (.lst (cs.map V.int ++ [.int b]))) l2 = some (.lst (cs.map V.int ++ [.int b])) := upd_same
    generalize upd H1 l2 (.lst (cs.map V.int ++ [.int b])) = H2 at sH2 eH2 ⊢
    replace er := sH2 _ _ er
    replace s0 := s0.trans sH2
    have e2 : H2 l2 = some (.lst ((cs ++ [b]).map V.int)) := by rw [List.map_append]; exact eH2
    refine ⟨l2, cs ++ [b], rfl, sq1 e2, bts1, (by rw [List.length_append]; show _ + 1 ≤ _; omega), fun H3 t l s3 ht hl et el => ?_⟩
    replace er := s3 _ _ er
    replace s0 := s0.trans s3
    refine ⟨t, _, rfl, .inl (.inl et), rfl, _, _, rfl, _, _, rfl, _, _, rfl, rfl, ?_⟩
    refine ⟨.ref r, rfl, r, cs, rfl, sq1 er, st.bt, by omega, fun H4 t2 l4 s4 ht2 hl4 et2 el4 => ⟨t2, _, 0, .ref l4, rfl, rfl, st1 et2, rfl, l4, _, rfl, .inl (sq1 el4), ?_⟩⟩
    replace er := s4 _ _ er
    replace s0 := s0.trans s4
    have s4' := s4
    rw [st.rd]
    rw [List.length_map]
    by_cases hc : canSt ps b = true
    · by_cases hg : goesOn ps b = true
      · skip
        have e0 : rd (cs ++ [b]) [] [] 0 = (sg, ps ++ [b], none) := by
          rw [rd_snoc cs st.rd, rd, if_pos hc, if_pos hg, rd]
        rw [e0] at et el ⊢
        refine ⟨.non, rfl, rfl, _, rfl, ?_⟩
        refine ⟨.ref l, rfl, l, _, rfl, .inl (sq1 (s4' _ _ el)), .int (sg.length : Int), rfl, _, _, rfl, rfl, _, rfl, ?_⟩
        rw [decide_eq_false (by rw [List.length_map]; exact Int.lt_irrefl _)]
        refine ⟨.ref a, rfl, .int b, rfl, a, dx, ls, lp, sg, ps, _, b, rfl, hA0.same s0, st.ok.1.len, by omega, by omega, by omega, ?_⟩
        rw [if_pos hc, if_pos hg]
        intro G hA k3
        refine ⟨.non, rfl, .non, .non, rfl, Sm.flat rfl, fun G2 s7 => ⟨true, rfl, ?_⟩⟩
        replace er := s7 _ _ (k3 _ _ nra nrs nrp er)
        replace hA := hA.same s7
        have k4 : Keep4 a ls lp r H G2 := fun x o h1 h2 h3 _ e => s7 x o (k3 x o h1 h2 h3 (s0 x o e))
        have nrpN := nrp
        refine ⟨.ref r, rfl, .inl ⟨rfl, _, sq1 er⟩, .int b, rfl, by show 1 ≤ sizeLine; decide, fun l6 hl6 => ?_⟩
        have f6 : ∀ x o, G2 x = some o → x ≠ l6 := fun x o e => ne_of_none e hl6
        have sG6 : Same G2 (upd G2 l6 (.lst [.int b])) := same_upd hl6
        have eG6 : (upd G2 l6 (.lst [.int b])) l6 = some (.lst [.int b]) := upd_same
        generalize upd G2 l6 (.lst [.int b]) = G6 at sG6 eG6 ⊢
        replace er := sG6 _ _ er
        replace hA := hA.same sG6
        replace k4 : Keep4 a ls lp r H G6 := fun x o h1 h2 h3 h4 e => sG6 x o (k4 x o h1 h2 h3 h4 e)
        refine ⟨V.non, rfl, rfl, .inr ⟨_, rfl, l6, _, _, rfl, rfl, eG6, by split <;> omega, by split <;> omega, (by show 1 * (if decide (V.non = V.non) = true then (1 : Int) else 0).toNat ≤ sizeLine; rw [sizeLine_eq]; split <;> decide), fun l7 hl7 => ?_⟩⟩
        have sG7 : Same G6 (upd G6 l7 (.lst (List.replicate (if decide (V.non = V.non) = true then (1 : Int) else 0).toNat [V.int b]).flatten)) := same_upd hl7
        have eG7 : (upd G6 l7 (.lst (List.replicate (if decide (V.non = V.non) = true then (1 : Int) else 0).toNat [V.int b]).flatten)) l7 = some (.lst (List.replicate (if decide (V.non = V.non) = true then (1 : Int) else 0).toNat [V.int b]).flatten) := upd_same
        generalize upd G6 l7 (.lst (List.replicate (if decide (V.non = V.non) = true then (1 : Int) else 0).toNat [V.int b]).flatten) = G7 at sG7 eG7 ⊢
        replace er := sG7 _ _ er
        replace hA := hA.same sG7
        replace k4 : Keep4 a ls lp r H G7 := fun x o h1 h2 h3 h4 e => sG7 x o (k4 x o h1 h2 h3 h4 e)
        rw [show (if decide (V.non = V.non) = true then (1 : Int) else 0) = 1 from by rw [decide_eq_true rfl]; rfl] at eG7
        refine ⟨r, l7, _, _, rfl, rfl, er, eG7, (by rw [List.length_map, sizeLine_eq]; show _ + 1 ≤ _; omega), ?_⟩
        have kG8 : Keep r G7 (upd G7 r (.lst (cs.map V.int ++ (List.replicate (1 : Int).toNat [V.int b]).flatten))) := (Keep.refl r G7).upd
        have eG8 : (upd G7 r (.lst (cs.map V.int ++ (List.replicate (1 : Int).toNat [V.int b]).flatten))) r = some (.lst (cs.map V.int ++ (List.replicate (1 : Int).toNat [V.int b]).flatten)) := upd_same
        generalize upd G7 r (.lst (cs.map V.int ++ (List.replicate (1 : Int).toNat [V.int b]).flatten)) = G8 at kG8 eG8 ⊢
        have er8 : G8 r = some (.lst ((cs ++ [b]).map V.int)) := by rw [eG8]; rw [List.map_append]; rfl
        replace hA : SgAt T.C_Signs G8 a dx ls lp (sg) (ps ++ [b]) ((cs ++ [b]).length : Int) := ⟨kG8 _ _ (Ne.symm nra) (by have z := hA.obj; first | exact z | (rw [show ((cs ++ [b]).length : Int) = (cs.length : Int) + 1 from by rw [List.length_append]; show ((cs.length + 1 : Nat) : Int) = _; omega]; exact z)), kG8 _ _ (Ne.symm nrs) hA.sgs, kG8 _ _ (Ne.symm nrpN) hA.pts, hA.ne⟩
        replace k4 : Keep4 a ls lp r H G8 := fun x o h1 h2 h3 h4 e => kG8 x o h4 (k4 x o h1 h2 h3 h4 e)
        have stN : Stt (cs ++ [b]) (sg) (ps ++ [b]) := ⟨e0, bts1⟩
        have hlN := rd_many (cs ++ [b]) stN.rd
        have hcN : (cs ++ [b]).length ≤ cs.length + 1 := by rw [List.length_append]; exact Nat.le_refl _
        rw [List.length_nil, Nat.zero_add] at hlN
        refine ⟨.ref a, rfl, a, dx, ls, lp, sg, ps ++ [b], _, rfl, hA, stN.ok.2, by omega, fun G9 l9 w9 s9 e9 ew9 => ?_⟩
        refine ⟨.ref r, rfl, r, cs ++ [b], sg, ps ++ [b], rfl, s9 _ _ er8, stN, by omega, fun GA lA wA sA eA ewA => ?_⟩
        refine ⟨.ref l9, .ref lA, rfl, Sm.lst (sA _ _ e9) eA (.cons (Sm.flat rfl) (.cons (Sm.flat rfl) (.cons (Sm.ints (sA _ _ ew9) ewA (by omega)) (.cons (Sm.flat rfl) (.cons (Sm.flat rfl) .nil))))) (by show 5 ≤ _; decide), fun GB sB => ?_⟩
        have sE := (s9.trans sA).trans sB
        exact q GB lp (cs ++ [b]) (sg) (ps ++ [b]) (hA.same sE) stN (sE _ _ er8) nra nrs nrpN (.inl rfl) hcN (fun x o h1 h2 h3 h4 e => sE x o (k4 x o h1 h2 h3 h4 e))
      · skip
        have e0 : rd (cs ++ [b]) [] [] 0 = (sg ++ [sgOf (ps ++ [b])], [], none) := by
          rw [rd_snoc cs st.rd, rd, if_pos hc, if_neg hg, rd]
        rw [e0] at et el ⊢
        refine ⟨.non, rfl, rfl, _, rfl, ?_⟩
        refine ⟨.ref l, rfl, l, _, rfl, .inl (sq1 (s4' _ _ el)), .int (sg.length : Int), rfl, _, _, rfl, rfl, _, rfl, ?_⟩
        rw [decide_eq_true (by rw [List.length_map, List.length_append]; show (sg.length : Int) < ((sg.length + 1 : Nat) : Int); omega)]
        refine ⟨.ref l, rfl, 1, rfl, l, _, -1, .int (sgOf (ps ++ [b])), rfl, rfl, sq1 (s4' _ _ el), at_last, ?_⟩
        refine ⟨.ref a, rfl, .int b, rfl, a, dx, ls, lp, sg, ps, _, b, rfl, hA0.same s0, st.ok.1.len, by omega, by omega, by omega, ?_⟩
        rw [if_pos hc, if_neg hg]
        intro G lp' hA fl k3
        have nrpN : r ≠ lp' := ne_of_none er fl
        have fl' : H lp' = none := Same.free s0 fl
        refine ⟨.int (sgOf (ps ++ [b])), rfl, .int (sgOf (ps ++ [b])), .int (sgOf (ps ++ [b])), rfl, Sm.flat rfl, fun G2 s7 => ⟨true, rfl, ?_⟩⟩
        replace er := s7 _ _ (k3 _ _ nra nrs nrp er)
        replace hA := hA.same s7
        have k4 : Keep4 a ls lp r H G2 := fun x o h1 h2 h3 _ e => s7 x o (k3 x o h1 h2 h3 (s0 x o e))
        refine ⟨.ref r, rfl, .inl ⟨rfl, _, sq1 er⟩, .int b, rfl, by show 1 ≤ sizeLine; decide, fun l6 hl6 => ?_⟩
        have f6 : ∀ x o, G2 x = some o → x ≠ l6 := fun x o e => ne_of_none e hl6
        have sG6 : Same G2 (upd G2 l6 (.lst [.int b])) := same_upd hl6
        have eG6 : (upd G2 l6 (.lst [.int b])) l6 = some (.lst [.int b]) := upd_same
        generalize upd G2 l6 (.lst [.int b]) = G6 at sG6 eG6 ⊢
        replace er := sG6 _ _ er
        replace hA := hA.same sG6
        replace k4 : Keep4 a ls lp r H G6 := fun x o h1 h2 h3 h4 e => sG6 x o (k4 x o h1 h2 h3 h4 e)
        refine ⟨V.non, rfl, rfl, .inr ⟨_, rfl, l6, _, _, rfl, rfl, eG6, by split <;> omega, by split <;> omega, (by show 1 * (if decide (V.non = V.non) = true then (1 : Int) else 0).toNat ≤ sizeLine; rw [sizeLine_eq]; split <;> decide), fun l7 hl7 => ?_⟩⟩
        have sG7 : Same G6 (upd G6 l7 (.lst (List.replicate (if decide (V.non = V.non) = true then (1 : Int) else 0).toNat [V.int b]).flatten)) := same_upd hl7
        have eG7 : (upd G6 l7 (.lst (List.replicate (if decide (V.non = V.non) = true then (1 : Int) else 0).toNat [V.int b]).flatten)) l7 = some (.lst (List.replicate (if decide (V.non = V.non) = true then (1 : Int) else 0).toNat [V.int b]).flatten) := upd_same
        generalize upd G6 l7 (.lst (List.replicate (if decide (V.non = V.non) = true then (1 : Int) else 0).toNat [V.int b]).flatten) = G7 at sG7 eG7 ⊢
        replace er := sG7 _ _ er
        replace hA := hA.same sG7
        replace k4 : Keep4 a ls lp r H G7 := fun x o h1 h2 h3 h4 e => sG7 x o (k4 x o h1 h2 h3 h4 e)
        rw [show (if decide (V.non = V.non) = true then (1 : Int) else 0) = 1 from by rw [decide_eq_true rfl]; rfl] at eG7
        refine ⟨r, l7, _, _, rfl, rfl, er, eG7, (by rw [List.length_map, sizeLine_eq]; show _ + 1 ≤ _; omega), ?_⟩
        have kG8 : Keep r G7 (upd G7 r (.lst (cs.map V.int ++ (List.replicate (1 : Int).toNat [V.int b]).flatten))) := (Keep.refl r G7).upd
        have eG8 : (upd G7 r (.lst (cs.map V.int ++ (List.replicate (1 : Int).toNat [V.int b]).flatten))) r = some (.lst (cs.map V.int ++ (List.replicate (1 : Int).toNat [V.int b]).flatten)) := upd_same
        generalize upd G7 r (.lst (cs.map V.int ++ (List.replicate (1 : Int).toNat [V.int b]).flatten)) = G8 at kG8 eG8 ⊢
        have er8 : G8 r = some (.lst ((cs ++ [b]).map V.int)) := by rw [eG8]; rw [List.map_append]; rfl
        replace hA : SgAt T.C_Signs G8 a dx ls lp' (sg ++ [sgOf (ps ++ [b])]) ([]) ((cs ++ [b]).length : Int) := ⟨kG8 _ _ (Ne.symm nra) (by have z := hA.obj; first | exact z | (rw [show ((cs ++ [b]).length : Int) = (cs.length : Int) + 1 from by rw [List.length_append]; show ((cs.length + 1 : Nat) : Int) = _; omega]; exact z)), kG8 _ _ (Ne.symm nrs) hA.sgs, kG8 _ _ (Ne.symm nrpN) hA.pts, hA.ne⟩
        replace k4 : Keep4 a ls lp r H G8 := fun x o h1 h2 h3 h4 e => kG8 x o h4 (k4 x o h1 h2 h3 h4 e)
        have stN : Stt (cs ++ [b]) (sg ++ [sgOf (ps ++ [b])]) ([]) := ⟨e0, bts1⟩
        have hlN := rd_many (cs ++ [b]) stN.rd
        have hcN : (cs ++ [b]).length ≤ cs.length + 1 := by rw [List.length_append]; exact Nat.le_refl _
        rw [List.length_nil, Nat.zero_add] at hlN
        refine ⟨.ref a, rfl, a, dx, ls, lp', sg ++ [sgOf (ps ++ [b])], [], _, rfl, hA, stN.ok.2, by omega, fun G9 l9 w9 s9 e9 ew9 => ?_⟩
        refine ⟨.ref r, rfl, r, cs ++ [b], sg ++ [sgOf (ps ++ [b])], [], rfl, s9 _ _ er8, stN, by omega, fun GA lA wA sA eA ewA => ?_⟩
        refine ⟨.ref l9, .ref lA, rfl, Sm.lst (sA _ _ e9) eA (.cons (Sm.flat rfl) (.cons (Sm.flat rfl) (.cons (Sm.ints (sA _ _ ew9) ewA (by omega)) (.cons (Sm.flat rfl) (.cons (Sm.flat rfl) .nil))))) (by show 5 ≤ _; decide), fun GB sB => ?_⟩
        have sE := (s9.trans sA).trans sB
        exact q GB lp' (cs ++ [b]) (sg ++ [sgOf (ps ++ [b])]) ([]) (hA.same sE) stN (sE _ _ er8) nra nrs nrpN (.inr fl') hcN (fun x o h1 h2 h3 h4 e => sE x o (k4 x o h1 h2 h3 h4 e))
    · skip
      have e0 : rd (cs ++ [b]) [] [] 0 = (sg, ps, some (cs.length : Int)) := by
        rw [rd_snoc cs st.rd, rd, if_neg hc, Int.zero_add]
      rw [e0] at et el ⊢
      refine ⟨.int (cs.length : Int), rfl, rfl, _, rfl, ?_⟩
      refine ⟨.ref r, rfl, r, _, rfl, .inl (sq1 er), by show 2 ≤ sizeLine; decide, fun t5 ht5 => ?_⟩
      rw [List.length_map] at *
      have sH5 : Same H4 (upd H4 t5 (.tup [.int 14, .int (cs.length : Int)])) := same_upd ht5
      have eH5 : (upd H4 t5 (.tup [.int 14, .int (cs.length : Int)])) t5 = some (.tup [.int 14, .int (cs.length : Int)]) := upd_same
      generalize upd H4 t5 (.tup [.int 14, .int (cs.length : Int)]) = H5 at sH5 eH5 ⊢
      replace er := sH5 _ _ er
      replace s0 := s0.trans sH5
      refine ⟨.ref a, rfl, .int b, rfl, a, dx, ls, lp, sg, ps, _, b, rfl, hA0.same s0, st.ok.1.len, by omega, by omega, by omega, ?_⟩
      rw [if_neg hc]
      intro G t6 s6 e6
      refine ⟨.ref t5, rfl, .ref t6, .ref t5, rfl, Sm.tup e6 (s6 _ _ eH5) (SmAll.flat rfl) (by show 2 ≤ _; decide), fun G2 s7 => ⟨true, rfl, ?_⟩⟩
      have sG := (s0.trans s6).trans s7
      replace er := (s6.trans s7) _ _ er
      have hA := hA0.same sG
      have k4 : Keep4 a ls lp r H G2 := fun x o _ _ _ _ e => sG x o e
      have nrpN := nrp
      refine ⟨.ref r, rfl, .inl ⟨rfl, _, sq1 er⟩, .int b, rfl, by show 1 ≤ sizeLine; decide, fun l6 hl6 => ?_⟩
      have f6 : ∀ x o, G2 x = some o → x ≠ l6 := fun x o e => ne_of_none e hl6
      have sG6 : Same G2 (upd G2 l6 (.lst [.int b])) := same_upd hl6
      have eG6 : (upd G2 l6 (.lst [.int b])) l6 = some (.lst [.int b]) := upd_same
      generalize upd G2 l6 (.lst [.int b]) = G6 at sG6 eG6 ⊢
      replace er := sG6 _ _ er
      replace hA := hA.same sG6
      replace k4 : Keep4 a ls lp r H G6 := fun x o h1 h2 h3 h4 e => sG6 x o (k4 x o h1 h2 h3 h4 e)
      refine ⟨(V.int (cs.length : Int)), rfl, rfl, .inr ⟨_, rfl, l6, _, _, rfl, rfl, eG6, by split <;> omega, by split <;> omega, (by show 1 * (if decide ((V.int (cs.length : Int)) = V.non) = true then (1 : Int) else 0).toNat ≤ sizeLine; rw [sizeLine_eq]; split <;> decide), fun l7 hl7 => ?_⟩⟩
      have sG7 : Same G6 (upd G6 l7 (.lst (List.replicate (if decide ((V.int (cs.length : Int)) = V.non) = true then (1 : Int) else 0).toNat [V.int b]).flatten)) := same_upd hl7
      have eG7 : (upd G6 l7 (.lst (List.replicate (if decide ((V.int (cs.length : Int)) = V.non) = true then (1 : Int) else 0).toNat [V.int b]).flatten)) l7 = some (.lst (List.replicate (if decide ((V.int (cs.length : Int)) = V.non) = true then (1 : Int) else 0).toNat [V.int b]).flatten) := upd_same
      generalize upd G6 l7 (.lst (List.replicate (if decide ((V.int (cs.length : Int)) = V.non) = true then (1 : Int) else 0).toNat [V.int b]).flatten) = G7 at sG7 eG7 ⊢
      replace er := sG7 _ _ er
      replace hA := hA.same sG7
      replace k4 : Keep4 a ls lp r H G7 := fun x o h1 h2 h3 h4 e => sG7 x o (k4 x o h1 h2 h3 h4 e)
      rw [show (if decide ((V.int (cs.length : Int)) = V.non) = true then (1 : Int) else 0) = 0 from by rw [decide_eq_false (fun z => nomatch z)]; rfl] at eG7
      refine ⟨r, l7, _, _, rfl, rfl, er, eG7, (by rw [List.length_map, sizeLine_eq]; show _ + 0 ≤ _; omega), ?_⟩
      have kG8 : Keep r G7 (upd G7 r (.lst (cs.map V.int ++ (List.replicate (0 : Int).toNat [V.int b]).flatten))) := (Keep.refl r G7).upd
      have eG8 : (upd G7 r (.lst (cs.map V.int ++ (List.replicate (0 : Int).toNat [V.int b]).flatten))) r = some (.lst (cs.map V.int ++ (List.replicate (0 : Int).toNat [V.int b]).flatten)) := upd_same
      generalize upd G7 r (.lst (cs.map V.int ++ (List.replicate (0 : Int).toNat [V.int b]).flatten)) = G8 at kG8 eG8 ⊢
      have er8 : G8 r = some (.lst ((cs).map V.int)) := by rw [eG8]; exact congrArg (fun z => some (HO.lst z)) (List.append_nil _)
      replace hA : SgAt T.C_Signs G8 a dx ls lp (sg) (ps) ((cs).length : Int) := ⟨kG8 _ _ (Ne.symm nra) (by have z := hA.obj; first | exact z | (rw [show ((cs ++ [b]).length : Int) = (cs.length : Int) + 1 from by rw [List.length_append]; show ((cs.length + 1 : Nat) : Int) = _; omega]; exact z)), kG8 _ _ (Ne.symm nrs) hA.sgs, kG8 _ _ (Ne.symm nrpN) hA.pts, hA.ne⟩
      replace k4 : Keep4 a ls lp r H G8 := fun x o h1 h2 h3 h4 e => kG8 x o h4 (k4 x o h1 h2 h3 h4 e)
      have stN : Stt (cs) (sg) (ps) := st
      have hlN := rd_many (cs) stN.rd
      have hcN : (cs).length ≤ cs.length + 1 := by omega
      rw [List.length_nil, Nat.zero_add] at hlN
      refine ⟨.ref a, rfl, a, dx, ls, lp, sg, ps, _, rfl, hA, stN.ok.2, by omega, fun G9 l9 w9 s9 e9 ew9 => ?_⟩
      refine ⟨.ref r, rfl, r, cs, sg, ps, rfl, s9 _ _ er8, stN, by omega, fun GA lA wA sA eA ewA => ?_⟩
      refine ⟨.ref l9, .ref lA, rfl, Sm.lst (sA _ _ e9) eA (.cons (Sm.flat rfl) (.cons (Sm.flat rfl) (.cons (Sm.ints (sA _ _ ew9) ewA (by omega)) (.cons (Sm.flat rfl) (.cons (Sm.flat rfl) .nil))))) (by show 5 ≤ _; decide), fun GB sB => ?_⟩
      have sE := (s9.trans sA).trans sB
      exact q GB lp (cs) (sg) (ps) (hA.same sE) stN (sE _ _ er8) nra nrs nrpN (.inl rfl) hcN (fun x o h1 h2 h3 h4 e => sE x o (k4 x o h1 h2 h3 h4 e))
end
end K19

set_option Elab.async false
set_option linter.all false
set_option maxRecDepth 100000
set_option maxHeartbeats 4000000
namespace K19
open PySem PySem.Spec PyProof.Rows L2
/-! ### the law -/
def Apart (a ls lp r : Addr) (xs : List Addr) : Prop := ∀ x ∈ xs, x ≠ a ∧ x ≠ ls ∧ x ≠ lp ∧ x ≠ r
structure Ob (C : Addr) (H Hc : Hp) (a dx ls lp r : Addr) (cs sg ps : List Int) : Prop where
  at_ : SgAt C Hc a dx ls lp sg ps (cs.length : Int)
  st : Stt cs sg ps
  row : Hc r = some (.lst (cs.map V.int))
  ra : r ≠ a
  rs : r ≠ ls
  rp : r ≠ lp
  fa : H a = none
  fs : H ls = none
  fp : H lp = none
  fr : H r = none
theorem Ob.same {C : Addr} {H Hc H' : Hp} {a dx ls lp r : Addr} {cs sg ps : List Int} (h : Ob C H Hc a dx ls lp r cs sg ps) (s : Same Hc H') : Ob C H H' a dx ls lp r cs sg ps := ⟨h.at_.same s, h.st, s _ _ h.row, h.ra, h.rs, h.rp, h.fa, h.fs, h.fp, h.fr⟩
theorem Ob.keepP {C : Addr} {H Hc H' : Hp} {p a dx ls lp r : Addr} {cs sg ps : List Int} {xs : List Addr} (h : Ob C H Hc a dx ls lp r cs sg ps) (k : Keep p Hc H') (A : Apart a ls lp r (p :: xs)) : Ob C H H' a dx ls lp r cs sg ps := by
  obtain ⟨n1, n2, n3, n4⟩ := A p List.mem_cons_self
  exact ⟨⟨k _ _ (Ne.symm n1) h.at_.obj, k _ _ (Ne.symm n2) h.at_.sgs, k _ _ (Ne.symm n3) h.at_.pts, h.at_.ne⟩, h.st, k _ _ (Ne.symm n4) h.row, h.ra, h.rs, h.rp, h.fa, h.fs, h.fp, h.fr⟩
theorem Apart.at {a ls lp r x : Addr} {xs : List Addr} {H H' : Hp} {o : HO} (A : Apart a ls lp r xs) (k : Keep4 a ls lp r H H') (hx : x ∈ xs) (e : H x = some o) : H' x = some o := by
  obtain ⟨n1, n2, n3, n4⟩ := A x hx
  exact k x o n1 n2 n3 n4 e
theorem Ob.keep4 {C : Addr} {H Hc H' : Hp} {p L M a dx ls lp r a' ls' lp' r' : Addr} {cs sg ps : List Int} (h : Ob C H Hc a dx ls lp r cs sg ps) (k : Keep4 a' ls' lp' r' Hc H') (A : Apart a' ls' lp' r' (p :: L :: M :: [a, ls, lp, r])) : Ob C H H' a dx ls lp r cs sg ps :=
  ⟨⟨A.at k (by simp) h.at_.obj, A.at k (by simp) h.at_.sgs, A.at k (by simp) h.at_.pts, h.at_.ne⟩, h.st, A.at k (by simp) h.row, h.ra, h.rs, h.rp, h.fa, h.fs, h.fp, h.fr⟩
theorem Apart.step {a ls lp r lp' : Addr} {xs : List Addr} {H : Hp} (A : Apart a ls lp r xs) (ex : ∀ y ∈ xs, ∃ o, H y = some o) (h : lp' = lp ∨ H lp' = none) : Apart a ls lp' r xs := fun x hx => by
  obtain ⟨n1, n2, n3, n4⟩ := A x hx
  refine ⟨n1, n2, ?_, n4⟩
  rcases h with rfl | h
  · exact n3
  · obtain ⟨o, e⟩ := ex x hx
    exact ne_of_none e h
theorem Apart.repl {p L M a ls lp r b bs bp br bp' : Addr} {H : Hp} (A : Apart a ls lp r (p :: L :: M :: [b, bs, bp, br])) (e1 : ∃ o, H a = some o) (e2 : ∃ o, H ls = some o) (e3 : ∃ o, H lp = some o) (e4 : ∃ o, H r = some o) (h : bp' = bp ∨ H bp' = none) : Apart a ls lp r (p :: L :: M :: [b, bs, bp', br]) := by
  rcases h with rfl | h
  · exact A
  · intro x hx
    by_cases z : x = bp'
    · subst z
      obtain ⟨o1, e1⟩ := e1
      obtain ⟨o2, e2⟩ := e2
      obtain ⟨o3, e3⟩ := e3
      obtain ⟨o4, e4⟩ := e4
      exact ⟨(ne_of_none e1 h).symm, (ne_of_none e2 h).symm, (ne_of_none e3 h).symm, (ne_of_none e4 h).symm⟩
    · refine A x ?_
      simp only [List.mem_cons, List.not_mem_nil, or_false] at hx ⊢
      rcases hx with hx | hx | hx | hx | hx | hx | hx
      · exact .inl hx
      · exact .inr (.inl hx)
      · exact .inr (.inr (.inl hx))
      · exact .inr (.inr (.inr (.inl hx)))
      · exact .inr (.inr (.inr (.inr (.inl hx))))
      · exact absurd hx z
      · exact .inr (.inr (.inr (.inr (.inr (.inr hx)))))
section
variable {P : Program} {w : World} {K : PySem.W.Frag} {mg : Str → Option Value} {base : Heap}
def spRight : Sp := fun vs H Q _ => ∃ (p : Addr) (a b c : Int), vs = [.ref p] ∧ H p = some (.lst [.int a, .int b, .int c]) ∧ 0 ≤ a ∧ 0 ≤ b ∧ b < 2 ^ 62 ∧ 0 ≤ c ∧ c < 2 ^ 36 ∧ ∀ H', Keep p H H' → Q (.bl true) H'
theorem ok_right (T : Tx K mg) : FnOk P w K mg base CX0 9 T.f_right T.fd_right ["_law_box_here"] spRight := by
  refine T.F_right.ok sc_right (fun vs H Q E h => ?_) (fun cdv A outer s H vs Q E hr h => ?_)
  · obtain ⟨p, a, b, c, rfl, _⟩ := h
    rfl
  · obtain ⟨p, a, b, c, rfl, hB, a0, b0, b1, c0, c1, q⟩ := h
    refine ⟨_, (pss_cons (ps_par (i := 1) (j := 2) rfl sc_right.nd rfl rfl (by decide) rfl rfl (pa_cons (pe_lst (pa_cons (pe_make0 T.mk_Signs (ok_Signs_init T) (hr.mono (by omega)) (by rfl) T.g_Signs T.b_Signs_init .nil pass0) (pa_cons (pe_make0 T.mk_Signs (ok_Signs_init T) (hr.mono (by omega)) (by rfl) T.g_Signs T.b_Signs_init .nil pass0) pa_nil))) (pa_cons (pe_lst (pa_cons (pe_lst pa_nil) (pa_cons (pe_lst pa_nil) pa_nil))) pa_nil)) rfl)
      (pss_cons (ps_for PassesOwn.never rfl (pi_range1 (by rfl) T.m_range (pa_cons pe_int pa_nil)) (pg_name (i := 3) sc_right.nd rfl (.inl rfl)) (pss_cons (ps_set (i := 4) sc_right.nd rfl (.inl rfl) (pe_call (ok_take T) (hr.mono (by omega)) (by rfl) T.g_take T.F_take.kp T.b_take .nil pass0 (pa_cons (pv 0) (pa_cons pe_int pa_nil))))
      (pss_cons (ps_if (pt_not (pt_val (pe_call (ok_put T) (hr.mono (by omega)) (by rfl) T.g_put T.F_put.kp T.b_put .nil pass0 (pa_cons (pe_ix (r := rIxL K) ix_list (pv 1) (pv 4) (fun _ _ => rfl)) (pa_cons (pe_ix (r := rIxL K) ix_list (pv 2) (pv 4) (fun _ _ => rfl)) (pa_cons (pe_call (ok_byte T) (hr.mono (by omega)) (by rfl) T.g_byte T.F_byte.kp T.b_byte .nil pass0 (pa_cons (pv 0) pa_nil)) pa_nil)))))) (pss_one (ps_ret pe_bl)) pss_nil)
      (pss_one (ps_if (pt_not (pt_val (pe_call (ok_same T 3) (hr.mono (by omega)) (by rfl) T.g_same T.F_same.kp T.b_same .nil pass0 (pa_cons (pe_call (ok_seen T) (hr.mono (by omega)) (by rfl) T.g_seen T.F_seen.kp T.b_seen .nil pass0 (pa_cons (pe_ix (r := rIxL K) ix_list (pv 1) (pe_op op_sub pe_int (pv 4)) (fun _ _ => rfl)) pa_nil)) (pa_cons (pe_call (ok_due T) (hr.mono (by omega)) (by rfl) T.g_due T.F_due.kp T.b_due .nil pass0 (pa_cons (pe_ix (r := rIxL K) ix_list (pv 2) (pe_op op_sub pe_int (pv 4)) (fun _ _ => rfl)) pa_nil)) pa_nil))))) (pss_one (ps_ret pe_bl)) pss_nil)))))
      (pss_one (ps_ret pe_bl)))), ?_⟩
    have kp := Keep.refl p H
    refine fun so0 dx0 ha0 hdx0 ne0 => mkSigns T ha0 hdx0 ne0 fun H1 ls0 lp0 hA0 s1 fls0 flp0 => ?_
    have n_p_so0 := ne_of_none hB ha0
    have n_p_ls0 := ne_of_none hB fls0
    have n_p_lp0 := ne_of_none hB flp0
    have hB1 := s1 _ _ hB
    replace kp : Keep p H H1 := Same.k s1
    refine fun so1 dx1 ha1 hdx1 ne1 => mkSigns T ha1 hdx1 ne1 fun H2 ls1 lp1 hA1 s2 fls1 flp1 => ?_
    have n_p_so1 := ne_of_none hB1 ha1
    have n_so0_so1 := ne_of_none hA0.obj ha1
    have n_ls0_so1 := ne_of_none hA0.sgs ha1
    have n_lp0_so1 := ne_of_none hA0.pts ha1
    have n_p_ls1 := ne_of_none hB1 fls1
    have n_so0_ls1 := ne_of_none hA0.obj fls1
    have n_ls0_ls1 := ne_of_none hA0.sgs fls1
    have n_lp0_ls1 := ne_of_none hA0.pts fls1
    have n_p_lp1 := ne_of_none hB1 flp1
    have n_so0_lp1 := ne_of_none hA0.obj flp1
    have n_ls0_lp1 := ne_of_none hA0.sgs flp1
    have n_lp0_lp1 := ne_of_none hA0.pts flp1
    have fa1 : H so1 = none := Same.free s1 ha1
    have fs1 : H ls1 = none := Same.free s1 fls1
    have fp1 : H lp1 = none := Same.free s1 flp1
    replace hA0 := hA0.same s2
    replace hB := s2 _ _ hB1
    have sA := s1.trans s2
    refine ⟨by show 2 ≤ sizeLine; decide, fun L hL => ?_⟩
    have n_p_L := ne_of_none hB hL
    have n_so0_L := ne_of_none hA0.obj hL
    have n_ls0_L := ne_of_none hA0.sgs hL
    have n_lp0_L := ne_of_none hA0.pts hL
    have n_so1_L := ne_of_none hA1.obj hL
    have n_ls1_L := ne_of_none hA1.sgs hL
    have n_lp1_L := ne_of_none hA1.pts hL
    have sG1 : Same H2 (upd H2 L (.lst [.ref so0, .ref so1])) := same_upd hL
    have eG1 : (upd H2 L (.lst [.ref so0, .ref so1])) L = some (.lst [.ref so0, .ref so1]) := upd_same
    generalize upd H2 L (.lst [.ref so0, .ref so1]) = G1 at sG1 eG1 ⊢
    replace hB := sG1 _ _ hB
    replace sA := sA.trans sG1
    have eL := eG1
    replace hA0 := hA0.same sG1
    replace hA1 := hA1.same sG1
    refine ⟨Nat.zero_le _, fun r0 hr0 => ?_⟩
    have n_p_r0 := ne_of_none hB hr0
    have n_so0_r0 := ne_of_none hA0.obj hr0
    have n_ls0_r0 := ne_of_none hA0.sgs hr0
    have n_lp0_r0 := ne_of_none hA0.pts hr0
    have n_so1_r0 := ne_of_none hA1.obj hr0
    have n_ls1_r0 := ne_of_none hA1.sgs hr0
    have n_lp1_r0 := ne_of_none hA1.pts hr0
    have n_L_r0 := ne_of_none eL hr0
    have fr0 : H r0 = none := Same.free sA hr0
    have sG2 : Same G1 (upd G1 r0 (.lst [])) := same_upd hr0
    have eG2 : (upd G1 r0 (.lst [])) r0 = some (.lst []) := upd_same
    generalize upd G1 r0 (.lst []) = G2 at sG2 eG2 ⊢
    replace hB := sG2 _ _ hB
    replace eL := sG2 _ _ eL
    replace sA := sA.trans sG2
    have er0 := eG2
    replace hA0 := hA0.same sG2
    replace hA1 := hA1.same sG2
    refine ⟨Nat.zero_le _, fun r1 hr1 => ?_⟩
    have n_p_r1 := ne_of_none hB hr1
    have n_so0_r1 := ne_of_none hA0.obj hr1
    have n_ls0_r1 := ne_of_none hA0.sgs hr1
    have n_lp0_r1 := ne_of_none hA0.pts hr1
    have n_so1_r1 := ne_of_none hA1.obj hr1
    have n_ls1_r1 := ne_of_none hA1.sgs hr1
    have n_lp1_r1 := ne_of_none hA1.pts hr1
    have n_L_r1 := ne_of_none eL hr1
    have n_r0_r1 := ne_of_none er0 hr1
    have fr1 : H r1 = none := Same.free sA hr1
    have sG3 : Same G2 (upd G2 r1 (.lst [])) := same_upd hr1
    have eG3 : (upd G2 r1 (.lst [])) r1 = some (.lst []) := upd_same
    generalize upd G2 r1 (.lst []) = G3 at sG3 eG3 ⊢
    replace hB := sG3 _ _ hB
    replace eL := sG3 _ _ eL
    replace er0 := sG3 _ _ er0
    replace sA := sA.trans sG3
    have er1 := eG3
    replace hA0 := hA0.same sG3
    replace hA1 := hA1.same sG3
    refine ⟨by show 2 ≤ sizeLine; decide, fun M hM => ?_⟩
    have n_p_M := ne_of_none hB hM
    have n_so0_M := ne_of_none hA0.obj hM
    have n_ls0_M := ne_of_none hA0.sgs hM
    have n_lp0_M := ne_of_none hA0.pts hM
    have n_so1_M := ne_of_none hA1.obj hM
    have n_ls1_M := ne_of_none hA1.sgs hM
    have n_lp1_M := ne_of_none hA1.pts hM
    have n_L_M := ne_of_none eL hM
    have n_r0_M := ne_of_none er0 hM
    have n_r1_M := ne_of_none er1 hM
    have sG4 : Same G3 (upd G3 M (.lst [.ref r0, .ref r1])) := same_upd hM
    have eG4 : (upd G3 M (.lst [.ref r0, .ref r1])) M = some (.lst [.ref r0, .ref r1]) := upd_same
    generalize upd G3 M (.lst [.ref r0, .ref r1]) = G4 at sG4 eG4 ⊢
    replace hB := sG4 _ _ hB
    replace eL := sG4 _ _ eL
    replace er0 := sG4 _ _ er0
    replace er1 := sG4 _ _ er1
    replace sA := sA.trans sG4
    have eM := eG4
    replace hA0 := hA0.same sG4
    replace hA1 := hA1.same sG4
    refine ⟨_, _, rfl, ?_⟩
    have nLp := n_p_L.symm
    have nMp := n_p_M.symm
    replace kp : Keep p H G4 := Same.k sA
    have stt0 : Stt [] [] [] := ⟨rfl, fun x hx => by cases hx⟩
    have ob0 : Ob T.C_Signs H G4 so0 dx0 ls0 lp0 r0 [] [] [] := ⟨hA0, stt0, er0, n_so0_r0.symm, n_ls0_r0.symm, n_lp0_r0.symm, ha0, fls0, flp0, fr0⟩
    have A0 : Apart so0 ls0 lp0 r0 (p :: L :: M :: [so1, ls1, lp1, r1]) := fun x hx => by
      simp only [List.mem_cons, List.not_mem_nil, or_false] at hx
      rcases hx with rfl | rfl | rfl | rfl | rfl | rfl | rfl
      · exact ⟨n_p_so0, n_p_ls0, n_p_lp0, n_p_r0⟩
      · exact ⟨n_so0_L.symm, n_ls0_L.symm, n_lp0_L.symm, n_L_r0⟩
      · exact ⟨n_so0_M.symm, n_ls0_M.symm, n_lp0_M.symm, n_r0_M.symm⟩
      · exact ⟨n_so0_so1.symm, n_ls0_so1.symm, n_lp0_so1.symm, n_so1_r0⟩
      · exact ⟨n_so0_ls1.symm, n_ls0_ls1.symm, n_lp0_ls1.symm, n_ls1_r0⟩
      · exact ⟨n_so0_lp1.symm, n_ls0_lp1.symm, n_lp0_lp1.symm, n_lp1_r0⟩
      · exact ⟨n_so0_r1.symm, n_ls0_r1.symm, n_lp0_r1.symm, n_r0_r1.symm⟩
    have ob1 : Ob T.C_Signs H G4 so1 dx1 ls1 lp1 r1 [] [] [] := ⟨hA1, stt0, er1, n_so1_r1.symm, n_ls1_r1.symm, n_lp1_r1.symm, fa1, fs1, fp1, fr1⟩
    have A1 : Apart so1 ls1 lp1 r1 (p :: L :: M :: [so0, ls0, lp0, r0]) := fun x hx => by
      simp only [List.mem_cons, List.not_mem_nil, or_false] at hx
      rcases hx with rfl | rfl | rfl | rfl | rfl | rfl | rfl
      · exact ⟨n_p_so1, n_p_ls1, n_p_lp1, n_p_r1⟩
      · exact ⟨n_so1_L.symm, n_ls1_L.symm, n_lp1_L.symm, n_L_r1⟩
      · exact ⟨n_so1_M.symm, n_ls1_M.symm, n_lp1_M.symm, n_r1_M.symm⟩
      · exact ⟨n_so0_so1, n_so0_ls1, n_so0_lp1, n_so0_r1⟩
      · exact ⟨n_ls0_so1, n_ls0_ls1, n_ls0_lp1, n_ls0_r1⟩
      · exact ⟨n_lp0_so1, n_lp0_ls1, n_lp0_lp1, n_lp0_r1⟩
      · exact ⟨n_so1_r0.symm, n_ls1_r0.symm, n_lp1_r0.symm, n_r0_r1⟩
    refine ⟨60, rfl, by decide, by decide, ?_⟩
    refine for_it walk_range (fun i σ Hc => ∃ (y3 y4 : Option V) (lp0 : Addr) (cs0 sg0 ps0 : List Int) (lp1 : Addr) (cs1 sg1 ps1 : List Int) (a' c' : Int), σ = [some (.ref p), some (.ref L), some (.ref M), y3, y4] ∧ Keep p H Hc ∧ Hc p = some (.lst [.int a', .int b, .int c']) ∧ 0 ≤ a' ∧ c ≤ c' ∧ c' ≤ c + 10 * (i : Int) ∧ Hc L = some (.lst [.ref so0, .ref so1]) ∧ Hc M = some (.lst [.ref r0, .ref r1]) ∧ Ob T.C_Signs H Hc so0 dx0 ls0 lp0 r0 cs0 sg0 ps0 ∧ Ob T.C_Signs H Hc so1 dx1 ls1 lp1 r1 cs1 sg1 ps1 ∧ cs0.length ≤ i ∧ cs1.length ≤ i ∧ Apart so0 ls0 lp0 r0 (p :: L :: M :: [so1, ls1, lp1, r1]) ∧ Apart so1 ls1 lp1 r1 (p :: L :: M :: [so0, ls0, lp0, r0])) ?_ (fun _ _ _ _ _ => trivial) ?_ ?_
    · exact ⟨_, _, lp0, [], [], [], lp1, [], [], [], a, c, rfl, kp, hB, a0, by omega, by omega, eL, eM, ob0, ob1, Nat.le_refl _, Nat.le_refl _, A0, A1⟩
    · rintro i x σ Hc H' hi ⟨y3, y4, lp0, cs0, sg0, ps0, lp1, cs1, sg1, ps1, a', c', rfl, kp, ep, a'0, cl1, cu1, eL, eM, o0, o1, hc0, hc1, A0, A1⟩ ⟨rfl, rfl⟩
      have hi' : i < 60 := hi
      refine ⟨.ref p, rfl, p, a', b, c', 2, rfl, ep, a'0, b0, b1, by omega, by omega, by decide, by decide, fun a2 c2 z a20 cl2 cu2 z0 z1 => ?_⟩
      have kG1 : Keep p H' (upd H' p (.lst [.int a2, .int b, .int c2])) := (Keep.refl p H').upd
      have eG1 : (upd H' p (.lst [.int a2, .int b, .int c2])) p = some (.lst [.int a2, .int b, .int c2]) := upd_same
      generalize upd H' p (.lst [.int a2, .int b, .int c2]) = G1 at kG1 eG1 ⊢
      replace eL := kG1 _ _ nLp eL
      replace eM := kG1 _ _ nMp eM
      replace kp := kp.trans kG1
      replace o0 := o0.keepP kG1 A0
      replace o1 := o1.keepP kG1 A1
      rcases (show z = 0 ∨ z = 1 by omega) with rfl | rfl
      · skip
        refine ⟨.ref L, rfl, .int 0, rfl, L, _, 0, .ref so0, rfl, rfl, sq1 eL, rfl, .ref M, rfl, .int 0, rfl, M, _, 0, .ref r0, rfl, rfl, sq1 eM, rfl, .ref p, rfl, p, a2, b, c2, rfl, eG1, a20, b0, b1, by omega, by omega, fun G2 x a3 c3 k2 ep a30 cl3 cu3 x0 x1 => ?_⟩
        replace o0 := o0.keepP k2 A0
        replace o1 := o1.keepP k2 A1
        replace eL := k2 _ _ nLp eL
        replace eM := k2 _ _ nMp eM
        replace kp := kp.trans k2
        refine ⟨so0, dx0, ls0, lp0, r0, cs0, sg0, ps0, x, rfl, o0.at_, o0.st, o0.row, o0.ra, o0.rs, o0.rp, x0, x1, by omega, fun G3 lp' cs' sg' ps' hA' st' er' nra' nrs' nrp' hl' hc' k4 => ⟨true, rfl, ?_⟩⟩
        have ex : ∀ y ∈ p :: L :: M :: [so1, ls1, lp1, r1], ∃ o, G2 y = some o := fun y hy => by
          simp only [List.mem_cons, List.not_mem_nil, or_false] at hy
          rcases hy with rfl | rfl | rfl | rfl | rfl | rfl | rfl
          · exact ⟨_, ep⟩
          · exact ⟨_, eL⟩
          · exact ⟨_, eM⟩
          · exact ⟨_, o1.at_.obj⟩
          · exact ⟨_, o1.at_.sgs⟩
          · exact ⟨_, o1.at_.pts⟩
          · exact ⟨_, o1.row⟩
        have fl' : H lp' = none := hl'.elim (fun z => by rw [z]; exact o0.fp) (fun z => kp.free z (fun e => by rw [e, ep] at z; cases z))
        have nA : Apart so0 ls0 lp' r0 (p :: L :: M :: [so1, ls1, lp1, r1]) := A0.step ex hl'
        have nB : Apart so1 ls1 lp1 r1 (p :: L :: M :: [so0, ls0, lp', r0]) := A1.repl ⟨_, o1.at_.obj⟩ ⟨_, o1.at_.sgs⟩ ⟨_, o1.at_.pts⟩ ⟨_, o1.row⟩ hl'
        have oN : Ob T.C_Signs H G3 so0 dx0 ls0 lp' r0 cs' sg' ps' := ⟨hA', st', er', nra', nrs', nrp', o0.fa, o0.fs, fl', o0.fr⟩
        have oM : Ob T.C_Signs H G3 so1 dx1 ls1 lp1 r1 cs1 sg1 ps1 := o1.keep4 k4 A0
        have kp3 : Keep p H G3 := fun y o hy e => k4 y o (fun z => by rw [z, o0.fa] at e; cases e) (fun z => by rw [z, o0.fs] at e; cases e) (fun z => by rw [z, o0.fp] at e; cases e) (fun z => by rw [z, o0.fr] at e; cases e) (kp y o hy e)
        replace ep := A0.at k4 (by simp) ep
        replace eL := A0.at k4 (by simp) eL
        replace eM := A0.at k4 (by simp) eM
        have hsl := rd_many cs1 oM.st.rd
        rw [List.length_nil, Nat.zero_add] at hsl
        refine ⟨.ref L, rfl, .int 0, rfl, 1, 0, rfl, rfl, L, _, _, .ref so1, rfl, rfl, sq1 eL, rfl, so1, dx1, ls1, lp1, sg1, ps1, _, rfl, oM.at_, oM.st.ok.2, by omega, fun G4 l4 w4 s4 e4 ew4 => ?_⟩
        refine ⟨.ref M, rfl, .int 0, rfl, 1, 0, rfl, rfl, M, _, _, .ref r1, rfl, rfl, sq1 (s4 _ _ eM), rfl, r1, cs1, sg1, ps1, rfl, s4 _ _ oM.row, oM.st, by omega, fun G5 l5 w5 s5 e5 ew5 => ?_⟩
        refine ⟨.ref l4, .ref l5, rfl, Sm.lst (s5 _ _ e4) e5 (.cons (Sm.flat rfl) (.cons (Sm.flat rfl) (.cons (Sm.ints (s5 _ _ ew4) ew5 (by omega)) (.cons (Sm.flat rfl) (.cons (Sm.flat rfl) .nil))))) (by show 5 ≤ _; decide), fun G6 s6 => ⟨true, rfl, ?_⟩⟩
        have sE := (s4.trans s5).trans s6
        exact ⟨_, _, lp', cs', sg', ps', lp1, cs1, sg1, ps1, a3, c3, rfl, kp3.trans (Same.k sE), sE _ _ ep, a30, by omega, by omega, sE _ _ eL, sE _ _ eM, oN.same sE, oM.same sE, by omega, by omega, nA, nB⟩
      · skip
        refine ⟨.ref L, rfl, .int 1, rfl, L, _, 1, .ref so1, rfl, rfl, sq1 eL, rfl, .ref M, rfl, .int 1, rfl, M, _, 1, .ref r1, rfl, rfl, sq1 eM, rfl, .ref p, rfl, p, a2, b, c2, rfl, eG1, a20, b0, b1, by omega, by omega, fun G2 x a3 c3 k2 ep a30 cl3 cu3 x0 x1 => ?_⟩
        replace o0 := o0.keepP k2 A0
        replace o1 := o1.keepP k2 A1
        replace eL := k2 _ _ nLp eL
        replace eM := k2 _ _ nMp eM
        replace kp := kp.trans k2
        refine ⟨so1, dx1, ls1, lp1, r1, cs1, sg1, ps1, x, rfl, o1.at_, o1.st, o1.row, o1.ra, o1.rs, o1.rp, x0, x1, by omega, fun G3 lp' cs' sg' ps' hA' st' er' nra' nrs' nrp' hl' hc' k4 => ⟨true, rfl, ?_⟩⟩
        have ex : ∀ y ∈ p :: L :: M :: [so0, ls0, lp0, r0], ∃ o, G2 y = some o := fun y hy => by
          simp only [List.mem_cons, List.not_mem_nil, or_false] at hy
          rcases hy with rfl | rfl | rfl | rfl | rfl | rfl | rfl
          · exact ⟨_, ep⟩
          · exact ⟨_, eL⟩
          · exact ⟨_, eM⟩
          · exact ⟨_, o0.at_.obj⟩
          · exact ⟨_, o0.at_.sgs⟩
          · exact ⟨_, o0.at_.pts⟩
          · exact ⟨_, o0.row⟩
        have fl' : H lp' = none := hl'.elim (fun z => by rw [z]; exact o1.fp) (fun z => kp.free z (fun e => by rw [e, ep] at z; cases z))
        have nA : Apart so1 ls1 lp' r1 (p :: L :: M :: [so0, ls0, lp0, r0]) := A1.step ex hl'
        have nB : Apart so0 ls0 lp0 r0 (p :: L :: M :: [so1, ls1, lp', r1]) := A0.repl ⟨_, o0.at_.obj⟩ ⟨_, o0.at_.sgs⟩ ⟨_, o0.at_.pts⟩ ⟨_, o0.row⟩ hl'
        have oN : Ob T.C_Signs H G3 so1 dx1 ls1 lp' r1 cs' sg' ps' := ⟨hA', st', er', nra', nrs', nrp', o1.fa, o1.fs, fl', o1.fr⟩
        have oM : Ob T.C_Signs H G3 so0 dx0 ls0 lp0 r0 cs0 sg0 ps0 := o0.keep4 k4 A1
        have kp3 : Keep p H G3 := fun y o hy e => k4 y o (fun z => by rw [z, o1.fa] at e; cases e) (fun z => by rw [z, o1.fs] at e; cases e) (fun z => by rw [z, o1.fp] at e; cases e) (fun z => by rw [z, o1.fr] at e; cases e) (kp y o hy e)
        replace ep := A1.at k4 (by simp) ep
        replace eL := A1.at k4 (by simp) eL
        replace eM := A1.at k4 (by simp) eM
        have hsl := rd_many cs0 oM.st.rd
        rw [List.length_nil, Nat.zero_add] at hsl
        refine ⟨.ref L, rfl, .int 1, rfl, 1, 1, rfl, rfl, L, _, _, .ref so0, rfl, rfl, sq1 eL, rfl, so0, dx0, ls0, lp0, sg0, ps0, _, rfl, oM.at_, oM.st.ok.2, by omega, fun G4 l4 w4 s4 e4 ew4 => ?_⟩
        refine ⟨.ref M, rfl, .int 1, rfl, 1, 1, rfl, rfl, M, _, _, .ref r0, rfl, rfl, sq1 (s4 _ _ eM), rfl, r0, cs0, sg0, ps0, rfl, s4 _ _ oM.row, oM.st, by omega, fun G5 l5 w5 s5 e5 ew5 => ?_⟩
        refine ⟨.ref l4, .ref l5, rfl, Sm.lst (s5 _ _ e4) e5 (.cons (Sm.flat rfl) (.cons (Sm.flat rfl) (.cons (Sm.ints (s5 _ _ ew4) ew5 (by omega)) (.cons (Sm.flat rfl) (.cons (Sm.flat rfl) .nil))))) (by show 5 ≤ _; decide), fun G6 s6 => ⟨true, rfl, ?_⟩⟩
        have sE := (s4.trans s5).trans s6
        exact ⟨_, _, lp0, cs0, sg0, ps0, lp', cs', sg', ps', a3, c3, rfl, kp3.trans (Same.k sE), sE _ _ ep, a30, by omega, by omega, sE _ _ eL, sE _ _ eM, oM.same sE, oN.same sE, by omega, by omega, nB, nA⟩
    · rintro σ Hc ⟨y3, y4, lp0, cs0, sg0, ps0, lp1, cs1, sg1, ps1, a', c', rfl, kp, _⟩
      exact q _ kp
end

section
variable {P : Program} {w : World} {K : PySem.W.Frag} {mg : Str → Option Value} {base : Heap}
def spLaw (K : PySem.W.Frag) : Sp := fun vs H Q _ => ∃ (a : Addr) (ns : List Int), vs = [.ref a] ∧ SqL K H a (ns.map V.int) ∧ ns.length ≤ 63 ∧ ∀ H', Q (.bl true) H'
/-- all([right(box(script, k)) for k in range(max(2, min(len(script), 4)))]) -/
theorem ok_law {f : Addr} {fd : FuncData} (T : Tx K mg) (F : Fun K "law" "law" s_law f fd) : FnOk P w K mg base CX0 10 f fd ["_law_script"] (spLaw K) := by
  refine F.ok sc_law (fun vs H Q E h => ?_) (fun cdv A outer s H vs Q E hr h => ?_)
  · obtain ⟨a, ns, rfl, _⟩ := h
    rfl
  · obtain ⟨a, scr, rfl, hS, hlen, q⟩ := h
    refine ⟨_, (pss_one (ps_ret (pe_callB (cr_all rfl) (by rfl) T.m_all (by decide +kernel) (pa_cons (pe_lc (own := [("_law_k", 1)]) (g := gName 1) (tt := tYes) rfl sc_law.nd (pi_range1 (by rfl) T.m_range (pa_cons (pe_callB (call_max2 rfl) (by rfl) T.m_max (by decide +kernel) (pa_cons pe_int (pa_cons (pe_callB (call_min2 rfl) (by rfl) T.m_min (by decide +kernel) (pa_cons (pe_callB call_len_seq (by rfl) T.m_len (by decide +kernel) (pa_cons (pv 0) pa_nil)) (pa_cons pe_int pa_nil))) pa_nil))) pa_nil)) (blkOk_by (N := ["_law_script", "_law_k"]) (sc := defScope s_law) (by decide +kernel)) (fun _ _ _ _ _ => (pg_name (i := 1) sc_law.nd rfl (.inl rfl))) (fun _ _ _ _ _ => pts_nil) (fun _ _ _ _ _ => (pe_call (ok_right T) (hr.mono (by omega)) (by rfl) T.g_right T.F_right.kp T.b_right .nil pass0 (pa_cons (pe_call (ok_box T) (hr.mono (by omega)) (by rfl) T.g_box T.F_box.kp T.b_box .nil pass0 (pa_cons (pv 0) (pa_cons (pv 1) pa_nil))) pa_nil)))) pa_nil)))), ?_⟩
    refine ⟨.ref a, rfl, a, _, rfl, .inl hS, _, _, rfl, _, _, rfl, _, rfl, ?_, ?_, ?_⟩
    · repeat' split <;> omega
    · repeat' split <;> omega
    generalize hn : (if (if (4 : Int) < ((scr.map V.int).length : Int) then (4 : Int) else ((scr.map V.int).length : Int)) > 2 then (if (4 : Int) < ((scr.map V.int).length : Int) then (4 : Int) else ((scr.map V.int).length : Int)) else 2).toNat = n
    have hn8 : n ≤ 100 := by
      rw [← hn]
      repeat' split
      all_goals omega
    refine fun D hD => lc_it walk_range (fun i Hc => Same H Hc ∧ Hc D = some (.lst ((List.replicate i true).map V.bl))) ⟨same_upd hD, upd_same⟩ (fun _ _ _ _ => trivial) ?_ ?_
    · rintro i x Hc H' hi ⟨sm, eD⟩ ⟨rfl, rfl⟩
      have hi' : i < n := hi
      refine ⟨rfl, .ref a, rfl, .int (0 + (i : Int)), rfl, a, scr, _, rfl, sm.seq hS, by omega, by omega, fun p x y hp x0 y0 y1' => ?_⟩
      have hHp : H p = none := Same.free sm hp
      have nDp : D ≠ p := ne_of_none eD hp
      have sH0 : Same H' (upd H' p (.lst [.int x, .int y, .int 0])) := same_upd hp
      have eH0 : (upd H' p (.lst [.int x, .int y, .int 0])) p = some (.lst [.int x, .int y, .int 0]) := upd_same
      generalize upd H' p (.lst [.int x, .int y, .int 0]) = H0 at sH0 eH0 ⊢
      replace sm := sm.trans sH0
      replace eD := sH0 _ _ eD
      refine ⟨p, x, y, 0, rfl, eH0, x0, y0, y1', by decide, by decide, fun H3 k3 => ?_⟩
      refine ⟨_, k3 _ _ nDp eD, (by rw [List.length_map, List.length_replicate, sizeLine_eq]; omega), Same.mut (Same.keep sm k3 hHp) hD, ?_⟩
      rw [upd_same, List.replicate_succ', List.map_append]
      rfl
    · rintro Hc ⟨sm, eD⟩
      refine ⟨D, List.replicate n true, rfl, sq1 eD, ?_⟩
      rw [rep_all]
      exact q _
end
end K19

set_option Elab.async false
set_option linter.all false
set_option maxRecDepth 100000
set_option maxHeartbeats 4000000
namespace K19
open PySem PySem.Spec PyProof.Rows L2

theorem vals_rev : ∀ {xs : List V} {us : List Value}, Vals xs us → Vals xs.reverse us.reverse
  | _, _, .nil => .nil
  | _, _, .cons r t => by
    rw [List.reverse_cons, List.reverse_cons]
    exact (vals_rev t).append (.cons r .nil)
theorem all_mk {l : PySem.W.OpenLaw} {w : World} {K : PySem.W.Frag} {h : Heap} {mg : Str → Option Value} {fa f0 f1 f2 f3 f4 f5 f6 f7 f8 f9 f10 f11 f12 f13 f14 f15 : Addr} (X : K.In h) (G : h.Ns mainGlobals mg) (hfa : mg "law" = some (.ref fa))
    {od0 an0 : Option Addr} {sl0 : Array (Option Value)} {oc0 kV0 dc0 pm0 cd0 ct0 : Value}
    (a0 : PySem.W.nsIn K mainGlobals "can_stand" = some (some (.ref f0))) (l0 : K.lookup f0 = some ⟨oc0, od0, .func (PySem.W.fnOf "can_stand" "can_stand" (defArgs s_can_stand) (defBody s_can_stand) (defScope s_can_stand) .none kV0 dc0 pm0 an0 cd0 ct0), sl0⟩) (c0 : PySem.W.codeIn K cd0 "can_stand" = true) (k0 : PySem.W.keepIn K (.ref f0) = true)
    {od1 an1 : Option Addr} {sl1 : Array (Option Value)} {oc1 kV1 dc1 pm1 cd1 ct1 : Value}
    (a1 : PySem.W.nsIn K mainGlobals "how_long" = some (some (.ref f1))) (l1 : K.lookup f1 = some ⟨oc1, od1, .func (PySem.W.fnOf "how_long" "how_long" (defArgs s_how_long) (defBody s_how_long) (defScope s_how_long) .none kV1 dc1 pm1 an1 cd1 ct1), sl1⟩) (c1 : PySem.W.codeIn K cd1 "how_long" = true) (k1 : PySem.W.keepIn K (.ref f1) = true)
    {od2 an2 : Option Addr} {sl2 : Array (Option Value)} {oc2 kV2 dc2 pm2 cd2 ct2 : Value}
    (a2 : PySem.W.nsIn K mainGlobals "sign_of" = some (some (.ref f2))) (l2 : K.lookup f2 = some ⟨oc2, od2, .func (PySem.W.fnOf "sign_of" "sign_of" (defArgs s_sign_of) (defBody s_sign_of) (defScope s_sign_of) .none kV2 dc2 pm2 an2 cd2 ct2), sl2⟩) (c2 : PySem.W.codeIn K cd2 "sign_of" = true) (k2 : PySem.W.keepIn K (.ref f2) = true)
    {od3 an3 : Option Addr} {sl3 : Array (Option Value)} {oc3 kV3 dc3 pm3 cd3 ct3 : Value}
    (a3 : PySem.W.nsIn K mainGlobals "_law_cell_at" = some (some (.ref f3))) (l3 : K.lookup f3 = some ⟨oc3, od3, .func (PySem.W.fnOf "_law_cell_at" "_law_cell_at" (defArgs s_cell_at) (defBody s_cell_at) (defScope s_cell_at) .none kV3 dc3 pm3 an3 cd3 ct3), sl3⟩) (c3 : PySem.W.codeIn K cd3 "_law_cell_at" = true) (k3 : PySem.W.keepIn K (.ref f3) = true)
    {od4 an4 : Option Addr} {sl4 : Array (Option Value)} {oc4 kV4 dc4 pm4 cd4 ct4 : Value}
    (a4 : PySem.W.nsIn K mainGlobals "_law_box" = some (some (.ref f4))) (l4 : K.lookup f4 = some ⟨oc4, od4, .func (PySem.W.fnOf "_law_box" "_law_box" (defArgs s_box) (defBody s_box) (defScope s_box) .none kV4 dc4 pm4 an4 cd4 ct4), sl4⟩) (c4 : PySem.W.codeIn K cd4 "_law_box" = true) (k4 : PySem.W.keepIn K (.ref f4) = true)
    {od5 an5 : Option Addr} {sl5 : Array (Option Value)} {oc5 kV5 dc5 pm5 cd5 ct5 : Value}
    (a5 : PySem.W.nsIn K mainGlobals "_law_take" = some (some (.ref f5))) (l5 : K.lookup f5 = some ⟨oc5, od5, .func (PySem.W.fnOf "_law_take" "_law_take" (defArgs s_take) (defBody s_take) (defScope s_take) .none kV5 dc5 pm5 an5 cd5 ct5), sl5⟩) (c5 : PySem.W.codeIn K cd5 "_law_take" = true) (k5 : PySem.W.keepIn K (.ref f5) = true)
    {od6 an6 : Option Addr} {sl6 : Array (Option Value)} {oc6 kV6 dc6 pm6 cd6 ct6 : Value}
    (a6 : PySem.W.nsIn K mainGlobals "_law_same" = some (some (.ref f6))) (l6 : K.lookup f6 = some ⟨oc6, od6, .func (PySem.W.fnOf "_law_same" "_law_same" (defArgs s_same) (defBody s_same) (defScope s_same) .none kV6 dc6 pm6 an6 cd6 ct6), sl6⟩) (c6 : PySem.W.codeIn K cd6 "_law_same" = true) (k6 : PySem.W.keepIn K (.ref f6) = true)
    {od7 an7 : Option Addr} {sl7 : Array (Option Value)} {oc7 kV7 dc7 pm7 cd7 ct7 : Value}
    (a7 : PySem.W.nsIn K mainGlobals "_law_of" = some (some (.ref f7))) (l7 : K.lookup f7 = some ⟨oc7, od7, .func (PySem.W.fnOf "_law_of" "_law_of" (defArgs s_of) (defBody s_of) (defScope s_of) .none kV7 dc7 pm7 an7 cd7 ct7), sl7⟩) (c7 : PySem.W.codeIn K cd7 "_law_of" = true) (k7 : PySem.W.keepIn K (.ref f7) = true)
    {od8 an8 : Option Addr} {sl8 : Array (Option Value)} {oc8 kV8 dc8 pm8 cd8 ct8 : Value}
    (a8 : PySem.W.nsIn K mainGlobals "_law_signs" = some (some (.ref f8))) (l8 : K.lookup f8 = some ⟨oc8, od8, .func (PySem.W.fnOf "_law_signs" "_law_signs" (defArgs s_signs) (defBody s_signs) (defScope s_signs) .none kV8 dc8 pm8 an8 cd8 ct8), sl8⟩) (c8 : PySem.W.codeIn K cd8 "_law_signs" = true) (k8 : PySem.W.keepIn K (.ref f8) = true)
    {od9 an9 : Option Addr} {sl9 : Array (Option Value)} {oc9 kV9 dc9 pm9 cd9 ct9 : Value}
    (a9 : PySem.W.nsIn K mainGlobals "_law_put_told" = some (some (.ref f9))) (l9 : K.lookup f9 = some ⟨oc9, od9, .func (PySem.W.fnOf "_law_put_told" "_law_put_told" (defArgs s_put_told) (defBody s_put_told) (defScope s_put_told) .none kV9 dc9 pm9 an9 cd9 ct9), sl9⟩) (c9 : PySem.W.codeIn K cd9 "_law_put_told" = true) (k9 : PySem.W.keepIn K (.ref f9) = true)
    {od10 an10 : Option Addr} {sl10 : Array (Option Value)} {oc10 kV10 dc10 pm10 cd10 ct10 : Value}
    (a10 : PySem.W.nsIn K mainGlobals "_law_seen" = some (some (.ref f10))) (l10 : K.lookup f10 = some ⟨oc10, od10, .func (PySem.W.fnOf "_law_seen" "_law_seen" (defArgs s_seen) (defBody s_seen) (defScope s_seen) .none kV10 dc10 pm10 an10 cd10 ct10), sl10⟩) (c10 : PySem.W.codeIn K cd10 "_law_seen" = true) (k10 : PySem.W.keepIn K (.ref f10) = true)
    {od11 an11 : Option Addr} {sl11 : Array (Option Value)} {oc11 kV11 dc11 pm11 cd11 ct11 : Value}
    (a11 : PySem.W.nsIn K mainGlobals "_law_due" = some (some (.ref f11))) (l11 : K.lookup f11 = some ⟨oc11, od11, .func (PySem.W.fnOf "_law_due" "_law_due" (defArgs s_due) (defBody s_due) (defScope s_due) .none kV11 dc11 pm11 an11 cd11 ct11), sl11⟩) (c11 : PySem.W.codeIn K cd11 "_law_due" = true) (k11 : PySem.W.keepIn K (.ref f11) = true)
    {od12 an12 : Option Addr} {sl12 : Array (Option Value)} {oc12 kV12 dc12 pm12 cd12 ct12 : Value}
    (a12 : PySem.W.nsIn K mainGlobals "_law_byte" = some (some (.ref f12))) (l12 : K.lookup f12 = some ⟨oc12, od12, .func (PySem.W.fnOf "_law_byte" "_law_byte" (defArgs s_byte) (defBody s_byte) (defScope s_byte) .none kV12 dc12 pm12 an12 cd12 ct12), sl12⟩) (c12 : PySem.W.codeIn K cd12 "_law_byte" = true) (k12 : PySem.W.keepIn K (.ref f12) = true)
    {od13 an13 : Option Addr} {sl13 : Array (Option Value)} {oc13 kV13 dc13 pm13 cd13 ct13 : Value}
    (a13 : PySem.W.nsIn K mainGlobals "_law_put" = some (some (.ref f13))) (l13 : K.lookup f13 = some ⟨oc13, od13, .func (PySem.W.fnOf "_law_put" "_law_put" (defArgs s_put) (defBody s_put) (defScope s_put) .none kV13 dc13 pm13 an13 cd13 ct13), sl13⟩) (c13 : PySem.W.codeIn K cd13 "_law_put" = true) (k13 : PySem.W.keepIn K (.ref f13) = true)
    {od14 an14 : Option Addr} {sl14 : Array (Option Value)} {oc14 kV14 dc14 pm14 cd14 ct14 : Value}
    (a14 : PySem.W.nsIn K mainGlobals "_law_right" = some (some (.ref f14))) (l14 : K.lookup f14 = some ⟨oc14, od14, .func (PySem.W.fnOf "_law_right" "_law_right" (defArgs s_right) (defBody s_right) (defScope s_right) .none kV14 dc14 pm14 an14 cd14 ct14), sl14⟩) (c14 : PySem.W.codeIn K cd14 "_law_right" = true) (k14 : PySem.W.keepIn K (.ref f14) = true)
    {od15 an15 : Option Addr} {sl15 : Array (Option Value)} {oc15 kV15 dc15 pm15 cd15 ct15 : Value}
    (a15 : PySem.W.nsIn K mainGlobals "law" = some (some (.ref f15))) (l15 : K.lookup f15 = some ⟨oc15, od15, .func (PySem.W.fnOf "law" "law" (defArgs s_law) (defBody s_law) (defScope s_law) .none kV15 dc15 pm15 an15 cd15 ct15), sl15⟩) (c15 : PySem.W.codeIn K cd15 "law" = true) (k15 : PySem.W.keepIn K (.ref f15) = true)
    {tk_SIGNS : Tok} (a_SIGNS : PySem.W.nsIn K mainGlobals "SIGNS" = some (some (.int 14 tk_SIGNS)))
    {C_BadSlip f_BadSlip N_BadSlip : Addr} {nm_BadSlip q_BadSlip : Str} {bs_BadSlip sub_BadSlip : List Value} {sn_BadSlip : List Str} {ab_BadSlip : Bool} {col_BadSlip : Option Bool} {dd_BadSlip : Option Addr} {k0_BadSlip k1_BadSlip k2_BadSlip k3_BadSlip k5_BadSlip : Option Value} {od_BadSlip an_BadSlip : Option Addr} {sl_BadSlip : Array (Option Value)} {oc_BadSlip kV_BadSlip dc_BadSlip pm_BadSlip cd_BadSlip ct_BadSlip : Value} (a_BadSlip : PySem.W.nsIn K mainGlobals "BadSlip" = some (some (.ref C_BadSlip))) (x_BadSlip : K.lookup C_BadSlip = some (excClassObj nm_BadSlip q_BadSlip C_BadSlip N_BadSlip bs_BadSlip bm_ValueError true sn_BadSlip sub_BadSlip ab_BadSlip col_BadSlip dd_BadSlip k0_BadSlip k1_BadSlip k2_BadSlip k3_BadSlip k5_BadSlip "ValueError.__new__")) (sa_BadSlip : PySem.W.findIn K (.ref C_BadSlip) "__setattr__" = some (some (.builtin "object.__setattr__"))) (ga_BadSlip : PySem.W.findIn K (.ref C_BadSlip) "__getattribute__" = some (some (.builtin "BaseException.__getattribute__"))) (gk_BadSlip : PySem.W.findIn K (.ref C_BadSlip) "__getattr__" = some none) (hs_BadSlip : PySem.W.subIn K (.ref C_BadSlip) (.type "BaseException") = some true) (hd_BadSlip : PySem.W.hasDictIn K C_BadSlip = true) (ha_BadSlip : PySem.W.findIn K (.ref C_BadSlip) "__class__" = some (some (.builtin "object.__class__"))) (hm_BadSlip : PySem.W.mroIn K C_BadSlip (.type "object") = some true) (ty_BadSlip : PySem.W.typeIn K (.ref C_BadSlip) = some (.type "type")) (kC_BadSlip : PySem.W.keepIn K (.ref C_BadSlip) = true) (i_BadSlip : PySem.W.findIn K (.ref C_BadSlip) "__init__" = some (some (.ref f_BadSlip))) (t_BadSlip : PySem.W.typeIn K (.ref f_BadSlip) = some (.type "function")) (l_BadSlip : K.lookup f_BadSlip = some ⟨oc_BadSlip, od_BadSlip, .func (PySem.W.fnOf "__init__" "BadSlip.__init__" (defArgs s_BadSlip) (defBody s_BadSlip) (defScope s_BadSlip) .none kV_BadSlip dc_BadSlip pm_BadSlip an_BadSlip cd_BadSlip ct_BadSlip), sl_BadSlip⟩) (c_BadSlip : PySem.W.codeIn K cd_BadSlip "BadSlip.__init__" = true) (k_BadSlip : PySem.W.keepIn K (.ref f_BadSlip) = true) (n_BadSlip_part : PySem.W.findIn K (.ref C_BadSlip) "part" = some none)
    {C_BadLetter f_BadLetter N_BadLetter : Addr} {nm_BadLetter q_BadLetter : Str} {bs_BadLetter sub_BadLetter : List Value} {sn_BadLetter : List Str} {ab_BadLetter : Bool} {col_BadLetter : Option Bool} {dd_BadLetter : Option Addr} {k0_BadLetter k1_BadLetter k2_BadLetter k3_BadLetter k5_BadLetter : Option Value} {od_BadLetter an_BadLetter : Option Addr} {sl_BadLetter : Array (Option Value)} {oc_BadLetter kV_BadLetter dc_BadLetter pm_BadLetter cd_BadLetter ct_BadLetter : Value} (a_BadLetter : PySem.W.nsIn K mainGlobals "BadLetter" = some (some (.ref C_BadLetter))) (x_BadLetter : K.lookup C_BadLetter = some (excClassObj nm_BadLetter q_BadLetter C_BadLetter N_BadLetter bs_BadLetter bm_ValueError true sn_BadLetter sub_BadLetter ab_BadLetter col_BadLetter dd_BadLetter k0_BadLetter k1_BadLetter k2_BadLetter k3_BadLetter k5_BadLetter "ValueError.__new__")) (sa_BadLetter : PySem.W.findIn K (.ref C_BadLetter) "__setattr__" = some (some (.builtin "object.__setattr__"))) (ga_BadLetter : PySem.W.findIn K (.ref C_BadLetter) "__getattribute__" = some (some (.builtin "BaseException.__getattribute__"))) (gk_BadLetter : PySem.W.findIn K (.ref C_BadLetter) "__getattr__" = some none) (hs_BadLetter : PySem.W.subIn K (.ref C_BadLetter) (.type "BaseException") = some true) (hd_BadLetter : PySem.W.hasDictIn K C_BadLetter = true) (ha_BadLetter : PySem.W.findIn K (.ref C_BadLetter) "__class__" = some (some (.builtin "object.__class__"))) (hm_BadLetter : PySem.W.mroIn K C_BadLetter (.type "object") = some true) (ty_BadLetter : PySem.W.typeIn K (.ref C_BadLetter) = some (.type "type")) (kC_BadLetter : PySem.W.keepIn K (.ref C_BadLetter) = true) (i_BadLetter : PySem.W.findIn K (.ref C_BadLetter) "__init__" = some (some (.ref f_BadLetter))) (t_BadLetter : PySem.W.typeIn K (.ref f_BadLetter) = some (.type "function")) (l_BadLetter : K.lookup f_BadLetter = some ⟨oc_BadLetter, od_BadLetter, .func (PySem.W.fnOf "__init__" "BadLetter.__init__" (defArgs s_BadLetter) (defBody s_BadLetter) (defScope s_BadLetter) .none kV_BadLetter dc_BadLetter pm_BadLetter an_BadLetter cd_BadLetter ct_BadLetter), sl_BadLetter⟩) (c_BadLetter : PySem.W.codeIn K cd_BadLetter "BadLetter.__init__" = true) (k_BadLetter : PySem.W.keepIn K (.ref f_BadLetter) = true) (n_BadLetter_part : PySem.W.findIn K (.ref C_BadLetter) "part" = some none)
    {C_BadEnd f_BadEnd N_BadEnd : Addr} {nm_BadEnd q_BadEnd : Str} {bs_BadEnd sub_BadEnd : List Value} {sn_BadEnd : List Str} {ab_BadEnd : Bool} {col_BadEnd : Option Bool} {dd_BadEnd : Option Addr} {k0_BadEnd k1_BadEnd k2_BadEnd k3_BadEnd k5_BadEnd : Option Value} {od_BadEnd an_BadEnd : Option Addr} {sl_BadEnd : Array (Option Value)} {oc_BadEnd kV_BadEnd dc_BadEnd pm_BadEnd cd_BadEnd ct_BadEnd : Value} (a_BadEnd : PySem.W.nsIn K mainGlobals "BadEnd" = some (some (.ref C_BadEnd))) (x_BadEnd : K.lookup C_BadEnd = some (excClassObj nm_BadEnd q_BadEnd C_BadEnd N_BadEnd bs_BadEnd bm_ValueError true sn_BadEnd sub_BadEnd ab_BadEnd col_BadEnd dd_BadEnd k0_BadEnd k1_BadEnd k2_BadEnd k3_BadEnd k5_BadEnd "ValueError.__new__")) (sa_BadEnd : PySem.W.findIn K (.ref C_BadEnd) "__setattr__" = some (some (.builtin "object.__setattr__"))) (ga_BadEnd : PySem.W.findIn K (.ref C_BadEnd) "__getattribute__" = some (some (.builtin "BaseException.__getattribute__"))) (gk_BadEnd : PySem.W.findIn K (.ref C_BadEnd) "__getattr__" = some none) (hs_BadEnd : PySem.W.subIn K (.ref C_BadEnd) (.type "BaseException") = some true) (hd_BadEnd : PySem.W.hasDictIn K C_BadEnd = true) (ha_BadEnd : PySem.W.findIn K (.ref C_BadEnd) "__class__" = some (some (.builtin "object.__class__"))) (hm_BadEnd : PySem.W.mroIn K C_BadEnd (.type "object") = some true) (ty_BadEnd : PySem.W.typeIn K (.ref C_BadEnd) = some (.type "type")) (kC_BadEnd : PySem.W.keepIn K (.ref C_BadEnd) = true) (i_BadEnd : PySem.W.findIn K (.ref C_BadEnd) "__init__" = some (some (.ref f_BadEnd))) (t_BadEnd : PySem.W.typeIn K (.ref f_BadEnd) = some (.type "function")) (l_BadEnd : K.lookup f_BadEnd = some ⟨oc_BadEnd, od_BadEnd, .func (PySem.W.fnOf "__init__" "BadEnd.__init__" (defArgs s_BadEnd) (defBody s_BadEnd) (defScope s_BadEnd) .none kV_BadEnd dc_BadEnd pm_BadEnd an_BadEnd cd_BadEnd ct_BadEnd), sl_BadEnd⟩) (c_BadEnd : PySem.W.codeIn K cd_BadEnd "BadEnd.__init__" = true) (k_BadEnd : PySem.W.keepIn K (.ref f_BadEnd) = true) (n_BadEnd_part : PySem.W.findIn K (.ref C_BadEnd) "part" = some none)
    {C_BadText f_BadText N_BadText : Addr} {nm_BadText q_BadText : Str} {bs_BadText sub_BadText : List Value} {sn_BadText : List Str} {ab_BadText : Bool} {col_BadText : Option Bool} {dd_BadText : Option Addr} {k0_BadText k1_BadText k2_BadText k3_BadText k5_BadText : Option Value} {od_BadText an_BadText : Option Addr} {sl_BadText : Array (Option Value)} {oc_BadText kV_BadText dc_BadText pm_BadText cd_BadText ct_BadText : Value} (a_BadText : PySem.W.nsIn K mainGlobals "BadText" = some (some (.ref C_BadText))) (x_BadText : K.lookup C_BadText = some (excClassObj nm_BadText q_BadText C_BadText N_BadText bs_BadText bm_ValueError true sn_BadText sub_BadText ab_BadText col_BadText dd_BadText k0_BadText k1_BadText k2_BadText k3_BadText k5_BadText "ValueError.__new__")) (sa_BadText : PySem.W.findIn K (.ref C_BadText) "__setattr__" = some (some (.builtin "object.__setattr__"))) (ga_BadText : PySem.W.findIn K (.ref C_BadText) "__getattribute__" = some (some (.builtin "BaseException.__getattribute__"))) (gk_BadText : PySem.W.findIn K (.ref C_BadText) "__getattr__" = some none) (hs_BadText : PySem.W.subIn K (.ref C_BadText) (.type "BaseException") = some true) (hd_BadText : PySem.W.hasDictIn K C_BadText = true) (ha_BadText : PySem.W.findIn K (.ref C_BadText) "__class__" = some (some (.builtin "object.__class__"))) (hm_BadText : PySem.W.mroIn K C_BadText (.type "object") = some true) (ty_BadText : PySem.W.typeIn K (.ref C_BadText) = some (.type "type")) (kC_BadText : PySem.W.keepIn K (.ref C_BadText) = true) (i_BadText : PySem.W.findIn K (.ref C_BadText) "__init__" = some (some (.ref f_BadText))) (t_BadText : PySem.W.typeIn K (.ref f_BadText) = some (.type "function")) (l_BadText : K.lookup f_BadText = some ⟨oc_BadText, od_BadText, .func (PySem.W.fnOf "__init__" "BadText.__init__" (defArgs s_BadText) (defBody s_BadText) (defScope s_BadText) .none kV_BadText dc_BadText pm_BadText an_BadText cd_BadText ct_BadText), sl_BadText⟩) (c_BadText : PySem.W.codeIn K cd_BadText "BadText.__init__" = true) (k_BadText : PySem.W.keepIn K (.ref f_BadText) = true) (n_BadText_text : PySem.W.findIn K (.ref C_BadText) "text" = some none)
    {C_BadRow f_BadRow N_BadRow : Addr} {nm_BadRow q_BadRow : Str} {bs_BadRow sub_BadRow : List Value} {sn_BadRow : List Str} {ab_BadRow : Bool} {col_BadRow : Option Bool} {dd_BadRow : Option Addr} {k0_BadRow k1_BadRow k2_BadRow k3_BadRow k5_BadRow : Option Value} {od_BadRow an_BadRow : Option Addr} {sl_BadRow : Array (Option Value)} {oc_BadRow kV_BadRow dc_BadRow pm_BadRow cd_BadRow ct_BadRow : Value} (a_BadRow : PySem.W.nsIn K mainGlobals "BadRow" = some (some (.ref C_BadRow))) (x_BadRow : K.lookup C_BadRow = some (excClassObj nm_BadRow q_BadRow C_BadRow N_BadRow bs_BadRow bm_ValueError true sn_BadRow sub_BadRow ab_BadRow col_BadRow dd_BadRow k0_BadRow k1_BadRow k2_BadRow k3_BadRow k5_BadRow "ValueError.__new__")) (sa_BadRow : PySem.W.findIn K (.ref C_BadRow) "__setattr__" = some (some (.builtin "object.__setattr__"))) (ga_BadRow : PySem.W.findIn K (.ref C_BadRow) "__getattribute__" = some (some (.builtin "BaseException.__getattribute__"))) (gk_BadRow : PySem.W.findIn K (.ref C_BadRow) "__getattr__" = some none) (hs_BadRow : PySem.W.subIn K (.ref C_BadRow) (.type "BaseException") = some true) (hd_BadRow : PySem.W.hasDictIn K C_BadRow = true) (ha_BadRow : PySem.W.findIn K (.ref C_BadRow) "__class__" = some (some (.builtin "object.__class__"))) (hm_BadRow : PySem.W.mroIn K C_BadRow (.type "object") = some true) (ty_BadRow : PySem.W.typeIn K (.ref C_BadRow) = some (.type "type")) (kC_BadRow : PySem.W.keepIn K (.ref C_BadRow) = true) (i_BadRow : PySem.W.findIn K (.ref C_BadRow) "__init__" = some (some (.ref f_BadRow))) (t_BadRow : PySem.W.typeIn K (.ref f_BadRow) = some (.type "function")) (l_BadRow : K.lookup f_BadRow = some ⟨oc_BadRow, od_BadRow, .func (PySem.W.fnOf "__init__" "BadRow.__init__" (defArgs s_BadRow) (defBody s_BadRow) (defScope s_BadRow) .none kV_BadRow dc_BadRow pm_BadRow an_BadRow cd_BadRow ct_BadRow), sl_BadRow⟩) (c_BadRow : PySem.W.codeIn K cd_BadRow "BadRow.__init__" = true) (k_BadRow : PySem.W.keepIn K (.ref f_BadRow) = true) (n_BadRow_row : PySem.W.findIn K (.ref C_BadRow) "row" = some none)
    {C_Fault f_Fault N_Fault : Addr} {nm_Fault q_Fault : Str} {bs_Fault sub_Fault : List Value} {sn_Fault : List Str} {ab_Fault : Bool} {col_Fault : Option Bool} {dd_Fault : Option Addr} {k0_Fault k1_Fault k2_Fault k3_Fault k5_Fault : Option Value} {od_Fault an_Fault : Option Addr} {sl_Fault : Array (Option Value)} {oc_Fault kV_Fault dc_Fault pm_Fault cd_Fault ct_Fault : Value} (a_Fault : PySem.W.nsIn K mainGlobals "Fault" = some (some (.ref C_Fault))) (x_Fault : K.lookup C_Fault = some (excClassObj nm_Fault q_Fault C_Fault N_Fault bs_Fault bm_ValueError true sn_Fault sub_Fault ab_Fault col_Fault dd_Fault k0_Fault k1_Fault k2_Fault k3_Fault k5_Fault "ValueError.__new__")) (sa_Fault : PySem.W.findIn K (.ref C_Fault) "__setattr__" = some (some (.builtin "object.__setattr__"))) (ga_Fault : PySem.W.findIn K (.ref C_Fault) "__getattribute__" = some (some (.builtin "BaseException.__getattribute__"))) (gk_Fault : PySem.W.findIn K (.ref C_Fault) "__getattr__" = some none) (hs_Fault : PySem.W.subIn K (.ref C_Fault) (.type "BaseException") = some true) (hd_Fault : PySem.W.hasDictIn K C_Fault = true) (ha_Fault : PySem.W.findIn K (.ref C_Fault) "__class__" = some (some (.builtin "object.__class__"))) (hm_Fault : PySem.W.mroIn K C_Fault (.type "object") = some true) (ty_Fault : PySem.W.typeIn K (.ref C_Fault) = some (.type "type")) (kC_Fault : PySem.W.keepIn K (.ref C_Fault) = true) (i_Fault : PySem.W.findIn K (.ref C_Fault) "__init__" = some (some (.ref f_Fault))) (t_Fault : PySem.W.typeIn K (.ref f_Fault) = some (.type "function")) (l_Fault : K.lookup f_Fault = some ⟨oc_Fault, od_Fault, .func (PySem.W.fnOf "__init__" "Fault.__init__" (defArgs s_Fault) (defBody s_Fault) (defScope s_Fault) .none kV_Fault dc_Fault pm_Fault an_Fault cd_Fault ct_Fault), sl_Fault⟩) (c_Fault : PySem.W.codeIn K cd_Fault "Fault.__init__" = true) (k_Fault : PySem.W.keepIn K (.ref f_Fault) = true) (n_Fault_code : PySem.W.findIn K (.ref C_Fault) "code" = some none) (n_Fault_at : PySem.W.findIn K (.ref C_Fault) "at" = some none)
    {C_Signs : Addr} (a_Signs : PySem.W.nsIn K mainGlobals "Signs" = some (some (.ref C_Signs))) (pg_Signs : PySem.W.plainGet K C_Signs Str.empty = true) (hd_Signs : PySem.W.hasDictIn K C_Signs = true) (po_Signs : PySem.W.plainOver K C_Signs = true) (sa_Signs : PySem.W.findIn K (.ref C_Signs) "__setattr__" = some (some (.builtin "object.__setattr__"))) (mk_Signs : PySem.W.makesIn K C_Signs = true) (kc_Signs : PySem.W.keepIn K (.ref C_Signs) = true) (n_Signs_signs : PySem.W.findIn K (.ref C_Signs) "signs" = some none) (n_Signs_parts : PySem.W.findIn K (.ref C_Signs) "parts" = some none) (n_Signs_many : PySem.W.findIn K (.ref C_Signs) "many" = some none)
    {f_Signs_init : Addr} {od_Signs_init an_Signs_init : Option Addr} {sl_Signs_init : Array (Option Value)} {oc_Signs_init kV_Signs_init dc_Signs_init pm_Signs_init cd_Signs_init ct_Signs_init : Value} (at_Signs_init : PySem.W.findIn K (.ref C_Signs) "__init__" = some (some (.ref f_Signs_init))) (i_Signs_init : PySem.W.isFn K (.ref f_Signs_init) = true) (l_Signs_init : K.lookup f_Signs_init = some ⟨oc_Signs_init, od_Signs_init, .func (PySem.W.fnOf "__init__" "Signs.__init__" (defArgs s_Signs_init) (defBody s_Signs_init) (defScope s_Signs_init) .none kV_Signs_init dc_Signs_init pm_Signs_init an_Signs_init cd_Signs_init ct_Signs_init), sl_Signs_init⟩) (c_Signs_init : PySem.W.codeIn K cd_Signs_init "Signs.__init__" = true) (k_Signs_init : PySem.W.keepIn K (.ref f_Signs_init) = true)
    {f_Signs_put : Addr} {od_Signs_put an_Signs_put : Option Addr} {sl_Signs_put : Array (Option Value)} {oc_Signs_put kV_Signs_put dc_Signs_put pm_Signs_put cd_Signs_put ct_Signs_put : Value} (at_Signs_put : PySem.W.findIn K (.ref C_Signs) "put" = some (some (.ref f_Signs_put))) (i_Signs_put : PySem.W.isFn K (.ref f_Signs_put) = true) (l_Signs_put : K.lookup f_Signs_put = some ⟨oc_Signs_put, od_Signs_put, .func (PySem.W.fnOf "put" "Signs.put" (defArgs s_Signs_put) (defBody s_Signs_put) (defScope s_Signs_put) .none kV_Signs_put dc_Signs_put pm_Signs_put an_Signs_put cd_Signs_put ct_Signs_put), sl_Signs_put⟩) (c_Signs_put : PySem.W.codeIn K cd_Signs_put "Signs.put" = true) (k_Signs_put : PySem.W.keepIn K (.ref f_Signs_put) = true)
    {f_Signs_how_many : Addr} {od_Signs_how_many an_Signs_how_many : Option Addr} {sl_Signs_how_many : Array (Option Value)} {oc_Signs_how_many kV_Signs_how_many dc_Signs_how_many pm_Signs_how_many cd_Signs_how_many ct_Signs_how_many : Value} (at_Signs_how_many : PySem.W.findIn K (.ref C_Signs) "how_many" = some (some (.ref f_Signs_how_many))) (i_Signs_how_many : PySem.W.isFn K (.ref f_Signs_how_many) = true) (l_Signs_how_many : K.lookup f_Signs_how_many = some ⟨oc_Signs_how_many, od_Signs_how_many, .func (PySem.W.fnOf "how_many" "Signs.how_many" (defArgs s_Signs_how_many) (defBody s_Signs_how_many) (defScope s_Signs_how_many) .none kV_Signs_how_many dc_Signs_how_many pm_Signs_how_many an_Signs_how_many cd_Signs_how_many ct_Signs_how_many), sl_Signs_how_many⟩) (c_Signs_how_many : PySem.W.codeIn K cd_Signs_how_many "Signs.how_many" = true) (k_Signs_how_many : PySem.W.keepIn K (.ref f_Signs_how_many) = true)
    {f_Signs_is_whole : Addr} {od_Signs_is_whole an_Signs_is_whole : Option Addr} {sl_Signs_is_whole : Array (Option Value)} {oc_Signs_is_whole kV_Signs_is_whole dc_Signs_is_whole pm_Signs_is_whole cd_Signs_is_whole ct_Signs_is_whole : Value} (at_Signs_is_whole : PySem.W.findIn K (.ref C_Signs) "is_whole" = some (some (.ref f_Signs_is_whole))) (i_Signs_is_whole : PySem.W.isFn K (.ref f_Signs_is_whole) = true) (l_Signs_is_whole : K.lookup f_Signs_is_whole = some ⟨oc_Signs_is_whole, od_Signs_is_whole, .func (PySem.W.fnOf "is_whole" "Signs.is_whole" (defArgs s_Signs_is_whole) (defBody s_Signs_is_whole) (defScope s_Signs_is_whole) .none kV_Signs_is_whole dc_Signs_is_whole pm_Signs_is_whole an_Signs_is_whole cd_Signs_is_whole ct_Signs_is_whole), sl_Signs_is_whole⟩) (c_Signs_is_whole : PySem.W.codeIn K cd_Signs_is_whole "Signs.is_whole" = true) (k_Signs_is_whole : PySem.W.keepIn K (.ref f_Signs_is_whole) = true)
    {f_Signs_words : Addr} {od_Signs_words an_Signs_words : Option Addr} {sl_Signs_words : Array (Option Value)} {oc_Signs_words kV_Signs_words dc_Signs_words pm_Signs_words cd_Signs_words ct_Signs_words : Value} (at_Signs_words : PySem.W.findIn K (.ref C_Signs) "words" = some (some (.ref f_Signs_words))) (i_Signs_words : PySem.W.isFn K (.ref f_Signs_words) = true) (l_Signs_words : K.lookup f_Signs_words = some ⟨oc_Signs_words, od_Signs_words, .func (PySem.W.fnOf "words" "Signs.words" (defArgs s_Signs_words) (defBody s_Signs_words) (defScope s_Signs_words) .none kV_Signs_words dc_Signs_words pm_Signs_words an_Signs_words cd_Signs_words ct_Signs_words), sl_Signs_words⟩) (c_Signs_words : PySem.W.codeIn K cd_Signs_words "Signs.words" = true) (k_Signs_words : PySem.W.keepIn K (.ref f_Signs_words) = true)
    {f_Signs_len : Addr} {od_Signs_len an_Signs_len : Option Addr} {sl_Signs_len : Array (Option Value)} {oc_Signs_len kV_Signs_len dc_Signs_len pm_Signs_len cd_Signs_len ct_Signs_len : Value} (at_Signs_len : PySem.W.findIn K (.ref C_Signs) "__len__" = some (some (.ref f_Signs_len))) (i_Signs_len : PySem.W.isFn K (.ref f_Signs_len) = true) (l_Signs_len : K.lookup f_Signs_len = some ⟨oc_Signs_len, od_Signs_len, .func (PySem.W.fnOf "__len__" "Signs.__len__" (defArgs s_Signs_len) (defBody s_Signs_len) (defScope s_Signs_len) .none kV_Signs_len dc_Signs_len pm_Signs_len an_Signs_len cd_Signs_len ct_Signs_len), sl_Signs_len⟩) (c_Signs_len : PySem.W.codeIn K cd_Signs_len "Signs.__len__" = true) (k_Signs_len : PySem.W.keepIn K (.ref f_Signs_len) = true)
    {f_Signs_str : Addr} {od_Signs_str an_Signs_str : Option Addr} {sl_Signs_str : Array (Option Value)} {oc_Signs_str kV_Signs_str dc_Signs_str pm_Signs_str cd_Signs_str ct_Signs_str : Value} (at_Signs_str : PySem.W.findIn K (.ref C_Signs) "__str__" = some (some (.ref f_Signs_str))) (i_Signs_str : PySem.W.isFn K (.ref f_Signs_str) = true) (l_Signs_str : K.lookup f_Signs_str = some ⟨oc_Signs_str, od_Signs_str, .func (PySem.W.fnOf "__str__" "Signs.__str__" (defArgs s_Signs_str) (defBody s_Signs_str) (defScope s_Signs_str) .none kV_Signs_str dc_Signs_str pm_Signs_str an_Signs_str cd_Signs_str ct_Signs_str), sl_Signs_str⟩) (c_Signs_str : PySem.W.codeIn K cd_Signs_str "Signs.__str__" = true) (k_Signs_str : PySem.W.keepIn K (.ref f_Signs_str) = true)
    (hn_ : PySem.W.specialIn K (.builtin "object.__class__") "__get__" = some (some (.builtin "getset_descriptor.__get__"))) (ht_ : PySem.W.takesIn K (.builtin "object.__class__") = some true)
    (lt_BadSlip : C_BadSlip < C_BadLetter)
    (lt_BadLetter : C_BadLetter < C_BadEnd)
    (lt_BadEnd : C_BadEnd < C_BadText)
    (lt_BadText : C_BadText < C_BadRow)
    (lt_BadRow : C_BadRow < C_Fault)
    (v_ValueError : PySem.W.findCls K (.type "ValueError") (.type "type") "__init__" = some (.val (.builtin "ValueError.__init__")))
    (z_len : PySem.W.nsIn K mainGlobals "len" = some none) (z_abs : PySem.W.nsIn K mainGlobals "abs" = some none) (z_int : PySem.W.nsIn K mainGlobals "int" = some none) (z_bool : PySem.W.nsIn K mainGlobals "bool" = some none) (z_str : PySem.W.nsIn K mainGlobals "str" = some none) (z_list : PySem.W.nsIn K mainGlobals "list" = some none) (z_tuple : PySem.W.nsIn K mainGlobals "tuple" = some none) (z_isinstance : PySem.W.nsIn K mainGlobals "isinstance" = some none) (z_all : PySem.W.nsIn K mainGlobals "all" = some none) (z_zip : PySem.W.nsIn K mainGlobals "zip" = some none) (z_min : PySem.W.nsIn K mainGlobals "min" = some none) (z_max : PySem.W.nsIn K mainGlobals "max" = some none) (z_range : PySem.W.nsIn K mainGlobals "range" = some none) (z_ValueError : PySem.W.nsIn K mainGlobals "ValueError" = some none) :
    ∃ fd : FuncData, (∀ (s : Shared) (v : Value), BindsTo s fd ⟨[v], []⟩ [("_law_script", v)]) ∧ ∀ base : Heap, K.In base → base.Ns mainGlobals mg → FnOk l.prog w K mg base CX0 10 fa fd ["_law_script"] (spLaw K) := by
  have e := hfa.symm.trans (PySem.W.mg_of X G a15)
  cases e
  have F0 := fun_mk (st := s_can_stand) l0 c0 k0
  have F1 := fun_mk (st := s_how_long) l1 c1 k1
  have F2 := fun_mk (st := s_sign_of) l2 c2 k2
  have F3 := fun_mk (st := s_cell_at) l3 c3 k3
  have F4 := fun_mk (st := s_box) l4 c4 k4
  have F5 := fun_mk (st := s_take) l5 c5 k5
  have F6 := fun_mk (st := s_same) l6 c6 k6
  have F7 := fun_mk (st := s_of) l7 c7 k7
  have F8 := fun_mk (st := s_signs) l8 c8 k8
  have F9 := fun_mk (st := s_put_told) l9 c9 k9
  have F10 := fun_mk (st := s_seen) l10 c10 k10
  have F11 := fun_mk (st := s_due) l11 c11 k11
  have F12 := fun_mk (st := s_byte) l12 c12 k12
  have F13 := fun_mk (st := s_put) l13 c13 k13
  have F14 := fun_mk (st := s_right) l14 c14 k14
  have F15 := fun_mk (st := s_law) l15 c15 k15
  have b0 := F0.binds (ps := ["begun", "byte"]) fun _ _ _ _ _ _ us hl => match us, hl with | [_, _], _ => rfl
  have b1 := F1.binds (ps := ["first"]) fun _ _ _ _ _ _ us hl => match us, hl with | [_], _ => rfl
  have b2 := F2.binds (ps := ["parts"]) fun _ _ _ _ _ _ us hl => match us, hl with | [_], _ => rfl
  have b3 := F3.binds (ps := ["_law_script", "_law_k"]) fun _ _ _ _ _ _ us hl => match us, hl with | [_, _], _ => rfl
  have b4 := F4.binds (ps := ["_law_script", "_law_k"]) fun _ _ _ _ _ _ us hl => match us, hl with | [_, _], _ => rfl
  have b5 := F5.binds (ps := ["_law_box_here", "_law_count"]) fun _ _ _ _ _ _ us hl => match us, hl with | [_, _], _ => rfl
  have b6 := F6.binds (ps := ["_law_found", "_law_due_here"]) fun _ _ _ _ _ _ us hl => match us, hl with | [_, _], _ => rfl
  have b7 := F7.binds (ps := ["_law_box_here", "_law_some"]) fun _ _ _ _ _ _ us hl => match us, hl with | [_, _], _ => rfl
  have b8 := F8.binds (ps := ["_law_row"]) fun _ _ _ _ _ _ us hl => match us, hl with | [_], _ => rfl
  have b9 := F9.binds (ps := ["_law_signs_here", "_law_part"]) fun _ _ _ _ _ _ us hl => match us, hl with | [_, _], _ => rfl
  have b10 := F10.binds (ps := ["_law_signs_here"]) fun _ _ _ _ _ _ us hl => match us, hl with | [_], _ => rfl
  have b11 := F11.binds (ps := ["_law_row"]) fun _ _ _ _ _ _ us hl => match us, hl with | [_], _ => rfl
  have b12 := F12.binds (ps := ["_law_box_here"]) fun _ _ _ _ _ _ us hl => match us, hl with | [_], _ => rfl
  have b13 := F13.binds (ps := ["_law_signs_here", "_law_row", "_law_part"]) fun _ _ _ _ _ _ us hl => match us, hl with | [_, _, _], _ => rfl
  have b14 := F14.binds (ps := ["_law_box_here"]) fun _ _ _ _ _ _ us hl => match us, hl with | [_], _ => rfl
  have F_BadSlip := fun_mk (st := s_BadSlip) l_BadSlip c_BadSlip k_BadSlip
  have b_BadSlip := F_BadSlip.binds (ps := ["self", "part"]) fun _ _ _ _ _ _ us hl => match us, hl with | [_, _], _ => rfl
  have oe_BadSlip : OeC K C_BadSlip "ValueError" "ValueError.__new__" "ValueError.__init__" bm_ValueError := { base := PySem.F.excBase_ValueError, pass := PySem.MyX.pass_Value, ob := by decide +kernel, cls := ⟨_, _, _, _, _, _, _, _, _, _, _, _, _, _, x_BadSlip⟩, sa := sa_BadSlip, is_ := ⟨ga_BadSlip, gk_BadSlip, hs_BadSlip, hd_BadSlip, ha_BadSlip, hn_, ht_, hm_BadSlip⟩, ty := ty_BadSlip, kC := kC_BadSlip }
  have F_BadLetter := fun_mk (st := s_BadLetter) l_BadLetter c_BadLetter k_BadLetter
  have b_BadLetter := F_BadLetter.binds (ps := ["self", "part"]) fun _ _ _ _ _ _ us hl => match us, hl with | [_, _], _ => rfl
  have oe_BadLetter : OeC K C_BadLetter "ValueError" "ValueError.__new__" "ValueError.__init__" bm_ValueError := { base := PySem.F.excBase_ValueError, pass := PySem.MyX.pass_Value, ob := by decide +kernel, cls := ⟨_, _, _, _, _, _, _, _, _, _, _, _, _, _, x_BadLetter⟩, sa := sa_BadLetter, is_ := ⟨ga_BadLetter, gk_BadLetter, hs_BadLetter, hd_BadLetter, ha_BadLetter, hn_, ht_, hm_BadLetter⟩, ty := ty_BadLetter, kC := kC_BadLetter }
  have F_BadEnd := fun_mk (st := s_BadEnd) l_BadEnd c_BadEnd k_BadEnd
  have b_BadEnd := F_BadEnd.binds (ps := ["self", "part"]) fun _ _ _ _ _ _ us hl => match us, hl with | [_, _], _ => rfl
  have oe_BadEnd : OeC K C_BadEnd "ValueError" "ValueError.__new__" "ValueError.__init__" bm_ValueError := { base := PySem.F.excBase_ValueError, pass := PySem.MyX.pass_Value, ob := by decide +kernel, cls := ⟨_, _, _, _, _, _, _, _, _, _, _, _, _, _, x_BadEnd⟩, sa := sa_BadEnd, is_ := ⟨ga_BadEnd, gk_BadEnd, hs_BadEnd, hd_BadEnd, ha_BadEnd, hn_, ht_, hm_BadEnd⟩, ty := ty_BadEnd, kC := kC_BadEnd }
  have F_BadText := fun_mk (st := s_BadText) l_BadText c_BadText k_BadText
  have b_BadText := F_BadText.binds (ps := ["self", "text"]) fun _ _ _ _ _ _ us hl => match us, hl with | [_, _], _ => rfl
  have oe_BadText : OeC K C_BadText "ValueError" "ValueError.__new__" "ValueError.__init__" bm_ValueError := { base := PySem.F.excBase_ValueError, pass := PySem.MyX.pass_Value, ob := by decide +kernel, cls := ⟨_, _, _, _, _, _, _, _, _, _, _, _, _, _, x_BadText⟩, sa := sa_BadText, is_ := ⟨ga_BadText, gk_BadText, hs_BadText, hd_BadText, ha_BadText, hn_, ht_, hm_BadText⟩, ty := ty_BadText, kC := kC_BadText }
  have F_BadRow := fun_mk (st := s_BadRow) l_BadRow c_BadRow k_BadRow
  have b_BadRow := F_BadRow.binds (ps := ["self", "row"]) fun _ _ _ _ _ _ us hl => match us, hl with | [_, _], _ => rfl
  have oe_BadRow : OeC K C_BadRow "ValueError" "ValueError.__new__" "ValueError.__init__" bm_ValueError := { base := PySem.F.excBase_ValueError, pass := PySem.MyX.pass_Value, ob := by decide +kernel, cls := ⟨_, _, _, _, _, _, _, _, _, _, _, _, _, _, x_BadRow⟩, sa := sa_BadRow, is_ := ⟨ga_BadRow, gk_BadRow, hs_BadRow, hd_BadRow, ha_BadRow, hn_, ht_, hm_BadRow⟩, ty := ty_BadRow, kC := kC_BadRow }
  have F_Fault := fun_mk (st := s_Fault) l_Fault c_Fault k_Fault
  have b_Fault := F_Fault.binds (ps := ["self", "code", "at"]) fun _ _ _ _ _ _ us hl => match us, hl with | [_, _, _], _ => rfl
  have oe_Fault : OeC K C_Fault "ValueError" "ValueError.__new__" "ValueError.__init__" bm_ValueError := { base := PySem.F.excBase_ValueError, pass := PySem.MyX.pass_Value, ob := by decide +kernel, cls := ⟨_, _, _, _, _, _, _, _, _, _, _, _, _, _, x_Fault⟩, sa := sa_Fault, is_ := ⟨ga_Fault, gk_Fault, hs_Fault, hd_Fault, ha_Fault, hn_, ht_, hm_Fault⟩, ty := ty_Fault, kC := kC_Fault }
  have F_Signs_init := fun_mk (st := s_Signs_init) l_Signs_init c_Signs_init k_Signs_init
  have b_Signs_init := F_Signs_init.binds (ps := ["self"]) fun _ _ _ _ _ _ us hl => match us, hl with | [_], _ => rfl
  have F_Signs_put := fun_mk (st := s_Signs_put) l_Signs_put c_Signs_put k_Signs_put
  have b_Signs_put := F_Signs_put.binds (ps := ["self", "byte"]) fun _ _ _ _ _ _ us hl => match us, hl with | [_, _], _ => rfl
  have F_Signs_how_many := fun_mk (st := s_Signs_how_many) l_Signs_how_many c_Signs_how_many k_Signs_how_many
  have b_Signs_how_many := F_Signs_how_many.binds (ps := ["self"]) fun _ _ _ _ _ _ us hl => match us, hl with | [_], _ => rfl
  have F_Signs_is_whole := fun_mk (st := s_Signs_is_whole) l_Signs_is_whole c_Signs_is_whole k_Signs_is_whole
  have b_Signs_is_whole := F_Signs_is_whole.binds (ps := ["self"]) fun _ _ _ _ _ _ us hl => match us, hl with | [_], _ => rfl
  have F_Signs_words := fun_mk (st := s_Signs_words) l_Signs_words c_Signs_words k_Signs_words
  have b_Signs_words := F_Signs_words.binds (ps := ["self"]) fun _ _ _ _ _ _ us hl => match us, hl with | [_], _ => rfl
  have F_Signs_len := fun_mk (st := s_Signs_len) l_Signs_len c_Signs_len k_Signs_len
  have b_Signs_len := F_Signs_len.binds (ps := ["self"]) fun _ _ _ _ _ _ us hl => match us, hl with | [_], _ => rfl
  have F_Signs_str := fun_mk (st := s_Signs_str) l_Signs_str c_Signs_str k_Signs_str
  have b_Signs_str := F_Signs_str.binds (ps := ["self"]) fun _ _ _ _ _ _ us hl => match us, hl with | [_], _ => rfl
  have T : Tx K mg := { f_can_stand := f0, fd_can_stand := _, F_can_stand := F0, g_can_stand := PySem.W.mg_of X G a0, b_can_stand := b0, f_how_long := f1, fd_how_long := _, F_how_long := F1, g_how_long := PySem.W.mg_of X G a1, b_how_long := b1, f_sign_of := f2, fd_sign_of := _, F_sign_of := F2, g_sign_of := PySem.W.mg_of X G a2, b_sign_of := b2, f_cell_at := f3, fd_cell_at := _, F_cell_at := F3, g_cell_at := PySem.W.mg_of X G a3, b_cell_at := b3, f_box := f4, fd_box := _, F_box := F4, g_box := PySem.W.mg_of X G a4, b_box := b4, f_take := f5, fd_take := _, F_take := F5, g_take := PySem.W.mg_of X G a5, b_take := b5, f_same := f6, fd_same := _, F_same := F6, g_same := PySem.W.mg_of X G a6, b_same := b6, f_of := f7, fd_of := _, F_of := F7, g_of := PySem.W.mg_of X G a7, b_of := b7, f_signs := f8, fd_signs := _, F_signs := F8, g_signs := PySem.W.mg_of X G a8, b_signs := b8, f_put_told := f9, fd_put_told := _, F_put_told := F9, g_put_told := PySem.W.mg_of X G a9, b_put_told := b9, f_seen := f10, fd_seen := _, F_seen := F10, g_seen := PySem.W.mg_of X G a10, b_seen := b10, f_due := f11, fd_due := _, F_due := F11, g_due := PySem.W.mg_of X G a11, b_due := b11, f_byte := f12, fd_byte := _, F_byte := F12, g_byte := PySem.W.mg_of X G a12, b_byte := b12, f_put := f13, fd_put := _, F_put := F13, g_put := PySem.W.mg_of X G a13, b_put := b13, f_right := f14, fd_right := _, F_right := F14, g_right := PySem.W.mg_of X G a14, b_right := b14, tk_SIGNS := _, g_SIGNS := PySem.W.mg_of X G a_SIGNS, C_BadSlip := C_BadSlip, f_BadSlip := f_BadSlip, fd_BadSlip := _, F_BadSlip := F_BadSlip, g_BadSlip := PySem.W.mg_of X G a_BadSlip, oe_BadSlip := oe_BadSlip, i_BadSlip := i_BadSlip, t_BadSlip := t_BadSlip, b_BadSlip := b_BadSlip, n_BadSlip_part := n_BadSlip_part, C_BadLetter := C_BadLetter, f_BadLetter := f_BadLetter, fd_BadLetter := _, F_BadLetter := F_BadLetter, g_BadLetter := PySem.W.mg_of X G a_BadLetter, oe_BadLetter := oe_BadLetter, i_BadLetter := i_BadLetter, t_BadLetter := t_BadLetter, b_BadLetter := b_BadLetter, n_BadLetter_part := n_BadLetter_part, C_BadEnd := C_BadEnd, f_BadEnd := f_BadEnd, fd_BadEnd := _, F_BadEnd := F_BadEnd, g_BadEnd := PySem.W.mg_of X G a_BadEnd, oe_BadEnd := oe_BadEnd, i_BadEnd := i_BadEnd, t_BadEnd := t_BadEnd, b_BadEnd := b_BadEnd, n_BadEnd_part := n_BadEnd_part, C_BadText := C_BadText, f_BadText := f_BadText, fd_BadText := _, F_BadText := F_BadText, g_BadText := PySem.W.mg_of X G a_BadText, oe_BadText := oe_BadText, i_BadText := i_BadText, t_BadText := t_BadText, b_BadText := b_BadText, n_BadText_text := n_BadText_text, C_BadRow := C_BadRow, f_BadRow := f_BadRow, fd_BadRow := _, F_BadRow := F_BadRow, g_BadRow := PySem.W.mg_of X G a_BadRow, oe_BadRow := oe_BadRow, i_BadRow := i_BadRow, t_BadRow := t_BadRow, b_BadRow := b_BadRow, n_BadRow_row := n_BadRow_row, C_Fault := C_Fault, f_Fault := f_Fault, fd_Fault := _, F_Fault := F_Fault, g_Fault := PySem.W.mg_of X G a_Fault, oe_Fault := oe_Fault, i_Fault := i_Fault, t_Fault := t_Fault, b_Fault := b_Fault, n_Fault_code := n_Fault_code, n_Fault_at := n_Fault_at, C_Signs := C_Signs, g_Signs := PySem.W.mg_of X G a_Signs, cl_Signs := ⟨pg_Signs, hd_Signs, po_Signs, sa_Signs⟩, n_Signs_signs := n_Signs_signs, n_Signs_parts := n_Signs_parts, n_Signs_many := n_Signs_many, f_Signs_init := f_Signs_init, fd_Signs_init := _, F_Signs_init := F_Signs_init, b_Signs_init := b_Signs_init, mk_Signs := ⟨mk_Signs, at_Signs_init, i_Signs_init, kc_Signs⟩, f_Signs_put := f_Signs_put, fd_Signs_put := _, F_Signs_put := F_Signs_put, b_Signs_put := b_Signs_put, mt_Signs_put := ⟨at_Signs_put, i_Signs_put, k_Signs_put⟩, f_Signs_how_many := f_Signs_how_many, fd_Signs_how_many := _, F_Signs_how_many := F_Signs_how_many, b_Signs_how_many := b_Signs_how_many, mt_Signs_how_many := ⟨at_Signs_how_many, i_Signs_how_many, k_Signs_how_many⟩, f_Signs_is_whole := f_Signs_is_whole, fd_Signs_is_whole := _, F_Signs_is_whole := F_Signs_is_whole, b_Signs_is_whole := b_Signs_is_whole, mt_Signs_is_whole := ⟨at_Signs_is_whole, i_Signs_is_whole, k_Signs_is_whole⟩, f_Signs_words := f_Signs_words, fd_Signs_words := _, F_Signs_words := F_Signs_words, b_Signs_words := b_Signs_words, mt_Signs_words := ⟨at_Signs_words, i_Signs_words, k_Signs_words⟩, f_Signs_len := f_Signs_len, fd_Signs_len := _, F_Signs_len := F_Signs_len, b_Signs_len := b_Signs_len, mt_Signs_len := ⟨at_Signs_len, i_Signs_len, k_Signs_len⟩, f_Signs_str := f_Signs_str, fd_Signs_str := _, F_Signs_str := F_Signs_str, b_Signs_str := b_Signs_str, mt_Signs_str := ⟨at_Signs_str, i_Signs_str, k_Signs_str⟩, lt_BadSlip := lt_BadSlip, lt_BadLetter := lt_BadLetter, lt_BadEnd := lt_BadEnd, lt_BadText := lt_BadText, lt_BadRow := lt_BadRow, v_ValueError := v_ValueError, m_len := PySem.W.mg_none_of X G z_len, m_abs := PySem.W.mg_none_of X G z_abs, m_int := PySem.W.mg_none_of X G z_int, m_bool := PySem.W.mg_none_of X G z_bool, m_str := PySem.W.mg_none_of X G z_str, m_list := PySem.W.mg_none_of X G z_list, m_tuple := PySem.W.mg_none_of X G z_tuple, m_isinstance := PySem.W.mg_none_of X G z_isinstance, m_all := PySem.W.mg_none_of X G z_all, m_zip := PySem.W.mg_none_of X G z_zip, m_min := PySem.W.mg_none_of X G z_min, m_max := PySem.W.mg_none_of X G z_max, m_range := PySem.W.mg_none_of X G z_range, m_ValueError := PySem.W.mg_none_of X G z_ValueError }
  exact ⟨PySem.W.fnOf "law" "law" (defArgs s_law) (defBody s_law) (defScope s_law) .none kV15 dc15 pm15 an15 cd15 ct15, fun s v => .of_eq rfl, fun base _ _ => ok_law T F15⟩
end K19
open PySem PySem.W PyProof.Rows
set_option maxHeartbeats 0 in
theorem PySem.Challenge.cw_slipwire_k19_refused_and_gone_on_holds : PySem.Challenge.rw_slipwire_k19_refused_and_gone_on.Holds := by
  w_on; o_law; k_head; (case hw => w_witness2)
  k_fill
  refine L2.walk_of (l := PySem.Challenge.rw_slipwire_k19_refused_and_gone_on) (n := 63) (k := 10) (x := "_law_script") (CX := fun _ => L2.CX0) (sp := fun w => K19.spLaw _) rfl (by decide) rfl ⟨rfl, by decide, by decide⟩ (fun w h Y => PySem.W.kIn_of Y) ?F (fun _ _ a ns hl _ hS => ⟨a, ns, rfl, hS, hl, fun _ => rfl⟩) (fun _ _ _ _ _ h => h)
  case F =>
    intro w mg fa h KX G hmg
    refine' K19.all_mk KX G hmg ?a0 ?l0 ?c0 ?k0 ?a1 ?l1 ?c1 ?k1 ?a2 ?l2 ?c2 ?k2 ?a3 ?l3 ?c3 ?k3 ?a4 ?l4 ?c4 ?k4 ?a5 ?l5 ?c5 ?k5 ?a6 ?l6 ?c6 ?k6 ?a7 ?l7 ?c7 ?k7 ?a8 ?l8 ?c8 ?k8 ?a9 ?l9 ?c9 ?k9 ?a10 ?l10 ?c10 ?k10 ?a11 ?l11 ?c11 ?k11 ?a12 ?l12 ?c12 ?k12 ?a13 ?l13 ?c13 ?k13 ?a14 ?l14 ?c14 ?k14 ?a15 ?l15 ?c15 ?k15 ?a_SIGNS ?a_BadSlip ?x_BadSlip ?sa_BadSlip ?ga_BadSlip ?gk_BadSlip ?hs_BadSlip ?hd_BadSlip ?ha_BadSlip ?hm_BadSlip ?ty_BadSlip ?kC_BadSlip ?i_BadSlip ?t_BadSlip ?l_BadSlip ?c_BadSlip ?k_BadSlip ?n_BadSlip_part ?a_BadLetter ?x_BadLetter ?sa_BadLetter ?ga_BadLetter ?gk_BadLetter ?hs_BadLetter ?hd_BadLetter ?ha_BadLetter ?hm_BadLetter ?ty_BadLetter ?kC_BadLetter ?i_BadLetter ?t_BadLetter ?l_BadLetter ?c_BadLetter ?k_BadLetter ?n_BadLetter_part ?a_BadEnd ?x_BadEnd ?sa_BadEnd ?ga_BadEnd ?gk_BadEnd ?hs_BadEnd ?hd_BadEnd ?ha_BadEnd ?hm_BadEnd ?ty_BadEnd ?kC_BadEnd ?i_BadEnd ?t_BadEnd ?l_BadEnd ?c_BadEnd ?k_BadEnd ?n_BadEnd_part ?a_BadText ?x_BadText ?sa_BadText ?ga_BadText ?gk_BadText ?hs_BadText ?hd_BadText ?ha_BadText ?hm_BadText ?ty_BadText ?kC_BadText ?i_BadText ?t_BadText ?l_BadText ?c_BadText ?k_BadText ?n_BadText_text ?a_BadRow ?x_BadRow ?sa_BadRow ?ga_BadRow ?gk_BadRow ?hs_BadRow ?hd_BadRow ?ha_BadRow ?hm_BadRow ?ty_BadRow ?kC_BadRow ?i_BadRow ?t_BadRow ?l_BadRow ?c_BadRow ?k_BadRow ?n_BadRow_row ?a_Fault ?x_Fault ?sa_Fault ?ga_Fault ?gk_Fault ?hs_Fault ?hd_Fault ?ha_Fault ?hm_Fault ?ty_Fault ?kC_Fault ?i_Fault ?t_Fault ?l_Fault ?c_Fault ?k_Fault ?n_Fault_code ?n_Fault_at ?a_Signs ?pg_Signs ?hd_Signs ?po_Signs ?sa_Signs ?mk_Signs ?kc_Signs ?n_Signs_signs ?n_Signs_parts ?n_Signs_many ?at_Signs_init ?i_Signs_init ?l_Signs_init ?c_Signs_init ?k_Signs_init ?at_Signs_put ?i_Signs_put ?l_Signs_put ?c_Signs_put ?k_Signs_put ?at_Signs_how_many ?i_Signs_how_many ?l_Signs_how_many ?c_Signs_how_many ?k_Signs_how_many ?at_Signs_is_whole ?i_Signs_is_whole ?l_Signs_is_whole ?c_Signs_is_whole ?k_Signs_is_whole ?at_Signs_words ?i_Signs_words ?l_Signs_words ?c_Signs_words ?k_Signs_words ?at_Signs_len ?i_Signs_len ?l_Signs_len ?c_Signs_len ?k_Signs_len ?at_Signs_str ?i_Signs_str ?l_Signs_str ?c_Signs_str ?k_Signs_str ?hn_ ?ht_ ?lt_BadSlip ?lt_BadLetter ?lt_BadEnd ?lt_BadText ?lt_BadRow ?v_ValueError ?z_len ?z_abs ?z_int ?z_bool ?z_str ?z_list ?z_tuple ?z_isinstance ?z_all ?z_zip ?z_min ?z_max ?z_range ?z_ValueError
    (case a0 => k_is); (case l0 => k_is); (case c0 => k_is); (case k0 => k_is); (case a1 => k_is); (case l1 => k_is); (case c1 => k_is); (case k1 => k_is); (case a2 => k_is); (case l2 => k_is); (case c2 => k_is); (case k2 => k_is); (case a3 => k_is); (case l3 => k_is); (case c3 => k_is); (case k3 => k_is); (case a4 => k_is); (case l4 => k_is); (case c4 => k_is); (case k4 => k_is); (case a5 => k_is); (case l5 => k_is); (case c5 => k_is); (case k5 => k_is); (case a6 => k_is); (case l6 => k_is); (case c6 => k_is); (case k6 => k_is); (case a7 => k_is); (case l7 => k_is); (case c7 => k_is); (case k7 => k_is); (case a8 => k_is); (case l8 => k_is); (case c8 => k_is); (case k8 => k_is); (case a9 => k_is); (case l9 => k_is); (case c9 => k_is); (case k9 => k_is); (case a10 => k_is); (case l10 => k_is); (case c10 => k_is); (case k10 => k_is); (case a11 => k_is); (case l11 => k_is); (case c11 => k_is); (case k11 => k_is); (case a12 => k_is); (case l12 => k_is); (case c12 => k_is); (case k12 => k_is); (case a13 => k_is); (case l13 => k_is); (case c13 => k_is); (case k13 => k_is); (case a14 => k_is); (case l14 => k_is); (case c14 => k_is); (case k14 => k_is); (case a15 => k_is); (case l15 => k_is); (case c15 => k_is); (case k15 => k_is); (case a_SIGNS => k_is); (case a_BadSlip => k_is); (case x_BadSlip => k_is); (case sa_BadSlip => k_is); (case ga_BadSlip => k_is); (case gk_BadSlip => k_is); (case hs_BadSlip => k_is); (case hd_BadSlip => k_is); (case ha_BadSlip => k_is); (case hm_BadSlip => k_is); (case ty_BadSlip => k_is); (case kC_BadSlip => k_is); (case i_BadSlip => k_is); (case t_BadSlip => k_is); (case l_BadSlip => k_is); (case c_BadSlip => k_is); (case k_BadSlip => k_is); (case n_BadSlip_part => k_is); (case a_BadLetter => k_is); (case x_BadLetter => k_is); (case sa_BadLetter => k_is); (case ga_BadLetter => k_is); (case gk_BadLetter => k_is); (case hs_BadLetter => k_is); (case hd_BadLetter => k_is); (case ha_BadLetter => k_is); (case hm_BadLetter => k_is); (case ty_BadLetter => k_is); (case kC_BadLetter => k_is); (case i_BadLetter => k_is); (case t_BadLetter => k_is); (case l_BadLetter => k_is); (case c_BadLetter => k_is); (case k_BadLetter => k_is); (case n_BadLetter_part => k_is); (case a_BadEnd => k_is); (case x_BadEnd => k_is); (case sa_BadEnd => k_is); (case ga_BadEnd => k_is); (case gk_BadEnd => k_is); (case hs_BadEnd => k_is); (case hd_BadEnd => k_is); (case ha_BadEnd => k_is); (case hm_BadEnd => k_is); (case ty_BadEnd => k_is); (case kC_BadEnd => k_is); (case i_BadEnd => k_is); (case t_BadEnd => k_is); (case l_BadEnd => k_is); (case c_BadEnd => k_is); (case k_BadEnd => k_is); (case n_BadEnd_part => k_is); (case a_BadText => k_is); (case x_BadText => k_is); (case sa_BadText => k_is); (case ga_BadText => k_is); (case gk_BadText => k_is); (case hs_BadText => k_is); (case hd_BadText => k_is); (case ha_BadText => k_is); (case hm_BadText => k_is); (case ty_BadText => k_is); (case kC_BadText => k_is); (case i_BadText => k_is); (case t_BadText => k_is); (case l_BadText => k_is); (case c_BadText => k_is); (case k_BadText => k_is); (case n_BadText_text => k_is); (case a_BadRow => k_is); (case x_BadRow => k_is); (case sa_BadRow => k_is); (case ga_BadRow => k_is); (case gk_BadRow => k_is); (case hs_BadRow => k_is); (case hd_BadRow => k_is); (case ha_BadRow => k_is); (case hm_BadRow => k_is); (case ty_BadRow => k_is); (case kC_BadRow => k_is); (case i_BadRow => k_is); (case t_BadRow => k_is); (case l_BadRow => k_is); (case c_BadRow => k_is); (case k_BadRow => k_is); (case n_BadRow_row => k_is); (case a_Fault => k_is); (case x_Fault => k_is); (case sa_Fault => k_is); (case ga_Fault => k_is); (case gk_Fault => k_is); (case hs_Fault => k_is); (case hd_Fault => k_is); (case ha_Fault => k_is); (case hm_Fault => k_is); (case ty_Fault => k_is); (case kC_Fault => k_is); (case i_Fault => k_is); (case t_Fault => k_is); (case l_Fault => k_is); (case c_Fault => k_is); (case k_Fault => k_is); (case n_Fault_code => k_is); (case n_Fault_at => k_is); (case a_Signs => k_is); (case pg_Signs => k_is); (case hd_Signs => k_is); (case po_Signs => k_is); (case sa_Signs => k_is); (case mk_Signs => k_is); (case kc_Signs => k_is); (case n_Signs_signs => k_is); (case n_Signs_parts => k_is); (case n_Signs_many => k_is); (case at_Signs_init => k_is); (case i_Signs_init => k_is); (case l_Signs_init => k_is); (case c_Signs_init => k_is); (case k_Signs_init => k_is); (case at_Signs_put => k_is); (case i_Signs_put => k_is); (case l_Signs_put => k_is); (case c_Signs_put => k_is); (case k_Signs_put => k_is); (case at_Signs_how_many => k_is); (case i_Signs_how_many => k_is); (case l_Signs_how_many => k_is); (case c_Signs_how_many => k_is); (case k_Signs_how_many => k_is); (case at_Signs_is_whole => k_is); (case i_Signs_is_whole => k_is); (case l_Signs_is_whole => k_is); (case c_Signs_is_whole => k_is); (case k_Signs_is_whole => k_is); (case at_Signs_words => k_is); (case i_Signs_words => k_is); (case l_Signs_words => k_is); (case c_Signs_words => k_is); (case k_Signs_words => k_is); (case at_Signs_len => k_is); (case i_Signs_len => k_is); (case l_Signs_len => k_is); (case c_Signs_len => k_is); (case k_Signs_len => k_is); (case at_Signs_str => k_is); (case i_Signs_str => k_is); (case l_Signs_str => k_is); (case c_Signs_str => k_is); (case k_Signs_str => k_is); (case hn_ => k_is); (case ht_ => k_is); (case lt_BadSlip => decide); (case lt_BadLetter => decide); (case lt_BadEnd => decide); (case lt_BadText => decide); (case lt_BadRow => decide); (case v_ValueError => k_is); (case z_len => k_is); (case z_abs => k_is); (case z_int => k_is); (case z_bool => k_is); (case z_str => k_is); (case z_list => k_is); (case z_tuple => k_is); (case z_isinstance => k_is); (case z_all => k_is); (case z_zip => k_is); (case z_min => k_is); (case z_max => k_is); (case z_range => k_is); (case z_ValueError => k_is)
