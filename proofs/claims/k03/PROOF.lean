import PyProof.Rows.All
import Wide.All
import OpenK.AllK
import Wide.FinOn
import HandS.ForMost
import HandS.Walk
import HandS.IsInst
import HandS.Zip
import HandS.Defaults
import HandS.MakeKwOnly
import HandS.Style
import HandS.DeepEq
import KE.GoesMore
import KE.GoesEnum
import KE.GoesZip
import HandS.ExcInit
import HandS.ExcIs
import HandS.FStr
import KE.KExcPX
import HandS.TupAny
import HandS.Conv
import HandS.WordsExc
import PySem.Challenge.RW_slipwire_k03_sizes_written_and_read
set_option Elab.async false
set_option linter.all false
set_option maxRecDepth 100000
set_option maxHeartbeats 4000000
/-! my own rules over the hand layer: enumerate of a tuple, a call by keywords alone -/
namespace PySem
open Sem (wp)
set_option maxHeartbeats 1000000 in
theorem my_meets_enumT (t : Addr) (items : Array Value) :
    Meets (Builtin.«enumerate.__new__» ⟨[.type "enumerate", .ref t], []⟩) (fun _ R s => s.heap.IsTuple t items ∧
      R (.ok (.ret (.ref (s.heap.push { cls := .type "tuple_iterator", data := .fields #[.ref t, .int 0 0] }).objs.size)))
        { s with heap := (s.heap.push { cls := .type "tuple_iterator", data := .fields #[.ref t, .int 0 0] }).push { cls := .type "enumerate", data := .fields #[.none, .bool false, .ref s.heap.objs.size, rawInt 0, .none, .none] } }) :=
  .of_wp fun prog w A R s h => by
    obtain ⟨hp, g, d, tk, os⟩ := s
    obtain ⟨hl, h⟩ := h
    have hsub := sub_enumerate
    have hL : Heap.IsTuple (Shared.heap ⟨hp, g, d, tk, os⟩) t items := hl
    wp_walk using wpAny_pyIter_tuple hL
    refine wpAny_stack_any fun st => wpAny_pure ?_
    split
    · rename_i c _ _ _ _ _
      cases (c == Value.type "enumerate")
      · wp_walk using wpAny_pyIter_tuple hL
        exact ⟨_, rfl, h⟩
      · wp_walk using wpAny_pyIter_tuple hL
        exact ⟨_, rfl, h⟩
    · wp_walk using wpAny_pyIter_tuple hL
      exact ⟨_, rfl, h⟩
theorem my_call_enumT {prog : Program} {w : World} {A : Around} {E : Value → Shared → Prop} {s : Shared} {t : Addr} {items : Array Value} {Q : Value → Shared → Prop} (hL : s.heap.IsTuple t items)
    (h : ∀ h', IsEnum h' (s.heap.objs.size + 1) s.heap.objs.size 0 .none → h'.IsTupleIter s.heap.objs.size t 0 → h'.objs.size = s.heap.objs.size + 2 →
      (∀ b o, s.heap.get? b = some o → h'.get? b = some o) → Q (.ref (s.heap.objs.size + 1)) { s with heap := h' }) :
    wpAny (model prog w) A (call (.type "enumerate") [.ref t]) Q E s := by
  refine callType_new F.called_enumerate (by decide) (F.typeCall_enumerate_1 _) (F.newCall_enumerate_1 _) (fun obj => F.args_object_init_2 obj _) F.entry_enumerate_new
    (my_meets_enumT t items) ⟨hL, ?_⟩
  have hz : (s.heap.push { cls := .type "tuple_iterator", data := .fields #[.ref t, .int 0 0] }).objs.size = s.heap.objs.size + 1 := Heap.size_push ..
  show _ ∧ _
  rw [hz]
  have he : IsEnum ((s.heap.push { cls := .type "tuple_iterator", data := .fields #[.ref t, .int 0 0] }).push
      { cls := .type "enumerate", data := .fields #[.none, .bool false, .ref s.heap.objs.size, rawInt 0, .none, .none] }) (s.heap.objs.size + 1) s.heap.objs.size 0 .none := by
    have := Heap.get?_push_size (s.heap.push { cls := .type "tuple_iterator", data := .fields #[.ref t, .int 0 0] })
      (o := { cls := .type "enumerate", data := .fields #[.none, .bool false, .ref s.heap.objs.size, rawInt 0, .none, .none] }) rfl
    rw [hz] at this; exact this
  refine ⟨⟨_, he, rfl⟩, h _ he ⟨_, Heap.get?_push_of_some _ (Heap.get?_push_size _ rfl), rfl, rfl⟩ (by rw [Heap.size_push, hz]) fun b o x => Heap.get?_push_of_some _ (Heap.get?_push_of_some _ x)⟩
end PySem
namespace L2
open PySem PySem.Spec PyProof.Rows
/-! ### enumerate(tuple) -/
def IteT (K : PySem.W.Frag) (a : Addr) : It :=
  ⟨fun i H => ∃ (xs : List V) (x : V), SqT K H a xs ∧ xs[i]? = some x, fun i H v H' => ∃ T x, v = .ref T ∧ H T = none ∧ H' = upd H T (.tup [.int (i : Nat), x]) ∧ ∀ xs, SqT K H a xs → xs[i]? = some x, fun i H => ∃ xs : List V, SqT K H a xs ∧ xs.length = i⟩
theorem turn_enumT {P : Program} {w : World} {K : PySem.W.Frag} {elts : List Expr} {kk : Nat} {tpos : Pos} (a e it : Addr) :
    Turn P w K (.Tuple elts kk tpos) (IteT K a) [e, it] e (fun i h => (∃ old, IsEnum h e it ((i : Nat) : Int) old) ∧ h.IsTupleIter it a i ∧ e ≠ it ∧ a ≠ it ∧ a ≠ e) where
  mem := by simp
  obj := fun i h st b hb => by
    obtain ⟨⟨old, he⟩, ⟨o, ho, hc, hd⟩, _⟩ := st
    have e' : b = e ∨ b = it := by simpa using hb
    rcases e' with z | z
    · rw [z]; exact ⟨_, he, fun v q => nomatch q⟩
    · rw [z]; exact ⟨o, ho, fun v q => by rw [hd] at q; cases q⟩
  keep := fun i h h' st k => let ⟨⟨old, he⟩, hi, hne⟩ := st; ⟨⟨old, k e (by simp) _ he⟩, hi.at fun o q => k it (by simp) o q, hne⟩
  item := by
    intro X hP hw hK hc i pins s σ H E I hf st hg
    subst hP hw hK
    obtain ⟨⟨old, he⟩, hit, hne, hai, hae⟩ := st
    obtain ⟨xs, x, hq, hx⟩ := hg
    obtain ⟨its, rv, p, hz⟩ := I.tuple hq
    obtain ⟨u, hu, ru⟩ := rv.get hx
    have hel : e < s.heap.objs.size := Heap.lt_size he
    have hil : it < s.heap.objs.size := by obtain ⟨_, q, _⟩ := hit; exact Heap.lt_size q
    have hlt : i < its.toArray.size := by
      have h1 : i < its.length := (List.getElem?_eq_some_iff.mp hu).1
      rw [List.size_toArray]
      exact h1
    have D : Draws X.prog X.w X.A.in1 it [it, a] its.toArray.size (fun i v => its.toArray[i]? = some v) (fun i h => h.IsTupleIter it a i ∧ h.IsTuple a its.toArray) := Draws.tuple (show X.A.in1.handled = none from I.ok.hd hc) it a hai its.toArray
    refine wpAny_pyNext_enum_itemD D he ⟨hit, p⟩ hlt hne (by simp only [List.mem_cons, List.not_mem_nil, or_false, not_or]; exact ⟨hne, fun z => hae z.symm⟩) fun v h' tk hP ho hs' hT hsz hk => ?_
    obtain rfl : u = v := by
      have z : its.toArray[i]? = some u := by simpa using hu
      rw [z] at hP
      exact Option.some.inj hP
    refine ⟨_, rfl, wpAny_letOwnedTupleGo_enum (s := { s with heap := h', toks := tk + 1 }) ho fun h'' he' sb => ?_⟩
    have hT2 : h''.get? s.heap.objs.size = some { cls := .type "tuple", data := .seq #[.int i tk, u] } := (sb.2 _ (Nat.ne_of_gt hel)).trans hT
    have new : ObjOk X.prog X.w (upd H s.heap.objs.size (.tup [.int (i : Nat), x])) h'' s.heap.objs.size (.tup [.int (i : Nat), x]) :=
      ⟨by show 2 ≤ sizeLine; decide, [.int i tk, u], .cons ⟨_, rfl⟩ (.cons ru .nil), ⟨_, hT2, rfl, _, rfl⟩⟩
    have I1 : Inv X pins σ (upd H s.heap.objs.size (.tup [.int (i : Nat), x])) { s with heap := h'', toks := tk + 1 } :=
      I.turnedNew (ch := [e, it]) (fun b ob hb q => (sb.2 b (fun z => hb (by simp [z]))).trans (hk b ob (fun z => hb (by simp [z])) (fun z => hb (by simp [z])) q)) hf (Nat.le_refl _) new
    refine ⟨.ref s.heap.objs.size, _, I1, rfl, ⟨_, x, rfl, I.hok.fresh (Nat.le_refl _), rfl, fun ys hy => by rw [I.tuple_inj hy hq]; exact hx⟩, ⟨⟨u, ?_⟩, hs'.1.at fun o q => (sb.2 it (Ne.symm hne)).trans q, hne, hai, hae⟩, fun b hb => ?_⟩
    · have e1 : ((i + 1 : Nat) : Int) = (i : Int) + 1 := by omega
      rw [e1]; exact he'
    · have hb' : b < s.heap.objs.size := by
        have e' : b = e ∨ b = it := by simpa using hb
        rcases e' with z | z
        · rw [z]; exact hel
        · rw [z]; exact hil
      rw [upd_ne (Nat.ne_of_lt hb')]
      exact (hf b hb).1
  done := by
    intro X hP hw hK hc i pins s σ H E I hf st hg
    subst hP hw hK
    obtain ⟨⟨old, he⟩, hit, hne, hai, hae⟩ := st
    obtain ⟨xs, hq, hx⟩ := hg
    obtain ⟨its, rv, p, hz⟩ := I.tuple hq
    obtain ⟨f0, f1, f2, f3, f4, f5⟩ := hf it (by simp)
    have hl := rv.length
    have hi : i = its.toArray.size := by rw [List.size_toArray]; omega
    subst hi
    have D : Draws X.prog X.w X.A.in1 it [it, a] its.toArray.size (fun i v => its.toArray[i]? = some v) (fun i h => h.IsTupleIter it a i ∧ h.IsTuple a its.toArray) := Draws.tuple (show X.A.in1.handled = none from I.ok.hd hc) it a hai its.toArray
    exact wpAny_pyNext_enum_endD D he ⟨hit, p⟩ fun h' eb => ⟨rfl, I.turned (t' := s.toks) (fun b o hb q => eb b o hb q) f0 f1 f3 f4 f5⟩
  self := fun A i s Q E st h => let ⟨⟨_, he⟩, _⟩ := st; wpAny_pyIter_enum he h
/-- enumerate of a list or a tuple -/
def iEnumA (K : PySem.W.Frag) (ta : TA) : TI := fun σ H R => ta σ H fun vs H1 => ∃ a xs, vs = [.ref a] ∧ ((SqL K H1 a xs ∧ R (Ite K a) H1) ∨ (SqT K H1 a xs ∧ R (IteT K a) H1))
theorem pi_enumA {X : Cx} {e : Expr} {ta : TA} {p pos tpos : Pos} {elts : List Expr} {kk : Nat} (hg : Gl X "enumerate") (hm : X.mg "enumerate" = none) (ha : PA X [e] ta) (hs : starEach [e] X.env = [(false, eval e X.env)] := by rfl) :
    PI X (.Tuple elts kk tpos) (.Call (.Name "enumerate" p) [e] [] pos) (iEnumA X.K ta) := by
  refine ⟨fun pins s σ H R I h => ?_⟩
  refine Call_ (ld_blt I hg hm boot_enumerate (PyProof.Rows.callWith_type1 (thn (ha.run pos pins s σ H _ I h) fun us s1 ⟨vs, H1, I1, r1, q1⟩ => ?_) hs rfl))
  obtain ⟨a, xs, ex, q1⟩ := q1
  subst ex
  cases r1 with
  | cons r rr =>
    cases rr
    cases r
    have fresh2 : ∀ b, b ∈ [s1.heap.objs.size + 1, s1.heap.objs.size] → FpOk X pins H1 b := fun b hb => by
      have e' : b = s1.heap.objs.size + 1 ∨ b = s1.heap.objs.size := by simpa using hb
      have hle : s1.heap.objs.size ≤ b := by
        rcases e' with z | z
        · rw [z]; exact Nat.le_add_right _ _
        · rw [z]; exact Nat.le_refl _
      exact I1.fpOk hle (I1.hok.fresh hle)
    rcases q1 with ⟨hq, q⟩ | ⟨hq, q⟩
    · obtain ⟨its, rv, p', hz⟩ := I1.list hq
      refine call_enumerate_list p'.isList fun h' he hit hsz hk => wpAny_pyIter_enum he ?_
      have I2 : Inv X pins σ H1 { s1 with heap := h' } := I1.kept (t' := s1.toks) hk
      exact ⟨s1.heap.objs.size + 1, [s1.heap.objs.size + 1, s1.heap.objs.size], _, _, H1, rfl, I2, turn_enum a (s1.heap.objs.size + 1) s1.heap.objs.size, ⟨⟨.none, he⟩, hit, Nat.succ_ne_self _⟩, fresh2, q⟩
    · obtain ⟨its, rv, p', hz⟩ := I1.tuple hq
      obtain ⟨o1, ho1, _⟩ := id p'
      have hlt : a < s1.heap.objs.size := Heap.lt_size ho1
      refine my_call_enumT (show s1.heap.IsTuple a its.toArray from p') fun h' he hit hsz hk => wpAny_pyIter_enum he ?_
      have I2 : Inv X pins σ H1 { s1 with heap := h' } := I1.kept (t' := s1.toks) hk
      exact ⟨s1.heap.objs.size + 1, [s1.heap.objs.size + 1, s1.heap.objs.size], _, _, H1, rfl, I2, turn_enumT a (s1.heap.objs.size + 1) s1.heap.objs.size, ⟨⟨.none, he⟩, hit, Nat.succ_ne_self _, Nat.ne_of_lt hlt, Nat.ne_of_lt (Nat.lt_succ_of_lt hlt)⟩, fresh2, q⟩
theorem walk_enumT {K : PySem.W.Frag} {a : Addr} {xs : List V} : Walk (IteT K a) xs.length (fun H => SqT K H a xs) (YPair (fun i => some (.int (i : Nat))) (fun i => xs[i]?)) := by
  refine ⟨fun i _ hi q => ⟨xs, xs[i], q, by simp [hi]⟩, fun _ q => ⟨xs, q, rfl⟩, fun i H v H' _ q y => ?_⟩
  obtain ⟨T, x, h1, h2, h3, h4⟩ := y
  exact ⟨T, .int (i : Nat), x, h1, h2, h3, rfl, h4 xs q⟩
/-! ### a call by keywords alone -/
section
variable {X : Cx} {CX : CXT} {k n : Nat} {f : Addr} {fd : FuncData} {ps ks : List Str} {sp : Sp} {x : Str} {g : List Value → List Value → List Value} {gV : List V → List V → List V} {E : XK} {tk : TA} {kws : List Keyword} {p pos : Pos}
theorem pe_callN0 (F : FnOk X.prog X.w X.K X.mg X.base CX k f fd ps sp) (hr : Room k X.A) (hg : Gl X x) (hm : X.mg x = some (.ref f)) (hk : PySem.W.keepIn X.K (.ref f) = true) (hb : KBn X.K fd ps 0 ks g gV) (hx : Passes CX X E)
    (hkw : PK X kws tk) (hall : (backToKw pos (keywordEach kws X.env)).all (·.1.isSome) = true := by rfl) (hks : (backToKw pos (keywordEach kws X.env)).filterMap (·.1) = ks := by rfl)
    (hdb : (x == ("__debug__" : Str)) = false := by decide)
    (hpl : ((backTo pos (starEach [] X.env)).any (·.1) || (backToKw pos (keywordEach kws X.env)).any (·.1.isNone)) = false := by rfl) :
    PE X (.Call (.Name x p) [] kws pos) (tCallN 0 ks.length sp gV E tNil tk) := by
  refine ⟨fun pins s σ H Q I h => ?_⟩
  refine wpAny_Call_Name_kw (ld_glob I hg hm ?_ hdb)
  refine PySem.W.callWith_KW0 (h₀ := X.base) I.ok.mod.kin hk hall ?_ hpl
  refine thn (hkw.run pos pins s σ H _ I h) fun ws s2 ⟨zs, H2, I2, rz, l1, l2, q2⟩ => ⟨I2.kIn, ?_⟩
  rw [hks]
  exact run_fnN (us := []) (vs := []) F hr hb hx I2 .nil rz rfl l2 q2
end
end L2

set_option Elab.async false
set_option linter.all false
set_option maxRecDepth 100000
set_option maxHeartbeats 4000000
/-! my own rule: zip of two rows, each a list or a tuple (kind true: a tuple) -/
namespace L2
open PySem PySem.Spec PyProof.Rows
def SqX (K : PySem.W.Frag) (H : Hp) : Bool → Addr → List V → Prop
  | true, a, xs => SqT K H a xs
  | false, a, xs => SqL K H a xs
def ItX (h : Heap) : Bool → Addr → Addr → Nat → Prop
  | true, it, a, i => h.IsTupleIter it a i
  | false, it, a, i => h.IsListIter it a i
def SeX (h : Heap) : Bool → Addr → Array Value → Prop
  | true, a, its => h.IsTuple a its
  | false, a, its => h.IsList a its
theorem drawX {prog : Program} {w : World} {A : Around} (k : Bool) (hh : A.handled = none) (it a : Addr) (hne : a ≠ it) (its : Array Value) :
    Draws prog w A it [it, a] its.size (fun i v => its[i]? = some v) (fun i h => ItX h k it a i ∧ SeX h k a its) := by
  cases k with
  | true => exact Draws.tuple hh it a hne its
  | false => exact Draws.list hh it a hne its
theorem ItX.at {h h' : Heap} {k : Bool} {it a : Addr} {i : Nat} (x : ItX h k it a i) (e : ∀ o, h.get? it = some o → h'.get? it = some o) : ItX h' k it a i := by
  cases k with
  | true => exact Heap.IsTupleIter.at x e
  | false => exact Heap.IsListIter.at x e
theorem ItX.obj {h : Heap} {k : Bool} {it a : Addr} {i : Nat} (x : ItX h k it a i) : ∃ o, h.get? it = some o ∧ ∀ v, o.data ≠ .cell v := by
  cases k with
  | true =>
    obtain ⟨o, e, _, d⟩ := x
    exact ⟨o, e, fun v q => by rw [d] at q; cases q⟩
  | false =>
    obtain ⟨o, e, _, d⟩ := x
    exact ⟨o, e, fun v q => by rw [d] at q; cases q⟩
section
variable {X : Cx} {pins : List (Addr × Obj)} {σ : St} {H : Hp} {s : Shared} {k : Bool} {a : Addr} {xs ys : List V}
theorem sqx_get (I : Inv X pins σ H s) (h : SqX X.K H k a xs) : ∃ its : List Value, Vals xs its ∧ SeX s.heap k a its.toArray ∧ a < s.heap.objs.size := by
  cases k with
  | true =>
    obtain ⟨its, rv, p, _⟩ := I.tuple h
    obtain ⟨o, ho, _⟩ := id p
    exact ⟨its, rv, p, Heap.lt_size ho⟩
  | false =>
    obtain ⟨its, rv, p, _⟩ := I.list h
    exact ⟨its, rv, p.isList, p.lt⟩
theorem sqx_inj (I : Inv X pins σ H s) (h : SqX X.K H k a xs) (g : SqX X.K H k a ys) : xs = ys := by
  cases k with
  | true => exact I.tuple_inj h g
  | false => exact I.list_inj h g
end
theorem beginsX (k : Bool) (a : Addr) (its : Array Value) : ∃ o, Begins (.ref a) o (fun h => SeX h k a its) ∧ ∀ (h : Heap) (it : Addr), h.get? it = some o → ItX h k it a 0 := by
  cases k with
  | true => exact ⟨_, begins_tuple a its, fun h it e => ⟨_, e, rfl, rfl⟩⟩
  | false => exact ⟨_, begins_list a its, fun h it e => ⟨_, e, rfl, rfl⟩⟩
/-- two rows as they stand at each turn, the items in new pairs -/
def ItzG (K : PySem.W.Frag) (k1 k2 : Bool) (a b : Addr) : It :=
  ⟨fun i H => ∃ (xs ys : List V) (x y : V), SqX K H k1 a xs ∧ SqX K H k2 b ys ∧ xs[i]? = some x ∧ ys[i]? = some y,
    fun i H v H' => ∃ T x y, v = .ref T ∧ H T = none ∧ H' = upd H T (.tup [x, y]) ∧ (∀ xs, SqX K H k1 a xs → xs[i]? = some x) ∧ ∀ ys, SqX K H k2 b ys → ys[i]? = some y,
    fun i H => ∃ xs ys : List V, SqX K H k1 a xs ∧ SqX K H k2 b ys ∧ min xs.length ys.length = i⟩
theorem turn_zipG {P : Program} {w : World} {K : PySem.W.Frag} {elts : List Expr} {kk : Nat} {tpos : Pos} {k1 k2 : Bool} {a b z TI TO i1 i2 : Addr} (S : ZipSep2 z TI TO i1 i2 [i1, a] [i2, b]) (hi : i1 ≠ i2) (ha : a ≠ i1) (hb : b ≠ i2) :
    Turn P w K (.Tuple elts kk tpos) (ItzG K k1 k2 a b) [z, TI, TO, i1, i2] z (fun i h => IsZip h z TI TO .none ∧ IsTupOf2 h TI (.ref i1) (.ref i2) ∧ (∃ x y, IsTupOf2 h TO x y) ∧ ItX h k1 i1 a i ∧ ItX h k2 i2 b i) where
  mem := by simp
  obj := fun i h st c hc => by
    obtain ⟨q1, q2, ⟨x, y, q3⟩, q4, q5⟩ := st
    simp only [List.mem_cons, List.not_mem_nil, or_false] at hc
    rcases hc with rfl | rfl | rfl | rfl | rfl
    · exact ⟨_, q1, fun v q => nomatch q⟩
    · exact ⟨_, q2, fun v q => nomatch q⟩
    · exact ⟨_, q3, fun v q => nomatch q⟩
    · exact q4.obj
    · exact q5.obj
  keep := fun i h h' st kp => by
    obtain ⟨q1, q2, ⟨x, y, q3⟩, q4, q5⟩ := st
    exact ⟨kp z (by simp) _ q1, kp TI (by simp) _ q2, ⟨x, y, kp TO (by simp) _ q3⟩, q4.at fun o q => kp i1 (by simp) o q, q5.at fun o q => kp i2 (by simp) o q⟩
  item := by
    intro X hP hw hK hc i pins s σ H E I hf st hg
    subst hP hw hK
    obtain ⟨q1, q2, ⟨x0, y0, q3⟩, q4, q5⟩ := st
    obtain ⟨xs, ys, x, y, hqx, hqy, hx, hy⟩ := hg
    obtain ⟨its, rv, pa, la⟩ := sqx_get I hqx
    obtain ⟨jts, rw', pb, lb⟩ := sqx_get I hqy
    obtain ⟨u, hu, ru⟩ := rv.get hx
    obtain ⟨v, hv, rv'⟩ := rw'.get hy
    have lz : z < s.heap.objs.size := Heap.lt_size q1
    have n1 : i < its.toArray.size := by
      rw [List.size_toArray]
      exact (List.getElem?_eq_some_iff.mp hu).1
    have n2 : i < jts.toArray.size := by
      rw [List.size_toArray]
      exact (List.getElem?_eq_some_iff.mp hv).1
    have hh : X.A.in1.handled = none := I.ok.hd hc
    refine wpAny_pyNext_zipD2_item S (drawX k1 hh i1 a ha its.toArray) (drawX k2 hh i2 b hb jts.toArray) q1 q2 q3 ⟨q4, pa⟩ ⟨q5, pb⟩ n1 n2 fun u' v' h' tk hu' hv' z1 t1 d1 d2 hT hsz hk => ?_
    obtain rfl : u = u' := by
      have e : its.toArray[i]? = some u := by simpa using hu
      exact Option.some.inj (e.symm.trans hu')
    obtain rfl : v = v' := by
      have e : jts.toArray[i]? = some v := by simpa using hv
      exact Option.some.inj (e.symm.trans hv')
    refine ⟨_, rfl, wpAny_letOwnedTupleGo_zip (s := { s with heap := h', toks := tk }) z1 fun h'' z2 sb => ?_⟩
    have up : ∀ c o, c ≠ z → h'.get? c = some o → h''.get? c = some o := fun c o hc' e => (sb.2 c hc').trans e
    have tupN : h''.get? s.heap.objs.size = some { cls := .type "tuple", data := .seq #[u, v] } := up _ _ (Nat.ne_of_gt lz) hT
    have fresh : ObjOk X.prog X.w (upd H s.heap.objs.size (.tup [x, y])) h'' s.heap.objs.size (.tup [x, y]) :=
      ⟨by show 2 ≤ sizeLine; decide, [u, v], .cons ru (.cons rv' .nil), ⟨_, tupN, rfl, _, rfl⟩⟩
    have J : Inv X pins σ (upd H s.heap.objs.size (.tup [x, y])) { s with heap := h'', toks := tk } :=
      I.turnedNew (t' := tk) (ch := [z, TI, TO, i1, i2]) (fun c o hb' e => up c o (fun q => hb' (by simp [q])) (hk c o (fun q => hb' (by simp [q])) (fun q => hb' (by simp [q])) (fun q => hb' (by simp [q])) (fun q => hb' (by simp [q])) e)) hf (Nat.le_refl _) fresh
    refine ⟨.ref s.heap.objs.size, _, J, rfl, ⟨_, x, y, rfl, I.hok.fresh (Nat.le_refl _), rfl, fun l hl => by rw [sqx_inj I hl hqx]; exact hx, fun l hl => by rw [sqx_inj I hl hqy]; exact hy⟩, ⟨z2, ?_, ⟨u, v, ?_⟩, ?_, ?_⟩, fun c hcm => ?_⟩
    · exact up _ _ S.TIz (hk _ _ S.TIz S.TITO S.TIi1 S.TIi2 q2)
    · exact up _ _ S.TOz t1
    · exact d1.1.at fun o e => up _ o (Ne.symm S.zi1) e
    · exact d2.1.at fun o e => up _ o (Ne.symm S.zi2) e
    · have lc : c < s.heap.objs.size := by
        simp only [List.mem_cons, List.not_mem_nil, or_false] at hcm
        rcases hcm with rfl | rfl | rfl | rfl | rfl
        · exact lz
        · exact Heap.lt_size q2
        · exact Heap.lt_size q3
        · obtain ⟨o, e, _⟩ := q4.obj
          exact Heap.lt_size e
        · obtain ⟨o, e, _⟩ := q5.obj
          exact Heap.lt_size e
      rw [upd_ne (Nat.ne_of_lt lc)]
      exact (hf c hcm).1
  done := by
    intro X hP hw hK hc i pins s σ H E I hf st hg
    subst hP hw hK
    obtain ⟨q1, q2, ⟨x0, y0, q3⟩, q4, q5⟩ := st
    obtain ⟨xs, ys, hqx, hqy, hend⟩ := hg
    obtain ⟨its, rv, pa, _⟩ := sqx_get I hqx
    obtain ⟨jts, rw', pb, _⟩ := sqx_get I hqy
    have l1 := rv.length
    have l2 := rw'.length
    have hh : X.A.in1.handled = none := I.ok.hd hc
    exact wpAny_pyNext_zipD2_end (i := i) S (drawX k1 hh i1 a ha its.toArray) (drawX k2 hh i2 b hb jts.toArray) q1 q2 q3 ⟨q4, pa⟩ ⟨q5, pb⟩ (by rw [List.size_toArray]; omega) (by rw [List.size_toArray]; omega) (by rw [List.size_toArray, List.size_toArray]; omega)
      fun h' tk hk => ⟨rfl, I.turnedL (t' := tk) (ch := [z, TI, TO, i1, i2]) (fun c o hb' e => hk c o (fun q => hb' (by simp [q])) (fun q => hb' (by simp [q])) (fun q => hb' (by simp [q])) (fun q => hb' (by simp [q])) e) hf⟩
  self := fun A i s Q E st h => wpAny_pyIter_zip st.1 h
def iZipG (K : PySem.W.Frag) (ta : TA) : TI := fun σ H R => ta σ H fun vs H1 => ∃ (k1 k2 : Bool) (a b : Addr) (xs ys : List V), vs = [.ref a, .ref b] ∧ SqX K H1 k1 a xs ∧ SqX K H1 k2 b ys ∧ R (ItzG K k1 k2 a b) H1
theorem pi_zipG {X : Cx} {e e2 : Expr} {ta : TA} {p pos tpos : Pos} {elts : List Expr} {kk : Nat} (hg : Gl X "zip") (hm : X.mg "zip" = none) (ha : PA X [e, e2] ta)
    (hs : starEach [e, e2] X.env = (false, eval e X.env) :: starEach [e2] X.env := by rfl) (hpl : (backTo pos (starEach [e2] X.env)).any (·.1) = false := by rfl) :
    PI X (.Tuple elts kk tpos) (.Call (.Name "zip" p) [e, e2] [] pos) (iZipG X.K ta) := by
  refine ⟨fun pins s σ H R I h => ?_⟩
  refine Call_ (ld_blt I hg hm PyProof.Rows.boot_zip (PyProof.Rows.callWith_type1 (thn (ha.run pos pins s σ H _ I h) fun us s1 ⟨vs, H1, I1, r1, q1⟩ => ?_) hs hpl))
  obtain ⟨k1, k2, a, b, xs, ys, ex, hqx, hqy, q⟩ := q1
  subst ex
  obtain ⟨u1, u2, rfl, ra, rb⟩ := vals2 r1
  cases (show u1 = Value.ref a from ra)
  cases (show u2 = Value.ref b from rb)
  obtain ⟨its, rv, pa, la⟩ := sqx_get I1 hqx
  obtain ⟨jts, rw', pb, lb⟩ := sqx_get I1 hqy
  obtain ⟨o1, B1, i1⟩ := beginsX k1 a its.toArray
  obtain ⟨o2, B2, i2⟩ := beginsX k2 b jts.toArray
  refine zip_begins2 B1 B2 pa pb fun h' hz hTI hTO h1 h2 hsz hk => wpAny_pyIter_zip hz ?_
  have J : Inv X pins σ H1 { s1 with heap := h' } := I1.kept (t' := s1.toks) hk
  have sep := zip_sep2 (N := s1.heap.objs.size) (fp1 := [a]) (fp2 := [b]) (fun c hc => by rw [List.mem_singleton.mp hc]; exact la) (fun c hc => by rw [List.mem_singleton.mp hc]; exact lb)
  refine ⟨s1.heap.objs.size + 4, [s1.heap.objs.size + 4, s1.heap.objs.size + 2, s1.heap.objs.size + 3, s1.heap.objs.size, s1.heap.objs.size + 1], _, _, H1, rfl, J, turn_zipG sep (Nat.ne_of_lt (Nat.lt_succ_self _)) (Nat.ne_of_lt la) (Nat.ne_of_lt (Nat.lt_succ_of_lt lb)), ⟨hz, hTI, ⟨_, _, hTO⟩, i1 _ _ h1, i2 _ _ h2⟩, fun c hcm => ?_, q⟩
  have hle : s1.heap.objs.size ≤ c := by
    simp only [List.mem_cons, List.not_mem_nil, or_false] at hcm
    rcases hcm with rfl | rfl | rfl | rfl | rfl
    · exact Nat.le_add_right _ _
    · exact Nat.le_add_right _ _
    · exact Nat.le_add_right _ _
    · exact Nat.le_refl _
    · exact Nat.le_add_right _ _
  exact I1.fpOk hle (I1.hok.fresh hle)
theorem walk_zipG {K : PySem.W.Frag} {k1 k2 : Bool} {a b : Addr} {xs ys : List V} {n : Nat} (hn : n = min xs.length ys.length) : Walk (ItzG K k1 k2 a b) n (fun H => SqX K H k1 a xs ∧ SqX K H k2 b ys) (YPair (fun i => xs[i]?) (fun i => ys[i]?)) := by
  subst hn
  refine ⟨fun i _ hi q => ?_, fun _ q => ⟨xs, ys, q.1, q.2, rfl⟩, fun i H v H' _ q y => ?_⟩
  · have h1 : i < xs.length := by omega
    have h2 : i < ys.length := by omega
    exact ⟨xs, ys, xs[i], ys[i], q.1, q.2, by simp [h1], by simp [h2]⟩
  · obtain ⟨T, x, z, h1, h2, h3, h4, h5⟩ := y
    exact ⟨T, x, z, h1, h2, h3, h4 xs q.1, h5 ys q.2⟩
end L2

set_option Elab.async false
set_option linter.all false
set_option maxRecDepth 100000
set_option maxHeartbeats 4000000
/-! my own rules: exceptions of own classes over any built-in class, made and kept as values: by place, by keywords; their fields; isinstance of them -/
namespace PySem
namespace MyX
open PySem.W PySem.Calls PyProof.Rows PySem.HandSPX Builtin Builtin.ObjectAttr
theorem pass_Index (self : Value) : refuseLoop self "__setattr__" [.type "IndexError", .type "LookupError", .type "Exception", .type "BaseException", .type "object"] = pure () := by kernel_rfl
theorem pass_Lookup (self : Value) : refuseLoop self "__setattr__" [.type "LookupError", .type "Exception", .type "BaseException", .type "object"] = pure () := by kernel_rfl
theorem pass_Runtime (self : Value) : refuseLoop self "__setattr__" [.type "RuntimeError", .type "Exception", .type "BaseException", .type "object"] = pure () := by kernel_rfl
theorem pass_Value (self : Value) : refuseLoop self "__setattr__" [.type "ValueError", .type "Exception", .type "BaseException", .type "object"] = pure () := F.store_ValueError.passes self
section
variable {M : Model} {A : Around} {E : Value → Shared → Prop} {h : Heap} {g : Array GenState} {d : Drawn} {t : Nat} {os : OsState}
variable {nm q : Str} {C N : Addr} {bs bm : List Value} {hdct : Bool} {sn : List Str} {sub : List Value} {ab : Bool} {col : Option Bool} {dd : Option Addr} {k0 k1 k2 k3 k5 : Option Value} {B newId initId : String}
/-- C.__new__(..) with keywords is let through -/
theorem check_newK (F : ExcBaseFacts B newId initId bm) {rest : List Value} {kw : List (Str × Value)} {Q : Unit → Shared → Prop}
    (hC : h.get? C = some (excClassObj nm q C N bs bm hdct sn sub ab col dd k0 k1 k2 k3 k5 newId)) (hq : Q () ⟨h, g, d, t, os⟩) : wpAny M A (checkBuiltinCall newId ⟨.ref C :: rest, kw⟩) Q E ⟨h, g, d, t, os⟩ := by
  have under : (Value.ref C :: bm).contains (.type B) = true := by rw [List.contains_cons, F.hasB, Bool.or_true]
  have star := F.noStar
  simp only [checkBuiltinCall, F.newKind, F.newSplit, F.newRow]
  repeat (first | refine wpAny_loadPart_at hC ?_ | (refine wpAny_isSubtype_exc hC ?_; rw [under]) | refine wpAny_staticBase_exc hC ?_ | refine wpAny_madeBy_exc hC ?_ | simp only [bne_self_eq_false, Bool.false_eq_true, if_false] | wp_step)
  exact hq
end
section
variable {prog : Program} {w : World} {A : Around} {E : Value → Shared → Prop} {R : Result → Shared → Prop} {h : Heap} {g : Array GenState} {d : Drawn} {t : Nat} {os : OsState}
variable {nm q : Str} {C N : Addr} {bs bm : List Value} {hdct : Bool} {sn : List Str} {sub : List Value} {ab : Bool} {col : Option Bool} {dd : Option Addr} {k0 k1 k2 k3 k5 : Option Value} {B newId initId : String}
theorem newK (F : ExcBaseFacts B newId initId bm) {rest : List Value} {kw : List (Str × Value)}
    (hC : h.get? C = some (excClassObj nm q C N bs bm hdct sn sub ab col dd k0 k1 k2 k3 k5 newId))
    (hq : R (.ok (.ret (.ref (h.objs.size + 1)))) ⟨(h.push { cls := .type "tuple", data := .seq rest.toArray }).push
      { cls := .ref C, data := .fields #[.ref h.objs.size, .none, .none, .none, .bool false, .none] }, g, d, t, os⟩) (hrest : rest.length ≤ sizeLine) :
    codeAny (model prog w) A (.builtin newId ⟨.ref C :: rest, kw⟩) R ⟨h, g, d, t, os⟩ := by
  have ends := F.ends
  have inB : (Value.ref C :: bm).contains (.type B) = true := by rw [List.contains_cons, F.hasB, Bool.or_true]
  have inA : (Value.ref C :: bm).contains (.type "AttributeError") = false := by rw [List.contains_cons, F.noAttr]; rfl
  have inN : (Value.ref C :: bm).contains (.type "NameError") = false := by rw [List.contains_cons, F.noName]; rfl
  refine codeAny_builtinAt F.entry ?_
  unfold Builtin.«BaseException.__new__»
  refine wpAt_bind ?_
  show wpAt _ _ _ (stack >>= _) _ _ _
  refine wpAt_bind (wpAt_stack fun p below => wpAt_of_wpAny ?_)
  wp_walk
  refine wpAt_of_wpAny ?_
  rw [F.owner]
  repeat (first | with_reducible refine wpAny_madeHere_exc F.canon hC ?_ | with_reducible refine wpAny_loadPart_at hC ?_ | (with_reducible refine wpAny_isSubtype_exc hC ?_; first | rw [inB] | rw [inA] | rw [inN]) | wp_step)
  show R _ _
  rw [Heap.size_push]
  exact hq
theorem type_callK (F : ExcBaseFacts B newId initId bm) {rest : List Value} {kw : List (Str × Value)} {fI : Addr} {Q : Fin → Shared → Prop}
    (hC : h.get? C = some (excClassObj nm q C N bs bm hdct sn sub ab col dd k0 k1 k2 k3 k5 newId))
    (hi : W.Looks (model prog w) h (typeLookup (.ref C) "__init__") (some (.ref fI))) (hb : ∀ self, W.Looks (model prog w) h (bindSpecial (.ref fI) self) (.ref fI, [self])) (hrest : rest.length ≤ sizeLine)
    (hq : codeAny (model prog w) A (.call (.ref fI) ⟨.ref (h.objs.size + 1) :: rest, kw⟩)
      (fun r s' => match r with | .ok (.ret v) => v = .none ∧ Q (.done (.ret (.ref (h.objs.size + 1)))) s' | .ok _ => False | .error e => E e s')
      ⟨(h.push (W.kdv_tup rest)).push (excO C h.objs.size), g, d, t, os⟩) :
    wpAny (model prog w) A (Builtin.«type.__call__» ⟨.ref C :: rest, kw⟩) Q E ⟨h, g, d, t, os⟩ := by
  repeat (first | with_reducible refine wpAny_loadPart_at hC ?_ | with_reducible refine wpAny_madeBy_exc hC ?_ | wp_step)
  refine codeAny_call_builtin_code (Code.quiet_builtin _ F.quiet) (check_newK F hC ?_)
  refine newK F hC ?_ hrest
  show wpAny _ _ _ _ _ _
  have kept : ∀ b o, h.get? b = some o → ((h.push (W.kdv_tup rest)).push (excO C h.objs.size)).get? b = some o := fun b o e => Heap.get?_push_of_some _ (Heap.get?_push_of_some _ e)
  have hC₁ := kept _ _ hC
  have made : ((h.push (W.kdv_tup rest)).push (excO C h.objs.size)).get? (h.objs.size + 1) = some (excO C h.objs.size) := by heap_get
  have self_ : (Value.ref C :: bm).contains (.ref C) = true := by simp
  have i1 := hi.keeps kept
  have b1 := (hb (.ref (h.objs.size + 1))).keeps kept
  unfold isInstance
  repeat (first | with_reducible refine wpAny_loadPart_at made ?_ | (with_reducible refine wpAny_isSubtype_exc hC₁ ?_; rw [self_]) | wp_step)
  show wpAny _ _ (typeLookup (.ref C) _) _ _ _
  refine i1.at ?_
  refine wpAny_holding (wpAny_bind (b1.at ?_))
  refine wpAny_bind (wpAny_call (codeAny_mono hq fun r s' z => ?_))
  rcases r with e | (v | _ | _ | _) <;> first | exact z | exact z.elim | skip
  obtain ⟨rfl, z⟩ := z
  first
    | exact wpAny_pure (wpAny_pure z)
    | (wp_walk; exact z)
/-- C(.., k = v, ..) -/
theorem callK (F : ExcBaseFacts B newId initId bm) {rest : List Value} {kw : List (Str × Value)} {fI : Addr}
    (hC : h.get? C = some (excClassObj nm q C N bs bm hdct sn sub ab col dd k0 k1 k2 k3 k5 newId))
    (hi : W.Looks (model prog w) h (typeLookup (.ref C) "__init__") (some (.ref fI))) (hb : ∀ self, W.Looks (model prog w) h (bindSpecial (.ref fI) self) (.ref fI, [self])) (hrest : rest.length ≤ sizeLine)
    (hq : codeAny (model prog w) (A.under (.builtin "type.__call__" ⟨.ref C :: rest, kw⟩)) (.call (.ref fI) ⟨.ref (h.objs.size + 1) :: rest, kw⟩) (W.InitBack (h.objs.size + 1) R)
      ⟨(h.push (W.kdv_tup rest)).push (excO C h.objs.size), g, d, t, os⟩) :
    codeAny (model prog w) A (.call (.ref C) ⟨rest, kw⟩) R ⟨h, g, d, t, os⟩ := by
  have f1 := tc_lookup
  have f2 := tc_bind (.ref C)
  have isType : (⟨h, g, d, t, os⟩ : Shared).TypeIs (.ref C) "type" := ⟨_, hC, rfl⟩
  refine codeAny_of_tree ?_
  show wpAny _ _ (callAny (.ref C) _) _ _ _
  repeat (any_goals (first | assumption | with_reducible refine wpAny_loadPart_at hC ?_ | wp_step))
  refine ⟨rfl, ?_⟩
  refine codeAny_call_builtin_at (Code.quiet_builtin _ (by decide +kernel)) entry_typeCall (wpAny_check_type_call_sub hC (type_callK F hC hi hb hrest ?_))
  refine codeAny_mono hq fun r s' z => ?_
  rcases r with e | (v | _ | _ | _) <;> exact z
end
/-! ### self.f = v -/
section
variable {prog : Program} {w : World} {A : Around} {E : Value → Shared → Prop} {R : Result → Shared → Prop} {hp : Heap} {g : Array GenState} {d : Drawn} {t : Nat} {os : OsState}
theorem put_new {K : W.Frag} {name : Str} {tk : Tok} {v : Value} {x C : Addr} {fv : Array Value} {cd : ClassData}
    (X : K.In hp) (hx : hp.get? x = some { cls := .ref C, data := .fields fv }) (hcd : W.clsIn K C = some cd) (ne : cd.mro.isEmpty = false) (hob : cd.mro.contains (.type "object") = true) (hps : ∀ self, refuseLoop self "__setattr__" cd.mro = pure ())
    (hh : cd.hasDict = true) (ha : W.findIn K (.ref C) name = some none)
    (hq : ∀ h' tk' dx, (∀ b o, b ≠ x → hp.get? b = some o → h'.get? b = some o) → hp.objs.size ≤ dx → dx ≠ x → h'.get? x = some { cls := .ref C, dict := some dx, data := .fields fv } →
      h'.Ns1 dx (fun y => if y = name then some v else none) → R (.ok (.ret .none)) ⟨h', g, d, tk', os⟩) :
    codeAny (model prog w) A (.call (.builtin "object.__setattr__") ⟨[.ref x, .str name tk, v], []⟩) R ⟨hp, g, d, t, os⟩ := by
  have inst : W.InstAt hp x { cls := .ref C, data := .fields fv } C none := ⟨hx, rfl, rfl, trivial⟩
  have SF := F.store_object
  have apart : x ≠ hp.objs.size := Nat.ne_of_lt (Heap.lt_size hx)
  have under : W.Looks (model prog w) hp (isInstance (.ref x) (.type "object")) true := inst.type.andThen (W.looks_mroIn X (by unfold W.mroIn; rw [hcd, Option.bind_some, if_neg (by rw [ne]; decide), hob]))
  refine codeAny_call_builtin SF.slot.plain SF.entry (@W.check_slot (model prog w) _ _ ⟨hp, g, d, t, os⟩ "object.__setattr__" "object" "__setattr__" (.ref x) [.str name tk, v] [] _ SF.kind SF.split under (SF.args (.ref x) (.str name tk) v) ?_)
  have mros : W.Looks (model prog w) hp (mroOf (.ref C)) cd.mro := (W.looks_clsIn X hcd).andThen .now
  have takes : W.Looks (model prog w) hp (storeTaker? none) none := .now
  have datas : W.Looks (model prog w) hp (classData C) cd := W.looks_clsIn X hcd
  rw [W.osa_eq, refuse_eq]
  refine wpAny_bind (wpAny_bind (inst.type.at (wpAny_bind (mros.at ?_))))
  rw [hps]
  refine wpAny_pure (wpAny_bind (inst.type.at (wpAny_bind ((W.looks_findIn X ha).at (wpAny_bind (takes.at ?_))))))
  show wpAny _ _ (storeInOwnDict (.ref x) (.ref C) (.str name tk) name v false) _ _ _
  obtain ⟨nm, bs, mro, ns, qn, hd, sn, sb, ab, col, del⟩ := cd
  dsimp only at hh
  subst hh
  unfold storeInOwnDict ownDictForStores
  repeat (first | with_reducible refine store_in_new ?_ ?_ | with_reducible refine wpAny_loadPart_at hx ?_ | with_reducible refine datas.at ?_ | wp_step)
  · exact ⟨_, #[], _, (Heap.get?_update_ne _ _ _ _ apart.symm).trans (Heap.get?_push_at rfl rfl), rfl, fun e he => absurd he (by simp), fun _ => rfl⟩
  · intro h' tk' hn' hs
    have hx₁ : (hp.push { cls := .type "dict", data := .dict #[] }).get? x = some { cls := .ref C, data := .fields fv } := Heap.get?_push_of_some _ hx
    refine hq h' tk' hp.objs.size (fun b o hb ho => ?_) (Nat.le_refl _) apart.symm ?_ hn'
    · exact (hs.2 b (Nat.ne_of_lt (Heap.lt_size ho))).trans ((Heap.get?_update_ne _ _ _ _ hb).trans (Heap.get?_push_of_some _ ho))
    · exact (hs.2 x apart).trans (Heap.get?_update_self _ hx₁ rfl)
theorem put_old {K : W.Frag} {name : Str} {tk : Tok} {v : Value} {x C dx : Addr} {fv : Array Value} {cd : ClassData} {m0 : Str → Option Value} {nl : List Str}
    (X : K.In hp) (hx : hp.get? x = some { cls := .ref C, dict := some dx, data := .fields fv }) (hns : hp.Ns1 dx m0) (hw : Within m0 nl) (hz : nl.length ≤ 1000) (hcd : W.clsIn K C = some cd)
    (ne : cd.mro.isEmpty = false) (hob : cd.mro.contains (.type "object") = true) (hps : ∀ self, refuseLoop self "__setattr__" cd.mro = pure ()) (hh : cd.hasDict = true) (ha : W.findIn K (.ref C) name = some none)
    (hq : ∀ h' tk', (∀ b o, b ≠ dx → hp.get? b = some o → h'.get? b = some o) → h'.Ns1 dx (fun y => if y = name then some v else m0 y) → R (.ok (.ret .none)) ⟨h', g, d, tk', os⟩) :
    codeAny (model prog w) A (.call (.builtin "object.__setattr__") ⟨[.ref x, .str name tk, v], []⟩) R ⟨hp, g, d, t, os⟩ := by
  obtain ⟨oD, esD, epD, hoD, hdD, _⟩ := hns.count hw
  have inst : W.InstAt hp x { cls := .ref C, dict := some dx, data := .fields fv } C (some oD) := ⟨hx, rfl, rfl, hoD⟩
  have SF := F.store_object
  have under : W.Looks (model prog w) hp (isInstance (.ref x) (.type "object")) true := inst.type.andThen (W.looks_mroIn X (by unfold W.mroIn; rw [hcd, Option.bind_some, if_neg (by rw [ne]; decide), hob]))
  refine codeAny_call_builtin SF.slot.plain SF.entry (@W.check_slot (model prog w) _ _ ⟨hp, g, d, t, os⟩ "object.__setattr__" "object" "__setattr__" (.ref x) [.str name tk, v] [] _ SF.kind SF.split under (SF.args (.ref x) (.str name tk) v) ?_)
  have mros : W.Looks (model prog w) hp (mroOf (.ref C)) cd.mro := (W.looks_clsIn X hcd).andThen .now
  have takes : W.Looks (model prog w) hp (storeTaker? none) none := .now
  have datas : W.Looks (model prog w) hp (classData C) cd := W.looks_clsIn X hcd
  rw [W.osa_eq, refuse_eq]
  refine wpAny_bind (wpAny_bind (inst.type.at (wpAny_bind (mros.at ?_))))
  rw [hps]
  refine wpAny_pure (wpAny_bind (inst.type.at (wpAny_bind ((W.looks_findIn X ha).at (wpAny_bind (takes.at ?_))))))
  show wpAny _ _ (storeInOwnDict (.ref x) (.ref C) (.str name tk) name v false) _ _ _
  obtain ⟨nm, bs, mro, ns, qn, hd, sn, sb, ab, col, del⟩ := cd
  dsimp only at hh
  subst hh
  unfold storeInOwnDict ownDictForStores
  repeat (first | with_reducible refine OEX.store_in_old hns hw hz ?_ | with_reducible refine wpAny_loadPart_at hx ?_ | with_reducible refine datas.at ?_ | wp_step)
  intro h' tk' hn' hs
  exact hq h' tk' (fun b o hb ho => (hs.2 b hb).trans ho) hn'
end
end MyX
end PySem

set_option Elab.async false
set_option linter.all false
set_option maxRecDepth 100000
set_option maxHeartbeats 4000000
namespace PySem.W
open PySem PySem.Spec PySem.Calls PyProof.Rows
section
variable {prog : Program} {w : World} {A : Around} {E : Value → Shared → Prop} {s : Shared} {K : Frag} {x D : Addr} {ox : Obj} {od : Option Obj}
theorem my_findData {C : Addr} {name : Str} {a g : Value} (hc : (clsIn K C).isSome = true) (ha : findIn K (.ref C) name = some (some a)) (hg : specialIn K a "__get__" = some (some g)) (ht : takesIn K a = some true) : findObj K C od name = some (.bind g a) := by
  obtain ⟨cd, hc⟩ := Option.isSome_iff_exists.mp hc
  unfold findObj
  rw [hc, Option.bind_some, ha, Option.bind_some]
  simp [hg, ht]
/-- x.__class__ of an exception, with fields of its own or without -/
theorem my_class {Q : Option Value → Shared → Prop} (C : L2.ExcC K D) (X : K.In s.heap) (I : InstAt s.heap x ox D od) (h : Q (some (.ref D)) { s with toks := s.toks + 1 }) : wpAny (model prog w) A (getAttr? (.ref x) "__class__") Q E s := by
  have found : findObj K D od "__class__" = some (.bind (.builtin "getset_descriptor.__get__") (.builtin "object.__class__")) := my_findData (by obtain ⟨cd, hc, _⟩ := any_some C.hd; rw [hc]; rfl) C.ha C.hn C.ht
  obtain ⟨hp, g, d, t, os⟩ := s
  have l0 := I.type (M := model prog w)
  have l1 := looks_findIn (M := model prog w) X C.hg
  have l2 := looks_findIn (M := model prog w) X C.hk
  have l3 := looks_find (M := model prog w) X I found
  have under : Looks (model prog w) hp (isInstance (.ref x) (.type "BaseException")) true := l0.andThen (looks_subIn X C.hs)
  have z0 : (false && onTheHeap (Value.builtin "BaseException.__getattribute__")) = false := rfl
  have z2 : (Value.builtin "BaseException.__getattribute__" == Value.builtin "object.__getattribute__") = false := by decide +kernel
  have z1 : (onTheHeap (Value.ref D) && Value.builtin "BaseException.__getattribute__" == Value.builtin "object.__getattribute__") = false := by rw [z2]; rfl
  unfold getAttr? getAttrBy? getAttrBy
  refine wpAny_bind (wpAny_mkText (wpAny_bind (wpAny_attempt (wpAny_holding (wpAny_bind (l0.at (wpAny_bind (l1.at ?_))))))))
  show wpAny _ _ (if (onTheHeap (Value.ref D) && Value.builtin "BaseException.__getattribute__" == Value.builtin "object.__getattribute__") = true then _ else _) _ _ _
  rw [z1, if_neg Bool.false_ne_true]
  unfold getAttrByItsOwn hookBefore
  refine wpAny_bind ?_
  rw [if_pos (show onTheHeap (Value.ref D) = true from rfl)]
  refine l2.at ?_
  refine wpAny_bind (wpAny_attempt (wpAny_holding ?_))
  unfold callGetattribute
  rw [z0, if_neg Bool.false_ne_true]
  unfold boundAndCalled
  rw [PySem.F.excAttr_ValueError.ga.bind (.ref x)]
  refine wpAny_bind (wpAny_pure ?_)
  show wpAny _ _ (call (.builtin "BaseException.__getattribute__") [.ref x, .str "__class__" t]) _ _ _
  refine wpAny_call (codeAny_call_builtin PySem.F.excAttr_ValueError.ga.plain PySem.F.entry_bexc_ga ?_)
  refine @check_slot (model prog w) _ _ ⟨hp, g, d, t + 1, os⟩ "BaseException.__getattribute__" "BaseException" "__getattribute__" (.ref x) [.str "__class__" t] [] _ (by decide +kernel) (by decide +kernel) under (PySem.F.args_bexc_ga (.ref x) (.str "__class__" t)) ?_
  unfold Builtin.«object.__getattribute__»
  refine wpAny_bind (wpAny_of_eq (a := ((Value.ref x : Value), [Value.str "__class__" t])) (by first | rfl | (simp only [slotArgs]; rfl)) ?_)
  refine wpAny_bind (wpAny_pure (wpAny_bind (l0.at (wpAny_bind (l3.at ?_)))))
  show wpAny _ _ (holding [Value.builtin "object.__class__"] (call (.builtin "getset_descriptor.__get__") [.builtin "object.__class__", .ref x, .ref D]) >>= ret) _ _ _
  refine wpAny_bind (wpAny_holding (wpAny_call (class_get (s := ⟨hp, g, d, t + 1, os⟩) (ox := ox) (od := od) X I C.hm ?_)))
  refine wpAny_pure ?_
  show wpAny _ _ (handedOut (.ref D)) _ _ _
  rw [handedOut_of (v := .ref D) rfl]
  first
    | exact wpAny_pure (wpAny_pure h)
    | exact wpAny_pure h
    | exact wpAny_pure (wpAny_bind (wpAny_pure (wpAny_pure h)))
theorem my_kitx (C : L2.ExcC K D) : KitX K (.ref x) (.ref D) (fun h => InstAt h x ox D od) where
  ty := fun _ _ _ I => I.type
  it := fun _ _ X _ => by
    obtain ⟨cdD, hcD, _⟩ := any_some C.hd
    unfold clsIn at hcD
    split at hcD
    · rename_i c' d' cd' sl' ho
      intro A' Q' E' s' k q
      unfold isType loadHead
      exact wpAny_bind (wpAny_loadPart (k _ _ (X _ _ ho)) (wpAny_pure q))
    · cases hcD
  ne := fun h tp dd its n sl X htp => by
    obtain ⟨cdD, hcD, _⟩ := any_some C.hd
    refine Bool.eq_false_iff.mpr fun q => ?_
    have e : D = tp := Value.ref.inj (beq_iff_eq.mp q)
    subst e
    unfold clsIn at hcD
    split at hcD
    · rename_i c' d' cd' sl' ho
      cases (X _ _ ho).symm.trans htp
    · cases hcD
  ca := fun X I k => my_class C X I k
end
end PySem.W
namespace L2
open PySem PySem.Spec PyProof.Rows Builtin Builtin.ObjectAttr
/-- what the written part says of an own class over the built-in class B -/
structure OeC (K : PySem.W.Frag) (C : Addr) (B newId initId : String) (bm : List Value) : Prop where
  base : ExcBaseFacts B newId initId bm
  pass : ∀ self, refuseLoop self "__setattr__" bm = pure ()
  ob : bm.contains (.type "object") = true
  cls : ∃ nm q N bs sn sub ab col dd k0 k1 k2 k3 k5, K.lookup C = some (excClassObj nm q C N bs bm true sn sub ab col dd k0 k1 k2 k3 k5 newId)
  sa : PySem.W.findIn K (.ref C) "__setattr__" = some (some (.builtin "object.__setattr__"))
  is_ : ExcC K C
  ty : PySem.W.typeIn K (.ref C) = some (.type "type")
  kC : PySem.W.keepIn K (.ref C) = true
section
variable {X : Cx} {pins : List (Addr × Obj)} {σ : St} {H : Hp} {s : Shared} {a C dx : Addr} {f : Str} {y : V} {u : Value} {fs : List (Str × V)} {Q : Unit → Shared → Prop} {E : Value → Shared → Prop} {A : Around} {B newId initId : String} {bm : List Value}
theorem oe_new (T : OeC X.K C B newId initId bm) (I : Inv X pins σ H s) (e : H a = some (exo a C none)) (hno : PySem.W.findIn X.K (.ref C) f = some none) (ry : RelV y u)
    (h : ∀ dx s', H dx = none → dx ≠ a → Inv X pins σ (upd (upd H dx (exd dx [(f, y)])) a (exo a C (some dx))) s' → Q () s') : wpAny (model X.prog X.w) A (setAttr (.ref a) f u) Q E s := by
  obtain ⟨nm, q, N, bs, sn, sub, ab, col, dd, k0, k1, k2, k3, k5, hC⟩ := T.cls
  have data : PySem.W.clsIn X.K C = some { name := nm, bases := bs, mro := .ref C :: bm, ns := N, qualname := q, hasDict := true, slotNames := sn, subclasses := sub, abstract := ab, collection := col, hasDel := false } := by unfold PySem.W.clsIn; rw [hC] <;> rfl
  obtain ⟨t1, ho⟩ := exo_at I.hok e
  obtain ⟨hp, g, d, t, os⟩ := s
  refine PySem.W.set_plain I.kIn (ox := { cls := .ref C, dict := none, data := .fields #[.ref t1, .none, .none, .none, .bool false, .none] }) (od := none) ⟨ho, rfl, rfl, trivial⟩ T.sa ?_
  refine PySem.MyX.put_new I.kIn ho data rfl (by rw [List.contains_cons, T.ob, Bool.or_true]) (fun self => by rw [refuseLoop_ref]; exact T.pass self) rfl hno (fun h' tk' dx k dn dne hx hn => ?_)
  have free : H dx = none := I.hok.fresh dn
  have away : ∀ {b : Addr} {o : Obj}, hp.get? b = some o → b ≠ dx := fun {b o} z => Nat.ne_of_lt (Nat.lt_of_lt_of_le (Heap.lt_size z) dn)
  have other : ∀ {b : Addr}, H b = none → b ≠ a := fun {b} n z => by
    rw [z, e] at n
    cases n
  have un : Un X.fs [] H (upd (upd H dx (exd dx [(f, y)])) a (exo a C (some dx))) hp h' := {
    keep := fun b o z n _ _ => k b o (other n) z
    slot := fun b o z n _ _ => ⟨o.slots, k b o (other n) z⟩
    free := fun b o z n _ => by rw [upd_ne (other n), upd_ne (away z)]; exact n
    there := fun b o z _ => by
      by_cases hb : b = a
      · exact ⟨_, by rw [hb]; exact hx⟩
      · exact ⟨o, k b o hb z⟩
    tups := fun b xs z => by rw [upd_ne (at_ne e z exo_tup), upd_ne (ne_of_none z free)]; exact z
    frzs := fun b o v z => by rw [upd_ne (at_ne e z exo_frz), upd_ne (ne_of_none z free)]; exact z
    tbls := fun b ps z => ⟨#[], by rw [upd_ne (at_ne e z exo_tbl), upd_ne (ne_of_none z free), z]; simp⟩ }
  refine h dx _ free dne (I.un (t' := tk') un fun b o z => ?_)
  by_cases hb : b = a
  · subst hb
    rw [upd_same] at z
    cases z
    exact exo_ok hx
  · rw [upd_ne hb] at z
    by_cases hd : b = dx
    · subst hd
      rw [upd_same] at z
      cases z
      exact exd_ok hn (relO_put (fs := []) ry fun g => True.intro)
    · rw [upd_ne hd] at z
      exact (I.hok b o z).stay (fun c v hc r => k c v (by
          rcases hc with hc | hc
          · rw [hc]
            exact hb
          · exact at_ne e hc exo_own) r)
        (fun c hc => by rw [upd_ne (at_ne e hc exo_own), upd_ne (ne_of_none hc free)]; exact hc) (fun c xs hc => by rw [upd_ne (at_ne e hc exo_tup), upd_ne (ne_of_none hc free)]; exact hc)
theorem oe_old (T : OeC X.K C B newId initId bm) (I : Inv X pins σ H s) (e : H a = some (exo a C (some dx))) (ed : H dx = some (exd dx fs)) (hl : fs.length ≤ 900) (hno : PySem.W.findIn X.K (.ref C) f = some none) (ry : RelV y u)
    (h : ∀ s', Inv X pins σ (upd H dx (exd dx ((f, y) :: fs))) s' → Q () s') : wpAny (model X.prog X.w) A (setAttr (.ref a) f u) Q E s := by
  obtain ⟨nm, q, N, bs, sn, sub, ab, col, dd, k0, k1, k2, k3, k5, hC⟩ := T.cls
  have data : PySem.W.clsIn X.K C = some { name := nm, bases := bs, mro := .ref C :: bm, ns := N, qualname := q, hasDict := true, slotNames := sn, subclasses := sub, abstract := ab, collection := col, hasDel := false } := by unfold PySem.W.clsIn; rw [hC] <;> rfl
  obtain ⟨t1, ho⟩ := exo_at I.hok e
  obtain ⟨mA, hns, rel⟩ := exd_at I.hok ed
  have wi := within_of rel
  obtain ⟨hp, g, d, t, os⟩ := s
  obtain ⟨oD, _, _, hoD, _, _⟩ := hns.count wi
  refine PySem.W.set_plain I.kIn (ox := { cls := .ref C, dict := some dx, data := .fields #[.ref t1, .none, .none, .none, .bool false, .none] }) (od := some oD) ⟨ho, rfl, rfl, hoD⟩ T.sa ?_
  refine PySem.MyX.put_old I.kIn ho hns wi (by rw [List.length_map]; omega) data rfl (by rw [List.contains_cons, T.ob, Bool.or_true]) (fun self => by rw [refuseLoop_ref]; exact T.pass self) rfl hno (fun h' tk' k hn => ?_)
  have there : ∃ o, h'.get? dx = some o := by
    obtain ⟨o, _, _, z, _⟩ := hn
    exact ⟨o, z⟩
  exact h _ (I.write (t' := tk') (x := dx) (e := dx) (o := exd dx ((f, y) :: fs)) (by rw [ed]; exact True.intro) (.inl rfl) k there (exd_ok hn (relO_put ry rel)))
theorem oe_init {us : List Value} {Q : Value → Shared → Prop} (T : OeC X.K C B newId initId bm) (I : Inv X pins σ H s) (e : H a = some (exo a C none)) (hl : us.length ≤ sizeLine) (h : ∀ s', Inv X pins σ H s' → Q .none s') :
    wpAny (model X.prog X.w) A (call (.builtin initId) (.ref a :: us)) Q E s := by
  obtain ⟨nm, q, N, bs, sn, sub, ab, col, dd, k0, k1, k2, k3, k5, hC⟩ := T.cls
  obtain ⟨t1, ho⟩ := exo_at I.hok e
  obtain ⟨hp, g, d, t, os⟩ := s
  refine wpAny_call (PySem.HandSPX.init_base T.base (fun _ => rfl) (I.kIn _ _ hC) ho hl fun h' t2 k hx => ?_)
  have J := I.write (t' := t) (x := a) (e := a) (o := exo a C none) (by rw [e]; exact True.intro) (.inl rfl) k ⟨_, hx⟩ (exo_ok hx)
  have same : upd H a (exo a C none) = H := by
    funext b
    by_cases hb : b = a
    · rw [hb, upd_same, e]
    · rw [upd_ne hb]
  rw [same] at J
  exact h _ J
end
/-! ### readings and rules -/
/-- B.__init__(self, ..), B the built-in class above -/
def tEi (K : PySem.W.Frag) (B newId initId : String) (bm : List Value) (ta : TA) : TE := fun σ H Q => ta σ H fun vs H1 => ∃ (a C : Addr) (ws : List V), vs = .ref a :: ws ∧ ws.length ≤ 1000 ∧ OeC K C B newId initId bm ∧ H1 a = some (exo a C none) ∧ Q .non H1
/-- self.f = e -/
def tOe (K : PySem.W.Frag) (B newId initId : String) (bm : List Value) (f : Str) (to te : TE) : TS := fun D σ H => te σ H fun y H1 => to σ H1 fun x H2 => ∃ a C : Addr, x = .ref a ∧ OeC K C B newId initId bm ∧ PySem.W.findIn K (.ref C) f = some none ∧
  ((H2 a = some (exo a C none) ∧ ∀ dx, H2 dx = none → dx ≠ a → D.nx σ (upd (upd H2 dx (exd dx [(f, y)])) a (exo a C (some dx)))) ∨
    ∃ (dx : Addr) (fs : List (Str × V)), H2 a = some (exo a C (some dx)) ∧ H2 dx = some (exd dx fs) ∧ fs.length ≤ 900 ∧ D.nx σ (upd H2 dx (exd dx ((f, y) :: fs))))
/-- C(..), kept as a value -/
def tMkV (C : Addr) (sp : Sp) (ta : TA) : TE := fun σ H Q => ta σ H fun vs H1 => vs.length ≤ 1000 ∧ ∀ a, H1 a = none → sp (.ref a :: vs) (upd H1 a (exo a C none)) (fun v H2 => v = .non ∧ Q (.ref a) H2) E0
def tMkVK (C : Addr) (m : Nat) (sp : Sp) (gV : List V → List V → List V) (tk : TA) : TE := fun σ H Q => tk σ H fun zs H1 => zs.length = m ∧ ∀ a, H1 a = none → sp (gV [.ref a] zs) (upd H1 a (exo a C none)) (fun v H2 => v = .non ∧ Q (.ref a) H2) E0
/-- e.f of a made exception -/
def tEf (K : PySem.W.Frag) (f : Str) (te : TE) : TE := fun σ H Q => te σ H fun x H1 => ∃ (a C d : Addr) (fs : List (Str × V)) (v : V), x = .ref a ∧ H1 a = some (exo a C (some d)) ∧ H1 d = some (exd d fs) ∧ ExcC K C ∧ PySem.W.findIn K (.ref C) f = some none ∧ fs.lookup f = some v ∧ Q v H1
/-- isinstance(e, c) of a made exception -/
def rIsX (K : PySem.W.Frag) : List V → Hp → VK → Prop := fun xs H Q => ∃ (a C d : Addr) (fs : List (Str × V)) (c : V) (u : Value) (b : Bool), xs = [.ref a, c] ∧ H a = some (exo a C (some d)) ∧ H d = some (exd d fs) ∧ ExcC K C ∧ ClsV c u ∧ PySem.W.kitOne K (.ref C) u = some b ∧ Q (.bl b) H
section
variable {X : Cx} {o e : Expr} {es : List Expr} {to te : TE} {ta tk : TA} {f x : Str} {p p' p1 p2 pos : Pos} {B newId initId : String} {bm : List Value} {kws : List Keyword}
theorem pe_einit {pl : Sem Bool} (hg : Gl X x) (hm : X.mg x = none) (hv : bootBuiltins x = some (.type B)) (typ : typeOf (.type B) = pure (.type "type")) (stub : Manifest.isStub B = false)
    (vV : PySem.W.findCls X.K (.type B) (.type "type") "__init__" = some (.val (.builtin initId))) (hnd : PySem.W.handedIn (.builtin initId) = true) (ha : PA X (e :: es) ta) (hn : x ≠ "__name__" := by decide) (hdb : (x == ("__debug__" : Str)) = false := by decide)
    (hc : eval (.Call (.Attribute (.Name x p1) "__init__" p2) (e :: es) [] pos) X.env = (do
      let ov ← eval (.Name x p1) X.env
      standAt p2.atName
      let (f, first) ← holding [ov] (getMethod ov "__init__" pl)
      callWith pos f first (backTo pos (starEach (e :: es) X.env)) (backToKw pos (keywordEach [] X.env))) := by rfl)
    (he : starEach (e :: es) X.env = (false, eval e X.env) :: starEach es X.env := by rfl) (hpl : (backTo pos (starEach es X.env)).any (·.1) = false := by rfl) :
    PE X (.Call (.Attribute (.Name x p1) "__init__" p2) (e :: es) [] pos) (tEi X.K B newId initId bm ta) := by
  refine ⟨fun pins s σ H Q I h => ?_⟩
  refine PySem.W.methodCall_KW (ld_blt I hg hm hv ?_ hn hdb) hc
  obtain ⟨m, fr⟩ := I.fr
  refine PySem.W.method_type fr I.ok.mod.kin typ stub vV hnd ?_
  show wpAny _ _ (callWith pos (Value.builtin initId) [] (backTo pos (starEach (e :: es) X.env)) []) _ _ _
  refine PyProof.Rows.callWith_method1 (thn (ha.run pos pins _ σ H _ (I.tok _) h) fun us s1 ⟨vs, H1, I1, r1, a, C, ws, ev, hl, T, ea, q⟩ => ?_) he hpl
  subst ev
  cases r1 with
  | @cons _ u0 _ ur ra rw' =>
    obtain rfl : u0 = Value.ref a := ra
    have size : ur.length ≤ sizeLine := by
      rw [← Paired.length rw', sizeLine_eq]
      omega
    exact oe_init T I1 ea size fun s' J => ⟨.non, H1, J, rfl, q⟩
theorem ps_oe (ho : PE X o to) (he : PE X e te) (hs : swapsWith e (some (.Attribute o f p')) pos.line X.env = pure false := by rfl) : PS X (.Assign [.Attribute o f p'] e pos) (tOe X.K B newId initId bm f to te) := by
  refine ⟨fun pins s σ H D I h => ?_⟩
  refine plainObj_wpAny_Assign_Attribute (thn (he.run pins s σ H _ I h) fun v s1 ⟨y, H1, I1, r1, q1⟩ => thn (ho.run pins s1 σ H1 _ I1 q1) fun u s2 ⟨x, H2, I2, r2, a, C, ex, T, hno, q⟩ => ?_) hs
  subst ex
  obtain rfl : u = Value.ref a := r2
  rcases q with ⟨ea, q⟩ | ⟨dx, fs, ea, ed, hl, q⟩
  · exact oe_new T I2 ea hno r1 fun dx s' n ne J => ⟨σ, _, J, q dx n ne⟩
  · exact oe_old T I2 ea ed hl hno r1 fun s' J => ⟨σ, _, J, q⟩
theorem pe_mkV {C fI : Addr} {k : Nat} {fd : FuncData} {ps : List Str} {sp : Sp} (T : OeC X.K C B newId initId bm) (iC : PySem.W.findIn X.K (.ref C) "__init__" = some (some (.ref fI))) (tI : PySem.W.typeIn X.K (.ref fI) = some (.type "function"))
    (F1 : FnOk X.prog X.w X.K X.mg X.base CX0 k fI fd ps sp) (hr : Room (k + 1) X.A) (hb : Binds X.K fd ps []) (hg : Gl X x) (hm : X.mg x = some (.ref C)) (ha : PA X (e :: es) ta)
    (hdb : (x == ("__debug__" : Str)) = false := by decide) (he : starEach (e :: es) X.env = (false, eval e X.env) :: starEach es X.env := by rfl) (hpl : (backTo pos (starEach es X.env)).any (·.1) = false := by rfl) :
    PE X (.Call (.Name x p) (e :: es) [] pos) (tMkV C sp ta) := by
  refine ⟨fun pins s σ H Q I h => ?_⟩
  obtain ⟨nm, q, N, bs, sn, sub, ab, col, dd, k0, k1, k2, k3, k5, hC⟩ := T.cls
  refine wpAny_Call_Name_kw (ld_glob I hg hm ?_ hdb)
  refine PySem.W.callWith_K (h₀ := X.base) I.ok.mod.kin T.kC (thn (ha.run pos pins s σ H _ I h) fun us s1 ⟨vs, H1, I1, r1, hz, q1⟩ => ⟨I1.kIn, ?_⟩) he hpl
  show wpAny _ _ (call (.ref C) us) _ _ _
  obtain ⟨hp, g, dr, tk, os⟩ := s1
  have up : hp.objs.size ≤ hp.objs.size + 1 := Nat.le_succ _
  have hq := q1 (hp.objs.size + 1) (I1.hok.fresh up)
  have kept : ∀ b o, hp.get? b = some o → ((hp.push (PySem.W.kdv_tup us)).push (PySem.HandSPX.excO C hp.objs.size)).get? b = some o := fun b o z => Heap.get?_push_of_some _ (Heap.get?_push_of_some _ z)
  have made : ((hp.push (PySem.W.kdv_tup us)).push (PySem.HandSPX.excO C hp.objs.size)).get? (hp.objs.size + 1) = some (PySem.HandSPX.excO C hp.objs.size) := by heap_get
  have I2 : Inv X pins σ (upd H1 (hp.objs.size + 1) (exo (hp.objs.size + 1) C none)) ⟨(hp.push (PySem.W.kdv_tup us)).push (PySem.HandSPX.excO C hp.objs.size), g, dr, tk, os⟩ :=
    I1.laid (t' := tk) (a := hp.objs.size + 1) (o := exo (hp.objs.size + 1) C none) (h' := (hp.push (PySem.W.kdv_tup us)).push (PySem.HandSPX.excO C hp.objs.size)) kept up (exo_ok made)
  have r2 : Vals (V.ref (hp.objs.size + 1) :: vs) (Value.ref (hp.objs.size + 1) :: us) := .cons rfl r1
  have many : (Value.ref (hp.objs.size + 1) :: us ++ []).length = ps.length := by
    have z := r2.length
    rw [F1.len _ _ _ _ hq] at z
    rw [List.append_nil]
    exact z.symm
  have size : us.length ≤ sizeLine := by
    rw [← Paired.length r1, sizeLine_eq]
    omega
  have bnd := hb _ (Value.ref (hp.objs.size + 1) :: us) I2.kIn many
  rw [List.append_nil] at bnd
  refine wpAny_call (PySem.MyX.callK T.base (I1.kIn _ _ hC) (PySem.W.looks_findIn I1.kIn iC) (fun self => PySem.W.bind_fn I1.kIn self tI) size
    (codeAny_mono (F1.run _ X.stack _ _ ⟨Value.ref (hp.objs.size + 1) :: us, []⟩ (Value.ref (hp.objs.size + 1) :: us) _ _ E0 (hr.make C us []) (I2.env0.make C us []) bnd r2 hq) fun r s' after => ?_))
  cases r with
  | error er => exact after.elim
  | ok fl =>
    cases fl with
    | ret u =>
      obtain ⟨v, H', J, rv, ev, z⟩ := I2.after after
      subst ev
      exact ⟨rv, ⟨.ref (hp.objs.size + 1), H', J, rfl, z⟩⟩
    | next => exact after.elim
    | brk => exact after.elim
    | cont => exact after.elim
theorem pe_mkVK {C fI : Addr} {k : Nat} {fd : FuncData} {ps ks : List Str} {sp : Sp} {gg : List Value → List Value → List Value} {gV : List V → List V → List V} (T : OeC X.K C B newId initId bm) (iC : PySem.W.findIn X.K (.ref C) "__init__" = some (some (.ref fI))) (tI : PySem.W.typeIn X.K (.ref fI) = some (.type "function"))
    (F1 : FnOk X.prog X.w X.K X.mg X.base CX0 k fI fd ps sp) (hr : Room (k + 1) X.A) (hb : KBn X.K fd ps 1 ks gg gV) (hg : Gl X x) (hm : X.mg x = some (.ref C)) (hkw : PK X kws tk)
    (hall : (backToKw pos (keywordEach kws X.env)).all (·.1.isSome) = true := by rfl) (hks : (backToKw pos (keywordEach kws X.env)).filterMap (·.1) = ks := by rfl) (hdb : (x == ("__debug__" : Str)) = false := by decide)
    (hpl : ((backTo pos (starEach [] X.env)).any (·.1) || (backToKw pos (keywordEach kws X.env)).any (·.1.isNone)) = false := by rfl) :
    PE X (.Call (.Name x p) [] kws pos) (tMkVK C ks.length sp gV tk) := by
  refine ⟨fun pins s σ H Q I h => ?_⟩
  obtain ⟨nm, q, N, bs, sn, sub, ab, col, dd, k0, k1, k2, k3, k5, hC⟩ := T.cls
  refine wpAny_Call_Name_kw (ld_glob I hg hm ?_ hdb)
  refine PySem.W.callWith_KW0 (h₀ := X.base) I.ok.mod.kin T.kC hall ?_ hpl
  refine thn (hkw.run pos pins s σ H _ I h) fun ws s1 ⟨zs, H1, I1, rz, hz, q1⟩ => ⟨I1.kIn, ?_⟩
  rw [hks]
  obtain ⟨hp, g, dr, tk, os⟩ := s1
  have up : hp.objs.size ≤ hp.objs.size + 1 := Nat.le_succ _
  have hq := q1 (hp.objs.size + 1) (I1.hok.fresh up)
  have kept : ∀ b o, hp.get? b = some o → ((hp.push (PySem.W.kdv_tup [])).push (PySem.HandSPX.excO C hp.objs.size)).get? b = some o := fun b o z => Heap.get?_push_of_some _ (Heap.get?_push_of_some _ z)
  have made : ((hp.push (PySem.W.kdv_tup [])).push (PySem.HandSPX.excO C hp.objs.size)).get? (hp.objs.size + 1) = some (PySem.HandSPX.excO C hp.objs.size) := by heap_get
  have I2 : Inv X pins σ (upd H1 (hp.objs.size + 1) (exo (hp.objs.size + 1) C none)) ⟨(hp.push (PySem.W.kdv_tup [])).push (PySem.HandSPX.excO C hp.objs.size), g, dr, tk, os⟩ :=
    I1.laid (t' := tk) (a := hp.objs.size + 1) (o := exo (hp.objs.size + 1) C none) (h' := (hp.push (PySem.W.kdv_tup [])).push (PySem.HandSPX.excO C hp.objs.size)) kept up (exo_ok made)
  have r2 := hb.rel (vs := [V.ref (hp.objs.size + 1)]) (us := [Value.ref (hp.objs.size + 1)]) (.cons rfl .nil) rz
  have bnd := hb.to ⟨(hp.push (PySem.W.kdv_tup [])).push (PySem.HandSPX.excO C hp.objs.size), g, dr, tk, os⟩ [Value.ref (hp.objs.size + 1)] ws I2.kIn rfl (rz.length.symm.trans hz)
  refine wpAny_call (PySem.MyX.callK (rest := []) (kw := ks.zip ws) T.base (I1.kIn _ _ hC) (PySem.W.looks_findIn I1.kIn iC) (fun self => PySem.W.bind_fn I1.kIn self tI) (Nat.zero_le _)
    (codeAny_mono (F1.run _ X.stack _ _ ⟨[Value.ref (hp.objs.size + 1)], ks.zip ws⟩ (gg [Value.ref (hp.objs.size + 1)] ws) _ _ E0 (hr.make C [] (ks.zip ws)) (I2.env0.make C [] (ks.zip ws)) bnd r2 hq) fun r s' after => ?_))
  cases r with
  | error er => exact after.elim
  | ok fl =>
    cases fl with
    | ret u =>
      obtain ⟨v, H', J, rv, ev, z⟩ := I2.after after
      subst ev
      exact ⟨rv, ⟨.ref (hp.objs.size + 1), H', J, rfl, z⟩⟩
    | next => exact after.elim
    | brk => exact after.elim
    | cont => exact after.elim
theorem exc_inst {pins : List (Addr × Obj)} {σ : St} {H : Hp} {s : Shared} {a C d : Addr} {fs : List (Str × V)} (I : Inv X pins σ H s) (ea : H a = some (exo a C (some d))) (ed : H d = some (exd d fs)) :
    ∃ (ox od : Obj) (mA : Str → Option Value), PySem.W.InstAt s.heap a ox C (some od) ∧ (∀ g, RelO (fs.lookup g) (mA g)) ∧ ∀ n, PySem.W.lookIn n od = some (mA n) := by
  obtain ⟨t1, ho⟩ := exo_at I.hok ea
  obtain ⟨mA, hns, rel⟩ := exd_at I.hok ed
  obtain ⟨od, hod, hl⟩ := lookIn_ns hns
  exact ⟨_, od, mA, ⟨ho, rfl, rfl, hod⟩, rel, fun n => hl n⟩
theorem pe_ef (he : PE X e te) (hb : attributeBase e f X.env (eval e X.env) = eval e X.env := by rfl) : PE X (.Attribute e f pos) (tEf X.K f te) := by
  refine ⟨fun pins s σ H Q I h => ?_⟩
  refine attr_of hb (thn (he.run pins s σ H _ I h) fun u s1 hh => ?_)
  obtain ⟨x, H1, I1, rx, a, C, d, fs, v, ex, ea, ed, T, hno, l, q⟩ := hh
  subst ex
  obtain rfl : u = Value.ref a := rx
  obtain ⟨ox, od, mA, J, rel, hl⟩ := exc_inst I1 ea ed
  obtain ⟨u, hu, ru⟩ := RelO.some_of (v := v) (o := mA f) (by rw [← l]; exact rel f)
  exact HandSPX.exc_get I1.kIn J T.hg T.hk T.hs (PySem.W.findObj_own T.hd hno rfl (by rw [hl, hu])) (handed_of ru) ⟨v, H1, I1.tok _, ru, q⟩
theorem call_isX : CallR X (.builtin "isinstance") (rIsX X.K) := by
  intro pins s σ H xs us Q I r h
  obtain ⟨a, C, d, fs, c, u, b, rfl, ea, ed, T, k, e, q⟩ := h
  obtain ⟨u1, u2, rfl, r1, r2⟩ := vals2 r
  cases (show u1 = Value.ref a from r1)
  have e2 := k.eq r2
  subst e2
  obtain ⟨ox, od, mA, J, rel, hl⟩ := exc_inst I ea ed
  exact PySem.W.kia_one (PySem.W.my_kitx T) I.kIn J e (fun z => nomatch z) fun tk => ⟨.bl b, H, I.tok tk, rfl, q⟩
end
/-- which class an own exception's class stands under -/
theorem oe_mro {K : PySem.W.Frag} {C : Addr} {B newId initId : String} {bm : List Value} (T : OeC K C B newId initId bm) (u : Value) : PySem.W.subIn K (.ref C) u = some ((Value.ref C :: bm).contains u) := by
  obtain ⟨nm, q, N, bs, sn, sub, ab, col, dd, k0, k1, k2, k3, k5, hC⟩ := T.cls
  show PySem.W.mroIn K C u = _
  unfold PySem.W.mroIn PySem.W.clsIn
  rw [hC]
  rfl
theorem oe_cls {K : PySem.W.Frag} {C : Addr} {B newId initId : String} {bm : List Value} (T : OeC K C B newId initId bm) : (PySem.W.clsIn K C).isSome = true := by
  obtain ⟨nm, q, N, bs, sn, sub, ab, col, dd, k0, k1, k2, k3, k5, hC⟩ := T.cls
  unfold PySem.W.clsIn
  rw [hC]
  rfl
theorem oe_own {K : PySem.W.Frag} {C D : Addr} {B newId initId B' newId' initId' : String} {bm bm' : List Value} (T : OeC K C B newId initId bm) (S : OeC K D B' newId' initId' bm') (nr : bm.contains (.ref D) = false) :
    PySem.W.kitOne K (.ref C) (.ref D) = some (decide (C = D)) := by
  unfold PySem.W.kitOne
  by_cases e : C = D
  · subst e
    simp
  · have e1 : (Value.ref C == Value.ref D) = false := beq_eq_false_iff_ne.mpr fun z => e (Value.ref.inj z)
    rw [e1, if_neg Bool.false_ne_true]
    show (if ((PySem.W.clsIn K D).isSome && PySem.W.typeIn K (.ref D) == some (.type "type")) = true then PySem.W.subIn K (.ref C) (.ref D) else none) = _
    rw [oe_cls S, S.ty, if_pos (by simp), oe_mro T, decide_eq_false e, List.contains_cons, nr]
    have e2 : (Value.ref D == Value.ref C) = false := beq_eq_false_iff_ne.mpr fun z => e (Value.ref.inj z).symm
    rw [e2]
    rfl
theorem oe_blt {K : PySem.W.Frag} {C : Addr} {B newId initId t : String} {bm : List Value} (T : OeC K C B newId initId bm) (m : PySem.W.kitMeta t = true) : PySem.W.kitOne K (.ref C) (.type t) = some (bm.contains (.type t)) := by
  unfold PySem.W.kitOne
  have e1 : (Value.ref C == Value.type t) = false := beq_eq_false_iff_ne.mpr fun z => nomatch z
  rw [e1, if_neg Bool.false_ne_true]
  show (if PySem.W.kitMeta t = true then PySem.W.subIn K (.ref C) (.type t) else none) = _
  rw [if_pos m, oe_mro T, List.contains_cons]
  have e2 : (Value.type t == Value.ref C) = false := beq_eq_false_iff_ne.mpr fun z => nomatch z
  rw [e2, Bool.false_or]
end L2

set_option Elab.async false
set_option linter.all false
set_option maxRecDepth 100000
set_option maxHeartbeats 4000000
namespace K3
open PySem PySem.Spec PyProof.Rows L2
/-! ### the text -/
def topS (i : Nat) : Stmt := PySem.Challenge.pw_slipwire_k03_sizes_written_and_read.main.body.getD i (.Pass ⟨0, 0, 0, 0⟩)
abbrev s_size_bytes : Stmt := topS 6
abbrev s_size_of_two : Stmt := topS 8
abbrev s_size_of_three : Stmt := topS 9
abbrev s_size_at : Stmt := topS 7
abbrev s_cell_at : Stmt := topS 11
abbrev s_box : Stmt := topS 12
abbrev s_take : Stmt := topS 13
abbrev s_same : Stmt := topS 14
abbrev s_of : Stmt := topS 15
abbrev s_bytes : Stmt := topS 16
abbrev s_size : Stmt := topS 17
abbrev s_drawn : Stmt := topS 18
abbrev s_law : Stmt := topS 19
theorem sc_size_bytes : FnScope ["size"] ["size"] (defScope s_size_bytes) := ⟨rfl, rfl, rfl, by decide +kernel, rfl, by decide +kernel, by decide +kernel⟩
theorem sc_size_of_two : FnScope ["codes", "at", "size"] ["codes", "at"] (defScope s_size_of_two) := ⟨rfl, rfl, rfl, by decide +kernel, rfl, by decide +kernel, by decide +kernel⟩
theorem sc_size_of_three : FnScope ["codes", "at"] ["codes", "at"] (defScope s_size_of_three) := ⟨rfl, rfl, rfl, by decide +kernel, rfl, by decide +kernel, by decide +kernel⟩
theorem sc_size_at : FnScope ["codes", "at", "first"] ["codes", "at"] (defScope s_size_at) := ⟨rfl, rfl, rfl, by decide +kernel, rfl, by decide +kernel, by decide +kernel⟩
theorem sc_cell_at : FnScope ["_law_script", "_law_k"] ["_law_script", "_law_k"] (defScope s_cell_at) := ⟨rfl, rfl, rfl, by decide +kernel, rfl, by decide +kernel, by decide +kernel⟩
theorem sc_box : FnScope ["_law_script", "_law_k", "_law_cell"] ["_law_script", "_law_k"] (defScope s_box) := ⟨rfl, rfl, rfl, by decide +kernel, rfl, by decide +kernel, by decide +kernel⟩
theorem sc_take : FnScope ["_law_box_here", "_law_count", "_law_found", "_law_once", "_law_twice"] ["_law_box_here", "_law_count"] (defScope s_take) := ⟨rfl, rfl, rfl, by decide +kernel, rfl, by decide +kernel, by decide +kernel⟩
theorem sc_same : FnScope ["_law_found", "_law_due", "_law_one", "_law_two"] ["_law_found", "_law_due"] (defScope s_same) := ⟨rfl, rfl, rfl, by decide +kernel, rfl, by decide +kernel, by decide +kernel⟩
theorem sc_of : FnScope ["_law_box_here", "_law_some"] ["_law_box_here", "_law_some"] (defScope s_of) := ⟨rfl, rfl, rfl, by decide +kernel, rfl, by decide +kernel, by decide +kernel⟩
theorem sc_bytes : FnScope ["_law_box_here", "_law_count", "_law_make", "_law_found", "_law_turn"] ["_law_box_here", "_law_count"] (defScope s_bytes) := ⟨rfl, rfl, rfl, by decide +kernel, rfl, by decide +kernel, by decide +kernel⟩
theorem sc_size : FnScope ["_law_count"] ["_law_count"] (defScope s_size) := ⟨rfl, rfl, rfl, by decide +kernel, rfl, by decide +kernel, by decide +kernel⟩
theorem sc_drawn : FnScope ["_law_box_here", "_law_way", "_law_edges"] ["_law_box_here"] (defScope s_drawn) := ⟨rfl, rfl, rfl, by decide +kernel, rfl, by decide +kernel, by decide +kernel⟩
theorem sc_law : FnScope ["_law_script", "_law_k", "_law_box_here", "_law_turn", "_law_amount", "_law_due", "_law_ahead", "_law_told", "_law_row", "_law_spot", "_law_kept", "_law_pair", "_law_found", "_law_cut", "_law_some"] ["_law_script"] (defScope s_law) := ⟨rfl, rfl, rfl, by decide +kernel, rfl, by decide +kernel, by decide +kernel⟩
abbrev s_Fault : Stmt := inClass (topS 2) 0
theorem sc_Fault : FnScope ["self", "code", "at"] ["self", "code", "at"] (defScope s_Fault) := ⟨rfl, rfl, rfl, by decide +kernel, rfl, by decide +kernel, by decide +kernel⟩
abbrev bm_ValueError : List Value := [.type "ValueError", .type "Exception", .type "BaseException", .type "object"]
theorem typ_ValueError : typeOf (.type "ValueError") = pure (.type "type") := by first | rfl | kernel_rfl
/-! ### what stands behind the top -/
structure Tx (K : PySem.W.Frag) (mg : Str → Option Value) where
  f_size_bytes : Addr
  fd_size_bytes : FuncData
  F_size_bytes : Fun K "size_bytes" "size_bytes" s_size_bytes f_size_bytes fd_size_bytes
  g_size_bytes : mg "size_bytes" = some (.ref f_size_bytes)
  b_size_bytes : Binds K fd_size_bytes ["size"] []
  f_size_of_two : Addr
  fd_size_of_two : FuncData
  F_size_of_two : Fun K "size_of_two" "size_of_two" s_size_of_two f_size_of_two fd_size_of_two
  g_size_of_two : mg "size_of_two" = some (.ref f_size_of_two)
  b_size_of_two : Binds K fd_size_of_two ["codes", "at"] []
  f_size_of_three : Addr
  fd_size_of_three : FuncData
  F_size_of_three : Fun K "size_of_three" "size_of_three" s_size_of_three f_size_of_three fd_size_of_three
  g_size_of_three : mg "size_of_three" = some (.ref f_size_of_three)
  b_size_of_three : Binds K fd_size_of_three ["codes", "at"] []
  f_size_at : Addr
  fd_size_at : FuncData
  F_size_at : Fun K "size_at" "size_at" s_size_at f_size_at fd_size_at
  g_size_at : mg "size_at" = some (.ref f_size_at)
  b_size_at : Binds K fd_size_at ["codes", "at"] []
  f_cell_at : Addr
  fd_cell_at : FuncData
  F_cell_at : Fun K "_law_cell_at" "_law_cell_at" s_cell_at f_cell_at fd_cell_at
  g_cell_at : mg "_law_cell_at" = some (.ref f_cell_at)
  b_cell_at : Binds K fd_cell_at ["_law_script", "_law_k"] []
  f_box : Addr
  fd_box : FuncData
  F_box : Fun K "_law_box" "_law_box" s_box f_box fd_box
  g_box : mg "_law_box" = some (.ref f_box)
  b_box : Binds K fd_box ["_law_script", "_law_k"] []
  f_take : Addr
  fd_take : FuncData
  F_take : Fun K "_law_take" "_law_take" s_take f_take fd_take
  g_take : mg "_law_take" = some (.ref f_take)
  b_take : Binds K fd_take ["_law_box_here", "_law_count"] []
  f_same : Addr
  fd_same : FuncData
  F_same : Fun K "_law_same" "_law_same" s_same f_same fd_same
  g_same : mg "_law_same" = some (.ref f_same)
  b_same : Binds K fd_same ["_law_found", "_law_due"] []
  f_of : Addr
  fd_of : FuncData
  F_of : Fun K "_law_of" "_law_of" s_of f_of fd_of
  g_of : mg "_law_of" = some (.ref f_of)
  b_of : Binds K fd_of ["_law_box_here", "_law_some"] []
  f_bytes : Addr
  fd_bytes : FuncData
  F_bytes : Fun K "_law_bytes" "_law_bytes" s_bytes f_bytes fd_bytes
  g_bytes : mg "_law_bytes" = some (.ref f_bytes)
  b_bytes : Binds K fd_bytes ["_law_box_here", "_law_count"] []
  f_size : Addr
  fd_size : FuncData
  F_size : Fun K "_law_size" "_law_size" s_size f_size fd_size
  g_size : mg "_law_size" = some (.ref f_size)
  b_size : Binds K fd_size ["_law_count"] []
  f_drawn : Addr
  fd_drawn : FuncData
  F_drawn : Fun K "_law_drawn" "_law_drawn" s_drawn f_drawn fd_drawn
  g_drawn : mg "_law_drawn" = some (.ref f_drawn)
  b_drawn : Binds K fd_drawn ["_law_box_here"] []
  kb_size_bytes_0_size : KBn K fd_size_bytes ["size"] 0 ["size"] (fun us ws => us ++ ws) (fun vs zs => vs ++ zs)
  kb_size_at_0_at_codes : KBn K fd_size_at ["codes", "at"] 0 ["at", "codes"] (fun us ws => us ++ ws.reverse) (fun vs zs => vs ++ zs.reverse)
  tk_SIZE : Tok
  g_SIZE : mg "SIZE" = some (.int 12 tk_SIZE)
  tk_TWO_FOLLOW : Tok
  g_TWO_FOLLOW : mg "TWO_FOLLOW" = some (.int 250 tk_TWO_FOLLOW)
  tk_THREE_FOLLOW : Tok
  g_THREE_FOLLOW : mg "THREE_FOLLOW" = some (.int 251 tk_THREE_FOLLOW)
  C_Fault : Addr
  f_Fault : Addr
  fd_Fault : FuncData
  F_Fault : Fun K "__init__" "Fault.__init__" s_Fault f_Fault fd_Fault
  g_Fault : mg "Fault" = some (.ref C_Fault)
  oe_Fault : OeC K C_Fault "ValueError" "ValueError.__new__" "ValueError.__init__" bm_ValueError
  i_Fault : PySem.W.findIn K (.ref C_Fault) "__init__" = some (some (.ref f_Fault))
  t_Fault : PySem.W.typeIn K (.ref f_Fault) = some (.type "function")
  b_Fault : Binds K fd_Fault ["self", "code", "at"] []
  n_Fault_code : PySem.W.findIn K (.ref C_Fault) "code" = some none
  n_Fault_at : PySem.W.findIn K (.ref C_Fault) "at" = some none
  v_ValueError : PySem.W.findCls K (.type "ValueError") (.type "type") "__init__" = some (.val (.builtin "ValueError.__init__"))
  m_len : mg "len" = none
  m_abs : mg "abs" = none
  m_int : mg "int" = none
  m_bool : mg "bool" = none
  m_list : mg "list" = none
  m_tuple : mg "tuple" = none
  m_isinstance : mg "isinstance" = none
  m_all : mg "all" = none
  m_zip : mg "zip" = none
  m_min : mg "min" = none
  m_range : mg "range" = none
  m_ValueError : mg "ValueError" = none
end K3

set_option Elab.async false
set_option linter.all false
set_option maxRecDepth 100000
set_option maxHeartbeats 4000000
namespace K3
open PySem PySem.Spec PyProof.Rows L2
/-! ### heaps and bytes -/
def Bts (ns : List Int) : Prop := ∀ x ∈ ns, 0 ≤ x ∧ x < 256
/-- all but p is as it was -/
def Keep (p : Addr) (H H' : Hp) : Prop := ∀ b o, b ≠ p → H b = some o → H' b = some o
theorem same_upd {H : Hp} {p : Addr} {o : HO} (h : H p = none) : Same H (upd H p o) := fun b x e => by
  rw [upd_ne (ne_of_none e h)]
  exact e
theorem sq1 {K : PySem.W.Frag} {H : Hp} {a : Addr} {xs : List V} (h : H a = some (.lst xs)) : SqL K H a xs := .inl (.inl h)
theorem st1 {K : PySem.W.Frag} {H : Hp} {a : Addr} {xs : List V} (h : H a = some (.tup xs)) : SqT K H a xs := .inl (.inl h)
/-- an item of a list of ints -/
theorem atI_ints {xs : List Int} {r : Int} (h0 : 0 ≤ r) (h1 : r < xs.length) : ∃ x, x ∈ xs ∧ atI (xs.map V.int) r = some (.int x) := by
  obtain ⟨j, rfl⟩ := Int.eq_ofNat_of_zero_le h0
  have hj : j < xs.length := by omega
  refine ⟨xs[j], List.getElem_mem hj, atI_nat ?_⟩
  rw [List.getElem?_map, List.getElem?_eq_getElem hj]
  rfl
theorem Keep.upd {p : Addr} {H H' : Hp} {o : HO} (k : Keep p H H') : Keep p H (upd H' p o) := fun b x hb e => by
  rw [upd_ne hb]
  exact k b x hb e
theorem Keep.refl (p : Addr) (H : Hp) : Keep p H H := fun _ _ _ e => e
theorem Keep.trans {p : Addr} {H H1 H2 : Hp} (a : Keep p H H1) (b : Keep p H1 H2) : Keep p H H2 := fun c o hc e => b c o hc (a c o hc e)
theorem Keep.new {p q : Addr} {H H' : Hp} {o : HO} (k : Keep p H H') (hq : H' q = none) : Keep p H (L2.upd H' q o) := fun b x hb e => by
  rw [upd_ne (ne_of_none (k b x hb e) hq)]
  exact k b x hb e
theorem Same.seqT {K : PySem.W.Frag} {H H' : Hp} {a : Addr} {xs : List V} (e : Same H H') (h : SqT K H a xs) : SqT K H' a xs := by
  rcases h with (h | ⟨o, h⟩) | h
  · exact .inl (.inl (e _ _ h))
  · exact .inl (.inr ⟨o, e _ _ h⟩)
  · exact .inr h
theorem Same.new {H H' : Hp} {p : Addr} {o : HO} (s : Same H H') (h : H' p = none) : Same H (L2.upd H' p o) := s.trans (same_upd h)
/-- a change at a place that was free -/
theorem Same.mut {H H' : Hp} {p : Addr} {o : HO} (s : Same H H') (h : H p = none) : Same H (L2.upd H' p o) := fun b x e => by
  rw [upd_ne (ne_of_none e h)]
  exact s b x e
theorem walk_zipT {K : PySem.W.Frag} {a b : Addr} {xs ys : List V} {n : Nat} (hn : n = min xs.length ys.length) : Walk (RZ.ItzT K a b) n (fun H => SqT K H a xs ∧ SqT K H b ys) (YPair (fun i => xs[i]?) (fun i => ys[i]?)) := by
  subst hn
  refine ⟨fun i _ hi q => ?_, fun _ q => ⟨xs, ys, q.1, q.2, by omega⟩, fun i H v H' _ q y => ?_⟩
  · have h1 : i < xs.length := by omega
    have h2 : i < ys.length := by omega
    exact ⟨xs, ys, xs[i], ys[i], q.1, q.2, by simp [h1], by simp [h2]⟩
  · obtain ⟨T, x, z, h1, h2, h3, h4, h5⟩ := y
    exact ⟨T, x, z, h1, h2, h3, h4 xs q.1, h5 ys q.2⟩
theorem Same.keep {p : Addr} {H H1 H2 : Hp} (s : Same H H1) (k : Keep p H1 H2) (h : H p = none) : Same H H2 := fun b o e => k b o (ne_of_none e h) (s b o e)
theorem Same.k {p : Addr} {H H' : Hp} (s : Same H H') : Keep p H H' := fun b o _ e => s b o e
theorem Keep.mut {p t : Addr} {H H1 H2 : Hp} (k : Keep p H H1) (m : Keep t H1 H2) (h : H t = none) : Keep p H H2 := fun b o hb e => m b o (ne_of_none e h) (k b o hb e)
theorem Keep.free {p t : Addr} {H H1 : Hp} (k : Keep p H H1) (h : H1 t = none) (ne : t ≠ p) : H t = none := by
  cases e : H t with
  | none => rfl
  | some o => rw [k t o ne e] at h; cases h

section
variable {P : Program} {w : World} {K : PySem.W.Frag} {mg : Str → Option Value} {base : Heap}
/-! ### the cells and the draws -/
def spCell (K : PySem.W.Frag) : Sp := fun vs H Q _ => ∃ (a : Addr) (ns : List Int) (k : Int), vs = [.ref a, .int k] ∧ SqL K H a (ns.map V.int) ∧ 0 ≤ k ∧ ∀ z : Int, Q (.int z) H
theorem ok_cell_at (T : Tx K mg) : FnOk P w K mg base CX0 1 T.f_cell_at T.fd_cell_at ["_law_script", "_law_k"] (spCell K) := by
  refine T.F_cell_at.ok sc_cell_at (fun vs H Q E h => ?_) (fun cdv A outer s H vs Q E hr h => ?_)
  · obtain ⟨a, ns, k, rfl, _⟩ := h
    rfl
  · obtain ⟨a, ns, k, rfl, hS, h0, q⟩ := h
    refine ⟨_, (pss_cons (ps_if (pt_cmpR op_lt (pv 1) (pe_callB call_len_seq (by rfl) T.m_len (by decide +kernel) (pa_cons (pv 0) pa_nil)) (nomark _)) (pss_one (ps_ret (pe_ix (r := rIxL K) ix_list (pv 0) (pv 1) (fun _ _ => rfl)))) pss_nil)
      (pss_one (ps_ret pe_int))), ?_⟩
    refine ⟨.int k, rfl, .ref a, rfl, a, ns.map V.int, rfl, .inl hS, k, _, rfl, rfl, _, rfl, ite2 (fun e => ?_) (fun e => ?_)⟩
    · have e1 : k < ((ns.map V.int).length : Int) := of_decide_eq_true e
      rw [List.length_map] at e1
      obtain ⟨x, _, hx⟩ := atI_ints h0 e1
      exact ⟨.ref a, rfl, .int k, rfl, a, _, k, .int x, rfl, rfl, hS, hx, q x⟩
    · exact q 0
def spBox (K : PySem.W.Frag) : Sp := fun vs H Q _ => ∃ (a : Addr) (ns : List Int) (k : Int), vs = [.ref a, .int k] ∧ SqL K H a (ns.map V.int) ∧ 0 ≤ k ∧ k ≤ 1000 ∧
  ∀ (p : Addr) (x y : Int), H p = none → 0 ≤ x → 0 ≤ y → y < 2 ^ 62 → Q (.ref p) (upd H p (.lst [.int x, .int y, .int 0]))
theorem ok_box (T : Tx K mg) : FnOk P w K mg base CX0 2 T.f_box T.fd_box ["_law_script", "_law_k"] (spBox K) := by
  refine T.F_box.ok sc_box (fun vs H Q E h => ?_) (fun cdv A outer s H vs Q E hr h => ?_)
  · obtain ⟨a, ns, k, rfl, _⟩ := h
    rfl
  · obtain ⟨a, ns, k, rfl, hS, h0, h1, q⟩ := h
    refine ⟨_, (pss_cons (ps_set (i := 2) sc_box.nd rfl (.inl rfl) (pe_call (ok_cell_at T) (hr.mono (by omega)) (by rfl) T.g_cell_at T.F_cell_at.kp T.b_cell_at .nil pass0 (pa_cons (pv 0) (pa_cons (pv 1) pa_nil))))
      (pss_one (ps_ret (pe_lst (pa_cons (pe_op op_mul (pe_callB call_abs (by rfl) T.m_abs (by decide +kernel) (pa_cons (pv 2) pa_nil)) (pe_callTy call_int1 (by rfl) T.m_int (by decide +kernel) (pa_cons (pe_cmpR op_ge (pe_callB call_abs (by rfl) T.m_abs (by decide +kernel) (pa_cons (pv 2) pa_nil)) (pe_op op_pow pe_int pe_int) (nomark _)) pa_nil))) (pa_cons (pe_op op_add (pe_op op_add (pe_op op_mod (pv 2) pe_int) (pe_op op_mul pe_int (pv 1))) pe_int) (pa_cons pe_int pa_nil))))))), ?_⟩
    refine ⟨.ref a, rfl, .int k, rfl, a, ns, k, rfl, hS, h0, fun z => ?_⟩
    -- abs(cell) * int(abs(cell) >= 10 ** 18)
    refine ⟨.int z, rfl, z, rfl, .int z, rfl, z, rfl, 10, 18, rfl, rfl, ⟨by decide, by decide, by decide⟩, _, _, rfl, rfl, .inr ⟨_, rfl, _, _, rfl, rfl, ?_, ?_⟩⟩
    · refine .inr ?_
      constructor <;> (repeat' split) <;> decide
    · refine ⟨.int z, rfl, z, 2305843009213693951, rfl, rfl, (by show (0 : Int) < _; decide), .int k, rfl, 39373, k, rfl, rfl, .inl ⟨by decide, by decide⟩, _, _, rfl, rfl, _, _, rfl, rfl, by show 3 ≤ sizeLine; decide, fun p hp => ?_⟩
      refine q p _ _ hp ?_ ?_ ?_
      · refine Int.mul_nonneg ?_ ?_
        · split <;> omega
        · split <;> omega
      · have := Int.emod_nonneg z (b := 2305843009213693951) (by decide)
        omega
      · have := Int.emod_lt_of_pos z (b := 2305843009213693951) (by decide)
        omega
/-- a draw: the box at p keeps its form, the answer lies below the count -/
def spTake : Sp := fun vs H Q _ => ∃ (p : Addr) (a b c m : Int), vs = [.ref p, .int m] ∧ H p = some (.lst [.int a, .int b, .int c]) ∧ 0 ≤ a ∧ 0 ≤ b ∧ b < 2 ^ 62 ∧ 0 ≤ c ∧ c < 2 ^ 40 ∧ 0 < m ∧ m < 1073741824 ∧
  ∀ a' c' r : Int, 0 ≤ a' → c ≤ c' → c' ≤ c + 1 → 0 ≤ r → r < m → Q (.int r) (upd H p (.lst [.int a', .int b, .int c']))
theorem ok_take (T : Tx K mg) : FnOk P w K mg base CX0 1 T.f_take T.fd_take ["_law_box_here", "_law_count"] spTake := by
  refine T.F_take.ok sc_take (fun vs H Q E h => ?_) (fun cdv A outer s H vs Q E hr h => ?_)
  · obtain ⟨p, a, b, c, m, rfl, _⟩ := h
    rfl
  · obtain ⟨p, a, b, c, m, rfl, hB, a0, b0, b1, c0, c1, m0, m1, q⟩ := h
    refine ⟨_, (pss_cons (ps_if (pt_cmpR op_gt (pe_ix (r := rIxL K) ix_list (pv 0) pe_int (fun _ _ => rfl)) pe_int (nomark _)) (pss_cons (ps_set (i := 2) sc_take.nd rfl (.inl rfl) (pe_op op_mod (pe_ix (r := rIxL K) ix_list (pv 0) pe_int (fun _ _ => rfl)) (pv 1)))
      (pss_cons (ps_asg (pe_op op_fdiv (pe_ix (r := rIxL K) ix_list (pv 0) pe_int (fun _ _ => rfl)) (pv 1)) (pg_sub (pv 0) pe_int set_list))
      (pss_one (ps_ret (pv 2))))) pss_nil)
      (pss_cons (ps_asg (pe_op op_add (pe_ix (r := rIxL K) ix_list (pv 0) pe_int (fun _ _ => rfl)) pe_int) (pg_sub (pv 0) pe_int set_list))
      (pss_cons (ps_set (i := 3) sc_take.nd rfl (.inl rfl) (pe_op op_mod (pe_op op_mul (pe_op op_add (pe_ix (r := rIxL K) ix_list (pv 0) pe_int (fun _ _ => rfl)) (pe_op op_mul pe_int (pe_ix (r := rIxL K) ix_list (pv 0) pe_int (fun _ _ => rfl)))) (pe_op op_add pe_int (pe_ix (r := rIxL K) ix_list (pv 0) pe_int (fun _ _ => rfl)))) pe_int))
      (pss_cons (ps_set (i := 4) sc_take.nd rfl (.inl rfl) (pe_op op_mod (pe_op op_mul (pe_op op_add (pe_op op_add (pv 3) (pe_ix (r := rIxL K) ix_list (pv 0) pe_int (fun _ _ => rfl))) (pe_op op_fdiv (pe_ix (r := rIxL K) ix_list (pv 0) pe_int (fun _ _ => rfl)) pe_int)) (pe_op op_add (pe_op op_mod (pv 3) pe_int) pe_int)) pe_int))
      (pss_one (ps_ret (pe_op op_mod (pe_op op_fdiv (pe_op op_mod (pe_op op_add (pe_op op_mul (pv 4) pe_int) (pv 3)) pe_int) pe_int) (pv 1)))))))), ?_⟩
    refine ⟨.ref p, rfl, p, _, 0, .int a, rfl, rfl, sq1 hB, rfl, _, _, rfl, rfl, _, rfl, ite2 (fun e => ?_) (fun e => ?_)⟩
    · -- found = box[0] % count; box[0] = box[0] // count
      refine ⟨.ref p, rfl, p, _, 0, .int a, rfl, rfl, sq1 hB, rfl, .int m, rfl, a, m, rfl, rfl, m0, ?_⟩
      refine ⟨.ref p, rfl, p, _, 0, .int a, rfl, rfl, sq1 hB, rfl, .int m, rfl, a, m, rfl, rfl, ⟨m0, m1⟩, ?_⟩
      refine ⟨.ref p, rfl, p, _, 0, 0, rfl, rfl, hB, rfl, ?_⟩
      refine ⟨.int (a % m), rfl, ?_⟩
      exact q _ _ _ (Int.ediv_nonneg a0 (by omega)) (Int.le_refl _) (by omega) (Int.emod_nonneg _ (by omega)) (Int.emod_lt_of_pos _ m0)
    · -- box[2] = box[2] + 1
      refine ⟨.ref p, rfl, p, _, 2, .int c, rfl, rfl, sq1 hB, rfl, c, 1, rfl, rfl, .ref p, rfl, p, _, 2, 2, rfl, rfl, hB, rfl, ?_⟩
      have hB1 : (upd H p (.lst [.int a, .int b, .int (c + 1)])) p = some (.lst [.int a, .int b, .int (c + 1)]) := upd_same
      show (tSeq _ _) _ _ (upd H p (.lst [.int a, .int b, .int (c + 1)]))
      -- once
      refine ⟨.ref p, rfl, p, _, 1, .int b, rfl, rfl, sq1 hB1, rfl, .ref p, rfl, p, _, 2, .int (c + 1), rfl, rfl, sq1 hB1, rfl, 48271, c + 1, rfl, rfl, .inl ⟨by decide, by decide⟩, b, _, rfl, rfl,
        .ref p, rfl, p, _, 2, .int (c + 1), rfl, rfl, sq1 hB1, rfl, 39373, c + 1, rfl, rfl, _, _, rfl, rfl, .inr ⟨by omega, by omega⟩, _, 2147483647, rfl, rfl, (by show (0 : Int) < _; decide), ?_⟩
      -- twice
      have o2 := Int.emod_nonneg ((b + 48271 * (c + 1)) * (39373 + (c + 1)) % 2147483647) (b := 40009) (by decide)
      have o3 := Int.emod_lt_of_pos ((b + 48271 * (c + 1)) * (39373 + (c + 1)) % 2147483647) (b := 40009) (by decide)
      refine ⟨_, rfl, .ref p, rfl, p, _, 2, .int (c + 1), rfl, rfl, sq1 hB1, rfl, _, c + 1, rfl, rfl, .ref p, rfl, p, _, 1, .int b, rfl, rfl, sq1 hB1, rfl, b, 1000003, rfl, rfl, ⟨by decide, by decide⟩, _, _, rfl, rfl,
        _, rfl, _, 40009, rfl, rfl, (by show (0 : Int) < _; decide), _, 7, rfl, rfl, _, _, rfl, rfl, .inr ⟨?_, ?_⟩, _, 2147483629, rfl, rfl, (by show (0 : Int) < _; decide), ?_⟩
      · exact Int.lt_of_lt_of_le (by decide) (Int.add_le_add_right o2 7)
      · exact Int.lt_trans (Int.add_lt_add_right o3 7) (by decide)
      -- the answer
      refine ⟨_, rfl, _, 48271, rfl, rfl, .inr ⟨by decide, by decide⟩, _, rfl, _, _, rfl, rfl, _, 2147483587, rfl, rfl, (by show (0 : Int) < _; decide), _, 64, rfl, rfl, ⟨by decide, by decide⟩, .int m, rfl, _, m, rfl, rfl, m0, ?_⟩
      exact q _ _ _ a0 (by omega) (Int.le_refl _) (Int.emod_nonneg _ (by omega)) (Int.emod_lt_of_pos _ m0)
end

section
variable {P : Program} {w : World} {K : PySem.W.Frag} {mg : Str → Option Value} {base : Heap}
/-! ### rows of bytes -/
def spBytes : Sp := fun vs H Q _ => ∃ (p : Addr) (a b c n : Int), vs = [.ref p, .int n] ∧ H p = some (.lst [.int a, .int b, .int c]) ∧ 0 ≤ a ∧ 0 ≤ b ∧ b < 2 ^ 62 ∧ 0 ≤ c ∧ c < 2 ^ 39 ∧ 0 ≤ n ∧ n ≤ 1000000 ∧
  ∀ (H' : Hp) (q : Addr) (ns : List Int) (a' c' : Int), H q = none → H' q = some (.lst (ns.map V.int)) → H' p = some (.lst [.int a', .int b, .int c']) → 0 ≤ a' → c ≤ c' → c' ≤ c + 1 + 2 * n → Keep p H H' → (ns.length : Int) = n → Bts ns → Q (.ref q) H'
theorem ok_bytes (T : Tx K mg) : FnOk P w K mg base CX0 2 T.f_bytes T.fd_bytes ["_law_box_here", "_law_count"] spBytes := by
  refine T.F_bytes.ok sc_bytes (fun vs H Q E h => ?_) (fun cdv A outer s H vs Q E hr h => ?_)
  · obtain ⟨p, a, b, c, n, rfl, _⟩ := h
    rfl
  · obtain ⟨p, a, b, c, n, rfl, hB, a0, b0, b1, c0, c1, n0, n1, q⟩ := h
    refine ⟨_, (pss_cons (ps_par (i := 2) (j := 3) rfl sc_bytes.nd rfl rfl (by decide) rfl rfl (pa_cons (pe_call (ok_take T) (hr.mono (by omega)) (by rfl) T.g_take T.F_take.kp T.b_take .nil pass0 (pa_cons (pv 0) (pa_cons pe_int pa_nil))) (pa_cons (pe_lst pa_nil) pa_nil)) rfl)
      (pss_cons (ps_for PassesOwn.never rfl (pi_range1 (by rfl) T.m_range (pa_cons (pv 1) pa_nil)) (pg_name (i := 4) sc_bytes.nd rfl (.inl rfl)) (pss_one (ps_expr (pe_bm PySem.F.plainAttrs_list PySem.F.slot_list_append PySem.F.type_list_append mt_append (pv 3) (pa_cons (pe_ix (r := rIxL K) ix_list (pe_lst (pa_cons (pe_call (ok_take T) (hr.mono (by omega)) (by rfl) T.g_take T.F_take.kp T.b_take .nil pass0 (pa_cons (pv 0) (pa_cons pe_int pa_nil))) (pa_cons pe_int (pa_cons pe_int (pa_cons (pe_ix (r := rIxL K) ix_list (pe_lst (pa_cons pe_int (pa_cons pe_int (pa_cons pe_int (pa_cons pe_int (pa_cons pe_int (pa_cons pe_int (pa_cons pe_int (pa_cons pe_int pa_nil))))))))) (pe_call (ok_take T) (hr.mono (by omega)) (by rfl) T.g_take T.F_take.kp T.b_take .nil pass0 (pa_cons (pv 0) (pa_cons pe_int pa_nil))) (fun _ _ => rfl)) pa_nil))))) (pv 2) (fun _ _ => rfl)) pa_nil)))))
      (pss_one (ps_ret (pv 3))))), ?_⟩
    refine ⟨.ref p, rfl, p, a, b, c, 4, rfl, hB, a0, b0, b1, c0, by omega, by decide, by decide, fun a1 c2 mk a10 cl cu mk0 mk1 => ?_⟩
    refine ⟨Nat.zero_le _, fun l hl => ?_⟩
    refine ⟨_, _, rfl, ?_⟩
    have npl : p ≠ l := fun z => by
      rw [← z, upd_same] at hl
      cases hl
    have hHl : H l = none := by
      rw [upd_ne (Ne.symm npl)] at hl
      exact hl
    refine ⟨.int n, rfl, n, rfl, by omega, by omega, ?_⟩
    refine for_it walk_range (fun i σ Hc => ∃ (y4 : Option V) (ns : List Int) (a' c' : Int), σ = [some (.ref p), some (.int n), some (.int mk), some (.ref l), y4] ∧ Hc l = some (.lst (ns.map V.int)) ∧ Hc p = some (.lst [.int a', .int b, .int c']) ∧ 0 ≤ a' ∧ c ≤ c' ∧ c' ≤ c + 1 + 2 * (i : Int) ∧ Keep p H Hc ∧ ns.length = i ∧ Bts ns) ?_ (fun _ _ _ _ _ => trivial) ?_ ?_
    · refine ⟨none, [], a1, c2, rfl, ?_, ?_, a10, cl, by omega, ?_, rfl, fun x hx => by cases hx⟩
      · rw [upd_same]
        rfl
      · rw [upd_ne npl, upd_same]
      · exact ((Keep.refl p H).upd).new hl
    · rintro i x σ Hc H' hi ⟨y4, ns, a', c', rfl, el, ep, a'0, cl', cu', kp, hlen, hb⟩ ⟨rfl, rfl⟩
      -- found.append([take(box, 256), 0, 255, [..][take(box, 8)]][make])
      refine ⟨.ref l, rfl, .inl ⟨rfl, _, sq1 el⟩, ?_⟩
      refine ⟨.ref p, rfl, p, a', b, c', 256, rfl, ep, a'0, b0, b1, by omega, by omega, by decide, by decide, fun a2 c3 r1 a20 cl2 cu2 r10 r11 => ?_⟩
      refine ⟨by show 8 ≤ sizeLine; decide, fun l2 hl2 => ?_⟩
      have np2 : p ≠ l2 := fun z => by
        rw [← z, upd_same] at hl2
        cases hl2
      refine ⟨.ref p, rfl, p, a2, b, c3, 8, rfl, (by rw [upd_ne np2, upd_same]), a20, b0, b1, by omega, by omega, by decide, by decide, fun a3 c4 r2 a30 cl3 cu3 r20 r21 => ?_⟩
      obtain ⟨x2, hx2, hat2⟩ := atI_ints (xs := [32, 33, 34, 41, 10, 250, 251, 3]) r20 r21
      refine ⟨l2, _, r2, .int x2, rfl, rfl, sq1 (by rw [upd_ne np2.symm, upd_same]; rfl), hat2, ?_⟩
      refine ⟨by show 4 ≤ sizeLine; decide, fun l3 hl3 => ?_⟩
      have hx2b : 0 ≤ x2 ∧ x2 < 256 := by
        simp only [List.mem_cons, List.not_mem_nil, or_false] at hx2
        omega
      obtain ⟨x3, hx3, hat3⟩ := atI_ints (xs := [r1, 0, 255, x2]) mk0 mk1
      have hx3b : 0 ≤ x3 ∧ x3 < 256 := by
        simp only [List.mem_cons, List.not_mem_nil, or_false] at hx3
        omega
      refine ⟨.int mk, rfl, l3, _, mk, .int x3, rfl, rfl, sq1 upd_same, hat3, ?_⟩
      have nlp : l ≠ p := npl.symm
      have nl2 : l ≠ l2 := fun z => by
        rw [← z, upd_ne nlp, el] at hl2
        cases hl2
      have nl3 : l ≠ l3 := fun z => by
        rw [← z, upd_ne nlp, upd_ne nl2, upd_ne nlp, el] at hl3
        cases hl3
      have np3 : p ≠ l3 := fun z => by
        rw [← z, upd_same] at hl3
        cases hl3
      refine ⟨l, _, _, rfl, rfl, (by rw [upd_ne nl3, upd_ne nlp, upd_ne nl2, upd_ne nlp]; exact el), ?_, ?_⟩
      · rw [List.length_map, hlen]
        exact Nat.lt_of_le_of_lt (show i ≤ 1000000 by omega) (by decide)
      · refine ⟨some (.int (0 + (i : Int))), ns ++ [x3], a3, c4, rfl, ?_, ?_, a30, by omega, by omega, ?_, ?_, ?_⟩
        · rw [upd_same, List.map_append]
          rfl
        · rw [upd_ne npl, upd_ne np3, upd_same]
        · refine fun b' o hb' e => ?_
          have k1 := kp.upd (o := .lst [.int a2, .int b, .int c3])
          have k2 := k1.new (q := l2) (o := .lst [.int 32, .int 33, .int 34, .int 41, .int 10, .int 250, .int 251, .int 3]) hl2
          have k3 := k2.upd (o := .lst [.int a3, .int b, .int c4])
          have k4 := k3.new (q := l3) (o := .lst [.int r1, .int 0, .int 255, .int x2]) hl3
          rw [upd_ne (ne_of_none e hHl)]
          exact k4 b' o hb' e
        · rw [List.length_append, hlen]
          rfl
        · intro y hy
          rcases List.mem_append.mp hy with hy | hy
          · exact hb y hy
          · rw [List.mem_singleton.mp hy]
            exact hx3b
    · rintro σ Hc ⟨y4, ns, a', c', rfl, el, ep, a'0, cl', cu', kp, hlen, hb⟩
      exact ⟨.ref l, rfl, q Hc l ns a' c' hHl el ep a'0 cl' (by omega) kp (by omega) hb⟩
end

/-! ### the same, kind by kind -/
/-- x and y are the same data, at most n deep -/
def Sm (H : Hp) : Nat → V → V → Prop
  | 0, x, y => x = y ∧ flatV x = true
  | n + 1, x, y => (x = y ∧ flatV x = true) ∨ ∃ (a b : Addr) (xs ys : List V), x = .ref a ∧ y = .ref b ∧ xs.length = ys.length ∧ xs.length ≤ 1000000 ∧ (∀ (i : Nat) u v, xs[i]? = some u → ys[i]? = some v → Sm H n u v) ∧
      ((H a = some (.lst xs) ∧ H b = some (.lst ys)) ∨ (H a = some (.tup xs) ∧ H b = some (.tup ys)))
theorem Sm.mono {H H' : Hp} (s : Same H H') : ∀ {n : Nat} {x y : V}, Sm H n x y → Sm H' n x y
  | 0, _, _, h => h
  | n + 1, _, _, .inl h => .inl h
  | n + 1, _, _, .inr ⟨a, b, xs, ys, e1, e2, l, hl, hi, h⟩ => .inr ⟨a, b, xs, ys, e1, e2, l, hl, fun i u v hu hv => Sm.mono s (hi i u v hu hv), by
    rcases h with ⟨h1, h2⟩ | ⟨h1, h2⟩
    · exact .inl ⟨s _ _ h1, s _ _ h2⟩
    · exact .inr ⟨s _ _ h1, s _ _ h2⟩⟩
theorem Sm.flat {H : Hp} {n : Nat} {x : V} (h : flatV x = true) : Sm H n x x := by
  cases n with
  | zero => exact ⟨rfl, h⟩
  | succ n => exact .inl ⟨rfl, h⟩
/-- two lists of the same ints -/
theorem Sm.ints {H : Hp} {n : Nat} {a b : Addr} {ns : List Int} (h1 : H a = some (.lst (ns.map V.int))) (h2 : H b = some (.lst (ns.map V.int))) (hl : ns.length ≤ 1000000) : Sm H (n + 1) (.ref a) (.ref b) :=
  .inr ⟨a, b, _, _, rfl, rfl, rfl, by rw [List.length_map]; exact hl, fun i u v hu hv => by
    rw [hu] at hv
    cases hv
    rw [List.getElem?_map] at hu
    obtain ⟨z, _, rfl⟩ := Option.map_eq_some_iff.mp hu
    exact Sm.flat rfl, .inl ⟨h1, h2⟩⟩
theorem leaf_kit {K : PySem.W.Frag} {H : Hp} {x : V} (h : flatV x = true) : ∃ (n : String) (bb bi : Bool), (∀ H', TyX K H' x (.type n)) ∧ PySem.W.kitAny K (.type n) [.type "list", .type "tuple"] = some false ∧
    PySem.W.kitOne K (.type n) (.type "bool") = some bb ∧ PySem.W.kitOne K (.type n) (.type "int") = some bi := by
  cases x with
  | non => exact ⟨"NoneType", false, false, fun _ => .base .non, kitAny_cons (b := false) (kit_ty (by decide +kernel)) (fun _ => kitAny_cons (b := false) (kit_ty (by decide +kernel)) (fun _ => rfl) (fun z => nomatch z)) (fun z => nomatch z), kit_ty (by decide +kernel), kit_ty (by decide +kernel)⟩
  | bl y => exact ⟨"bool", true, true, fun _ => .base (.bl y), kitAny_cons (b := false) (kit_ty (by decide +kernel)) (fun _ => kitAny_cons (b := false) (kit_ty (by decide +kernel)) (fun _ => rfl) (fun z => nomatch z)) (fun z => nomatch z), kit_ty (by decide +kernel), kit_ty (by decide +kernel)⟩
  | int y => exact ⟨"int", false, true, fun _ => .base (.int y), kitAny_cons (b := false) (kit_ty (by decide +kernel)) (fun _ => kitAny_cons (b := false) (kit_ty (by decide +kernel)) (fun _ => rfl) (fun z => nomatch z)) (fun z => nomatch z), kit_ty (by decide +kernel), kit_ty (by decide +kernel)⟩
  | str y => exact ⟨"str", false, false, fun _ => .base (.str y), kitAny_cons (b := false) (kit_ty (by decide +kernel)) (fun _ => kitAny_cons (b := false) (kit_ty (by decide +kernel)) (fun _ => rfl) (fun z => nomatch z)) (fun z => nomatch z), kit_ty (by decide +kernel), kit_ty (by decide +kernel)⟩
  | byt _ => cases h
  | flt _ => cases h
  | ref _ => cases h
  | ty _ => cases h
theorem seq_kit {K : PySem.W.Frag} {H : Hp} {a b : Addr} {xs ys : List V} (h : (H a = some (.lst xs) ∧ H b = some (.lst ys)) ∨ (H a = some (.tup xs) ∧ H b = some (.tup ys))) :
    ∃ (n : String) (bl bt : Bool), (∀ H', Same H H' → TyX K H' (.ref a) (.type n) ∧ TyX K H' (.ref b) (.type n)) ∧ PySem.W.kitAny K (.type n) [.type "list", .type "tuple"] = some true ∧
      PySem.W.kitOne K (.type n) (.type "list") = some bl ∧ PySem.W.kitOne K (.type n) (.type "tuple") = some bt := by
  rcases h with ⟨h1, h2⟩ | ⟨h1, h2⟩
  · exact ⟨"list", true, false, fun H' s => ⟨.base (.lst (s _ _ h1)), .base (.lst (s _ _ h2))⟩, kitAny_cons (b := true) (kit_ty (by decide +kernel)) (fun z => nomatch z) (fun _ => rfl), kit_ty (by decide +kernel), kit_ty (by decide +kernel)⟩
  · exact ⟨"tuple", false, true, fun H' s => ⟨.base (.tup (s _ _ h1)), .base (.tup (s _ _ h2))⟩, kitAny_cons (b := false) (kit_ty (by decide +kernel)) (fun _ => kitAny_cons (b := true) (kit_ty (by decide +kernel)) (fun z => nomatch z) (fun _ => rfl)) (fun z => nomatch z), kit_ty (by decide +kernel), kit_ty (by decide +kernel)⟩
theorem rep_all (n : Nat) : (List.replicate n true).all id = true := by
  induction n with
  | zero => rfl
  | succ n ih => rw [List.replicate_succ, List.all_cons, ih]; rfl
section
variable {P : Program} {w : World} {K : PySem.W.Frag} {mg : Str → Option Value} {base : Heap}
def spSame : Nat → Sp
  | 0 => fun _ _ _ _ => False
  | n + 1 => fun vs H Q _ => ∃ (x y : V), vs = [x, y] ∧ Sm H n x y ∧ ∀ H', Same H H' → Q (.bl true) H'
theorem ok_same (T : Tx K mg) : ∀ n : Nat, FnOk P w K mg base CX0 n T.f_same T.fd_same ["_law_found", "_law_due"] (spSame n)
  | 0 => ⟨fun _ _ _ _ h => h.elim, fun _ _ _ _ _ _ _ _ _ _ _ _ _ h => h.elim⟩
  | n + 1 => by
    have ih := ok_same T n
    refine T.F_same.ok sc_same (fun vs H Q E h => ?_) (fun cdv A outer s H vs Q E hr h => ?_)
    · obtain ⟨x, y, rfl, _⟩ := h
      rfl
    · obtain ⟨x, y, rfl, h, q⟩ := h
      refine ⟨_, (pss_cons (ps_if (pt_val (pe_callB (r := rIsiT K) call_isiT (by rfl) T.m_isinstance (by decide +kernel) (pa_cons (pv 1) (pa_cons (pe_tup (pa_cons (pe_bltn (v := .ty "list") (u := .type "list") (by rfl) T.m_list (by decide +kernel) rfl) (pa_cons (pe_bltn (v := .ty "tuple") (u := .type "tuple") (by rfl) T.m_tuple (by decide +kernel) rfl) pa_nil))) pa_nil)))) (pss_cons (ps_if (pw_or (pt_cmpR op_ne (pe_callB (r := rIsi K) call_isi (by rfl) T.m_isinstance (by decide +kernel) (pa_cons (pv 0) (pa_cons (pe_bltn (v := .ty "list") (u := .type "list") (by rfl) T.m_list (by decide +kernel) rfl) pa_nil))) (pe_callB (r := rIsi K) call_isi (by rfl) T.m_isinstance (by decide +kernel) (pa_cons (pv 1) (pa_cons (pe_bltn (v := .ty "list") (u := .type "list") (by rfl) T.m_list (by decide +kernel) rfl) pa_nil))) (nomark _)) (pw_or1 (pt_cmpR op_ne (pe_callB (r := rIsi K) call_isi (by rfl) T.m_isinstance (by decide +kernel) (pa_cons (pv 0) (pa_cons (pe_bltn (v := .ty "tuple") (u := .type "tuple") (by rfl) T.m_tuple (by decide +kernel) rfl) pa_nil))) (pe_callB (r := rIsi K) call_isi (by rfl) T.m_isinstance (by decide +kernel) (pa_cons (pv 1) (pa_cons (pe_bltn (v := .ty "tuple") (u := .type "tuple") (by rfl) T.m_tuple (by decide +kernel) rfl) pa_nil))) (nomark _)))).pt (pss_one (ps_ret pe_bl)) pss_nil)
      (pss_one (ps_ret (pe_and (pe_cmpR op_eq (pe_callB call_len_seq (by rfl) T.m_len (by decide +kernel) (pa_cons (pv 0) pa_nil)) (pe_callB call_len_seq (by rfl) T.m_len (by decide +kernel) (pa_cons (pv 1) pa_nil)) (nomark _)) (pe_one (pe_callB (cr_all rfl) (by rfl) T.m_all (by decide +kernel) (pa_cons (pe_lc (own := [("_law_one", 2), ("_law_two", 3)]) (g := gTup K 2 (gCons (gName 2) (gCons (gName 3) gNil))) (tt := tYes) rfl sc_same.nd (RZ.pi_zipA (by rfl) T.m_zip (pa_cons (pv 0) (pa_cons (pv 1) pa_nil))) (blkOk_by (N := ["_law_found", "_law_due", "_law_one", "_law_two"]) (sc := defScope s_same) (by decide +kernel)) (fun _ _ _ _ _ => (pg_tup rfl (pgs_cons (pg_name (i := 2) sc_same.nd rfl (.inl rfl)) (pgs_cons (pg_name (i := 3) sc_same.nd rfl (.inl rfl)) pgs_nil)))) (fun _ _ _ _ _ => pts_nil) (fun _ _ _ _ _ => (pe_call ih (hr.mono (by omega)) (by rfl) T.g_same T.F_same.kp T.b_same .nil pass0 (pa_cons (pv 2) (pa_cons (pv 3) pa_nil))))) pa_nil))))))) pss_nil)
      (pss_cons (ps_if (pw_or (pt_cmpR op_ne (pe_callB (r := rIsi K) call_isi (by rfl) T.m_isinstance (by decide +kernel) (pa_cons (pv 0) (pa_cons (pe_bltn (v := .ty "bool") (u := .type "bool") (by rfl) T.m_bool (by decide +kernel) rfl) pa_nil))) (pe_callB (r := rIsi K) call_isi (by rfl) T.m_isinstance (by decide +kernel) (pa_cons (pv 1) (pa_cons (pe_bltn (v := .ty "bool") (u := .type "bool") (by rfl) T.m_bool (by decide +kernel) rfl) pa_nil))) (nomark _)) (pw_or1 (pt_cmpR op_ne (pe_callB (r := rIsi K) call_isi (by rfl) T.m_isinstance (by decide +kernel) (pa_cons (pv 0) (pa_cons (pe_bltn (v := .ty "int") (u := .type "int") (by rfl) T.m_int (by decide +kernel) rfl) pa_nil))) (pe_callB (r := rIsi K) call_isi (by rfl) T.m_isinstance (by decide +kernel) (pa_cons (pv 1) (pa_cons (pe_bltn (v := .ty "int") (u := .type "int") (by rfl) T.m_int (by decide +kernel) rfl) pa_nil))) (nomark _)))).pt (pss_one (ps_ret pe_bl)) pss_nil)
      (pss_one (ps_ret (pe_cmpR op_eq (pv 0) (pv 1) (nomark _)))))), ?_⟩
      have hc : (x = y ∧ flatV x = true) ∨ ∃ (a b : Addr) (xs ys : List V), x = .ref a ∧ y = .ref b ∧ xs.length = ys.length ∧ xs.length ≤ 1000000 ∧ (∀ (i : Nat) u v, xs[i]? = some u → ys[i]? = some v → n ≠ 0 ∧ Sm H (n - 1) u v) ∧
          ((H a = some (.lst xs) ∧ H b = some (.lst ys)) ∨ (H a = some (.tup xs) ∧ H b = some (.tup ys))) := by
        cases n with
        | zero => exact .inl h
        | succ n =>
          rcases h with h | ⟨a, b, xs, ys, e1, e2, l, hl, hi, h⟩
          · exact .inl h
          · exact .inr ⟨a, b, xs, ys, e1, e2, l, hl, fun i u v hu hv => ⟨Nat.succ_ne_zero _, hi i u v hu hv⟩, h⟩
      rcases hc with ⟨rfl, hf⟩ | ⟨a, b, xs, ys, rfl, rfl, hl, hlm, hi2, hh⟩
      · -- a leaf
        obtain ⟨t, bb, bi, ty, k1, k2, k3⟩ := leaf_kit (K := K) (H := H) hf
        refine ⟨x, rfl, by show 2 ≤ sizeLine; decide, fun p hp => ?_⟩
        refine ⟨x, p, _, _, _, false, rfl, upd_same, .cons (.ty _) (.cons (.ty _) .nil), ty _, k1, _, rfl, ?_⟩
        refine ⟨x, rfl, x, _, _, _, bb, rfl, .ty _, ty _, k2, x, rfl, x, _, _, _, bb, rfl, .ty _, ty _, k2, rfl, _, rfl, ?_⟩
        rw [decide_eq_true rfl]
        refine ⟨x, rfl, x, _, _, _, bi, rfl, .ty _, ty _, k3, x, rfl, x, _, _, _, bi, rfl, .ty _, ty _, k3, rfl, _, rfl, ?_⟩
        rw [decide_eq_true rfl]
        refine ⟨x, rfl, x, rfl, ?_, ?_⟩
        · cases x <;> first | rfl | cases hf
        · rw [decide_eq_true rfl]
          exact q _ (same_upd hp)
      · -- two rows
        obtain ⟨t, bl, bt, ty, k1, k2, k3⟩ := seq_kit (K := K) hh
        refine ⟨.ref b, rfl, by show 2 ≤ sizeLine; decide, fun p hp => ?_⟩
        have s1 : Same H (upd H p (.tup [.ty "list", .ty "tuple"])) := same_upd hp
        obtain ⟨ta, tb⟩ := ty _ s1
        refine ⟨.ref b, p, _, _, _, true, rfl, upd_same, .cons (.ty _) (.cons (.ty _) .nil), tb, k1, _, rfl, ?_⟩
        refine ⟨.ref a, rfl, .ref a, _, _, _, bl, rfl, .ty _, ta, k2, .ref b, rfl, .ref b, _, _, _, bl, rfl, .ty _, tb, k2, rfl, _, rfl, ?_⟩
        rw [decide_eq_true rfl]
        refine ⟨.ref a, rfl, .ref a, _, _, _, bt, rfl, .ty _, ta, k3, .ref b, rfl, .ref b, _, _, _, bt, rfl, .ty _, tb, k3, rfl, _, rfl, ?_⟩
        rw [decide_eq_true rfl]
        have hsq : ∀ Hc, Same H Hc → (SqL K Hc a xs ∧ SqL K Hc b ys) ∨ (SqT K Hc a xs ∧ SqT K Hc b ys) := fun Hc s => by
          rcases hh with ⟨h1, h2⟩ | ⟨h1, h2⟩
          · exact .inl ⟨sq1 (s _ _ h1), sq1 (s _ _ h2)⟩
          · exact .inr ⟨st1 (s _ _ h1), st1 (s _ _ h2)⟩
        have hla : SqL K (upd H p (.tup [.ty "list", .ty "tuple"])) a xs ∨ SqT K (upd H p (.tup [.ty "list", .ty "tuple"])) a xs := by
          rcases hsq _ s1 with h | h
          · exact .inl h.1
          · exact .inr h.1
        have hlb : SqL K (upd H p (.tup [.ty "list", .ty "tuple"])) b ys ∨ SqT K (upd H p (.tup [.ty "list", .ty "tuple"])) b ys := by
          rcases hsq _ s1 with h | h
          · exact .inl h.2
          · exact .inr h.2
        refine ⟨.ref a, rfl, a, xs, rfl, hla, .ref b, rfl, b, ys, rfl, hlb, rfl, true, ?_, ?_⟩
        · rw [hl, decide_eq_true rfl]
        refine ⟨.ref a, rfl, .ref b, rfl, a, b, xs, ys, rfl, ?_⟩
        rcases hh with ⟨h1, h2⟩ | ⟨h1, h2⟩
        · refine .inl ⟨sq1 (s1 _ _ h1), sq1 (s1 _ _ h2), fun D hD => lc_it (walk_zip (xs := xs) (ys := ys) (n := xs.length) (by omega)) (fun i Hc => Same (upd H p (.tup [.ty "list", .ty "tuple"])) Hc ∧ Hc D = some (.lst ((List.replicate i true).map V.bl))) ?_ ?_ ?_ ?_⟩
          · refine ⟨same_upd hD, ?_⟩
            rw [upd_same]
            rfl
          · rintro i Hc hi ⟨sm, _⟩
            exact ⟨sq1 (sm _ _ (s1 _ _ h1)), sq1 (sm _ _ (s1 _ _ h2))⟩
          · rintro i x Hc H' hi ⟨sm, eD⟩ ⟨T', v1, v2, rfl, hT, rfl, e1, e2⟩
            have sm2 : Same (upd H p (.tup [.ty "list", .ty "tuple"])) (upd Hc T' (.tup [v1, v2])) := sm.trans (same_upd hT)
            have nDT : D ≠ T' := ne_of_none eD hT
            refine ⟨T', [v1, v2], rfl, .inl (.inl upd_same), rfl, _, _, rfl, _, _, rfl, rfl, rfl, ?_⟩
            refine ⟨_, rfl, _, rfl, ?_⟩
            obtain ⟨hn, hS⟩ := hi2 i v1 v2 e1 e2
            cases n with
            | zero => exact absurd rfl hn
            | succ n =>
              refine ⟨v1, v2, rfl, Sm.mono (s1.trans sm2) hS, fun H3 s3 => ?_⟩
              refine ⟨_, s3 _ _ (by rw [upd_ne nDT]; exact eD), ?_, ?_, ?_⟩
              · rw [List.length_map, List.length_replicate]
                exact Nat.lt_of_le_of_lt (show i ≤ 1000000 by omega) (by decide)
              · exact Same.mut (sm2.trans s3) hD
              · rw [upd_same, List.replicate_succ', List.map_append]
                rfl
          · rintro Hc ⟨sm, eD⟩
            refine ⟨D, List.replicate xs.length true, rfl, sq1 eD, ?_⟩
            rw [rep_all]
            exact q Hc (s1.trans sm)
        · refine .inr ⟨st1 (s1 _ _ h1), st1 (s1 _ _ h2), fun D hD => lc_it (walk_zipT (xs := xs) (ys := ys) (n := xs.length) (by omega)) (fun i Hc => Same (upd H p (.tup [.ty "list", .ty "tuple"])) Hc ∧ Hc D = some (.lst ((List.replicate i true).map V.bl))) ?_ ?_ ?_ ?_⟩
          · refine ⟨same_upd hD, ?_⟩
            rw [upd_same]
            rfl
          · rintro i Hc hi ⟨sm, _⟩
            exact ⟨st1 (sm _ _ (s1 _ _ h1)), st1 (sm _ _ (s1 _ _ h2))⟩
          · rintro i x Hc H' hi ⟨sm, eD⟩ ⟨T', v1, v2, rfl, hT, rfl, e1, e2⟩
            have sm2 : Same (upd H p (.tup [.ty "list", .ty "tuple"])) (upd Hc T' (.tup [v1, v2])) := sm.trans (same_upd hT)
            have nDT : D ≠ T' := ne_of_none eD hT
            refine ⟨T', [v1, v2], rfl, .inl (.inl upd_same), rfl, _, _, rfl, _, _, rfl, rfl, rfl, ?_⟩
            refine ⟨_, rfl, _, rfl, ?_⟩
            obtain ⟨hn, hS⟩ := hi2 i v1 v2 e1 e2
            cases n with
            | zero => exact absurd rfl hn
            | succ n =>
              refine ⟨v1, v2, rfl, Sm.mono (s1.trans sm2) hS, fun H3 s3 => ?_⟩
              refine ⟨_, s3 _ _ (by rw [upd_ne nDT]; exact eD), ?_, ?_, ?_⟩
              · rw [List.length_map, List.length_replicate]
                exact Nat.lt_of_le_of_lt (show i ≤ 1000000 by omega) (by decide)
              · exact Same.mut (sm2.trans s3) hD
              · rw [upd_same, List.replicate_succ', List.map_append]
                rfl
          · rintro Hc ⟨sm, eD⟩
            refine ⟨D, List.replicate xs.length true, rfl, sq1 eD, ?_⟩
            rw [rep_all]
            exact q Hc (s1.trans sm)
end

section
variable {P : Program} {w : World} {K : PySem.W.Frag} {mg : Str → Option Value} {base : Heap}
/-- one of a list, drawn -/
def spOf : Sp := fun vs H Q _ => ∃ (p l : Addr) (a b c : Int) (xs : List V), vs = [.ref p, .ref l] ∧ H p = some (.lst [.int a, .int b, .int c]) ∧ 0 ≤ a ∧ 0 ≤ b ∧ b < 2 ^ 62 ∧ 0 ≤ c ∧ c < 2 ^ 40 ∧ l ≠ p ∧ H l = some (.lst xs) ∧ 0 < xs.length ∧ xs.length < 1000 ∧
  ∀ (a' c' : Int) (x : V), 0 ≤ a' → c ≤ c' → c' ≤ c + 1 → x ∈ xs → Q x (upd H p (.lst [.int a', .int b, .int c']))
theorem ok_of (T : Tx K mg) : FnOk P w K mg base CX0 2 T.f_of T.fd_of ["_law_box_here", "_law_some"] spOf := by
  refine T.F_of.ok sc_of (fun vs H Q E h => ?_) (fun cdv A outer s H vs Q E hr h => ?_)
  · obtain ⟨p, l, a, b, c, xs, rfl, _⟩ := h
    rfl
  · obtain ⟨p, l, a, b, c, xs, rfl, hB, a0, b0, b1, c0, c1, npl, hL, l0, l1, q⟩ := h
    refine ⟨_, (pss_one (ps_ret (pe_ix (r := rIxL K) ix_list (pv 1) (pe_call (ok_take T) (hr.mono (by omega)) (by rfl) T.g_take T.F_take.kp T.b_take .nil pass0 (pa_cons (pv 0) (pa_cons (pe_callB call_len_seq (by rfl) T.m_len (by decide +kernel) (pa_cons (pv 1) pa_nil)) pa_nil))) (fun _ _ => rfl)))), ?_⟩
    refine ⟨.ref l, rfl, .ref p, rfl, .ref l, rfl, l, xs, rfl, .inl (sq1 hL), p, a, b, c, _, rfl, hB, a0, b0, b1, c0, c1, by omega, by omega, fun a' c' r a'0 cl cu r0 r1 => ?_⟩
    obtain ⟨j, rfl⟩ := Int.eq_ofNat_of_zero_le r0
    have hj : j < xs.length := by omega
    exact ⟨l, xs, _, xs[j], rfl, rfl, sq1 (by rw [upd_ne npl]; exact hL), atI_nat (List.getElem?_eq_getElem hj), q a' c' _ a'0 cl cu (List.getElem_mem hj)⟩
end

/-! ### data of ints -/
theorem dp_all {K : PySem.W.Frag} {H : Hp} : ∀ ns : List Int, DpAll K H (ns.map V.int) (ns.map PyData.int)
  | [] => .nil
  | n :: ns => .cons (.int n) (dp_all ns)
theorem dp_ints {K : PySem.W.Frag} {H : Hp} {a : Addr} {ns : List Int} (h : SqL K H a (ns.map V.int)) : Dp K H (.ref a) (.list (ns.map PyData.int)) := .lst h (dp_all ns)
theorem can_ints : ∀ ns : List Int, PyData.canLayAll0 (ns.map PyData.int) = true
  | [] => rfl
  | n :: ns => by
    show (PyData.canLay0 (.int n) && PyData.canLayAll0 (ns.map PyData.int)) = true
    rw [can_ints ns]
    rfl
theorem depth_ints : ∀ ns : List Int, PyData.depthAll (ns.map PyData.int) ≤ 1
  | [] => by decide
  | n :: ns => by
    have ih := depth_ints ns
    show max (PyData.depth (.int n)) (PyData.depthAll (ns.map PyData.int)) ≤ 1
    have e : PyData.depth (.int n) ≤ 1 := by
      unfold PyData.depth
      decide
    omega
theorem shaped_ints (ns : List Int) : SeqAt.shaped (.list (ns.map PyData.int)) = true := by
  unfold SeqAt.shaped
  have h1 : (PyData.list (ns.map PyData.int)).canLay0 = true := can_ints ns
  have h2 : (PyData.list (ns.map PyData.int)).depth ≤ 64 := by
    have := depth_ints ns
    show PyData.depthAll (ns.map PyData.int) + 1 ≤ 64
    omega
  rw [h1, decide_eq_true h2]
  rfl
theorem eqv_ints (ns : List Int) : PyData.eqv (.list (ns.map PyData.int)) (.list (ns.map PyData.int)) = true := SeqAt.eqv_refl _ (can_ints ns)
end K3

set_option Elab.async false
set_option linter.all false
set_option maxRecDepth 100000
set_option maxHeartbeats 4000000
namespace K3
open PySem PySem.Spec PyProof.Rows L2
/-! ### texts of refusals -/
/-- a text or a number that can be written -/
def Fm (x : V) : Prop := (∃ y : Str, x = .str y ∧ y.length ≤ 1000) ∨ ∃ i : Int, x = .int i ∧ 0 ≤ i ∧ i < 10 ^ 10
def Pc (t : TE) (σ : L2.St) (H : Hp) : Prop := ∃ y : Str, y.length ≤ 1000 ∧ ∀ Q : VK, Q (.str y) H → t σ H Q
def PcAll : List TE → L2.St → Hp → Prop
  | [], _, _ => True
  | t :: ts, σ, H => Pc t σ H ∧ PcAll ts σ H
theorem js_fit {σ : L2.St} {H : Hp} {Q : Str → Hp → Prop} : ∀ {ts : List TE} {acc : Str} {n : Nat}, PcAll ts σ H → acc.length ≤ n → n + 1000 * ts.length ≤ 16777216 → (∀ out, Q out H) → tJs ts acc σ H Q
  | [], acc, n, _, _, _, q => q acc
  | t :: ts, acc, n, ⟨⟨y, hy, k⟩, r⟩, hn, hl, q => by
    refine k _ ⟨y, rfl, ?_, js_fit (n := n + 1000) r ?_ ?_ q⟩
    · rw [PySem.Str.length_append, sizeLine_eq]
      rw [List.length_cons] at hl
      omega
    · rw [PySem.Str.length_append]
      omega
    · rw [List.length_cons] at hl
      omega
theorem pc_lit {σ : L2.St} {H : Hp} {y : Str} (h : y.length ≤ 1000) : Pc (tC (.str y)) σ H := ⟨y, h, fun _ q => q⟩
theorem pc_fmt {σ : L2.St} {H : Hp} {i : Nat} {x : V} (fx : Fm x) (e : σ[i]? = some (some x)) : Pc (tFmt (tVar i)) σ H := by
  rcases fx with ⟨y, rfl, hy⟩ | ⟨n, rfl, h0, h1⟩
  · exact ⟨y, hy, fun Q q => ⟨_, e, .inl ⟨y, rfl, by rw [sizeLine_eq]; omega, q⟩⟩⟩
  · have l : (Str.ofString (toString n)).length ≤ 10 := toString_length_le h0 (by decide) h1
    have lg : n.natAbs.log2 < 1920 := by
      by_cases z : n.natAbs = 0
      · rw [z]
        decide
      · refine (Nat.log2_lt z).mpr (Nat.lt_of_lt_of_le (show n.natAbs < 2 ^ 40 by omega) (Nat.pow_le_pow_right (by decide) (by decide)))
    exact ⟨Str.ofString (toString n), by omega, fun Q q => ⟨_, e, .inr ⟨n, rfl, lg, q⟩⟩⟩
theorem oex_of {K : PySem.W.Frag} {C : Addr} {initId : String} {bm : List Value} (T : OeC K C "ValueError" "ValueError.__new__" initId bm) (h : PySem.HandSPX.refsVE bm = true) : OexC K C := by
  obtain ⟨nm, q, N, bs, sn, sub, ab, col, dd, k0, k1, k2, k3, k5, hC⟩ := T.cls
  exact ⟨⟨nm, q, N, bs, bm, sn, sub, ab, col, dd, k0, k1, k2, k3, k5, hC, h⟩, T.sa, T.is_.3, T.ty, T.kC⟩
/-- a refusal's fields put -/
def spFI (C : Addr) (f g : Str) : Sp := fun vs H Q _ => ∃ (a : Addr) (x y : V), vs = [.ref a, x, y] ∧ H a = some (exo a C none) ∧ Fm x ∧ Fm y ∧ ∀ (H' : Hp) (d : Addr), Keep a H H' → H d = none → H' a = some (exo a C (some d)) → H' d = some (exd d [(g, y), (f, x)]) → Q .non H'
section
variable {P : Program} {w : World} {K : PySem.W.Frag} {mg : Str → Option Value} {base : Heap}
theorem ok_Fault (T : Tx K mg) : FnOk P w K mg base CX0 1 T.f_Fault T.fd_Fault ["self", "code", "at"] (spFI T.C_Fault "code" "at") := by
  refine T.F_Fault.ok sc_Fault (fun vs H Q E h => ?_) (fun cdv A outer s H vs Q E hr h => ?_)
  · obtain ⟨a, x, y, rfl, _⟩ := h
    rfl
  · obtain ⟨a, x, y, rfl, ea, fx, fy, q⟩ := h
    refine ⟨_, (pss_cons (ps_expr (pe_einit (B := "ValueError") (newId := "ValueError.__new__") (initId := "ValueError.__init__") (bm := bm_ValueError) (by rfl) T.m_ValueError (by decide +kernel) typ_ValueError (by decide +kernel) T.v_ValueError (by decide +kernel) (pa_cons (pv 0) (pa_cons (pe_joined (.cons pe_str (.cons (pe_fmt (pv 1)) (.cons pe_str (.cons (pe_fmt (pv 2)) .nil))))) pa_nil))))
      (pss_cons (ps_oe (B := "ValueError") (newId := "ValueError.__new__") (initId := "ValueError.__init__") (bm := bm_ValueError) (pv 0) (pv 1))
      (pss_one (ps_oe (B := "ValueError") (newId := "ValueError.__new__") (initId := "ValueError.__init__") (bm := bm_ValueError) (pv 0) (pv 2))))), ?_⟩
    refine ⟨.ref a, rfl, ?_⟩
    show tJs _ _ _ _ _
    refine js_fit (n := 0) (show PcAll _ _ _ from ⟨pc_lit (by decide +kernel), pc_fmt fx rfl, pc_lit (by decide +kernel), pc_fmt fy rfl, trivial⟩) (by decide) (by decide) fun out => ⟨a, T.C_Fault, [.str out], rfl, (by decide : 1 ≤ 1000), T.oe_Fault, ea, ?_⟩
    refine ⟨x, rfl, .ref a, rfl, a, T.C_Fault, rfl, T.oe_Fault, T.n_Fault_code, .inl ⟨ea, fun dx hdx ne => ?_⟩⟩
    have e1 : (upd (upd H dx (exd dx [("code", x)])) a (exo a T.C_Fault (some dx))) a = some (exo a T.C_Fault (some dx)) := upd_same
    have e2 : (upd (upd H dx (exd dx [("code", x)])) a (exo a T.C_Fault (some dx))) dx = some (exd dx [("code", x)]) := by rw [upd_ne ne]; exact upd_same
    have k : Keep a H (upd (upd H dx (exd dx [("code", x)])) a (exo a T.C_Fault (some dx))) := ((Keep.refl a H).new hdx).upd
    refine ⟨y, rfl, .ref a, rfl, a, T.C_Fault, rfl, T.oe_Fault, T.n_Fault_at, .inr ⟨dx, _, e1, e2, (show 1 ≤ 900 by decide), ?_⟩⟩
    refine q _ dx (fun b o hb e => ?_) hdx (by rw [upd_ne (Ne.symm ne)]; exact e1) upd_same
    rw [upd_ne (fun z => by rw [z, hdx] at e; cases e)]
    exact k b o hb e
end
/-- what is known where a Fault leaves: its class, its code and place -/
def Flt (C : Addr) (code at_ : Int) (H : Hp) (E : XK) : Prop := ∀ (H' : Hp) (d : Addr), Same H H' → H d = none → H' d = some (.xd [("at", .int at_), ("code", .int code)]) → E (.ref C) (some d) H'
theorem raiseF {C : Addr} {x y : Int} {H : Hp} {E : XK} (fx : Fm (.int x)) (fy : Fm (.int y)) (q : Flt C x y H E) : ∀ a, H a = none → spFI C "code" "at" (.ref a :: ([.int x, .int y] ++ [])) (upd H a (exo a C none))
    (fun v H2 => v = .non ∧ ∃ (d : Addr) (fs : List (Str × V)), H2 a = some (exo a C (some d)) ∧ H2 d = some (exd d fs) ∧ H d = none ∧ E (.ref C) (some d) (upd (del H2 a) d (.xd fs))) (fun _ _ _ => False) := fun a ha => by
  refine ⟨a, .int x, .int y, rfl, upd_same, fx, fy, fun H' d k hd e1 e2 => ⟨rfl, d, _, e1, e2, ?_, ?_⟩⟩
  · by_cases z : d = a
    · rw [z]; exact ha
    · rw [upd_ne z] at hd; exact hd
  · have nda : d ≠ a := fun z => by rw [z, upd_same] at hd; cases hd
    have hd' : H d = none := by rw [upd_ne nda] at hd; exact hd
    refine q _ d (fun b o e => ?_) hd' upd_same
    have nba : b ≠ a := fun z => by rw [z, ha] at e; cases e
    have nbd : b ≠ d := fun z => by rw [z, hd'] at e; cases e
    rw [upd_ne nbd, del_ne nba]
    exact k b o nba (by rw [upd_ne nba]; exact e)

/-! ### sizes -/
def szB (n : Int) : List Int := if n < 250 then [n] else if n < 65536 then [250, n / 256, n % 256] else [251, n / 65536, n / 256 % 256, n % 256]
inductive SR
  | non
  | pair (n b : Int)
  | flt (k : Int)
def szTwo (ns : List Int) (i : Nat) (z : Int) : SR := match ns[i]?, ns[i + 1]? with
  | some x, some y => if x * 256 + y < 250 then .flt (z + 1) else .pair (x * 256 + y) (z + 2)
  | _, _ => .non
def szThree (ns : List Int) (i : Nat) (z : Int) : SR := match ns[i]? with
  | none => .non
  | some x => if x = 0 then .flt z else match ns[i + 1]?, ns[i + 2]? with
    | some y, some v => .pair (x * 65536 + y * 256 + v) (z + 3)
    | _, _ => .non
def szAt (ns : List Int) (i : Nat) (z : Int) : SR := match ns[i]? with
  | none => .non
  | some f => if f < 250 then .pair f (z + 1) else if f = 250 then szTwo ns (i + 1) (z + 1) else if f = 251 then szThree ns (i + 1) (z + 1) else .flt z
/-- a list or a tuple -/
def Sq2 (K : PySem.W.Frag) (H : Hp) (a : Addr) (xs : List V) : Prop := SqL K H a xs ∨ SqT K H a xs
theorem Sq2.same {K : PySem.W.Frag} {H H' : Hp} {a : Addr} {xs : List V} (h : Sq2 K H a xs) (s : Same H H') : Sq2 K H' a xs := by
  rcases h with h | h
  · exact .inl (s.seq h)
  · exact .inr (Same.seqT s h)
theorem ix2 {K : PySem.W.Frag} {H : Hp} {a : Addr} {xs : List V} {i : Int} {v : V} {Q : VK} (h : Sq2 K H a xs) (e : atI xs i = some v) (q : Q v H) : rIx K (.ref a) (.int i) H Q := by
  rcases h with h | h
  · exact .inl ⟨a, xs, i, v, rfl, rfl, h, e, q⟩
  · exact .inr (.inl ⟨a, xs, i, v, rfl, rfl, h, e, q⟩)
theorem at_ints {ns : List Int} {i : Nat} {x : Int} (h : ns[i]? = some x) : atI (ns.map V.int) (i : Int) = some (.int x) := atI_nat (by rw [List.getElem?_map, h]; rfl)
theorem get_of_lt {ns : List Int} {i : Nat} (h : i < ns.length) : ∃ x, ns[i]? = some x ∧ x ∈ ns := ⟨ns[i], List.getElem?_eq_getElem h, List.getElem_mem h⟩
theorem get_none {ns : List Int} {i : Nat} (h : ns.length ≤ i) : ns[i]? = none := List.getElem?_eq_none h
def SA (C : Addr) (r : SR) (H : Hp) (Q : VK) (E : XK) : Prop := match r with
  | .non => Q .non H
  | .pair n b => ∀ p, H p = none → Q (.ref p) (upd H p (.tup [.int n, .int b]))
  | .flt k => Flt C 12 k H E
section
variable {P : Program} {w : World} {K : PySem.W.Frag} {mg : Str → Option Value} {base : Heap}
def spSB : Sp := fun vs H Q _ => ∃ n : Int, vs = [.int n] ∧ ∀ p, H p = none → Q (.ref p) (upd H p (.lst ((szB n).map V.int)))
theorem ok_size_bytes (T : Tx K mg) : FnOk P w K mg base CX0 1 T.f_size_bytes T.fd_size_bytes ["size"] spSB := by
  refine T.F_size_bytes.ok sc_size_bytes (fun vs H Q E h => ?_) (fun cdv A outer s H vs Q E hr h => ?_)
  · obtain ⟨n, rfl, _⟩ := h
    rfl
  · obtain ⟨n, rfl, q⟩ := h
    refine ⟨_, (pss_cons (ps_if (pt_cmpR op_lt (pv 0) (pe_glob (v := .int 250) (by rfl) T.g_TWO_FOLLOW ⟨_, rfl⟩) (nomark _)) (pss_one (ps_ret (pe_lst (pa_cons (pv 0) pa_nil)))) pss_nil)
      (pss_cons (ps_if (pt_cmpR op_lt (pv 0) pe_int (nomark _)) (pss_one (ps_ret (pe_lst (pa_cons (pe_glob (v := .int 250) (by rfl) T.g_TWO_FOLLOW ⟨_, rfl⟩) (pa_cons (pe_op op_fdiv (pv 0) pe_int) (pa_cons (pe_op op_mod (pv 0) pe_int) pa_nil)))))) pss_nil)
      (pss_one (ps_ret (pe_lst (pa_cons (pe_glob (v := .int 251) (by rfl) T.g_THREE_FOLLOW ⟨_, rfl⟩) (pa_cons (pe_op op_fdiv (pv 0) pe_int) (pa_cons (pe_op op_mod (pe_op op_fdiv (pv 0) pe_int) pe_int) (pa_cons (pe_op op_mod (pv 0) pe_int) pa_nil))))))))), ?_⟩
    refine ⟨.int n, rfl, n, 250, rfl, rfl, _, rfl, ite2 (fun e => ?_) (fun e => ?_)⟩
    · have h1 : n < 250 := of_decide_eq_true e
      refine ⟨.int n, rfl, by show 1 ≤ sizeLine; decide, fun p hp => ?_⟩
      have e2 : szB n = [n] := if_pos h1
      rw [e2] at q
      exact q p hp
    · have h1 : ¬ n < 250 := fun z => e (decide_eq_true z)
      refine ⟨.int n, rfl, n, 65536, rfl, rfl, _, rfl, ite2 (fun e => ?_) (fun e => ?_)⟩
      · have h2 : n < 65536 := of_decide_eq_true e
        refine ⟨.int n, rfl, n, 256, rfl, rfl, ⟨by decide, by decide⟩, .int n, rfl, n, 256, rfl, rfl, (by show (0 : Int) < _; decide), by show 3 ≤ sizeLine; decide, fun p hp => ?_⟩
        have e2 : szB n = [250, n / 256, n % 256] := by
          unfold szB
          rw [if_neg h1, if_pos h2]
        rw [e2] at q
        exact q p hp
      · have h2 : ¬ n < 65536 := fun z => e (decide_eq_true z)
        refine ⟨.int n, rfl, n, 65536, rfl, rfl, ⟨by decide, by decide⟩, .int n, rfl, n, 256, rfl, rfl, ⟨by decide, by decide⟩, _, 256, rfl, rfl, (by show (0 : Int) < _; decide), .int n, rfl, n, 256, rfl, rfl, (by show (0 : Int) < _; decide), by show 4 ≤ sizeLine; decide, fun p hp => ?_⟩
        have e2 : szB n = [251, n / 65536, n / 256 % 256, n % 256] := by
          unfold szB
          rw [if_neg h1, if_neg h2]
        rw [e2] at q
        exact q p hp
def spSA (K : PySem.W.Frag) (C : Addr) (r : List Int → Nat → Int → SR) : Sp := fun vs H Q E => ∃ (a : Addr) (ns : List Int) (i : Nat) (z : Int), vs = [.ref a, .int z] ∧ z = (i : Int) ∧ Sq2 K H a (ns.map V.int) ∧ Bts ns ∧ ns.length ≤ 1000000 ∧ i ≤ ns.length ∧ SA C (r ns i z) H Q E
theorem fm_int {z : Int} (h0 : 0 ≤ z) (h1 : z < 10 ^ 10) : Fm (.int z) := .inr ⟨z, rfl, h0, h1⟩
theorem ok_size_of_two (T : Tx K mg) : FnOk P w K mg base (L2.CX P w) 3 T.f_size_of_two T.fd_size_of_two ["codes", "at"] (spSA K T.C_Fault szTwo) := by
  refine T.F_size_of_two.okX sc_size_of_two (fun vs H Q E h => ?_) (fun cdv A outer s H vs Q E hr h => ?_)
  · obtain ⟨a, ns, i, z, rfl, _⟩ := h
    rfl
  · obtain ⟨a, ns, i, z, rfl, rfl, hS, hb, hl, hi, q⟩ := h
    refine ⟨_, (pss_cons (ps_if (pt_cmpR op_ge (pe_op op_add (pv 1) pe_int) (pe_callB call_len_seq (by rfl) T.m_len (by decide +kernel) (pa_cons (pv 0) pa_nil)) (nomark _)) (pss_one (ps_ret pe_non)) pss_nil)
      (pss_cons (ps_set (i := 2) sc_size_of_two.nd rfl (.inl rfl) (pe_op op_add (pe_op op_mul (pe_ix (r := rIx K) ix_seq (pv 0) (pv 1) (fun _ _ => rfl)) pe_int) (pe_ix (r := rIx K) ix_seq (pv 0) (pe_op op_add (pv 1) pe_int) (fun _ _ => rfl))))
      (pss_cons (ps_if (pt_cmpR op_lt (pv 2) (pe_glob (v := .int 250) (by rfl) T.g_TWO_FOLLOW ⟨_, rfl⟩) (nomark _)) (pss_one (ps_raise rfl (takes_of rfl rfl rfl rfl) (pmk_oex (oex_of T.oe_Fault rfl) T.i_Fault T.t_Fault (ok_Fault T) (hr.mono (by omega)) T.b_Fault .nil pass0 (by rfl) T.g_Fault (pa_cons (pe_glob (v := .int 12) (by rfl) T.g_SIZE ⟨_, rfl⟩) (pa_cons (pe_op op_add (pv 1) pe_int) pa_nil))))) pss_nil)
      (pss_one (ps_ret (pe_tup (pa_cons (pv 2) (pa_cons (pe_op op_add (pv 1) pe_int) pa_nil)))))))), ?_⟩
    refine ⟨.int (i : Int), rfl, (i : Int), 1, rfl, rfl, .ref a, rfl, a, _, rfl, hS, _, _, rfl, rfl, _, rfl, ite2 (fun e => ?_) (fun e => ?_)⟩
    · have h1 : ((ns.map V.int).length : Int) ≤ (i : Int) + 1 := of_decide_eq_true e
      rw [List.length_map] at h1
      have e2 : szTwo ns i (i : Int) = .non := by
        unfold szTwo
        rw [get_none (i := i + 1) (by omega)]
        cases ns[i]? <;> rfl
      rw [e2] at q
      exact q
    · have h1 : ¬ ((ns.map V.int).length : Int) ≤ (i : Int) + 1 := fun z => e (decide_eq_true z)
      rw [List.length_map] at h1
      obtain ⟨x, hx, mx⟩ := get_of_lt (ns := ns) (i := i) (by omega)
      obtain ⟨y, hy, my⟩ := get_of_lt (ns := ns) (i := i + 1) (by omega)
      have bx := hb x mx
      have by_ := hb y my
      refine ⟨.ref a, rfl, .int (i : Int), rfl, ix2 hS (at_ints hx) ⟨x, 256, rfl, rfl, .inr ⟨by decide, by decide⟩, .ref a, rfl, .int (i : Int), rfl, (i : Int), 1, rfl, rfl, ix2 hS (at_ints hy) ⟨_, _, rfl, rfl, ?_⟩⟩⟩
      refine ⟨_, rfl, _, 250, rfl, rfl, _, rfl, ite2 (fun e => ?_) (fun e => ?_)⟩
      · have h2 : x * 256 + y < 250 := of_decide_eq_true e
        have e2 : szTwo ns i (i : Int) = .flt ((i : Int) + 1) := by
          unfold szTwo
          rw [hx, hy]
          exact if_pos h2
        rw [e2] at q
        exact ⟨.int (i : Int), rfl, (i : Int), 1, rfl, rfl, (by decide : 2 ≤ 1000), raiseF (fm_int (by decide) (by decide)) (fm_int (by omega) (by omega)) q⟩
      · have h2 : ¬ x * 256 + y < 250 := fun z => e (decide_eq_true z)
        have e2 : szTwo ns i (i : Int) = .pair (x * 256 + y) ((i : Int) + 2) := by
          unfold szTwo
          rw [hx, hy]
          exact if_neg h2
        rw [e2] at q
        exact ⟨_, rfl, .int (i : Int), rfl, (i : Int), 2, rfl, rfl, (by show 2 ≤ sizeLine; decide), q⟩
theorem ok_size_of_three (T : Tx K mg) : FnOk P w K mg base (L2.CX P w) 3 T.f_size_of_three T.fd_size_of_three ["codes", "at"] (spSA K T.C_Fault szThree) := by
  refine T.F_size_of_three.okX sc_size_of_three (fun vs H Q E h => ?_) (fun cdv A outer s H vs Q E hr h => ?_)
  · obtain ⟨a, ns, i, z, rfl, _⟩ := h
    rfl
  · obtain ⟨a, ns, i, z, rfl, rfl, hS, hb, hl, hi, q⟩ := h
    refine ⟨_, (pss_cons (ps_if (pw_and (pt_cmpR op_lt (pv 1) (pe_callB call_len_seq (by rfl) T.m_len (by decide +kernel) (pa_cons (pv 0) pa_nil)) (nomark _)) (pw_and1 (pt_cmpR op_eq (pe_ix (r := rIx K) ix_seq (pv 0) (pv 1) (fun _ _ => rfl)) pe_int (nomark _)))).pt (pss_one (ps_raise rfl (takes_of rfl rfl rfl rfl) (pmk_oex (oex_of T.oe_Fault rfl) T.i_Fault T.t_Fault (ok_Fault T) (hr.mono (by omega)) T.b_Fault .nil pass0 (by rfl) T.g_Fault (pa_cons (pe_glob (v := .int 12) (by rfl) T.g_SIZE ⟨_, rfl⟩) (pa_cons (pv 1) pa_nil))))) pss_nil)
      (pss_cons (ps_if (pt_cmpR op_ge (pe_op op_add (pv 1) pe_int) (pe_callB call_len_seq (by rfl) T.m_len (by decide +kernel) (pa_cons (pv 0) pa_nil)) (nomark _)) (pss_one (ps_ret pe_non)) pss_nil)
      (pss_one (ps_ret (pe_tup (pa_cons (pe_op op_add (pe_op op_add (pe_op op_mul (pe_ix (r := rIx K) ix_seq (pv 0) (pv 1) (fun _ _ => rfl)) pe_int) (pe_op op_mul (pe_ix (r := rIx K) ix_seq (pv 0) (pe_op op_add (pv 1) pe_int) (fun _ _ => rfl)) pe_int)) (pe_ix (r := rIx K) ix_seq (pv 0) (pe_op op_add (pv 1) pe_int) (fun _ _ => rfl))) (pa_cons (pe_op op_add (pv 1) pe_int) pa_nil))))))), ?_⟩
    refine ⟨.int (i : Int), rfl, .ref a, rfl, a, _, rfl, hS, _, _, rfl, rfl, _, rfl, ite2 (fun e => ?_) (fun e => ?_)⟩
    · have h1 : (i : Int) < ((ns.map V.int).length : Int) := of_decide_eq_true e
      rw [List.length_map] at h1
      obtain ⟨x, hx, mx⟩ := get_of_lt (ns := ns) (i := i) (by omega)
      have bx := hb x mx
      refine ⟨.ref a, rfl, .int (i : Int), rfl, ix2 hS (at_ints hx) ⟨rfl, _, rfl, ite2 (fun e => ?_) (fun e => ?_)⟩⟩
      · have h2 : x = 0 := V.int.inj (of_decide_eq_true e)
        have e2 : szThree ns i (i : Int) = .flt (i : Int) := by
          unfold szThree
          rw [hx]
          exact if_pos h2
        rw [e2] at q
        exact ⟨.int (i : Int), rfl, (by decide : 2 ≤ 1000), raiseF (fm_int (by decide) (by decide)) (fm_int (by omega) (by omega)) q⟩
      · have h2 : ¬ x = 0 := fun z => e (decide_eq_true (congrArg V.int z))
        refine ⟨.int (i : Int), rfl, (i : Int), 2, rfl, rfl, .ref a, rfl, a, _, rfl, hS, _, _, rfl, rfl, _, rfl, ite2 (fun e => ?_) (fun e => ?_)⟩
        · have h3 : ((ns.map V.int).length : Int) ≤ (i : Int) + 2 := of_decide_eq_true e
          rw [List.length_map] at h3
          have e2 : szThree ns i (i : Int) = .non := by
            unfold szThree
            rw [hx, get_none (i := i + 2) (by omega)]
            simp only [if_neg h2]
            cases ns[i + 1]? <;> rfl
          rw [e2] at q
          exact q
        · have h3 : ¬ ((ns.map V.int).length : Int) ≤ (i : Int) + 2 := fun z => e (decide_eq_true z)
          rw [List.length_map] at h3
          obtain ⟨y, hy, my⟩ := get_of_lt (ns := ns) (i := i + 1) (by omega)
          obtain ⟨v, hv, mv⟩ := get_of_lt (ns := ns) (i := i + 2) (by omega)
          have by_ := hb y my
          refine ⟨.ref a, rfl, .int (i : Int), rfl, ix2 hS (at_ints hx) ⟨x, 65536, rfl, rfl, .inr ⟨by decide, by decide⟩, .ref a, rfl, .int (i : Int), rfl, (i : Int), 1, rfl, rfl, ix2 hS (at_ints hy) ⟨y, 256, rfl, rfl, .inr ⟨by decide, by decide⟩, _, _, rfl, rfl, .ref a, rfl, .int (i : Int), rfl, (i : Int), 2, rfl, rfl, ix2 hS (at_ints hv) ⟨_, _, rfl, rfl, ?_⟩⟩⟩⟩
          have e2 : szThree ns i (i : Int) = .pair (x * 65536 + y * 256 + v) ((i : Int) + 3) := by
            unfold szThree
            rw [hx, hy, hv]
            exact if_neg h2
          rw [e2] at q
          exact ⟨.int (i : Int), rfl, (i : Int), 3, rfl, rfl, (by show 2 ≤ sizeLine; decide), q⟩
    · have h1 : ¬ (i : Int) < ((ns.map V.int).length : Int) := fun z => e (decide_eq_true z)
      rw [List.length_map] at h1
      refine ⟨.int (i : Int), rfl, (i : Int), 2, rfl, rfl, .ref a, rfl, a, _, rfl, hS, _, _, rfl, rfl, _, rfl, ite2 (fun e => ?_) (fun e => absurd (decide_eq_true (by rw [List.length_map]; omega)) e)⟩
      · have e2 : szThree ns i (i : Int) = .non := by
          unfold szThree
          rw [get_none (i := i) (by omega)]
        rw [e2] at q
        exact q
theorem ok_size_at (T : Tx K mg) : FnOk P w K mg base (L2.CX P w) 4 T.f_size_at T.fd_size_at ["codes", "at"] (spSA K T.C_Fault szAt) := by
  refine T.F_size_at.okX sc_size_at (fun vs H Q E h => ?_) (fun cdv A outer s H vs Q E hr h => ?_)
  · obtain ⟨a, ns, i, z, rfl, _⟩ := h
    rfl
  · obtain ⟨a, ns, i, z, rfl, rfl, hS, hb, hl, hi, q⟩ := h
    refine ⟨_, (pss_cons (ps_if (pt_cmpR op_ge (pv 1) (pe_callB call_len_seq (by rfl) T.m_len (by decide +kernel) (pa_cons (pv 0) pa_nil)) (nomark _)) (pss_one (ps_ret pe_non)) pss_nil)
      (pss_cons (ps_set (i := 2) sc_size_at.nd rfl (.inl rfl) (pe_ix (r := rIx K) ix_seq (pv 0) (pv 1) (fun _ _ => rfl)))
      (pss_cons (ps_if (pt_cmpR op_lt (pv 2) (pe_glob (v := .int 250) (by rfl) T.g_TWO_FOLLOW ⟨_, rfl⟩) (nomark _)) (pss_one (ps_ret (pe_tup (pa_cons (pv 2) (pa_cons (pe_op op_add (pv 1) pe_int) pa_nil))))) pss_nil)
      (pss_cons (ps_if (pt_cmpR op_eq (pv 2) (pe_glob (v := .int 250) (by rfl) T.g_TWO_FOLLOW ⟨_, rfl⟩) (nomark _)) (pss_one (ps_ret (pe_call (ok_size_of_two T) (hr.mono (by omega)) (by rfl) T.g_size_of_two T.F_size_of_two.kp T.b_size_of_two .nil (passes_call (takes_of rfl rfl rfl rfl) (fun _ _ _ _ h => h)) (pa_cons (pv 0) (pa_cons (pe_op op_add (pv 1) pe_int) pa_nil))))) pss_nil)
      (pss_cons (ps_if (pt_cmpR op_eq (pv 2) (pe_glob (v := .int 251) (by rfl) T.g_THREE_FOLLOW ⟨_, rfl⟩) (nomark _)) (pss_one (ps_ret (pe_call (ok_size_of_three T) (hr.mono (by omega)) (by rfl) T.g_size_of_three T.F_size_of_three.kp T.b_size_of_three .nil (passes_call (takes_of rfl rfl rfl rfl) (fun _ _ _ _ h => h)) (pa_cons (pv 0) (pa_cons (pe_op op_add (pv 1) pe_int) pa_nil))))) pss_nil)
      (pss_one (ps_raise rfl (takes_of rfl rfl rfl rfl) (pmk_oex (oex_of T.oe_Fault rfl) T.i_Fault T.t_Fault (ok_Fault T) (hr.mono (by omega)) T.b_Fault .nil pass0 (by rfl) T.g_Fault (pa_cons (pe_glob (v := .int 12) (by rfl) T.g_SIZE ⟨_, rfl⟩) (pa_cons (pv 1) pa_nil)))))))))), ?_⟩
    refine ⟨.int (i : Int), rfl, .ref a, rfl, a, _, rfl, hS, _, _, rfl, rfl, _, rfl, ite2 (fun e => ?_) (fun e => ?_)⟩
    · have h1 : ((ns.map V.int).length : Int) ≤ (i : Int) := of_decide_eq_true e
      rw [List.length_map] at h1
      have e2 : szAt ns i (i : Int) = .non := by
        unfold szAt
        rw [get_none (i := i) (by omega)]
      rw [e2] at q
      exact q
    · have h1 : ¬ ((ns.map V.int).length : Int) ≤ (i : Int) := fun z => e (decide_eq_true z)
      rw [List.length_map] at h1
      obtain ⟨x, hx, mx⟩ := get_of_lt (ns := ns) (i := i) (by omega)
      have e0 : szAt ns i (i : Int) = if x < 250 then .pair x ((i : Int) + 1) else if x = 250 then szTwo ns (i + 1) ((i : Int) + 1) else if x = 251 then szThree ns (i + 1) ((i : Int) + 1) else .flt (i : Int) := by
        unfold szAt
        rw [hx]
      rw [e0] at q
      refine ⟨.ref a, rfl, .int (i : Int), rfl, ix2 hS (at_ints hx) ⟨.int x, rfl, x, 250, rfl, rfl, _, rfl, ite2 (fun e => ?_) (fun e => ?_)⟩⟩
      · rw [if_pos (of_decide_eq_true e)] at q
        exact ⟨.int x, rfl, .int (i : Int), rfl, (i : Int), 1, rfl, rfl, (by show 2 ≤ sizeLine; decide), q⟩
      · rw [if_neg (fun z => e (decide_eq_true z))] at q
        refine ⟨.int x, rfl, rfl, _, rfl, ite2 (fun e => ?_) (fun e => ?_)⟩
        · rw [if_pos (V.int.inj (of_decide_eq_true e))] at q
          exact ⟨.ref a, rfl, .int (i : Int), rfl, (i : Int), 1, rfl, rfl, a, ns, i + 1, _, rfl, by omega, hS, hb, hl, by omega, q⟩
        · rw [if_neg (fun z => e (decide_eq_true (congrArg V.int z)))] at q
          refine ⟨.int x, rfl, rfl, _, rfl, ite2 (fun e => ?_) (fun e => ?_)⟩
          · rw [if_pos (V.int.inj (of_decide_eq_true e))] at q
            exact ⟨.ref a, rfl, .int (i : Int), rfl, (i : Int), 1, rfl, rfl, a, ns, i + 1, _, rfl, by omega, hS, hb, hl, by omega, q⟩
          · rw [if_neg (fun z => e (decide_eq_true (congrArg V.int z)))] at q
            exact ⟨.int (i : Int), rfl, (by decide : 2 ≤ 1000), raiseF (fm_int (by decide) (by decide)) (fm_int (by omega) (by omega)) q⟩
end

section
variable {P : Program} {w : World} {K : PySem.W.Frag} {mg : Str → Option Value} {base : Heap}
theorem ok_size (T : Tx K mg) : FnOk P w K mg base CX0 1 T.f_size T.fd_size ["_law_count"] spSB := by
  refine T.F_size.ok sc_size (fun vs H Q E h => ?_) (fun cdv A outer s H vs Q E hr h => ?_)
  · obtain ⟨n, rfl, _⟩ := h
    rfl
  · obtain ⟨n, rfl, q⟩ := h
    refine ⟨_, (pss_cons (ps_if (pt_cmpR op_lt (pv 0) pe_int (nomark _)) (pss_one (ps_ret (pe_lst (pa_cons (pv 0) pa_nil)))) pss_nil)
      (pss_cons (ps_if (pt_cmpR op_lt (pv 0) pe_int (nomark _)) (pss_one (ps_ret (pe_lst (pa_cons pe_int (pa_cons (pe_op op_fdiv (pv 0) pe_int) (pa_cons (pe_op op_mod (pv 0) pe_int) pa_nil)))))) pss_nil)
      (pss_one (ps_ret (pe_lst (pa_cons pe_int (pa_cons (pe_op op_fdiv (pv 0) pe_int) (pa_cons (pe_op op_mod (pe_op op_fdiv (pv 0) pe_int) pe_int) (pa_cons (pe_op op_mod (pv 0) pe_int) pa_nil))))))))), ?_⟩
    refine ⟨.int n, rfl, n, 250, rfl, rfl, _, rfl, ite2 (fun e => ?_) (fun e => ?_)⟩
    · have h1 : n < 250 := of_decide_eq_true e
      refine ⟨.int n, rfl, by show 1 ≤ sizeLine; decide, fun p hp => ?_⟩
      have e2 : szB n = [n] := if_pos h1
      rw [e2] at q
      exact q p hp
    · have h1 : ¬ n < 250 := fun z => e (decide_eq_true z)
      refine ⟨.int n, rfl, n, 65536, rfl, rfl, _, rfl, ite2 (fun e => ?_) (fun e => ?_)⟩
      · have h2 : n < 65536 := of_decide_eq_true e
        refine ⟨.int n, rfl, n, 256, rfl, rfl, ⟨by decide, by decide⟩, .int n, rfl, n, 256, rfl, rfl, (by show (0 : Int) < _; decide), by show 3 ≤ sizeLine; decide, fun p hp => ?_⟩
        have e2 : szB n = [250, n / 256, n % 256] := by
          unfold szB
          rw [if_neg h1, if_pos h2]
        rw [e2] at q
        exact q p hp
      · have h2 : ¬ n < 65536 := fun z => e (decide_eq_true z)
        refine ⟨.int n, rfl, n, 65536, rfl, rfl, ⟨by decide, by decide⟩, .int n, rfl, n, 256, rfl, rfl, ⟨by decide, by decide⟩, _, 256, rfl, rfl, (by show (0 : Int) < _; decide), .int n, rfl, n, 256, rfl, rfl, (by show (0 : Int) < _; decide), by show 4 ≤ sizeLine; decide, fun p hp => ?_⟩
        have e2 : szB n = [251, n / 65536, n / 256 % 256, n % 256] := by
          unfold szB
          rw [if_neg h1, if_neg h2]
        rw [e2] at q
        exact q p hp
end

/-! ### rows of the same, item by item -/
inductive SmAll (H : Hp) (n : Nat) : List V → List V → Prop
  | nil : SmAll H n [] []
  | cons {u v : V} {us vs : List V} : Sm H n u v → SmAll H n us vs → SmAll H n (u :: us) (v :: vs)
theorem SmAll.len {H : Hp} {n : Nat} {us vs : List V} (h : SmAll H n us vs) : us.length = vs.length := by
  induction h with
  | nil => rfl
  | cons _ _ ih => simp [ih]
theorem SmAll.get {H : Hp} {n : Nat} {us vs : List V} (h : SmAll H n us vs) : ∀ (i : Nat) (u v : V), us[i]? = some u → vs[i]? = some v → Sm H n u v := by
  induction h with
  | nil =>
    intro i u v h
    cases h
  | cons s _ ih =>
    intro i u v h1 h2
    cases i with
    | zero =>
      cases h1
      cases h2
      exact s
    | succ i => exact ih i u v h1 h2
theorem Sm.lst {H : Hp} {n : Nat} {a b : Addr} {xs ys : List V} (h1 : H a = some (.lst xs)) (h2 : H b = some (.lst ys)) (al : SmAll H n xs ys) (hm : xs.length ≤ 1000000) : Sm H (n + 1) (.ref a) (.ref b) :=
  .inr ⟨a, b, xs, ys, rfl, rfl, al.len, hm, al.get, .inl ⟨h1, h2⟩⟩
theorem Sm.tup {H : Hp} {n : Nat} {a b : Addr} {xs ys : List V} (h1 : H a = some (.tup xs)) (h2 : H b = some (.tup ys)) (al : SmAll H n xs ys) (hm : xs.length ≤ 1000000) : Sm H (n + 1) (.ref a) (.ref b) :=
  .inr ⟨a, b, xs, ys, rfl, rfl, al.len, hm, al.get, .inr ⟨h1, h2⟩⟩
theorem SmAll.flat {H : Hp} {n : Nat} : ∀ {xs : List V}, xs.all flatV = true → SmAll H n xs xs
  | [], _ => .nil
  | x :: xs, h => by
    rw [List.all_cons, Bool.and_eq_true] at h
    exact .cons (Sm.flat h.1) (SmAll.flat h.2)

/-! ### sizes there and back -/
theorem szB_bts {n : Int} (h0 : 0 ≤ n) (h1 : n < 16777216) : Bts (szB n) := by
  unfold szB
  split
  · intro x hx
    rw [List.mem_singleton.mp hx]
    omega
  · split
    · intro x hx
      simp only [List.mem_cons, List.not_mem_nil, or_false] at hx
      rcases hx with rfl | rfl | rfl <;> omega
    · intro x hx
      simp only [List.mem_cons, List.not_mem_nil, or_false] at hx
      rcases hx with rfl | rfl | rfl | rfl <;> omega
theorem szB_len (n : Int) : 1 ≤ (szB n).length ∧ (szB n).length ≤ 4 := by
  unfold szB
  split
  · exact ⟨by simp, by simp⟩
  · split
    · exact ⟨by simp, by simp⟩
    · exact ⟨by simp, by simp⟩
theorem get_mid {as l bs : List Int} {j : Nat} (h : j < l.length) : (as ++ l ++ bs)[as.length + j]? = l[j]? := by
  rw [List.append_assoc, List.getElem?_append_right (by omega), Nat.add_sub_cancel_left, List.getElem?_append_left h]
theorem szB_at {n : Int} (h0 : 0 ≤ n) (h1 : n < 16777216) (as bs : List Int) (z : Int) : szAt (as ++ szB n ++ bs) as.length z = .pair n (z + ((szB n).length : Int)) := by
  by_cases c1 : n < 250
  · have e : szB n = [n] := if_pos c1
    rw [e]
    have g0 : (as ++ [n] ++ bs)[as.length]? = some n := get_mid (j := 0) (by simp)
    unfold szAt
    rw [g0]
    exact if_pos c1
  · by_cases c2 : n < 65536
    · have e : szB n = [250, n / 256, n % 256] := by
        unfold szB
        rw [if_neg c1, if_pos c2]
      rw [e]
      have g0 : (as ++ [250, n / 256, n % 256] ++ bs)[as.length]? = some 250 := get_mid (j := 0) (by simp)
      have g1 : (as ++ [250, n / 256, n % 256] ++ bs)[as.length + 1]? = some (n / 256) := get_mid (j := 1) (by simp)
      have g2 : (as ++ [250, n / 256, n % 256] ++ bs)[as.length + 1 + 1]? = some (n % 256) := get_mid (j := 2) (by simp)
      unfold szAt szTwo
      rw [g0, g1, g2]
      have e1 : n / 256 * 256 + n % 256 = n := by omega
      simp only [e1, if_neg c1]
      rw [if_neg (by decide), if_pos trivial]
      exact congrArg _ (by show z + 1 + 2 = z + 3; omega)
    · have e : szB n = [251, n / 65536, n / 256 % 256, n % 256] := by
        unfold szB
        rw [if_neg c1, if_neg c2]
      rw [e]
      have g0 : (as ++ [251, n / 65536, n / 256 % 256, n % 256] ++ bs)[as.length]? = some 251 := get_mid (j := 0) (by simp)
      have g1 : (as ++ [251, n / 65536, n / 256 % 256, n % 256] ++ bs)[as.length + 1]? = some (n / 65536) := get_mid (j := 1) (by simp)
      have g2 : (as ++ [251, n / 65536, n / 256 % 256, n % 256] ++ bs)[as.length + 1 + 1]? = some (n / 256 % 256) := get_mid (j := 2) (by simp)
      have g3 : (as ++ [251, n / 65536, n / 256 % 256, n % 256] ++ bs)[as.length + 1 + 2]? = some (n % 256) := get_mid (j := 3) (by simp)
      unfold szAt szThree
      rw [g0, g1, g2, g3]
      have e1 : n / 65536 * 65536 + n / 256 % 256 * 256 + n % 256 = n := by omega
      have e2 : ¬ n / 65536 = 0 := by omega
      simp only [e1, if_neg e2]
      rw [if_neg (by decide), if_neg (by decide), if_pos trivial]
      exact congrArg _ (by show z + 1 + 3 = z + 4; omega)
/-- cut within -/
theorem szB_cut {n : Int} (h0 : 0 ≤ n) (h1 : n < 16777216) (as : List Int) (z : Int) {c : Nat} (c1 : c < (szB n).length) : szAt (as ++ (szB n).take c) as.length z = .non := by
  have none_at : ∀ j, c ≤ j → (as ++ (szB n).take c)[as.length + j]? = none := fun j hj => List.getElem?_eq_none (by rw [List.length_append, List.length_take]; omega)
  have some_at : ∀ j, j < c → (as ++ (szB n).take c)[as.length + j]? = (szB n)[j]? := fun j hj => by
    rw [List.getElem?_append_right (by omega), Nat.add_sub_cancel_left, List.getElem?_take, if_pos hj]
  by_cases d1 : n < 250
  · have e : (szB n).length = 1 := by rw [show szB n = [n] from if_pos d1]; rfl
    have : (as ++ (szB n).take c)[as.length]? = none := none_at 0 (by omega)
    unfold szAt
    rw [this]
  · by_cases d2 : n < 65536
    · have e : szB n = [250, n / 256, n % 256] := by
        unfold szB
        rw [if_neg d1, if_pos d2]
      rw [e] at none_at some_at c1 ⊢
      have hc : c < 3 := c1
      unfold szAt szTwo
      have n2 := none_at 2 (by omega)
      by_cases z0 : c = 0
      · rw [show (as ++ List.take c [250, n / 256, n % 256])[as.length]? = none from none_at 0 (by omega)]
      · rw [show (as ++ List.take c [250, n / 256, n % 256])[as.length]? = some 250 from some_at 0 (by omega)]
        rw [show (as ++ List.take c [250, n / 256, n % 256])[as.length + 1 + 1]? = none from n2]
        simp only
        rw [if_neg (by decide), if_pos trivial]
        cases (as ++ List.take c [250, n / 256, n % 256])[as.length + 1]? <;> rfl
    · have e : szB n = [251, n / 65536, n / 256 % 256, n % 256] := by
        unfold szB
        rw [if_neg d1, if_neg d2]
      rw [e] at none_at some_at c1 ⊢
      have hc : c < 4 := c1
      unfold szAt szThree
      have n3 := none_at 3 (by omega)
      by_cases z0 : c = 0
      · rw [show (as ++ List.take c [251, n / 65536, n / 256 % 256, n % 256])[as.length]? = none from none_at 0 (by omega)]
      · rw [show (as ++ List.take c [251, n / 65536, n / 256 % 256, n % 256])[as.length]? = some 251 from some_at 0 (by omega)]
        rw [show (as ++ List.take c [251, n / 65536, n / 256 % 256, n % 256])[as.length + 1 + 2]? = none from n3]
        simp only
        rw [if_neg (by decide), if_neg (by decide), if_pos trivial]
        by_cases z1 : c = 1
        · rw [show (as ++ List.take c [251, n / 65536, n / 256 % 256, n % 256])[as.length + 1]? = none from none_at 1 (by omega)]
        · rw [show (as ++ List.take c [251, n / 65536, n / 256 % 256, n % 256])[as.length + 1]? = some (n / 65536) from some_at 1 (by omega)]
          have e2 : ¬ n / 65536 = 0 := by omega
          simp only [if_neg e2]
          cases (as ++ List.take c [251, n / 65536, n / 256 % 256, n % 256])[as.length + 1 + 1]? <;> rfl

theorem cut_lo (ns : List Int) (c : Nat) : cutV (ns.map V.int) none (some (c : Int)) = (ns.take c).map V.int := by
  unfold cutV
  rw [HT.sIx_none, HT.sIx_nat, List.drop_zero, Nat.sub_zero, List.length_map, ← List.map_take]
  by_cases h : c ≤ ns.length
  · rw [Nat.min_eq_left h]
  · rw [Nat.min_eq_right (by omega), List.take_of_length_le (Nat.le_refl _), List.take_of_length_le (by omega)]
theorem cut_hi (ns : List Int) (c : Nat) (h : c ≤ ns.length) : cutV (ns.map V.int) (some (c : Int)) none = (ns.drop c).map V.int := by
  unfold cutV
  rw [HT.sIx_none, HT.sIx_nat, List.length_map, Nat.min_eq_left h, ← List.map_drop, List.take_of_length_le]
  rw [List.length_map, List.length_drop]
  exact Nat.le_refl _
end K3

set_option Elab.async false
set_option linter.all false
set_option maxRecDepth 100000
set_option maxHeartbeats 4000000
namespace K3
open PySem PySem.Spec PyProof.Rows L2
section
variable {P : Program} {w : World} {K : PySem.W.Frag} {mg : Str → Option Value} {base : Heap}
/-- a size, drawn -/
def spDrawn : Sp := fun vs H Q _ => ∃ (p : Addr) (a b c : Int), vs = [.ref p] ∧ H p = some (.lst [.int a, .int b, .int c]) ∧ 0 ≤ a ∧ 0 ≤ b ∧ b < 2 ^ 62 ∧ 0 ≤ c ∧ c < 2 ^ 39 ∧
  ∀ (H' : Hp) (a' c' n : Int), Keep p H H' → H' p = some (.lst [.int a', .int b, .int c']) → 0 ≤ a' → c ≤ c' → c' ≤ c + 2 → 0 ≤ n → n < 16777216 → Q (.int n) H'
theorem edges_in : ∀ n ∈ ([0, 1, 249, 250, 251, 255, 256, 257, 511, 512, 65279, 65280, 65535, 65536, 65537] ++ [16776960, 16777215] : List Int), 0 ≤ n ∧ n < 16777216 := by decide
theorem ok_drawn (T : Tx K mg) : FnOk P w K mg base CX0 3 T.f_drawn T.fd_drawn ["_law_box_here"] spDrawn := by
  refine T.F_drawn.ok sc_drawn (fun vs H Q E h => ?_) (fun cdv A outer s H vs Q E hr h => ?_)
  · obtain ⟨p, a, b, c, rfl, _⟩ := h
    rfl
  · obtain ⟨p, a, b, c, rfl, hB, a0, b0, b1, c0, c1, q⟩ := h
    refine ⟨_, (pss_cons (ps_set (i := 1) sc_drawn.nd rfl (.inl rfl) (pe_call (ok_take T) (hr.mono (by omega)) (by rfl) T.g_take T.F_take.kp T.b_take .nil pass0 (pa_cons (pv 0) (pa_cons pe_int pa_nil))))
      (pss_cons (ps_if (pt_cmpR op_eq (pv 1) pe_int (nomark _)) (pss_one (ps_ret (pe_call (ok_take T) (hr.mono (by omega)) (by rfl) T.g_take T.F_take.kp T.b_take .nil pass0 (pa_cons (pv 0) (pa_cons pe_int pa_nil))))) pss_nil)
      (pss_cons (ps_if (pt_cmpR op_eq (pv 1) pe_int (nomark _)) (pss_one (ps_ret (pe_op op_add pe_int (pe_call (ok_take T) (hr.mono (by omega)) (by rfl) T.g_take T.F_take.kp T.b_take .nil pass0 (pa_cons (pv 0) (pa_cons pe_int pa_nil)))))) pss_nil)
      (pss_cons (ps_if (pt_cmpR op_eq (pv 1) pe_int (nomark _)) (pss_one (ps_ret (pe_op op_add pe_int (pe_call (ok_take T) (hr.mono (by omega)) (by rfl) T.g_take T.F_take.kp T.b_take .nil pass0 (pa_cons (pv 0) (pa_cons (pe_op op_sub (pe_op op_pow pe_int pe_int) pe_int) pa_nil)))))) pss_nil)
      (pss_cons (ps_set (i := 2) sc_drawn.nd rfl (.inl rfl) (pe_lst (pa_cons pe_int (pa_cons pe_int (pa_cons pe_int (pa_cons pe_int (pa_cons pe_int (pa_cons pe_int (pa_cons pe_int (pa_cons pe_int (pa_cons pe_int (pa_cons pe_int (pa_cons pe_int (pa_cons pe_int (pa_cons pe_int (pa_cons pe_int (pa_cons pe_int pa_nil)))))))))))))))))
      (pss_cons (ps_set (i := 2) sc_drawn.nd rfl (.inl rfl) (pe_op op_cat (pv 2) (pe_lst (pa_cons (pe_op op_sub (pe_op op_pow pe_int pe_int) pe_int) (pa_cons (pe_op op_sub (pe_op op_pow pe_int pe_int) pe_int) pa_nil)))))
      (pss_one (ps_ret (pe_call (ok_of T) (hr.mono (by omega)) (by rfl) T.g_of T.F_of.kp T.b_of .nil pass0 (pa_cons (pv 0) (pa_cons (pv 2) pa_nil))))))))))), ?_⟩
    refine ⟨.ref p, rfl, p, a, b, c, 6, rfl, hB, a0, b0, b1, c0, by omega, by decide, by decide, fun a1 c1' w a10 cl1 cu1 w0 w1 => ?_⟩
    have kH1 : Keep p H (upd H p (.lst [.int a1, .int b, .int c1'])) := (Keep.refl p H).upd
    have eH1 : (upd H p (.lst [.int a1, .int b, .int c1'])) p = some (.lst [.int a1, .int b, .int c1']) := upd_same
    generalize upd H p (.lst [.int a1, .int b, .int c1']) = H1 at kH1 eH1 ⊢
    refine ⟨.int w, rfl, rfl, _, rfl, ite2 (fun e => ?_) (fun e => ?_)⟩
    · exact ⟨.ref p, rfl, p, a1, b, c1', 250, rfl, eH1, a10, b0, b1, by omega, by omega, by decide, by decide, fun a2 c2 r a20 cl cu r0 r1 => q _ a2 c2 r kH1.upd upd_same a20 (by omega) (by omega) r0 (by omega)⟩
    refine ⟨.int w, rfl, rfl, _, rfl, ite2 (fun e => ?_) (fun e => ?_)⟩
    · exact ⟨.ref p, rfl, p, a1, b, c1', 65286, rfl, eH1, a10, b0, b1, by omega, by omega, by decide, by decide, fun a2 c2 r a20 cl cu r0 r1 => ⟨250, r, rfl, rfl, q _ a2 c2 _ kH1.upd upd_same a20 (by omega) (by omega) (by omega) (by omega)⟩⟩
    refine ⟨.int w, rfl, rfl, _, rfl, ite2 (fun e => ?_) (fun e => ?_)⟩
    · refine ⟨.ref p, rfl, 2, 24, rfl, rfl, ⟨by decide, by decide, by decide⟩, _, 65536, rfl, rfl, p, a1, b, c1', _, rfl, eH1, a10, b0, b1, by omega, by omega, by decide, by decide, fun a2 c2 r a20 cl cu r0 r1' => ?_⟩
      have r1 : r < 16711680 := r1'
      exact ⟨65536, r, rfl, rfl, q _ a2 c2 _ kH1.upd upd_same a20 (by omega) (by omega) (by omega) (by omega)⟩
    refine ⟨by show 15 ≤ sizeLine; decide, fun l hl => ?_⟩
    have npl : p ≠ l := ne_of_none eH1 hl
    have sH2 : Same H1 (upd H1 l (.lst [.int 0, .int 1, .int 249, .int 250, .int 251, .int 255, .int 256, .int 257, .int 511, .int 512, .int 65279, .int 65280, .int 65535, .int 65536, .int 65537])) := same_upd hl
    have eH2 : (upd H1 l (.lst [.int 0, .int 1, .int 249, .int 250, .int 251, .int 255, .int 256, .int 257, .int 511, .int 512, .int 65279, .int 65280, .int 65535, .int 65536, .int 65537])) l = some (.lst [.int 0, .int 1, .int 249, .int 250, .int 251, .int 255, .int 256, .int 257, .int 511, .int 512, .int 65279, .int 65280, .int 65535, .int 65536, .int 65537]) := upd_same
    generalize upd H1 l (.lst [.int 0, .int 1, .int 249, .int 250, .int 251, .int 255, .int 256, .int 257, .int 511, .int 512, .int 65279, .int 65280, .int 65535, .int 65536, .int 65537]) = H2 at sH2 eH2 ⊢
    replace eH1 := sH2 _ _ eH1
    replace kH1 := kH1.trans (Same.k sH2)
    refine ⟨.ref l, rfl, 2, 24, rfl, rfl, ⟨by decide, by decide, by decide⟩, _, 256, rfl, rfl, 2, 24, rfl, rfl, ⟨by decide, by decide, by decide⟩, _, 1, rfl, rfl, (by show 2 ≤ sizeLine; decide), fun l2 hl2 => ?_⟩
    have sH3 : Same H2 (upd H2 l2 (.lst [.int (2 ^ Int.toNat 24 - 256), .int (2 ^ Int.toNat 24 - 1)])) := same_upd hl2
    have eH3 : (upd H2 l2 (.lst [.int (2 ^ Int.toNat 24 - 256), .int (2 ^ Int.toNat 24 - 1)])) l2 = some (.lst [.int (2 ^ Int.toNat 24 - 256), .int (2 ^ Int.toNat 24 - 1)]) := upd_same
    generalize upd H2 l2 (.lst [.int (2 ^ Int.toNat 24 - 256), .int (2 ^ Int.toNat 24 - 1)]) = H3 at sH3 eH3 ⊢
    replace eH1 := sH3 _ _ eH1
    replace eH2 := sH3 _ _ eH2
    replace kH1 := kH1.trans (Same.k sH3)
    refine ⟨l, l2, _, _, rfl, rfl, eH2, eH3, (by show 17 ≤ sizeLine; decide), fun l3 hl3 => ?_⟩
    have npl3 : p ≠ l3 := ne_of_none eH1 hl3
    have sH4 : Same H3 (upd H3 l3 (.lst ([.int 0, .int 1, .int 249, .int 250, .int 251, .int 255, .int 256, .int 257, .int 511, .int 512, .int 65279, .int 65280, .int 65535, .int 65536, .int 65537] ++ [.int (2 ^ Int.toNat 24 - 256), .int (2 ^ Int.toNat 24 - 1)]))) := same_upd hl3
    have eH4 : (upd H3 l3 (.lst ([.int 0, .int 1, .int 249, .int 250, .int 251, .int 255, .int 256, .int 257, .int 511, .int 512, .int 65279, .int 65280, .int 65535, .int 65536, .int 65537] ++ [.int (2 ^ Int.toNat 24 - 256), .int (2 ^ Int.toNat 24 - 1)]))) l3 = some (.lst ([.int 0, .int 1, .int 249, .int 250, .int 251, .int 255, .int 256, .int 257, .int 511, .int 512, .int 65279, .int 65280, .int 65535, .int 65536, .int 65537] ++ [.int (2 ^ Int.toNat 24 - 256), .int (2 ^ Int.toNat 24 - 1)])) := upd_same
    generalize upd H3 l3 (.lst ([.int 0, .int 1, .int 249, .int 250, .int 251, .int 255, .int 256, .int 257, .int 511, .int 512, .int 65279, .int 65280, .int 65535, .int 65536, .int 65537] ++ [.int (2 ^ Int.toNat 24 - 256), .int (2 ^ Int.toNat 24 - 1)])) = H4 at sH4 eH4 ⊢
    replace eH1 := sH4 _ _ eH1
    replace kH1 := kH1.trans (Same.k sH4)
    have e4 : H4 l3 = some (.lst (([0, 1, 249, 250, 251, 255, 256, 257, 511, 512, 65279, 65280, 65535, 65536, 65537] ++ [16776960, 16777215] : List Int).map V.int)) := eH4
    refine ⟨.ref p, rfl, .ref l3, rfl, p, l3, a1, b, c1', _, rfl, eH1, a10, b0, b1, by omega, by omega, Ne.symm npl3, e4, (by decide), (by decide), fun a2 c2 x a20 cl2 cu2 hx => ?_⟩
    obtain ⟨n, hn, rfl⟩ := List.mem_map.mp hx
    have hb := edges_in n hn
    exact q _ a2 c2 n kH1.upd upd_same a20 (by omega) (by omega) hb.1 hb.2
def spLaw (K : PySem.W.Frag) : Sp := fun vs H Q _ => ∃ (a : Addr) (ns : List Int), vs = [.ref a] ∧ SqL K H a (ns.map V.int) ∧ ns.length ≤ 63 ∧ ∀ H', Q (.bl true) H'
theorem ok_law {f : Addr} {fd : FuncData} (T : Tx K mg) (F : Fun K "law" "law" s_law f fd) : FnOk P w K mg base CX0 6 f fd ["_law_script"] (spLaw K) := by
  refine F.ok sc_law (fun vs H Q E h => ?_) (fun cdv A outer s H vs Q E hr h => ?_)
  · obtain ⟨a, ns, rfl, _⟩ := h
    rfl
  · obtain ⟨a, scr, rfl, hS, hlen, q⟩ := h
    refine ⟨_, (pss_cons (ps_for PassesOwn.never rfl (pi_range1 (by rfl) T.m_range (pa_cons (pe_op op_add pe_int (pe_callB (call_min2 rfl) (by rfl) T.m_min (by decide +kernel) (pa_cons pe_int (pa_cons (pe_callB call_len_seq (by rfl) T.m_len (by decide +kernel) (pa_cons (pv 0) pa_nil)) pa_nil)))) pa_nil)) (pg_name (i := 1) sc_law.nd rfl (.inl rfl)) (pss_cons (ps_set (i := 2) sc_law.nd rfl (.inl rfl) (pe_call (ok_box T) (hr.mono (by omega)) (by rfl) T.g_box T.F_box.kp T.b_box .nil pass0 (pa_cons (pv 0) (pa_cons (pv 1) pa_nil))))
      (pss_one (ps_for PassesOwn.never rfl (pi_range1 (by rfl) T.m_range (pa_cons pe_int pa_nil)) (pg_name (i := 3) sc_law.nd rfl (.inl rfl)) (pss_cons (ps_set (i := 4) sc_law.nd rfl (.inl rfl) (pe_call (ok_drawn T) (hr.mono (by omega)) (by rfl) T.g_drawn T.F_drawn.kp T.b_drawn .nil pass0 (pa_cons (pv 2) pa_nil)))
      (pss_cons (ps_par (i := 5) (j := 6) rfl sc_law.nd rfl rfl (by decide) rfl rfl (pa_cons (pe_call (ok_size T) (hr.mono (by omega)) (by rfl) T.g_size T.F_size.kp T.b_size .nil pass0 (pa_cons (pv 4) pa_nil)) (pa_cons (pe_call (ok_bytes T) (hr.mono (by omega)) (by rfl) T.g_bytes T.F_bytes.kp T.b_bytes .nil pass0 (pa_cons (pv 2) (pa_cons (pe_call (ok_take T) (hr.mono (by omega)) (by rfl) T.g_take T.F_take.kp T.b_take .nil pass0 (pa_cons (pv 2) (pa_cons pe_int pa_nil))) pa_nil))) pa_nil)) rfl)
      (pss_cons (ps_set (i := 7) sc_law.nd rfl (.inl rfl) (pe_lst (pa_cons (pe_call (ok_size_bytes T) (hr.mono (by omega)) (by rfl) T.g_size_bytes T.F_size_bytes.kp T.b_size_bytes .nil pass0 (pa_cons (pv 4) pa_nil)) (pa_cons (pe_callN0 (ok_size_bytes T) (hr.mono (by omega)) (by rfl) T.g_size_bytes T.F_size_bytes.kp T.kb_size_bytes_0_size pass0 (pk_cons (pv 4) pk_nil)) pa_nil))))
      (pss_cons (ps_if (pt_not (pt_val (pe_call (ok_same T 3) (hr.mono (by omega)) (by rfl) T.g_same T.F_same.kp T.b_same .nil pass0 (pa_cons (pv 7) (pa_cons (pe_lst (pa_cons (pv 5) (pa_cons (pv 5) pa_nil))) pa_nil))))) (pss_one (ps_ret pe_bl)) pss_nil)
      (pss_cons (ps_expr (pe_bm PySem.F.plainAttrs_list PySem.F.slot_list_append PySem.F.type_list_append mt_append (pe_ix (r := rIxL K) ix_list (pv 7) pe_int (fun _ _ => rfl)) (pa_cons pe_int pa_nil)))
      (pss_cons (ps_expr (pe_bm0 PySem.F.plainAttrs_list PySem.F.slot_list_reverse PySem.F.type_list_reverse mt_reverse (pe_ix (r := rIxL K) ix_list (pv 7) pe_int (fun _ _ => rfl))))
      (pss_cons (ps_par (i := 8) (j := 9) rfl sc_law.nd rfl rfl (by decide) rfl rfl (pa_cons (pe_op op_cat (pe_op op_cat (pv 6) (pv 5)) (pe_call (ok_bytes T) (hr.mono (by omega)) (by rfl) T.g_bytes T.F_bytes.kp T.b_bytes .nil pass0 (pa_cons (pv 2) (pa_cons (pe_call (ok_take T) (hr.mono (by omega)) (by rfl) T.g_take T.F_take.kp T.b_take .nil pass0 (pa_cons (pv 2) (pa_cons pe_int pa_nil))) pa_nil)))) (pa_cons (pe_callB call_len_seq (by rfl) T.m_len (by decide +kernel) (pa_cons (pv 6) pa_nil)) pa_nil)) rfl)
      (pss_cons (ps_par (i := 10) (j := 11) rfl sc_law.nd rfl rfl (by decide) rfl rfl (pa_cons (pe_callTy call_list_of (by rfl) T.m_list (by decide +kernel) (pa_cons (pv 8) pa_nil)) (pa_cons (pe_tup (pa_cons (pv 4) (pa_cons (pe_op op_add (pv 9) (pe_callB call_len_seq (by rfl) T.m_len (by decide +kernel) (pa_cons (pv 5) pa_nil))) pa_nil))) pa_nil)) rfl)
      (pss_cons (ps_set (i := 12) sc_law.nd rfl (.inl rfl) (pe_lst (pa_cons (pe_call (ok_size_at T) (hr.mono (by omega)) (by rfl) T.g_size_at T.F_size_at.kp T.b_size_at .nil passL (pa_cons (pv 8) (pa_cons (pv 9) pa_nil))) (pa_cons (pe_callN0 (ok_size_at T) (hr.mono (by omega)) (by rfl) T.g_size_at T.F_size_at.kp T.kb_size_at_0_at_codes passL (pk_cons (pv 9) (pk_cons (pe_callTy call_tuple_of (by rfl) T.m_tuple (by decide +kernel) (pa_cons (pv 8) pa_nil)) pk_nil))) (pa_cons (pe_call (ok_size_at T) (hr.mono (by omega)) (by rfl) T.g_size_at T.F_size_at.kp T.b_size_at .nil passL (pa_cons (pe_op op_cat (pv 6) (pv 5)) (pa_cons (pv 9) pa_nil))) pa_nil)))))
      (pss_cons (ps_if (pw_or (pt_not (pt_val (pe_call (ok_same T 3) (hr.mono (by omega)) (by rfl) T.g_same T.F_same.kp T.b_same .nil pass0 (pa_cons (pv 12) (pa_cons (pe_op op_rep (pe_lst (pa_cons (pv 11) pa_nil)) pe_int) pa_nil))))) (pw_or (pt_cmpR (op_neD hr.units) (pv 8) (pv 10) (nomark _)) (pw_or1 (pt_not (pt_val (pe_call (ok_same T 3) (hr.mono (by omega)) (by rfl) T.g_same T.F_same.kp T.b_same .nil pass0 (pa_cons (pe_call (ok_size_bytes T) (hr.mono (by omega)) (by rfl) T.g_size_bytes T.F_size_bytes.kp T.b_size_bytes .nil pass0 (pa_cons (pv 4) pa_nil)) (pa_cons (pv 5) pa_nil)))))))).pt (pss_one (ps_ret pe_bl)) pss_nil)
      (pss_one (ps_for PassesOwn.never rfl (pi_range2 (by rfl) T.m_range (pa_cons pe_int (pa_cons (pe_callB call_len_seq (by rfl) T.m_len (by decide +kernel) (pa_cons (pv 5) pa_nil)) pa_nil))) (pg_name (i := 13) sc_law.nd rfl (.inl rfl)) (pss_cons (ps_set (i := 14) sc_law.nd rfl (.inl rfl) (pe_op op_cat (pv 6) (pe_slice sl_list (pv 5) po_none (po_some (pv 13)))))
      (pss_one (ps_if (pw_or (pt_cmpR op_notN (pe_call (ok_size_at T) (hr.mono (by omega)) (by rfl) T.g_size_at T.F_size_at.kp T.b_size_at .nil passL (pa_cons (pv 14) (pa_cons (pv 9) pa_nil))) pe_non (nomark _)) (pw_or1 (pt_cmpR op_notN (pe_call (ok_size_at T) (hr.mono (by omega)) (by rfl) T.g_size_at T.F_size_at.kp T.b_size_at .nil passL (pa_cons (pe_callTy call_tuple_of (by rfl) T.m_tuple (by decide +kernel) (pa_cons (pv 14) pa_nil)) (pa_cons (pv 9) pa_nil))) pe_non (nomark _)))).pt (pss_one (ps_ret pe_bl)) pss_nil)))))))))))))))))))
      (pss_one (ps_ret pe_bl))), ?_⟩
    refine ⟨.ref a, rfl, a, _, rfl, .inl hS, _, _, rfl, 1, _, rfl, rfl, _, rfl, ?_, ?_, ?_⟩
    · split <;> omega
    · split <;> omega
    refine for_it walk_range (fun i σ Hc => ∃ (y1 y2 y3 y4 y5 y6 y7 y8 y9 yA yB yC yD yE : Option V), σ = [some (.ref a), y1, y2, y3, y4, y5, y6, y7, y8, y9, yA, yB, yC, yD, yE] ∧ Same H Hc) ⟨none, none, none, none, none, none, none, none, none, none, none, none, none, none, rfl, Same.refl H⟩ (fun _ _ _ _ _ => trivial) ?_ ?_
    · rintro i x σ Hc H' hi ⟨y1, y2, y3, y4, y5, y6, y7, y8, y9, yA, yB, yC, yD, yE, rfl, sm⟩ ⟨rfl, rfl⟩
      have hi8 : i ≤ 8 := by
        have : i < (1 + (if ((scr.map V.int).length : Int) < 7 then ((scr.map V.int).length : Int) else 7)).toNat := hi
        split at this <;> omega
      refine ⟨.ref a, rfl, .int (0 + (i : Int)), rfl, a, scr, _, rfl, sm.seq hS, by omega, by omega, fun p x y hp x0 y0 y1' => ?_⟩
      have hHp : H p = none := Same.free sm hp
      have sH0 : Same H' (upd H' p (.lst [.int x, .int y, .int 0])) := same_upd hp
      have eH0 : (upd H' p (.lst [.int x, .int y, .int 0])) p = some (.lst [.int x, .int y, .int 0]) := upd_same
      generalize upd H' p (.lst [.int x, .int y, .int 0]) = H0 at sH0 eH0 ⊢
      replace sm := sm.trans sH0
      refine ⟨6, rfl, by decide, by decide, ?_⟩
      refine for_it walk_range (fun j σ Hc => ∃ (y3 y4 y5 y6 y7 y8 y9 yA yB yC yD yE : Option V) (a' c' : Int), σ = [some (.ref a), some (.int (0 + (i : Int))), some (.ref p), y3, y4, y5, y6, y7, y8, y9, yA, yB, yC, yD, yE] ∧ Same H Hc ∧
          Hc p = some (.lst [.int a', .int y, .int c']) ∧ 0 ≤ a' ∧ 0 ≤ c' ∧ c' ≤ 100 * (j : Int)) ⟨_, _, _, _, _, _, _, _, _, _, _, _, x, 0, rfl, sm, eH0, x0, by decide, by decide⟩ (fun _ _ _ _ _ => trivial) ?_ ?_
      · rintro j xj σ Hc H' hj ⟨y3, y4, y5, y6, y7, y8, y9, yA, yB, yC, yD, yE, a6, c6, rfl, smc, ep, a60, c60, c61⟩ ⟨rfl, rfl⟩
        have hj6 : j < 6 := hj
        -- amount
        refine ⟨.ref p, rfl, p, a6, y, c6, rfl, ep, a60, y0, y1', c60, by omega, fun H1 a7 c7 n k1 e1 a70 cl7 cu7 n0 n1 => ?_⟩
        have hbt := szB_bts n0 n1
        have hln := szB_len n
        -- due, ahead
        refine ⟨.int n, rfl, n, rfl, fun d hd => ?_⟩
        have ndp : d ≠ p := (ne_of_none e1 hd).symm
        have sH2 : Same H1 (upd H1 d (.lst ((szB n).map V.int))) := same_upd hd
        have eH2 : (upd H1 d (.lst ((szB n).map V.int))) d = some (.lst ((szB n).map V.int)) := upd_same
        generalize upd H1 d (.lst ((szB n).map V.int)) = H2 at sH2 eH2 ⊢
        replace e1 := sH2 _ _ e1
        replace k1 := k1.trans (Same.k sH2)
        refine ⟨.ref p, rfl, .ref p, rfl, p, a7, y, c7, 9, rfl, e1, a70, y0, y1', by omega, by omega, by decide, by decide, fun a8 c8 m a80 cl8 cu8 m0 m1 => ?_⟩
        have kH3 : Keep p H2 (upd H2 p (.lst [.int a8, .int y, .int c8])) := (Keep.refl p H2).upd
        have eH3 : (upd H2 p (.lst [.int a8, .int y, .int c8])) p = some (.lst [.int a8, .int y, .int c8]) := upd_same
        generalize upd H2 p (.lst [.int a8, .int y, .int c8]) = H3 at kH3 eH3 ⊢
        replace eH2 := kH3 _ _ ndp eH2
        replace k1 := k1.trans kH3
        refine ⟨p, a8, y, c8, m, rfl, eH3, a80, y0, y1', by omega, by omega, m0, by omega, fun H4 g ns a9 c9 hg eg epb a90 cl9 cu9 k4 lg bg => ⟨_, _, rfl, ?_⟩⟩
        have ngp : g ≠ p := (ne_of_none eH3 hg).symm
        have ngd : g ≠ d := (ne_of_none eH2 hg).symm
        replace eH2 := k4 _ _ ndp eH2
        replace k1 := k1.trans k4
        -- told
        refine ⟨.int n, rfl, n, rfl, fun t1 ht1 => ?_⟩
        have npt1 := ne_of_none epb ht1
        have ft1 := Keep.free k1 ht1 (Ne.symm npt1)
        have ngt1 := ne_of_none eg ht1
        have ndt1 := ne_of_none eH2 ht1
        have sH5 : Same H4 (upd H4 t1 (.lst ((szB n).map V.int))) := same_upd ht1
        have eH5 : (upd H4 t1 (.lst ((szB n).map V.int))) t1 = some (.lst ((szB n).map V.int)) := upd_same
        generalize upd H4 t1 (.lst ((szB n).map V.int)) = H5 at sH5 eH5 ⊢
        replace epb := sH5 _ _ epb
        replace eg := sH5 _ _ eg
        replace eH2 := sH5 _ _ eH2
        replace k1 := k1.trans (Same.k sH5)
        refine ⟨.int n, rfl, rfl, rfl, n, rfl, fun t2 ht2 => ?_⟩
        have npt2 := ne_of_none epb ht2
        have ft2 := Keep.free k1 ht2 (Ne.symm npt2)
        have ngt2 := ne_of_none eg ht2
        have ndt2 := ne_of_none eH2 ht2
        have nt12 := ne_of_none eH5 ht2
        have sH6 : Same H5 (upd H5 t2 (.lst ((szB n).map V.int))) := same_upd ht2
        have eH6 : (upd H5 t2 (.lst ((szB n).map V.int))) t2 = some (.lst ((szB n).map V.int)) := upd_same
        generalize upd H5 t2 (.lst ((szB n).map V.int)) = H6 at sH6 eH6 ⊢
        replace epb := sH6 _ _ epb
        replace eg := sH6 _ _ eg
        replace eH2 := sH6 _ _ eH2
        replace eH5 := sH6 _ _ eH5
        replace k1 := k1.trans (Same.k sH6)
        refine ⟨by show 2 ≤ sizeLine; decide, fun tl htl => ?_⟩
        have nt1l := ne_of_none eH5 htl
        have nt2l := ne_of_none eH6 htl
        have sH7 : Same H6 (upd H6 tl (.lst [.ref t1, .ref t2])) := same_upd htl
        have eH7 : (upd H6 tl (.lst [.ref t1, .ref t2])) tl = some (.lst [.ref t1, .ref t2]) := upd_same
        generalize upd H6 tl (.lst [.ref t1, .ref t2]) = H7 at sH7 eH7 ⊢
        replace epb := sH7 _ _ epb
        replace eg := sH7 _ _ eg
        replace eH2 := sH7 _ _ eH2
        replace eH5 := sH7 _ _ eH5
        replace eH6 := sH7 _ _ eH6
        replace k1 := k1.trans (Same.k sH7)
        refine ⟨.ref tl, rfl, .ref d, rfl, .ref d, rfl, by show 2 ≤ sizeLine; decide, fun dl hdl => ?_⟩
        have sH8 : Same H7 (upd H7 dl (.lst [.ref d, .ref d])) := same_upd hdl
        have eH8 : (upd H7 dl (.lst [.ref d, .ref d])) dl = some (.lst [.ref d, .ref d]) := upd_same
        generalize upd H7 dl (.lst [.ref d, .ref d]) = H8 at sH8 eH8 ⊢
        replace epb := sH8 _ _ epb
        replace eg := sH8 _ _ eg
        replace eH2 := sH8 _ _ eH2
        replace eH5 := sH8 _ _ eH5
        replace eH6 := sH8 _ _ eH6
        replace eH7 := sH8 _ _ eH7
        replace k1 := k1.trans (Same.k sH8)
        refine ⟨.ref tl, .ref dl, rfl, Sm.lst eH7 eH8 (.cons (Sm.ints eH5 eH2 (by omega)) (.cons (Sm.ints eH6 eH2 (by omega)) .nil)) (by show 2 ≤ 1000000; decide), fun H9 s9 => ⟨true, rfl, ?_⟩⟩
        replace epb := s9 _ _ epb
        replace eg := s9 _ _ eg
        replace eH2 := s9 _ _ eH2
        replace eH5 := s9 _ _ eH5
        replace eH6 := s9 _ _ eH6
        replace eH7 := s9 _ _ eH7
        replace k1 := k1.trans (Same.k s9)
        -- told[0].append(0), told[1].reverse()
        refine ⟨.ref tl, rfl, tl, _, 0, .ref t1, rfl, rfl, sq1 eH7, rfl, .inl ⟨rfl, _, sq1 eH5⟩, t1, _, _, rfl, rfl, eH5, (by rw [List.length_map, sizeLine_eq]; omega), ?_⟩
        have kHA : Keep t1 H9 (upd H9 t1 (.lst ((szB n).map V.int ++ [.int 0]))) := (Keep.refl t1 H9).upd
        have eHA : (upd H9 t1 (.lst ((szB n).map V.int ++ [.int 0]))) t1 = some (.lst ((szB n).map V.int ++ [.int 0])) := upd_same
        generalize upd H9 t1 (.lst ((szB n).map V.int ++ [.int 0])) = HA at kHA eHA ⊢
        replace epb := kHA _ _ npt1 epb
        replace eg := kHA _ _ ngt1 eg
        replace eH2 := kHA _ _ ndt1 eH2
        replace eH6 := kHA _ _ (Ne.symm nt12) eH6
        replace eH7 := kHA _ _ (Ne.symm nt1l) eH7
        replace k1 := Keep.mut k1 kHA ft1
        refine ⟨.ref tl, rfl, tl, _, 1, .ref t2, rfl, rfl, sq1 eH7, rfl, .inl ⟨rfl, _, sq1 eH6⟩, t2, _, rfl, rfl, eH6, ?_⟩
        have kHB : Keep t2 HA (upd HA t2 (.lst ((szB n).map V.int).reverse)) := (Keep.refl t2 HA).upd
        have eHB : (upd HA t2 (.lst ((szB n).map V.int).reverse)) t2 = some (.lst ((szB n).map V.int).reverse) := upd_same
        generalize upd HA t2 (.lst ((szB n).map V.int).reverse) = HB at kHB eHB ⊢
        replace epb := kHB _ _ npt2 epb
        replace eg := kHB _ _ ngt2 eg
        replace eH2 := kHB _ _ ndt2 eH2
        replace k1 := Keep.mut k1 kHB ft2
        clear eH5 eH6 eH7 eHA eHB nt1l nt2l nt12 ft1 ft2 npt1 npt2 ngt1 ngt2 ndt1 ndt2 kHA kHB s9 sH8 eH8 sH7 sH6 sH5
        -- row, spot
        refine ⟨.ref g, rfl, .ref d, rfl, g, d, _, _, rfl, rfl, eg, eH2, (by rw [List.length_map, List.length_map, sizeLine_eq]; omega), fun r1 hr1 => ?_⟩
        have nr1p : r1 ≠ p := (ne_of_none epb hr1).symm
        have sHC : Same HB (upd HB r1 (.lst (ns.map V.int ++ (szB n).map V.int))) := same_upd hr1
        have eHC : (upd HB r1 (.lst (ns.map V.int ++ (szB n).map V.int))) r1 = some (.lst (ns.map V.int ++ (szB n).map V.int)) := upd_same
        generalize upd HB r1 (.lst (ns.map V.int ++ (szB n).map V.int)) = HC at sHC eHC ⊢
        replace epb := sHC _ _ epb
        replace eg := sHC _ _ eg
        replace eH2 := sHC _ _ eH2
        replace k1 := k1.trans (Same.k sHC)
        refine ⟨.ref p, rfl, .ref p, rfl, p, a9, y, c9, 9, rfl, epb, a90, y0, y1', by omega, by omega, by decide, by decide, fun b1 d1 m2 b10 dl1 du1 m20 m21 => ?_⟩
        have kHD : Keep p HC (upd HC p (.lst [.int b1, .int y, .int d1])) := (Keep.refl p HC).upd
        have eHD : (upd HC p (.lst [.int b1, .int y, .int d1])) p = some (.lst [.int b1, .int y, .int d1]) := upd_same
        generalize upd HC p (.lst [.int b1, .int y, .int d1]) = HD at kHD eHD ⊢
        replace eg := kHD _ _ ngp eg
        replace eH2 := kHD _ _ ndp eH2
        replace eHC := kHD _ _ nr1p eHC
        replace k1 := k1.trans kHD
        refine ⟨p, b1, y, d1, m2, rfl, eHD, b10, y0, y1', by omega, by omega, m20, by omega, fun HE g2 ns2 b2 d2 hg2 eg2 epc b20 dl2 du2 kE lg2 bg2 => ?_⟩
        replace eg := kE _ _ ngp eg
        replace eH2 := kE _ _ ndp eH2
        replace eHC := kE _ _ nr1p eHC
        replace k1 := k1.trans kE
        refine ⟨r1, g2, _, _, rfl, rfl, eHC, eg2, (by rw [List.length_append, List.length_map, List.length_map, List.length_map, sizeLine_eq]; omega), fun r hr2 => ?_⟩
        have sHF : Same HE (upd HE r (.lst (ns.map V.int ++ (szB n).map V.int ++ ns2.map V.int))) := same_upd hr2
        have eHF : (upd HE r (.lst (ns.map V.int ++ (szB n).map V.int ++ ns2.map V.int))) r = some (.lst (ns.map V.int ++ (szB n).map V.int ++ ns2.map V.int)) := upd_same
        generalize upd HE r (.lst (ns.map V.int ++ (szB n).map V.int ++ ns2.map V.int)) = HF at sHF eHF ⊢
        replace epc := sHF _ _ epc
        replace eg := sHF _ _ eg
        replace eH2 := sHF _ _ eH2
        replace k1 := k1.trans (Same.k sHF)
        refine ⟨.ref g, rfl, g, _, rfl, .inl (sq1 eg), _, _, rfl, ?_⟩
        rw [← List.map_append, ← List.map_append] at eHF
        -- kept, pair
        refine ⟨.ref r, rfl, r, _, rfl, .inl (sq1 eHF), fun kp hkp => ?_⟩
        have sHG : Same HF (upd HF kp (.lst ((ns ++ szB n ++ ns2).map V.int))) := same_upd hkp
        have eHG : (upd HF kp (.lst ((ns ++ szB n ++ ns2).map V.int))) kp = some (.lst ((ns ++ szB n ++ ns2).map V.int)) := upd_same
        generalize upd HF kp (.lst ((ns ++ szB n ++ ns2).map V.int)) = HG at sHG eHG ⊢
        replace epc := sHG _ _ epc
        replace eg := sHG _ _ eg
        replace eH2 := sHG _ _ eH2
        replace eHF := sHG _ _ eHF
        replace k1 := k1.trans (Same.k sHG)
        refine ⟨.int n, rfl, .int ((ns.map V.int).length : Int), rfl, .ref d, rfl, d, _, rfl, .inl (sq1 eH2), _, _, rfl, rfl, by show 2 ≤ sizeLine; decide, fun pr hpr => ⟨_, _, rfl, ?_⟩⟩
        have sHI : Same HG (upd HG pr (.tup [.int n, .int (((ns.map V.int).length : Int) + (((szB n).map V.int).length : Int))])) := same_upd hpr
        have eHI : (upd HG pr (.tup [.int n, .int (((ns.map V.int).length : Int) + (((szB n).map V.int).length : Int))])) pr = some (.tup [.int n, .int (((ns.map V.int).length : Int) + (((szB n).map V.int).length : Int))]) := upd_same
        generalize upd HG pr (.tup [.int n, .int (((ns.map V.int).length : Int) + (((szB n).map V.int).length : Int))]) = HI at sHI eHI ⊢
        replace epc := sHI _ _ epc
        replace eg := sHI _ _ eg
        replace eH2 := sHI _ _ eH2
        replace eHF := sHI _ _ eHF
        replace eHG := sHI _ _ eHG
        replace k1 := k1.trans (Same.k sHI)
        rw [List.length_map, List.length_map] at eHI
        have hall : Bts (ns ++ szB n ++ ns2) := fun x hx => by
          rcases List.mem_append.mp hx with hx | hx
          · rcases List.mem_append.mp hx with hx | hx
            · exact bg x hx
            · exact hbt x hx
          · exact bg2 x hx
        have hall2 : Bts (ns ++ szB n) := fun x hx => by
          rcases List.mem_append.mp hx with hx | hx
          · exact bg x hx
          · exact hbt x hx
        have hL : (ns ++ szB n ++ ns2).length ≤ 1000000 := by rw [List.length_append, List.length_append]; omega
        have hL2 : (ns ++ szB n).length ≤ 1000000 := by rw [List.length_append]; omega
        have hle : ns.length ≤ (ns ++ szB n ++ ns2).length := by rw [List.length_append, List.length_append]; omega
        have hle2 : ns.length ≤ (ns ++ szB n).length := by rw [List.length_append]; omega
        have hz : ((ns.map V.int).length : Int) = (ns.length : Int) := by rw [List.length_map]
        have hat2 : szAt (ns ++ szB n) ns.length (ns.length : Int) = .pair n ((ns.length : Int) + ((szB n).length : Int)) := by
          have := szB_at n0 n1 ns [] (ns.length : Int)
          rwa [List.append_nil] at this
        -- found
        refine ⟨.ref r, rfl, .int _, rfl, r, ns ++ szB n ++ ns2, ns.length, _, rfl, hz, .inl (sq1 eHF), hall, hL, hle, ?_⟩
        rw [hz, szB_at n0 n1]
        intro f1 hf1
        have sHJ : Same HI (upd HI f1 (.tup [.int n, .int ((ns.length : Int) + ((szB n).length : Int))])) := same_upd hf1
        have eHJ : (upd HI f1 (.tup [.int n, .int ((ns.length : Int) + ((szB n).length : Int))])) f1 = some (.tup [.int n, .int ((ns.length : Int) + ((szB n).length : Int))]) := upd_same
        generalize upd HI f1 (.tup [.int n, .int ((ns.length : Int) + ((szB n).length : Int))]) = HJ at sHJ eHJ ⊢
        replace epc := sHJ _ _ epc
        replace eg := sHJ _ _ eg
        replace eH2 := sHJ _ _ eH2
        replace eHF := sHJ _ _ eHF
        replace eHG := sHJ _ _ eHG
        replace eHI := sHJ _ _ eHI
        replace k1 := k1.trans (Same.k sHJ)
        refine ⟨.int _, rfl, .ref r, rfl, r, _, rfl, .inl ⟨sq1 eHF, fun tp htp => ?_⟩⟩
        have sHK : Same HJ (upd HJ tp (.tup ((ns ++ szB n ++ ns2).map V.int))) := same_upd htp
        have eHK : (upd HJ tp (.tup ((ns ++ szB n ++ ns2).map V.int))) tp = some (.tup ((ns ++ szB n ++ ns2).map V.int)) := upd_same
        generalize upd HJ tp (.tup ((ns ++ szB n ++ ns2).map V.int)) = HK at sHK eHK ⊢
        replace epc := sHK _ _ epc
        replace eg := sHK _ _ eg
        replace eH2 := sHK _ _ eH2
        replace eHF := sHK _ _ eHF
        replace eHG := sHK _ _ eHG
        replace eHI := sHK _ _ eHI
        replace eHJ := sHK _ _ eHJ
        replace k1 := k1.trans (Same.k sHK)
        refine ⟨rfl, rfl, tp, ns ++ szB n ++ ns2, ns.length, _, rfl, rfl, .inr (st1 eHK), hall, hL, hle, ?_⟩
        rw [szB_at n0 n1]
        intro f2 hf2
        have sHL : Same HK (upd HK f2 (.tup [.int n, .int ((ns.length : Int) + ((szB n).length : Int))])) := same_upd hf2
        have eHL : (upd HK f2 (.tup [.int n, .int ((ns.length : Int) + ((szB n).length : Int))])) f2 = some (.tup [.int n, .int ((ns.length : Int) + ((szB n).length : Int))]) := upd_same
        generalize upd HK f2 (.tup [.int n, .int ((ns.length : Int) + ((szB n).length : Int))]) = HL at sHL eHL ⊢
        replace epc := sHL _ _ epc
        replace eg := sHL _ _ eg
        replace eH2 := sHL _ _ eH2
        replace eHF := sHL _ _ eHF
        replace eHG := sHL _ _ eHG
        replace eHI := sHL _ _ eHI
        replace eHJ := sHL _ _ eHJ
        replace k1 := k1.trans (Same.k sHL)
        refine ⟨.ref g, rfl, .ref d, rfl, g, d, _, _, rfl, rfl, eg, eH2, (by rw [List.length_map, List.length_map, sizeLine_eq]; omega), fun r3 hr3 => ?_⟩
        have sHM : Same HL (upd HL r3 (.lst (ns.map V.int ++ (szB n).map V.int))) := same_upd hr3
        have eHM : (upd HL r3 (.lst (ns.map V.int ++ (szB n).map V.int))) r3 = some (.lst (ns.map V.int ++ (szB n).map V.int)) := upd_same
        generalize upd HL r3 (.lst (ns.map V.int ++ (szB n).map V.int)) = HM at sHM eHM ⊢
        replace epc := sHM _ _ epc
        replace eg := sHM _ _ eg
        replace eH2 := sHM _ _ eH2
        replace eHF := sHM _ _ eHF
        replace eHG := sHM _ _ eHG
        replace eHI := sHM _ _ eHI
        replace eHJ := sHM _ _ eHJ
        replace eHL := sHM _ _ eHL
        replace k1 := k1.trans (Same.k sHM)
        rw [← List.map_append] at eHM
        refine ⟨.int _, rfl, r3, ns ++ szB n, ns.length, _, rfl, rfl, .inl (sq1 eHM), hall2, hL2, hle2, ?_⟩
        rw [hat2]
        intro f3 hf3
        have sHN : Same HM (upd HM f3 (.tup [.int n, .int ((ns.length : Int) + ((szB n).length : Int))])) := same_upd hf3
        have eHN : (upd HM f3 (.tup [.int n, .int ((ns.length : Int) + ((szB n).length : Int))])) f3 = some (.tup [.int n, .int ((ns.length : Int) + ((szB n).length : Int))]) := upd_same
        generalize upd HM f3 (.tup [.int n, .int ((ns.length : Int) + ((szB n).length : Int))]) = HN at sHN eHN ⊢
        replace epc := sHN _ _ epc
        replace eg := sHN _ _ eg
        replace eH2 := sHN _ _ eH2
        replace eHF := sHN _ _ eHF
        replace eHG := sHN _ _ eHG
        replace eHI := sHN _ _ eHI
        replace eHJ := sHN _ _ eHJ
        replace eHL := sHN _ _ eHL
        replace k1 := k1.trans (Same.k sHN)
        refine ⟨by show 3 ≤ sizeLine; decide, fun fl hfl => ?_⟩
        have sHO : Same HN (upd HN fl (.lst [.ref f1, .ref f2, .ref f3])) := same_upd hfl
        have eHO : (upd HN fl (.lst [.ref f1, .ref f2, .ref f3])) fl = some (.lst [.ref f1, .ref f2, .ref f3]) := upd_same
        generalize upd HN fl (.lst [.ref f1, .ref f2, .ref f3]) = HO at sHO eHO ⊢
        replace epc := sHO _ _ epc
        replace eg := sHO _ _ eg
        replace eH2 := sHO _ _ eH2
        replace eHF := sHO _ _ eHF
        replace eHG := sHO _ _ eHG
        replace eHI := sHO _ _ eHI
        replace eHJ := sHO _ _ eHJ
        replace eHL := sHO _ _ eHL
        replace eHN := sHO _ _ eHN
        replace k1 := k1.trans (Same.k sHO)
        -- the test
        refine ⟨.ref fl, rfl, .ref pr, rfl, by show 1 ≤ sizeLine; decide, fun one hone => ?_⟩
        have sHP : Same HO (upd HO one (.lst [.ref pr])) := same_upd hone
        have eHP : (upd HO one (.lst [.ref pr])) one = some (.lst [.ref pr]) := upd_same
        generalize upd HO one (.lst [.ref pr]) = HP at sHP eHP ⊢
        replace epc := sHP _ _ epc
        replace eg := sHP _ _ eg
        replace eH2 := sHP _ _ eH2
        replace eHF := sHP _ _ eHF
        replace eHG := sHP _ _ eHG
        replace eHI := sHP _ _ eHI
        replace eHJ := sHP _ _ eHJ
        replace eHL := sHP _ _ eHL
        replace eHN := sHP _ _ eHN
        replace eHO := sHP _ _ eHO
        replace k1 := k1.trans (Same.k sHP)
        refine ⟨one, 3, _, rfl, rfl, eHP, by decide, by decide, by show 3 ≤ sizeLine; decide, fun pl hpl => ?_⟩
        have sHQ : Same HP (upd HP pl (.lst (List.replicate (Int.toNat 3) [V.ref pr]).flatten)) := same_upd hpl
        have eHQ : (upd HP pl (.lst (List.replicate (Int.toNat 3) [V.ref pr]).flatten)) pl = some (.lst (List.replicate (Int.toNat 3) [V.ref pr]).flatten) := upd_same
        generalize upd HP pl (.lst (List.replicate (Int.toNat 3) [V.ref pr]).flatten) = HQ at sHQ eHQ ⊢
        replace epc := sHQ _ _ epc
        replace eg := sHQ _ _ eg
        replace eH2 := sHQ _ _ eH2
        replace eHF := sHQ _ _ eHF
        replace eHG := sHQ _ _ eHG
        replace eHI := sHQ _ _ eHI
        replace eHJ := sHQ _ _ eHJ
        replace eHL := sHQ _ _ eHL
        replace eHN := sHQ _ _ eHN
        replace eHO := sHQ _ _ eHO
        replace k1 := k1.trans (Same.k sHQ)
        have eHQ' : HQ pl = some (.lst [.ref pr, .ref pr, .ref pr]) := eHQ
        refine ⟨.ref fl, .ref pl, rfl, Sm.lst eHO eHQ' (.cons (Sm.tup eHJ eHI (SmAll.flat rfl) (by show 2 ≤ 1000000; decide)) (.cons (Sm.tup eHL eHI (SmAll.flat rfl) (by show 2 ≤ 1000000; decide)) (.cons (Sm.tup eHN eHI (SmAll.flat rfl) (by show 2 ≤ 1000000; decide)) .nil))) (by show 3 ≤ 1000000; decide), fun HR sR => ⟨true, rfl, ?_⟩⟩
        replace epc := sR _ _ epc
        replace eg := sR _ _ eg
        replace eH2 := sR _ _ eH2
        replace eHF := sR _ _ eHF
        replace eHG := sR _ _ eHG
        replace k1 := k1.trans (Same.k sR)
        refine ⟨.ref r, rfl, .ref kp, rfl, _, _, dp_ints (sq1 eHF), dp_ints (sq1 eHG), shaped_ints _, shaped_ints _, _, rfl, ?_⟩
        rw [eqv_ints]
        refine ⟨.int n, rfl, n, rfl, fun u hu => ?_⟩
        have sHS : Same HR (upd HR u (.lst ((szB n).map V.int))) := same_upd hu
        have eHS : (upd HR u (.lst ((szB n).map V.int))) u = some (.lst ((szB n).map V.int)) := upd_same
        generalize upd HR u (.lst ((szB n).map V.int)) = HS at sHS eHS ⊢
        replace epc := sHS _ _ epc
        replace eg := sHS _ _ eg
        replace eH2 := sHS _ _ eH2
        replace k1 := k1.trans (Same.k sHS)
        refine ⟨.ref d, rfl, .ref u, .ref d, rfl, Sm.ints eHS eH2 (by omega), fun HT sT => ⟨true, rfl, ?_⟩⟩
        replace epc := sT _ _ epc
        replace eg := sT _ _ eg
        replace eH2 := sT _ _ eH2
        replace k1 := k1.trans (Same.k sT)
        -- cut within
        refine ⟨.ref d, rfl, d, _, rfl, .inl (sq1 eH2), 1, _, rfl, ⟨by decide, by decide, by rw [List.length_map]; omega, by rw [List.length_map]; omega⟩, ?_⟩
        refine for_it walk_range (fun l σ Hc => ∃ (yD yE : Option V), σ = [some (.ref a), some (.int (0 + (i : Int))), some (.ref p), some (.int (0 + (j : Int))), some (.int n), some (.ref d), some (.ref g), some (.ref tl), some (.ref r), some (.int (ns.length : Int)), some (.ref kp), some (.ref pr), some (.ref fl), yD, yE] ∧ Same HT Hc) ⟨_, _, rfl, Same.refl HT⟩ (fun _ _ _ _ _ => trivial) ?_ ?_
        · rintro l xl σ Hc H' hl ⟨yD, yE, rfl, sl⟩ ⟨rfl, rfl⟩
          have hl4 : l + 1 < (szB n).length := by
            have z : l < ((((szB n).map V.int).length : Int) - 1).toNat := hl
            rw [List.length_map] at z
            omega
          have gg := sl _ _ eg
          have gd := sl _ _ eH2
          refine ⟨.ref g, rfl, .ref d, rfl, .int (1 + (l : Int)), rfl, _, rfl, d, _, rfl, sq1 gd, fun cu hcu => ?_⟩
          have hcut : cutV ((szB n).map V.int) none (some (1 + (l : Int))) = ((szB n).take (l + 1)).map V.int := by
            rw [show (1 + (l : Int)) = ((l + 1 : Nat) : Int) by omega]
            exact cut_lo _ _
          have sG1 : Same H' (upd H' cu (.lst (cutV ((szB n).map V.int) none (some (1 + (l : Int)))))) := same_upd hcu
          have eG1 : (upd H' cu (.lst (cutV ((szB n).map V.int) none (some (1 + (l : Int)))))) cu = some (.lst (cutV ((szB n).map V.int) none (some (1 + (l : Int))))) := upd_same
          generalize upd H' cu (.lst (cutV ((szB n).map V.int) none (some (1 + (l : Int))))) = G1 at sG1 eG1 ⊢
          replace gg := sG1 _ _ gg
          replace sl := sl.trans sG1
          rw [hcut] at eG1
          refine ⟨g, cu, _, _, rfl, rfl, gg, eG1, (by rw [List.length_map, List.length_map, List.length_take, sizeLine_eq]; omega), fun so hso => ?_⟩
          have sG2 : Same G1 (upd G1 so (.lst (ns.map V.int ++ ((szB n).take (l + 1)).map V.int))) := same_upd hso
          have eG2 : (upd G1 so (.lst (ns.map V.int ++ ((szB n).take (l + 1)).map V.int))) so = some (.lst (ns.map V.int ++ ((szB n).take (l + 1)).map V.int)) := upd_same
          generalize upd G1 so (.lst (ns.map V.int ++ ((szB n).take (l + 1)).map V.int)) = G2 at sG2 eG2 ⊢
          replace sl := sl.trans sG2
          rw [← List.map_append] at eG2
          have hb3 : Bts (ns ++ (szB n).take (l + 1)) := fun x hx => by
            rcases List.mem_append.mp hx with hx | hx
            · exact bg x hx
            · exact hbt x (List.mem_of_mem_take hx)
          have hL3 : (ns ++ (szB n).take (l + 1)).length ≤ 1000000 := by rw [List.length_append, List.length_take]; omega
          have hle3 : ns.length ≤ (ns ++ (szB n).take (l + 1)).length := by rw [List.length_append]; omega
          refine ⟨.ref so, rfl, .int _, rfl, so, ns ++ (szB n).take (l + 1), ns.length, _, rfl, rfl, .inl (sq1 eG2), hb3, hL3, hle3, ?_⟩
          rw [szB_cut n0 n1 _ _ hl4]
          refine ⟨rfl, _, rfl, ?_⟩
          refine ⟨.ref so, rfl, so, _, rfl, .inl ⟨sq1 eG2, fun tq htq => ?_⟩⟩
          have sG3 : Same G2 (upd G2 tq (.tup ((ns ++ (szB n).take (l + 1)).map V.int))) := same_upd htq
          have eG3 : (upd G2 tq (.tup ((ns ++ (szB n).take (l + 1)).map V.int))) tq = some (.tup ((ns ++ (szB n).take (l + 1)).map V.int)) := upd_same
          generalize upd G2 tq (.tup ((ns ++ (szB n).take (l + 1)).map V.int)) = G3 at sG3 eG3 ⊢
          replace sl := sl.trans sG3
          refine ⟨.int _, rfl, tq, ns ++ (szB n).take (l + 1), ns.length, _, rfl, rfl, .inr (st1 eG3), hb3, hL3, hle3, ?_⟩
          rw [szB_cut n0 n1 _ _ hl4]
          refine ⟨rfl, _, rfl, ?_⟩
          exact ⟨_, _, rfl, sl⟩
        · rintro σ Hc ⟨yD, yE, rfl, sl⟩
          refine ⟨_, _, _, _, _, _, _, _, _, _, _, _, b2, d2, rfl, Same.keep smc (k1.trans (Same.k sl)) hHp, sl _ _ epc, b20, by omega, by omega⟩
      · rintro σ Hc ⟨y3, y4, y5, y6, y7, y8, y9, yA, yB, yC, yD, yE, a6, c6, rfl, smc, ep, a60, c60, c61⟩
        exact ⟨_, _, _, _, _, _, _, _, _, _, _, _, _, _, rfl, smc⟩
    · rintro σ Hc ⟨y1, y2, y3, y4, y5, y6, y7, y8, y9, yA, yB, yC, yD, yE, rfl, sm⟩
      exact q _
end
end K3

set_option Elab.async false
set_option linter.all false
set_option maxRecDepth 100000
set_option maxHeartbeats 4000000
namespace K3
open PySem PySem.Spec PyProof.Rows L2

theorem vals_rev : ∀ {xs : List V} {us : List Value}, Vals xs us → Vals xs.reverse us.reverse
  | _, _, .nil => .nil
  | _, _, .cons r t => by
    rw [List.reverse_cons, List.reverse_cons]
    exact (vals_rev t).append (.cons r .nil)
theorem mk_kb_size_bytes_0_size {K : PySem.W.Frag} {f : Addr} {fd : FuncData} (F : Fun K "size_bytes" "size_bytes" s_size_bytes f fd) : KBn K fd ["size"] 0 ["size"] (fun us ws => us ++ ws) (fun vs zs => vs ++ zs) := by
  obtain ⟨oc, od, kV, doc, pm, an, cdv, ct, osl, rfl, lk, hcd⟩ := F.ex
  exact ⟨fun s us ws _ h1 h2 => match us, ws, h1, h2 with | [], [_], _, _ => .of_eq rfl, fun r1 r2 => r1.append r2⟩
theorem mk_kb_size_at_0_at_codes {K : PySem.W.Frag} {f : Addr} {fd : FuncData} (F : Fun K "size_at" "size_at" s_size_at f fd) : KBn K fd ["codes", "at"] 0 ["at", "codes"] (fun us ws => us ++ ws.reverse) (fun vs zs => vs ++ zs.reverse) := by
  obtain ⟨oc, od, kV, doc, pm, an, cdv, ct, osl, rfl, lk, hcd⟩ := F.ex
  exact ⟨fun s us ws _ h1 h2 => match us, ws, h1, h2 with | [], [_, _], _, _ => .of_eq rfl, fun r1 r2 => r1.append (vals_rev r2)⟩
theorem all_mk {l : PySem.W.OpenLaw} {w : World} {K : PySem.W.Frag} {h : Heap} {mg : Str → Option Value} {fa f0 f1 f2 f3 f4 f5 f6 f7 f8 f9 f10 f11 f12 : Addr} (X : K.In h) (G : h.Ns mainGlobals mg) (hfa : mg "law" = some (.ref fa))
    {od0 an0 : Option Addr} {sl0 : Array (Option Value)} {oc0 kV0 dc0 pm0 cd0 ct0 : Value}
    (a0 : PySem.W.nsIn K mainGlobals "size_bytes" = some (some (.ref f0))) (l0 : K.lookup f0 = some ⟨oc0, od0, .func (PySem.W.fnOf "size_bytes" "size_bytes" (defArgs s_size_bytes) (defBody s_size_bytes) (defScope s_size_bytes) .none kV0 dc0 pm0 an0 cd0 ct0), sl0⟩) (c0 : PySem.W.codeIn K cd0 "size_bytes" = true) (k0 : PySem.W.keepIn K (.ref f0) = true)
    {od1 an1 : Option Addr} {sl1 : Array (Option Value)} {oc1 kV1 dc1 pm1 cd1 ct1 : Value}
    (a1 : PySem.W.nsIn K mainGlobals "size_of_two" = some (some (.ref f1))) (l1 : K.lookup f1 = some ⟨oc1, od1, .func (PySem.W.fnOf "size_of_two" "size_of_two" (defArgs s_size_of_two) (defBody s_size_of_two) (defScope s_size_of_two) .none kV1 dc1 pm1 an1 cd1 ct1), sl1⟩) (c1 : PySem.W.codeIn K cd1 "size_of_two" = true) (k1 : PySem.W.keepIn K (.ref f1) = true)
    {od2 an2 : Option Addr} {sl2 : Array (Option Value)} {oc2 kV2 dc2 pm2 cd2 ct2 : Value}
    (a2 : PySem.W.nsIn K mainGlobals "size_of_three" = some (some (.ref f2))) (l2 : K.lookup f2 = some ⟨oc2, od2, .func (PySem.W.fnOf "size_of_three" "size_of_three" (defArgs s_size_of_three) (defBody s_size_of_three) (defScope s_size_of_three) .none kV2 dc2 pm2 an2 cd2 ct2), sl2⟩) (c2 : PySem.W.codeIn K cd2 "size_of_three" = true) (k2 : PySem.W.keepIn K (.ref f2) = true)
    {od3 an3 : Option Addr} {sl3 : Array (Option Value)} {oc3 kV3 dc3 pm3 cd3 ct3 : Value}
    (a3 : PySem.W.nsIn K mainGlobals "size_at" = some (some (.ref f3))) (l3 : K.lookup f3 = some ⟨oc3, od3, .func (PySem.W.fnOf "size_at" "size_at" (defArgs s_size_at) (defBody s_size_at) (defScope s_size_at) .none kV3 dc3 pm3 an3 cd3 ct3), sl3⟩) (c3 : PySem.W.codeIn K cd3 "size_at" = true) (k3 : PySem.W.keepIn K (.ref f3) = true)
    {od4 an4 : Option Addr} {sl4 : Array (Option Value)} {oc4 kV4 dc4 pm4 cd4 ct4 : Value}
    (a4 : PySem.W.nsIn K mainGlobals "_law_cell_at" = some (some (.ref f4))) (l4 : K.lookup f4 = some ⟨oc4, od4, .func (PySem.W.fnOf "_law_cell_at" "_law_cell_at" (defArgs s_cell_at) (defBody s_cell_at) (defScope s_cell_at) .none kV4 dc4 pm4 an4 cd4 ct4), sl4⟩) (c4 : PySem.W.codeIn K cd4 "_law_cell_at" = true) (k4 : PySem.W.keepIn K (.ref f4) = true)
    {od5 an5 : Option Addr} {sl5 : Array (Option Value)} {oc5 kV5 dc5 pm5 cd5 ct5 : Value}
    (a5 : PySem.W.nsIn K mainGlobals "_law_box" = some (some (.ref f5))) (l5 : K.lookup f5 = some ⟨oc5, od5, .func (PySem.W.fnOf "_law_box" "_law_box" (defArgs s_box) (defBody s_box) (defScope s_box) .none kV5 dc5 pm5 an5 cd5 ct5), sl5⟩) (c5 : PySem.W.codeIn K cd5 "_law_box" = true) (k5 : PySem.W.keepIn K (.ref f5) = true)
    {od6 an6 : Option Addr} {sl6 : Array (Option Value)} {oc6 kV6 dc6 pm6 cd6 ct6 : Value}
    (a6 : PySem.W.nsIn K mainGlobals "_law_take" = some (some (.ref f6))) (l6 : K.lookup f6 = some ⟨oc6, od6, .func (PySem.W.fnOf "_law_take" "_law_take" (defArgs s_take) (defBody s_take) (defScope s_take) .none kV6 dc6 pm6 an6 cd6 ct6), sl6⟩) (c6 : PySem.W.codeIn K cd6 "_law_take" = true) (k6 : PySem.W.keepIn K (.ref f6) = true)
    {od7 an7 : Option Addr} {sl7 : Array (Option Value)} {oc7 kV7 dc7 pm7 cd7 ct7 : Value}
    (a7 : PySem.W.nsIn K mainGlobals "_law_same" = some (some (.ref f7))) (l7 : K.lookup f7 = some ⟨oc7, od7, .func (PySem.W.fnOf "_law_same" "_law_same" (defArgs s_same) (defBody s_same) (defScope s_same) .none kV7 dc7 pm7 an7 cd7 ct7), sl7⟩) (c7 : PySem.W.codeIn K cd7 "_law_same" = true) (k7 : PySem.W.keepIn K (.ref f7) = true)
    {od8 an8 : Option Addr} {sl8 : Array (Option Value)} {oc8 kV8 dc8 pm8 cd8 ct8 : Value}
    (a8 : PySem.W.nsIn K mainGlobals "_law_of" = some (some (.ref f8))) (l8 : K.lookup f8 = some ⟨oc8, od8, .func (PySem.W.fnOf "_law_of" "_law_of" (defArgs s_of) (defBody s_of) (defScope s_of) .none kV8 dc8 pm8 an8 cd8 ct8), sl8⟩) (c8 : PySem.W.codeIn K cd8 "_law_of" = true) (k8 : PySem.W.keepIn K (.ref f8) = true)
    {od9 an9 : Option Addr} {sl9 : Array (Option Value)} {oc9 kV9 dc9 pm9 cd9 ct9 : Value}
    (a9 : PySem.W.nsIn K mainGlobals "_law_bytes" = some (some (.ref f9))) (l9 : K.lookup f9 = some ⟨oc9, od9, .func (PySem.W.fnOf "_law_bytes" "_law_bytes" (defArgs s_bytes) (defBody s_bytes) (defScope s_bytes) .none kV9 dc9 pm9 an9 cd9 ct9), sl9⟩) (c9 : PySem.W.codeIn K cd9 "_law_bytes" = true) (k9 : PySem.W.keepIn K (.ref f9) = true)
    {od10 an10 : Option Addr} {sl10 : Array (Option Value)} {oc10 kV10 dc10 pm10 cd10 ct10 : Value}
    (a10 : PySem.W.nsIn K mainGlobals "_law_size" = some (some (.ref f10))) (l10 : K.lookup f10 = some ⟨oc10, od10, .func (PySem.W.fnOf "_law_size" "_law_size" (defArgs s_size) (defBody s_size) (defScope s_size) .none kV10 dc10 pm10 an10 cd10 ct10), sl10⟩) (c10 : PySem.W.codeIn K cd10 "_law_size" = true) (k10 : PySem.W.keepIn K (.ref f10) = true)
    {od11 an11 : Option Addr} {sl11 : Array (Option Value)} {oc11 kV11 dc11 pm11 cd11 ct11 : Value}
    (a11 : PySem.W.nsIn K mainGlobals "_law_drawn" = some (some (.ref f11))) (l11 : K.lookup f11 = some ⟨oc11, od11, .func (PySem.W.fnOf "_law_drawn" "_law_drawn" (defArgs s_drawn) (defBody s_drawn) (defScope s_drawn) .none kV11 dc11 pm11 an11 cd11 ct11), sl11⟩) (c11 : PySem.W.codeIn K cd11 "_law_drawn" = true) (k11 : PySem.W.keepIn K (.ref f11) = true)
    {od12 an12 : Option Addr} {sl12 : Array (Option Value)} {oc12 kV12 dc12 pm12 cd12 ct12 : Value}
    (a12 : PySem.W.nsIn K mainGlobals "law" = some (some (.ref f12))) (l12 : K.lookup f12 = some ⟨oc12, od12, .func (PySem.W.fnOf "law" "law" (defArgs s_law) (defBody s_law) (defScope s_law) .none kV12 dc12 pm12 an12 cd12 ct12), sl12⟩) (c12 : PySem.W.codeIn K cd12 "law" = true) (k12 : PySem.W.keepIn K (.ref f12) = true)
    {tk_SIZE : Tok} (a_SIZE : PySem.W.nsIn K mainGlobals "SIZE" = some (some (.int 12 tk_SIZE)))
    {tk_TWO_FOLLOW : Tok} (a_TWO_FOLLOW : PySem.W.nsIn K mainGlobals "TWO_FOLLOW" = some (some (.int 250 tk_TWO_FOLLOW)))
    {tk_THREE_FOLLOW : Tok} (a_THREE_FOLLOW : PySem.W.nsIn K mainGlobals "THREE_FOLLOW" = some (some (.int 251 tk_THREE_FOLLOW)))
    {C_Fault f_Fault N_Fault : Addr} {nm_Fault q_Fault : Str} {bs_Fault sub_Fault : List Value} {sn_Fault : List Str} {ab_Fault : Bool} {col_Fault : Option Bool} {dd_Fault : Option Addr} {k0_Fault k1_Fault k2_Fault k3_Fault k5_Fault : Option Value} {od_Fault an_Fault : Option Addr} {sl_Fault : Array (Option Value)} {oc_Fault kV_Fault dc_Fault pm_Fault cd_Fault ct_Fault : Value} (a_Fault : PySem.W.nsIn K mainGlobals "Fault" = some (some (.ref C_Fault))) (x_Fault : K.lookup C_Fault = some (excClassObj nm_Fault q_Fault C_Fault N_Fault bs_Fault bm_ValueError true sn_Fault sub_Fault ab_Fault col_Fault dd_Fault k0_Fault k1_Fault k2_Fault k3_Fault k5_Fault "ValueError.__new__")) (sa_Fault : PySem.W.findIn K (.ref C_Fault) "__setattr__" = some (some (.builtin "object.__setattr__"))) (ga_Fault : PySem.W.findIn K (.ref C_Fault) "__getattribute__" = some (some (.builtin "BaseException.__getattribute__"))) (gk_Fault : PySem.W.findIn K (.ref C_Fault) "__getattr__" = some none) (hs_Fault : PySem.W.subIn K (.ref C_Fault) (.type "BaseException") = some true) (hd_Fault : PySem.W.hasDictIn K C_Fault = true) (ha_Fault : PySem.W.findIn K (.ref C_Fault) "__class__" = some (some (.builtin "object.__class__"))) (hm_Fault : PySem.W.mroIn K C_Fault (.type "object") = some true) (ty_Fault : PySem.W.typeIn K (.ref C_Fault) = some (.type "type")) (kC_Fault : PySem.W.keepIn K (.ref C_Fault) = true) (i_Fault : PySem.W.findIn K (.ref C_Fault) "__init__" = some (some (.ref f_Fault))) (t_Fault : PySem.W.typeIn K (.ref f_Fault) = some (.type "function")) (l_Fault : K.lookup f_Fault = some ⟨oc_Fault, od_Fault, .func (PySem.W.fnOf "__init__" "Fault.__init__" (defArgs s_Fault) (defBody s_Fault) (defScope s_Fault) .none kV_Fault dc_Fault pm_Fault an_Fault cd_Fault ct_Fault), sl_Fault⟩) (c_Fault : PySem.W.codeIn K cd_Fault "Fault.__init__" = true) (k_Fault : PySem.W.keepIn K (.ref f_Fault) = true) (n_Fault_code : PySem.W.findIn K (.ref C_Fault) "code" = some none) (n_Fault_at : PySem.W.findIn K (.ref C_Fault) "at" = some none)
    (hn_ : PySem.W.specialIn K (.builtin "object.__class__") "__get__" = some (some (.builtin "getset_descriptor.__get__"))) (ht_ : PySem.W.takesIn K (.builtin "object.__class__") = some true)
    (v_ValueError : PySem.W.findCls K (.type "ValueError") (.type "type") "__init__" = some (.val (.builtin "ValueError.__init__")))
    (z_len : PySem.W.nsIn K mainGlobals "len" = some none) (z_abs : PySem.W.nsIn K mainGlobals "abs" = some none) (z_int : PySem.W.nsIn K mainGlobals "int" = some none) (z_bool : PySem.W.nsIn K mainGlobals "bool" = some none) (z_list : PySem.W.nsIn K mainGlobals "list" = some none) (z_tuple : PySem.W.nsIn K mainGlobals "tuple" = some none) (z_isinstance : PySem.W.nsIn K mainGlobals "isinstance" = some none) (z_all : PySem.W.nsIn K mainGlobals "all" = some none) (z_zip : PySem.W.nsIn K mainGlobals "zip" = some none) (z_min : PySem.W.nsIn K mainGlobals "min" = some none) (z_range : PySem.W.nsIn K mainGlobals "range" = some none) (z_ValueError : PySem.W.nsIn K mainGlobals "ValueError" = some none) :
    ∃ fd : FuncData, (∀ (s : Shared) (v : Value), BindsTo s fd ⟨[v], []⟩ [("_law_script", v)]) ∧ ∀ base : Heap, K.In base → base.Ns mainGlobals mg → FnOk l.prog w K mg base CX0 6 fa fd ["_law_script"] (spLaw K) := by
  have e := hfa.symm.trans (PySem.W.mg_of X G a12)
  cases e
  have F0 := fun_mk (st := s_size_bytes) l0 c0 k0
  have F1 := fun_mk (st := s_size_of_two) l1 c1 k1
  have F2 := fun_mk (st := s_size_of_three) l2 c2 k2
  have F3 := fun_mk (st := s_size_at) l3 c3 k3
  have F4 := fun_mk (st := s_cell_at) l4 c4 k4
  have F5 := fun_mk (st := s_box) l5 c5 k5
  have F6 := fun_mk (st := s_take) l6 c6 k6
  have F7 := fun_mk (st := s_same) l7 c7 k7
  have F8 := fun_mk (st := s_of) l8 c8 k8
  have F9 := fun_mk (st := s_bytes) l9 c9 k9
  have F10 := fun_mk (st := s_size) l10 c10 k10
  have F11 := fun_mk (st := s_drawn) l11 c11 k11
  have F12 := fun_mk (st := s_law) l12 c12 k12
  have b0 := F0.binds (ps := ["size"]) fun _ _ _ _ _ _ us hl => match us, hl with | [_], _ => rfl
  have b1 := F1.binds (ps := ["codes", "at"]) fun _ _ _ _ _ _ us hl => match us, hl with | [_, _], _ => rfl
  have b2 := F2.binds (ps := ["codes", "at"]) fun _ _ _ _ _ _ us hl => match us, hl with | [_, _], _ => rfl
  have b3 := F3.binds (ps := ["codes", "at"]) fun _ _ _ _ _ _ us hl => match us, hl with | [_, _], _ => rfl
  have b4 := F4.binds (ps := ["_law_script", "_law_k"]) fun _ _ _ _ _ _ us hl => match us, hl with | [_, _], _ => rfl
  have b5 := F5.binds (ps := ["_law_script", "_law_k"]) fun _ _ _ _ _ _ us hl => match us, hl with | [_, _], _ => rfl
  have b6 := F6.binds (ps := ["_law_box_here", "_law_count"]) fun _ _ _ _ _ _ us hl => match us, hl with | [_, _], _ => rfl
  have b7 := F7.binds (ps := ["_law_found", "_law_due"]) fun _ _ _ _ _ _ us hl => match us, hl with | [_, _], _ => rfl
  have b8 := F8.binds (ps := ["_law_box_here", "_law_some"]) fun _ _ _ _ _ _ us hl => match us, hl with | [_, _], _ => rfl
  have b9 := F9.binds (ps := ["_law_box_here", "_law_count"]) fun _ _ _ _ _ _ us hl => match us, hl with | [_, _], _ => rfl
  have b10 := F10.binds (ps := ["_law_count"]) fun _ _ _ _ _ _ us hl => match us, hl with | [_], _ => rfl
  have b11 := F11.binds (ps := ["_law_box_here"]) fun _ _ _ _ _ _ us hl => match us, hl with | [_], _ => rfl
  have F_Fault := fun_mk (st := s_Fault) l_Fault c_Fault k_Fault
  have b_Fault := F_Fault.binds (ps := ["self", "code", "at"]) fun _ _ _ _ _ _ us hl => match us, hl with | [_, _, _], _ => rfl
  have oe_Fault : OeC K C_Fault "ValueError" "ValueError.__new__" "ValueError.__init__" bm_ValueError := { base := PySem.F.excBase_ValueError, pass := PySem.MyX.pass_Value, ob := by decide +kernel, cls := ⟨_, _, _, _, _, _, _, _, _, _, _, _, _, _, x_Fault⟩, sa := sa_Fault, is_ := ⟨ga_Fault, gk_Fault, hs_Fault, hd_Fault, ha_Fault, hn_, ht_, hm_Fault⟩, ty := ty_Fault, kC := kC_Fault }
  have T : Tx K mg := { f_size_bytes := f0, fd_size_bytes := _, F_size_bytes := F0, g_size_bytes := PySem.W.mg_of X G a0, b_size_bytes := b0, f_size_of_two := f1, fd_size_of_two := _, F_size_of_two := F1, g_size_of_two := PySem.W.mg_of X G a1, b_size_of_two := b1, f_size_of_three := f2, fd_size_of_three := _, F_size_of_three := F2, g_size_of_three := PySem.W.mg_of X G a2, b_size_of_three := b2, f_size_at := f3, fd_size_at := _, F_size_at := F3, g_size_at := PySem.W.mg_of X G a3, b_size_at := b3, f_cell_at := f4, fd_cell_at := _, F_cell_at := F4, g_cell_at := PySem.W.mg_of X G a4, b_cell_at := b4, f_box := f5, fd_box := _, F_box := F5, g_box := PySem.W.mg_of X G a5, b_box := b5, f_take := f6, fd_take := _, F_take := F6, g_take := PySem.W.mg_of X G a6, b_take := b6, f_same := f7, fd_same := _, F_same := F7, g_same := PySem.W.mg_of X G a7, b_same := b7, f_of := f8, fd_of := _, F_of := F8, g_of := PySem.W.mg_of X G a8, b_of := b8, f_bytes := f9, fd_bytes := _, F_bytes := F9, g_bytes := PySem.W.mg_of X G a9, b_bytes := b9, f_size := f10, fd_size := _, F_size := F10, g_size := PySem.W.mg_of X G a10, b_size := b10, f_drawn := f11, fd_drawn := _, F_drawn := F11, g_drawn := PySem.W.mg_of X G a11, b_drawn := b11, kb_size_bytes_0_size := mk_kb_size_bytes_0_size F0, kb_size_at_0_at_codes := mk_kb_size_at_0_at_codes F3, tk_SIZE := _, g_SIZE := PySem.W.mg_of X G a_SIZE, tk_TWO_FOLLOW := _, g_TWO_FOLLOW := PySem.W.mg_of X G a_TWO_FOLLOW, tk_THREE_FOLLOW := _, g_THREE_FOLLOW := PySem.W.mg_of X G a_THREE_FOLLOW, C_Fault := C_Fault, f_Fault := f_Fault, fd_Fault := _, F_Fault := F_Fault, g_Fault := PySem.W.mg_of X G a_Fault, oe_Fault := oe_Fault, i_Fault := i_Fault, t_Fault := t_Fault, b_Fault := b_Fault, n_Fault_code := n_Fault_code, n_Fault_at := n_Fault_at, v_ValueError := v_ValueError, m_len := PySem.W.mg_none_of X G z_len, m_abs := PySem.W.mg_none_of X G z_abs, m_int := PySem.W.mg_none_of X G z_int, m_bool := PySem.W.mg_none_of X G z_bool, m_list := PySem.W.mg_none_of X G z_list, m_tuple := PySem.W.mg_none_of X G z_tuple, m_isinstance := PySem.W.mg_none_of X G z_isinstance, m_all := PySem.W.mg_none_of X G z_all, m_zip := PySem.W.mg_none_of X G z_zip, m_min := PySem.W.mg_none_of X G z_min, m_range := PySem.W.mg_none_of X G z_range, m_ValueError := PySem.W.mg_none_of X G z_ValueError }
  exact ⟨PySem.W.fnOf "law" "law" (defArgs s_law) (defBody s_law) (defScope s_law) .none kV12 dc12 pm12 an12 cd12 ct12, fun s v => .of_eq rfl, fun base _ _ => ok_law T F12⟩
end K3
open PySem PySem.W PyProof.Rows
set_option maxHeartbeats 0 in
theorem PySem.Challenge.cw_slipwire_k03_sizes_written_and_read_holds : PySem.Challenge.rw_slipwire_k03_sizes_written_and_read.Holds := by
  w_on; o_law; k_head; (case hw => w_witness2)
  k_fill
  refine L2.walk_of (l := PySem.Challenge.rw_slipwire_k03_sizes_written_and_read) (n := 63) (k := 6) (x := "_law_script") (CX := fun _ => L2.CX0) (sp := fun w => K3.spLaw _) rfl (by decide) rfl ⟨rfl, by decide, by decide⟩ (fun w h Y => PySem.W.kIn_of Y) ?F (fun _ _ a ns hl _ hS => ⟨a, ns, rfl, hS, hl, fun _ => rfl⟩) (fun _ _ _ _ _ h => h)
  case F =>
    intro w mg fa h KX G hmg
    refine' K3.all_mk KX G hmg ?a0 ?l0 ?c0 ?k0 ?a1 ?l1 ?c1 ?k1 ?a2 ?l2 ?c2 ?k2 ?a3 ?l3 ?c3 ?k3 ?a4 ?l4 ?c4 ?k4 ?a5 ?l5 ?c5 ?k5 ?a6 ?l6 ?c6 ?k6 ?a7 ?l7 ?c7 ?k7 ?a8 ?l8 ?c8 ?k8 ?a9 ?l9 ?c9 ?k9 ?a10 ?l10 ?c10 ?k10 ?a11 ?l11 ?c11 ?k11 ?a12 ?l12 ?c12 ?k12 ?a_SIZE ?a_TWO_FOLLOW ?a_THREE_FOLLOW ?a_Fault ?x_Fault ?sa_Fault ?ga_Fault ?gk_Fault ?hs_Fault ?hd_Fault ?ha_Fault ?hm_Fault ?ty_Fault ?kC_Fault ?i_Fault ?t_Fault ?l_Fault ?c_Fault ?k_Fault ?n_Fault_code ?n_Fault_at ?hn_ ?ht_ ?v_ValueError ?z_len ?z_abs ?z_int ?z_bool ?z_list ?z_tuple ?z_isinstance ?z_all ?z_zip ?z_min ?z_range ?z_ValueError
    (case a0 => k_is); (case l0 => k_is); (case c0 => k_is); (case k0 => k_is); (case a1 => k_is); (case l1 => k_is); (case c1 => k_is); (case k1 => k_is); (case a2 => k_is); (case l2 => k_is); (case c2 => k_is); (case k2 => k_is); (case a3 => k_is); (case l3 => k_is); (case c3 => k_is); (case k3 => k_is); (case a4 => k_is); (case l4 => k_is); (case c4 => k_is); (case k4 => k_is); (case a5 => k_is); (case l5 => k_is); (case c5 => k_is); (case k5 => k_is); (case a6 => k_is); (case l6 => k_is); (case c6 => k_is); (case k6 => k_is); (case a7 => k_is); (case l7 => k_is); (case c7 => k_is); (case k7 => k_is); (case a8 => k_is); (case l8 => k_is); (case c8 => k_is); (case k8 => k_is); (case a9 => k_is); (case l9 => k_is); (case c9 => k_is); (case k9 => k_is); (case a10 => k_is); (case l10 => k_is); (case c10 => k_is); (case k10 => k_is); (case a11 => k_is); (case l11 => k_is); (case c11 => k_is); (case k11 => k_is); (case a12 => k_is); (case l12 => k_is); (case c12 => k_is); (case k12 => k_is); (case a_SIZE => k_is); (case a_TWO_FOLLOW => k_is); (case a_THREE_FOLLOW => k_is); (case a_Fault => k_is); (case x_Fault => k_is); (case sa_Fault => k_is); (case ga_Fault => k_is); (case gk_Fault => k_is); (case hs_Fault => k_is); (case hd_Fault => k_is); (case ha_Fault => k_is); (case hm_Fault => k_is); (case ty_Fault => k_is); (case kC_Fault => k_is); (case i_Fault => k_is); (case t_Fault => k_is); (case l_Fault => k_is); (case c_Fault => k_is); (case k_Fault => k_is); (case n_Fault_code => k_is); (case n_Fault_at => k_is); (case hn_ => k_is); (case ht_ => k_is); (case v_ValueError => k_is); (case z_len => k_is); (case z_abs => k_is); (case z_int => k_is); (case z_bool => k_is); (case z_list => k_is); (case z_tuple => k_is); (case z_isinstance => k_is); (case z_all => k_is); (case z_zip => k_is); (case z_min => k_is); (case z_range => k_is); (case z_ValueError => k_is)
