import PyProof.Rows.All
import Wide.All
import OpenK.AllK
import Wide.FinOn
import HandS.ForMost
import HandS.IsInst
import HandS.Conv
import HandS.Sort
import HandS.Style
import HandS.Flow
import KE.GoesEnum
import HandS.SlotsOwn
import PyProof.InstNe
import PyProof.ReprRoads
import HandS.Wide
import HandS.TupAny
import HandS.Codes
import HandS.NoneIn
import HandS.SetFor
import HandS.SortInts
import PySem.Challenge.RW_liftwords_k09_whole_ways_to_the_top
set_option Elab.async false
set_option linter.all false
set_option maxRecDepth 100000
/-! A. The text by places; numbers judged; sizes, indexes and letters checked. -/
namespace Lw
open PySem L2
def top (i : Nat) : Stmt := PySem.Challenge.pw_liftwords_k09_whole_ways_to_the_top.main.body.getD i (.Pass ⟨0, 0, 0, 0⟩)
abbrev sWhole : Stmt := top 12
abbrev sBetween : Stmt := top 13
abbrev sListing : Stmt := top 14
abbrev sCkSize : Stmt := top 19
abbrev sCkIndex : Stmt := top 20
abbrev sCkLetters : Stmt := top 21
abbrev sBrack : Stmt := top 22
abbrev sWith : Stmt := top 23
abbrev sIsDeed : Stmt := top 27
abbrev sCkRow : Stmt := top 28
abbrev sFollowed : Stmt := top 30
abbrev sClimbed : Stmt := top 31
abbrev sAllDowns : Stmt := top 32
abbrev sAllUps : Stmt := top 33
abbrev sRun : Stmt := top 34
abbrev sToTop : Stmt := top 35
abbrev sToBottom : Stmt := top 36
abbrev sTopOf : Stmt := top 37
abbrev sBottomOf : Stmt := top 38
abbrev sMixed : Stmt := top 40
abbrev sFolded : Stmt := top 41
abbrev sDraw : Stmt := top 42
abbrev sBegun : Stmt := top 43
abbrev sLeft : Stmt := top 44
abbrev sDone : Stmt := top 45
abbrev sRows : Stmt := top 46
abbrev sSize : Stmt := top 47
abbrev sLetters : Stmt := top 48
abbrev sIsWord : Stmt := top 49
abbrev sLike : Stmt := top 50
abbrev sLed : Stmt := top 51
abbrev sOther : Stmt := top 52
abbrev sLaw : Stmt := top 53
abbrev sInit : Stmt := inClass (top 24) 0
abbrev sLen : Stmt := inClass (top 24) 1
abbrev sEq : Stmt := inClass (top 24) 4
abbrev sAdd : Stmt := inClass (top 24) 5
abbrev sCounts : Stmt := inClass (top 24) 7
abbrev sSpare : Stmt := inClass (top 24) 9
abbrev sUps : Stmt := inClass (top 24) 10
abbrev sDowns : Stmt := inClass (top 24) 11
abbrev sUp : Stmt := inClass (top 24) 12
abbrev sDown : Stmt := inClass (top 24) 13
abbrev sWInit : Stmt := inClass (top 29) 0
abbrev sLook : Stmt := inClass (top 29) 1
abbrev sGo : Stmt := inClass (top 29) 2
abbrev sReached : Stmt := inClass (top 29) 3
/-- the built-in names that the text doesn't cover -/
structure Bare (mg : Str → Option Value) : Prop where
  isinstance : mg "isinstance" = none
  int : mg "int" = none
  bool : mg "bool" = none
  list : mg "list" = none
  tuple : mg "tuple" = none
  len : mg "len" = none
  range : mg "range" = none
  enumerate : mg "enumerate" = none
  sorted : mg "sorted" = none
  min : mg "min" = none
  repr : mg "repr" = none
  any : mg "any" = none
  max : mg "max" = none
  abs : mg "abs" = none
/-- a def of the top -/
structure Df (K : PySem.W.Frag) (mg : Str → Option Value) (x : Str) (st : Stmt) (f : Addr) (fd : FuncData) : Prop where
  fn : Fun K x x st f fd
  g : mg x = some (.ref f)
section
variable {P : Program} {w : World} {K : PySem.W.Frag} {mg : Str → Option Value} {base : Heap}
/-! is_whole -/
def spWhole : Sp := fun vs H Q _ => ∃ i : Int, vs = [.int i] ∧ Q (.bl true) H
theorem scWhole : FnScope ["value"] ["value"] (defScope sWhole) := ⟨rfl, rfl, rfl, by decide +kernel, rfl, by decide +kernel, by decide +kernel⟩
theorem ok_whole {f : Addr} {fd : FuncData} (B : Bare mg) (F : Df K mg "is_whole" sWhole f fd) : FnOk P w K mg base CX0 1 f fd ["value"] spWhole := by
  refine F.fn.ok scWhole (fun vs H Q E h => ?_) (fun cdv A outer s H vs Q E hr h => ?_)
  · obtain ⟨i, rfl, _⟩ := h
    rfl
  · obtain ⟨i, rfl, k⟩ := h
    refine ⟨_, pss_one (ps_ret (pe_and (pe_callB call_isi (by rfl) B.isinstance (by decide +kernel) (pa_cons (pv 0) (pa_cons (pe_bltn (v := .ty "int") (by rfl) B.int (by decide +kernel) rfl) pa_nil)))
      (pe_one (pe_not (pe_callB call_isi (by rfl) B.isinstance (by decide +kernel) (pa_cons (pv 0) (pa_cons (pe_bltn (v := .ty "bool") (by rfl) B.bool (by decide +kernel) rfl) pa_nil))))))), ?_⟩
    refine ⟨_, rfl, _, _, _, _, true, rfl, ClsV.ty _, TyX.base (TyOf.int _), kit_ty (by decide +kernel), _, rfl, ?_⟩
    refine iteT ?_
    refine ⟨_, rfl, _, _, _, _, false, rfl, ClsV.ty _, TyX.base (TyOf.int _), kit_ty (by decide +kernel), _, rfl, ?_⟩
    exact k
end
end Lw
/-! enumerate over a tuple. -/
namespace LwE
open PySem PySem.Spec PyProof.Rows L2
set_option maxHeartbeats 1000000 in
theorem enum_new1 {v : Value} {o : Obj} {H : Heap → Prop} (B : Begins v o H) :
    Meets (Builtin.«enumerate.__new__» ⟨[.type "enumerate", v], []⟩) (fun _ R s => H s.heap ∧
      R (.ok (.ret (.ref (s.heap.push o).objs.size)))
        { s with heap := (s.heap.push o).push { cls := .type "enumerate", data := .fields #[.none, .bool false, .ref s.heap.objs.size, rawInt 0, .none, .none] } }) :=
  .of_wp fun prog w A R s z => by
    obtain ⟨hp, gn, dr, tk, os⟩ := s
    obtain ⟨z1, z2⟩ := z
    have hsub := sub_enumerate
    have start : ∀ {A' : Around} {E : Value → Shared → Prop} {Q : Value → Shared → Prop}, Q (.ref hp.objs.size) ⟨hp.push o, gn, dr, tk, os⟩ →
        wpAny (model prog w) A' (pyIter v) Q E ⟨hp, gn, dr, tk, os⟩ := fun q => B.iter prog w _ _ ⟨hp, gn, dr, tk, os⟩ _ z1 q
    wp_walk using start
    refine wpAny_stack_any fun st => wpAny_pure ?_
    split
    next c _ _ _ _ _ =>
      cases (c == Value.type "enumerate") <;> (wp_walk using start; exact ⟨_, rfl, z2⟩)
    next =>
      wp_walk using start
      exact ⟨_, rfl, z2⟩
section
variable {prog : Program} {w : World} {A : Around} {E : Value → Shared → Prop} {s : Shared}
theorem enum_begins1 {v : Value} {o : Obj} {H : Heap → Prop} {Q : Value → Shared → Prop} (B : Begins v o H) (z : H s.heap)
    (q : ∀ h', IsEnum h' (s.heap.objs.size + 1) s.heap.objs.size 0 .none → h'.get? s.heap.objs.size = some o →
      (∀ b u, s.heap.get? b = some u → h'.get? b = some u) → Q (.ref (s.heap.objs.size + 1)) { s with heap := h' }) :
    wpAny (model prog w) A (call (.type "enumerate") [v]) Q E s := by
  refine callType_new F.called_enumerate (by decide) (F.typeCall_enumerate_1 _) (F.newCall_enumerate_1 _) (fun obj => F.args_object_init_2 obj _) F.entry_enumerate_new (enum_new1 B) ⟨z, ?_⟩
  have ez : (s.heap.push o).objs.size = s.heap.objs.size + 1 := by rw [Heap.size_push]
  show _ ∧ _
  rw [ez]
  have ee : IsEnum ((s.heap.push o).push { cls := .type "enumerate", data := .fields #[.none, .bool false, .ref s.heap.objs.size, rawInt 0, .none, .none] })
      (s.heap.objs.size + 1) s.heap.objs.size 0 .none := by
    have u := Heap.get?_push_size (s.heap.push o) (o := { cls := .type "enumerate", data := .fields #[.none, .bool false, .ref s.heap.objs.size, rawInt 0, .none, .none] }) rfl
    rw [ez] at u
    exact u
  exact ⟨⟨_, ee, rfl⟩, q _ ee (Heap.get?_push_of_some _ (Heap.get?_push_size _ B.free)) fun b u x => Heap.get?_push_of_some _ (Heap.get?_push_of_some _ x)⟩
end
/-- the tuple at a, each item with its place in a new pair -/
def Ien (K : PySem.W.Frag) (a : Addr) : It where
  go := fun i H => ∃ (xs : List V) (x : V), SqT K H a xs ∧ xs[i]? = some x
  yld := fun i H v H' => ∃ T x, v = .ref T ∧ H T = none ∧ H' = upd H T (.tup [.int (i : Nat), x]) ∧ ∀ xs, SqT K H a xs → xs[i]? = some x
  stop := fun i H => ∃ xs : List V, SqT K H a xs ∧ xs.length ≤ i
theorem apart_it {h : Heap} {it a : Addr} {i : Nat} {its : Array Value} (st : h.IsTupleIter it a i) (p : h.IsTuple a its) : a ≠ it := fun z => by
  obtain ⟨o, e1, c1, _⟩ := st
  obtain ⟨o2, e2, c2, _⟩ := p
  rw [z, e1] at e2
  cases e2
  rw [c1] at c2
  exact absurd c2 (by decide)
theorem turn_ien {P : Program} {w : World} {K : PySem.W.Frag} {elts : List Expr} {kk : Nat} {tpos : Pos} (a e it : Addr) :
    Turn P w K (.Tuple elts kk tpos) (Ien K a) [e, it] e (fun i h => (∃ old, IsEnum h e it ((i : Nat) : Int) old) ∧ h.IsTupleIter it a i ∧ e ≠ it ∧ e ≠ a) where
  mem := by simp
  obj := fun i h st b hb => by
    obtain ⟨⟨old, he⟩, ⟨o, ho, hc, hd⟩, _⟩ := st
    rcases (show b = e ∨ b = it by simpa using hb) with z | z <;> subst z
    · exact ⟨_, he, fun v q => nomatch q⟩
    · exact ⟨o, ho, fun v q => by rw [hd] at q; cases q⟩
  keep := fun i h h' st k => by
    obtain ⟨⟨old, he⟩, hi, n1, n2⟩ := st
    exact ⟨⟨old, k e (by simp) _ he⟩, hi.at fun o q => k it (by simp) o q, n1, n2⟩
  item := by
    intro X hP hw hK hc i pins s σ H E I hf st hg
    subst hP hw hK
    obtain ⟨⟨old, he⟩, hit, n1, n2⟩ := st
    obtain ⟨xs, x, hq, hx⟩ := hg
    obtain ⟨its, rv, p, hz⟩ := I.tuple hq
    obtain ⟨u, hu, ru⟩ := rv.get hx
    have lt1 : e < s.heap.objs.size := Heap.lt_size he
    have lt2 : it < s.heap.objs.size := by
      obtain ⟨_, q, _⟩ := hit
      exact Heap.lt_size q
    have pT : s.heap.IsTuple a its.toArray := p
    have hlt : i < its.toArray.size := by
      have q := (List.getElem?_eq_some_iff.mp hu).1
      simpa using q
    have D := Draws.tuple (prog := X.prog) (w := X.w) (A := X.A.in1) (I.ok.hd hc) it a (apart_it hit pT) its.toArray
    refine wpAny_pyNext_enum_itemC D he ⟨hit, pT⟩ hlt n1 (by simp [n1, n2]) fun y h' tk hy ho hs' hT hsz hk => ?_
    have ey : y = u := by
      have q : its.toArray[i]? = some y := hy
      rw [show its.toArray[i]? = its[i]? from by simp, hu] at q
      exact (Option.some.inj q).symm
    subst ey
    refine ⟨_, rfl, wpAny_letOwnedTupleGo_enum (s := { s with heap := h', toks := tk + 1 }) ho fun h'' he' sb => ?_⟩
    have hT2 := (sb.2 _ (Nat.ne_of_gt lt1)).trans hT
    have made : ObjOk X.prog X.w (upd H s.heap.objs.size (.tup [.int (i : Nat), x])) h'' s.heap.objs.size (.tup [.int (i : Nat), x]) :=
      ⟨(by decide : 2 ≤ sizeLine), [.int i tk, y], .cons ⟨_, rfl⟩ (.cons ru .nil), _, hT2, rfl, _, rfl⟩
    have J : Inv X pins σ (upd H s.heap.objs.size (.tup [.int (i : Nat), x])) { s with heap := h'', toks := tk + 1 } :=
      I.turnedNew (ch := [e, it]) (fun b ob hb q => (sb.2 b (fun z => hb (by simp [z]))).trans (hk b ob (fun z => hb (by simp [z])) (fun z => hb (by simp [z])) q)) hf (Nat.le_refl _) made
    refine ⟨.ref s.heap.objs.size, _, J, rfl, ⟨_, x, rfl, I.hok.fresh (Nat.le_refl _), rfl, fun ys hy2 => by rw [I.tuple_inj hy2 hq]; exact hx⟩,
      ⟨⟨y, ?_⟩, hs'.1.at fun o q => (sb.2 it (Ne.symm n1)).trans q, n1, n2⟩, fun b hb => ?_⟩
    · rw [show ((i + 1 : Nat) : Int) = (i : Int) + 1 by omega]
      exact he'
    · have hlt3 : b < s.heap.objs.size := by
        rcases (show b = e ∨ b = it by simpa using hb) with z | z <;> (rw [z]; assumption)
      rw [upd_ne (Nat.ne_of_lt hlt3)]
      exact (hf b hb).1
  done := by
    intro X hP hw hK hc i pins s σ H E I hf st hg
    subst hP hw hK
    obtain ⟨⟨old, he⟩, hit, n1, n2⟩ := st
    obtain ⟨xs, hq, hx⟩ := hg
    obtain ⟨its, rv, p, hz⟩ := I.tuple hq
    obtain ⟨f0, f1, f2, f3, f4, f5⟩ := hf it (by simp)
    have pT : s.heap.IsTuple a its.toArray := p
    have hT : s.TypeIs (.ref e) "enumerate" := ⟨_, he, rfl⟩
    unfold pyNext
    refine wpAny_bind (wpAny_attempt (wpAny_callSpecial?_slot (name := Str.ofString "__next__") hT F.slot_enumerate_next
      (wpAny_call_entry F.slot_enumerate_next hT F.entry_enumerate_next ?_ (F.args_enumerate_next_1 _))))
    show wpAny _ _ (field (.ref e) 2 >>= _) _ _ _
    refine wpAny_bind (wpAny_field he rfl (x := .ref it) rfl ?_)
    have hl := rv.length
    refine wpAny_bind (wpAny_nextOf_tuple_end (I.ok.hd hc) hit pT (by simp; omega) fun h' x he' hx' => ?_)
    obtain ⟨o, ho, hcl⟩ := hx'
    refine wpAny_bind (wpAny_isInstance (T := "StopIteration") (b := true) ⟨o, ho, hcl⟩ isSubtype_stop ?_)
    exact wpAny_pure ⟨rfl, I.turned (t' := s.toks) (fun b o hb q => he' b o hb q) f0 f1 f3 f4 f5⟩
  self := fun A i s Q E st h => by
    obtain ⟨⟨_, he⟩, _⟩ := st
    exact wpAny_pyIter_enum he h
/-- enumerate(t), t a tuple -/
def iEnT (K : PySem.W.Frag) (ta : TA) : TI := fun σ H R => ta σ H fun vs H1 => ∃ a xs, vs = [.ref a] ∧ SqT K H1 a xs ∧ R (Ien K a) H1
theorem pi_enT {X : Cx} {e : Expr} {ta : TA} {p pos tpos : Pos} {elts : List Expr} {kk : Nat} (hg : Gl X "enumerate") (hm : X.mg "enumerate" = none) (ha : PA X [e] ta)
    (hs : starEach [e] X.env = [(false, eval e X.env)] := by rfl) : PI X (.Tuple elts kk tpos) (.Call (.Name "enumerate" p) [e] [] pos) (iEnT X.K ta) := by
  refine ⟨fun pins s σ H R I h => ?_⟩
  refine Call_ (ld_blt I hg hm boot_enumerate (PyProof.Rows.callWith_type1 (thn (ha.run pos pins s σ H _ I h) fun us s1 ⟨vs, H1, I1, r1, q1⟩ => ?_) hs rfl))
  obtain ⟨a, xs, rfl, hq, q⟩ := q1
  obtain ⟨u, rfl, ru⟩ : ∃ u, us = [u] ∧ RelV (.ref a) u := by
    cases r1 with
    | cons r rr =>
      cases rr
      exact ⟨_, rfl, r⟩
  obtain rfl : u = Value.ref a := ru
  obtain ⟨its, rv, p', hz⟩ := I1.tuple hq
  have pT : s1.heap.IsTuple a its.toArray := p'
  refine enum_begins1 (begins_tuple a its.toArray) pT fun h' he hit hk => wpAny_pyIter_enum he ?_
  have I2 : Inv X pins σ H1 { s1 with heap := h' } := I1.kept (t' := s1.toks) hk
  have lta : a < s1.heap.objs.size := by
    obtain ⟨o, e1, _⟩ := pT
    exact Heap.lt_size e1
  refine ⟨s1.heap.objs.size + 1, [s1.heap.objs.size + 1, s1.heap.objs.size], _, _, H1, rfl, I2, turn_ien a (s1.heap.objs.size + 1) s1.heap.objs.size,
    ⟨⟨.none, he⟩, ⟨_, hit, rfl, rfl⟩, Nat.succ_ne_self _, Nat.ne_of_gt (Nat.lt_succ_of_lt lta)⟩, fun b hb => ?_, q⟩
  have le1 : s1.heap.objs.size ≤ b := by
    rcases (show b = s1.heap.objs.size + 1 ∨ b = s1.heap.objs.size by simpa using hb) with z | z
    · rw [z]
      exact Nat.le_succ _
    · rw [z]
      exact Nat.le_refl _
  exact I1.fpOk le1 (I1.hok.fresh le1)
/-- the walk's word -/
theorem for_enT {K : PySem.W.Frag} {a : Addr} {xs : List V} {g : TG} {tb : TS} {D : Ends} {σ : L2.St} {H : Hp} (Pv : Nat → L2.St → Hp → Prop) (h0 : Pv 0 σ H) (hl : ∀ i σ H, i ≤ xs.length → Pv i σ H → SqT K H a xs)
    (hs : ∀ i x T σ H, xs[i]? = some x → Pv i σ H → H T = none → g (.ref T) σ (upd H T (.tup [.int (i : Nat), x])) fun σ2 H2 => tb { D with nx := Pv (i + 1), ct := Pv (i + 1), bk := D.nx } σ2 H2)
    (hd : ∀ σ H, Pv xs.length σ H → D.nx σ H) :
    ∃ W : Nat → Nat → L2.St → Hp → Prop, (∃ m, W 0 m σ H) ∧ ∀ i m σ H, W i m σ H →
      ((Ien K a).stop i H ∧ D.nx σ H) ∨ ((Ien K a).go i H ∧ ∃ N : L2.St → Hp → Prop, (∀ σ' H', N σ' H' → ∃ m', m' < m ∧ W (i + 1) m' σ' H') ∧
        ∀ x H', (Ien K a).yld i H x H' → g x σ H' fun σ2 H2 => tb { D with nx := N, ct := N, bk := D.nx } σ2 H2) := by
  refine ⟨fun i m σ H => m = xs.length - i ∧ i ≤ xs.length ∧ Pv i σ H, ⟨xs.length, by simp, Nat.zero_le _, h0⟩, ?_⟩
  intro i m σ H hW
  obtain ⟨rfl, hi, p⟩ := hW
  have q := hl i σ H hi p
  by_cases hlt : i < xs.length
  · refine .inr ⟨⟨xs, xs[i], q, by simp [hlt]⟩, Pv (i + 1), fun σ' H' p' => ⟨xs.length - (i + 1), by omega, rfl, hlt, p'⟩, fun x H' y => ?_⟩
    obtain ⟨T, v, rfl, hT, rfl, y2⟩ := y
    exact hs i v T σ H (y2 xs q) p hT
  · obtain rfl : i = xs.length := by omega
    exact .inl ⟨⟨xs, q, Nat.le_refl _⟩, hd σ H p⟩
/-- the same over a list -/
theorem for_enL {K : PySem.W.Frag} {a : Addr} {xs : List V} {g : TG} {tb : TS} {D : Ends} {σ : L2.St} {H : Hp} (Pv : Nat → L2.St → Hp → Prop) (h0 : Pv 0 σ H) (hl : ∀ i σ H, i ≤ xs.length → Pv i σ H → SqL K H a xs)
    (hs : ∀ i x T σ H, xs[i]? = some x → Pv i σ H → H T = none → g (.ref T) σ (upd H T (.tup [.int (i : Nat), x])) fun σ2 H2 => tb { D with nx := Pv (i + 1), ct := Pv (i + 1), bk := D.nx } σ2 H2)
    (hd : ∀ σ H, Pv xs.length σ H → D.nx σ H) :
    ∃ W : Nat → Nat → L2.St → Hp → Prop, (∃ m, W 0 m σ H) ∧ ∀ i m σ H, W i m σ H →
      ((Ite K a).stop i H ∧ D.nx σ H) ∨ ((Ite K a).go i H ∧ ∃ N : L2.St → Hp → Prop, (∀ σ' H', N σ' H' → ∃ m', m' < m ∧ W (i + 1) m' σ' H') ∧
        ∀ x H', (Ite K a).yld i H x H' → g x σ H' fun σ2 H2 => tb { D with nx := N, ct := N, bk := D.nx } σ2 H2) := by
  refine ⟨fun i m σ H => m = xs.length - i ∧ i ≤ xs.length ∧ Pv i σ H, ⟨xs.length, by simp, Nat.zero_le _, h0⟩, ?_⟩
  intro i m σ H hW
  obtain ⟨rfl, hi, p⟩ := hW
  have q := hl i σ H hi p
  by_cases hlt : i < xs.length
  · refine .inr ⟨⟨xs, xs[i], q, by simp [hlt]⟩, Pv (i + 1), fun σ' H' p' => ⟨xs.length - (i + 1), by omega, rfl, hlt, p'⟩, fun x H' y => ?_⟩
    obtain ⟨T, v, rfl, hT, rfl, y2⟩ := y
    exact hs i v T σ H (y2 xs q) p hT
  · obtain rfl : i = xs.length := by omega
    exact .inl ⟨⟨xs, q, Nat.le_refl _⟩, hd σ H p⟩
end LwE
/-! list(range(a, b, -1)). -/
namespace LwE
open PySem PySem.Spec PyProof.Rows L2
/-- the ints a, a - 1, .. above b -/
def dnV (a b : Int) : List Int := (List.range (a - b).toNat).map fun i => a - (i : Nat)
theorem dnV_length (a b : Int) : (dnV a b).length = (a - b).toNat := by
  unfold dnV
  rw [List.length_map, List.length_range]
theorem dnV_mem {a b x : Int} (h : x ∈ dnV a b) : b < x ∧ x ≤ a := by
  unfold dnV at h
  obtain ⟨i, hi, rfl⟩ := List.mem_map.mp h
  have := List.mem_range.mp hi
  omega
theorem vals_dn {a b : Int} {acc : Array Value} (h : ItemsOf (fun i v => ∃ t, v = .int (a + i * (-1)) t) acc (a - b).toNat) : Vals ((dnV a b).map V.int) acc.toList := by
  have e : acc.toList.length = (a - b).toNat := by
    rw [Array.length_toList]
    exact h.1
  have e2 : (dnV a b).map V.int = (List.range acc.toList.length).map fun i => V.int (a - (i : Nat)) := by
    unfold dnV
    rw [e, List.map_map]
    rfl
  rw [e2]
  refine vals_of_get acc.toList _ fun j u hj => ?_
  obtain ⟨t, rfl⟩ := h.2 j u (by rw [← hj, Array.getElem?_toList])
  exact ⟨t, by rw [Int.mul_neg, Int.mul_one, Int.sub_eq_add_neg]⟩
section
variable {X : Cx} {a b : Expr} {ta : TA}
/-- bounds of such a range -/
def DnOk (a b : Int) : Prop := -1000 ≤ a ∧ a ≤ 1000 ∧ -1000 ≤ b ∧ b ≤ 1000
def tLstDn (ta : TA) : TE := fun σ H Q => ta σ H fun vs H1 => ∃ a b : Int, vs = [.int a, .int b, .int (-1)] ∧ DnOk a b ∧ ∀ q, H1 q = none → Q (.ref q) (upd H1 q (.lst ((dnV a b).map V.int)))
theorem pe_listDn {c : Expr} {p p' pos pos' : Pos} (hc : X.calm = true) (hg : Gl X "list") (hm : X.mg "list" = none) (hgr : Gl X "range") (hmr : X.mg "range" = none) (ha : PA X [a, b, c] ta)
    (hs : starEach [a, b, c] X.env = (false, eval a X.env) :: starEach [b, c] X.env := by rfl) (hpl : (backTo pos' (starEach [b, c] X.env)).any (·.1) = false := by rfl)
    (na : starEach [.Call (.Name "range" p') [a, b, c] [] pos'] X.env = (false, eval (.Call (.Name "range" p') [a, b, c] [] pos') X.env) :: starEach [] X.env := by rfl) :
    PE X (.Call (.Name "list" p) [.Call (.Name "range" p') [a, b, c] [] pos'] [] pos) (tLstDn ta) := by
  refine ⟨fun pins s σ H Q I h => ?_⟩
  have inner : wpAny (model X.prog X.w) X.A (eval (.Call (.Name "range" p') [a, b, c] [] pos') X.env)
      (fun x s' => ∃ r i j t u v H', x = .ref r ∧ IsRange s'.heap r i j (-1) t u v ∧ Inv X pins σ H' s' ∧ DnOk i j ∧ ∀ q, H' q = none → Q (.ref q) (upd H' q (.lst ((dnV i j).map V.int)))) X.xe s := by
    refine Call_ (ld_blt I hgr hmr boot_range (PyProof.Rows.callWith_type1 (thn (ha.run pos' pins s σ H _ I h) fun us s1 ⟨vs, H1, I1, r1, q1⟩ => ?_) hs hpl))
    obtain ⟨i, j, rfl, ok, q⟩ := q1
    obtain ⟨u1, u2, u3, rfl, ⟨t1, rfl⟩, ⟨t2, rfl⟩, ⟨t3, rfl⟩⟩ : ∃ u1 u2 u3, us = [u1, u2, u3] ∧ RelV (.int i) u1 ∧ RelV (.int j) u2 ∧ RelV (.int (-1)) u3 := by
      cases r1 with
      | cons x1 r1 =>
        cases r1 with
        | cons x2 r1 =>
          cases r1 with
          | cons x3 r1 =>
            cases r1
            exact ⟨_, _, _, rfl, x1, x2, x3⟩
    exact call_range_3 (by decide) ⟨_, i, j, _, _, _, H1, rfl, IsRange.new _ _ _ _ _ _ _, I1.kept (t' := s1.toks) fun b u e => Heap.get?_push_of_some _ e, ok, q⟩
      (Or.inl (PyProof.noPylong_small (by decide)))
  refine Call_ (ld_blt I hg hm boot_list (PyProof.Rows.callWith_type1 (args_cons (thn inner fun x s1 ⟨r, i, j, t, u, v, H1, ex, hr, I1, ok, q⟩ => args_nil ?_) na) na))
  subst ex
  obtain ⟨b1, b2, b3, b4⟩ := ok
  refine call_list_range (n := (i - j).toNat) (I1.ok.hd hc) hr (PySem.W.small_down (by omega) (by omega) (by omega) (by omega)) (PySem.W.rangeSize_downNat i j) (by omega) fun h' tk acc c' hk e' hi => ?_
  refine ⟨.ref s1.heap.objs.size, upd H1 s1.heap.objs.size (.lst ((dnV i j).map V.int)), I1.laid hk (Nat.le_refl _)
    (show ObjOk X.prog X.w _ _ _ (.lst ((dnV i j).map V.int)) from ⟨?_, acc.toList, c', vals_dn hi, ?_⟩), rfl, q _ (I1.hok.fresh (Nat.le_refl _))⟩
  · rw [List.length_map, dnV_length, sizeLine_eq]
    omega
  · rw [Array.toArray_toList]
    exact e'
end
/-- the ints a .. b - 1 -/
def upV (a b : Int) : List Int := (List.range (b - a).toNat).map fun i => a + (i : Nat)
theorem upV_eq (a b : Int) : rgV a b = (upV a b).map V.int := by
  unfold rgV upV
  rw [List.map_map]
  rfl
theorem upV_length (a b : Int) : (upV a b).length = (b - a).toNat := by
  unfold upV
  rw [List.length_map, List.length_range]
theorem upV_mem {a b x : Int} (h : x ∈ upV a b) : a ≤ x ∧ x < b := by
  unfold upV at h
  obtain ⟨i, hi, rfl⟩ := List.mem_map.mp h
  have := List.mem_range.mp hi
  omega
end LwE
/-! M. Brackets, in plain lists. -/
namespace LwM
/-- one letter x at the place p: the i left over so far, the i + 1 that wait -/
def stp (i : Int) (s : List Int × List Int) (p x : Int) : List Int × List Int :=
  if x = i + 1 then (s.1, s.2 ++ [p]) else if x = i then (if s.2 = [] then (s.1 ++ [p], s.2) else (s.1, s.2.dropLast)) else s
/-- letters from the place k on -/
def go (i : Int) : List Int × List Int → Int → List Int → List Int × List Int
  | s, _, [] => s
  | s, k, x :: l => go i (stp i s k x) (k + 1) l
def br (i : Int) (l : List Int) : List Int × List Int := go i ([], []) 0 l
def lows (i : Int) (l : List Int) : List Int := (br i l).1
def highs (i : Int) (l : List Int) : List Int := (br i l).2
theorem go_app (i : Int) : ∀ (l r : List Int) (s : List Int × List Int) (k : Int), go i s k (l ++ r) = go i (go i s k l) (k + l.length) r
  | [], r, s, k => by simp [go]
  | x :: l, r, s, k => by
    show go i (stp i s k x) (k + 1) (l ++ r) = go i (go i (stp i s k x) (k + 1) l) (k + ((x :: l).length : Nat)) r
    rw [go_app i l r, List.length_cons]
    congr 1
    omega
theorem br_snoc (i : Int) (l : List Int) (x : Int) : br i (l ++ [x]) = stp i (br i l) l.length x := by
  unfold br
  rw [go_app]
  show stp i _ (0 + (l.length : Int)) x = _
  rw [Int.zero_add]
/-- the lists get no longer than the letters -/
theorem go_len (i : Int) : ∀ (l : List Int) (s : List Int × List Int) (k : Int), (go i s k l).1.length + (go i s k l).2.length ≤ s.1.length + s.2.length + l.length
  | [], s, k => by simp [go]
  | x :: l, s, k => by
    have h := go_len i l (stp i s k x) (k + 1)
    have h2 : (stp i s k x).1.length + (stp i s k x).2.length ≤ s.1.length + s.2.length + 1 := by
      unfold stp
      split
      · simp; omega
      · split
        · split
          · simp; omega
          · simp; omega
        · omega
    show (go i (stp i s k x) (k + 1) l).1.length + (go i (stp i s k x) (k + 1) l).2.length ≤ _
    rw [List.length_cons]
    omega
theorem br_len (i : Int) (l : List Int) : (lows i l).length ≤ l.length ∧ (highs i l).length ≤ l.length := by
  have h := go_len i l ([], []) 0
  unfold lows highs br
  simp at h
  omega
/-- all places lie among the letters, and hold i, or i + 1 -/
theorem go_bd (i : Int) : ∀ (l : List Int) (s : List Int × List Int) (k : Int), ∀ p, p ∈ (go i s k l).1 ∨ p ∈ (go i s k l).2 → (p ∈ s.1 ∨ p ∈ s.2) ∨ (k ≤ p ∧ p < k + l.length)
  | [], s, k, p, h => .inl h
  | x :: l, s, k, p, h => by
    have ih := go_bd i l (stp i s k x) (k + 1) p h
    rw [List.length_cons]
    rcases ih with ih | ih
    · have e : p ∈ s.1 ∨ p ∈ s.2 ∨ p = k := by
        unfold stp at ih
        split at ih
        · rcases ih with ih | ih
          · exact .inl ih
          · rcases List.mem_append.mp ih with z | z
            · exact .inr (.inl z)
            · exact .inr (.inr (List.mem_singleton.mp z))
        · split at ih
          · split at ih
            · rcases ih with ih | ih
              · rcases List.mem_append.mp ih with z | z
                · exact .inl z
                · exact .inr (.inr (List.mem_singleton.mp z))
              · exact .inr (.inl ih)
            · rcases ih with ih | ih
              · exact .inl ih
              · exact .inr (.inl ((List.dropLast_sublist _).subset ih))
          · rcases ih with ih | ih
            · exact .inl ih
            · exact .inr (.inl ih)
      rcases e with e | e | e
      · exact .inl (.inl e)
      · exact .inl (.inr e)
      · exact .inr ⟨by omega, by omega⟩
    · exact .inr ⟨by omega, by omega⟩
theorem br_bd {i : Int} {l : List Int} {p : Int} (h : p ∈ lows i l ∨ p ∈ highs i l) : 0 ≤ p ∧ p < l.length := by
  rcases go_bd i l ([], []) 0 p h with z | z
  · rcases z with z | z <;> simp at z
  · omega
/-! ### words put together -/
/-- from an empty stack, and from one with things waiting: the first i + 1 that wait are taken by the i left over, from the last -/
theorem go_from (i : Int) : ∀ (l : List Int) (L W : List Int) (k : Int) (A B : List Int),
    go i (L ++ A.drop W.length, W.take (W.length - A.length) ++ B) k l =
      (L ++ (go i (A, B) k l).1.drop W.length, W.take (W.length - (go i (A, B) k l).1.length) ++ (go i (A, B) k l).2)
  | [], L, W, k, A, B => rfl
  | x :: l, L, W, k, A, B => by
    have step : stp i (L ++ A.drop W.length, W.take (W.length - A.length) ++ B) k x =
        (L ++ (stp i (A, B) k x).1.drop W.length, W.take (W.length - (stp i (A, B) k x).1.length) ++ (stp i (A, B) k x).2) := by
      unfold stp
      by_cases h1 : x = i + 1
      · simp only [h1, if_true]
        simp [List.append_assoc]
      · rw [if_neg h1, if_neg h1]
        by_cases h2 : x = i
        · rw [if_pos h2, if_pos h2]
          by_cases hB : B = []
          · subst hB
            simp only [List.append_nil, if_true]
            by_cases hW : W.take (W.length - A.length) = []
            · have hl : W.length ≤ A.length := by
                have := congrArg List.length hW
                rw [List.length_take] at this
                simp at this
                omega
              rw [if_pos hW]
              have e1 : (A ++ [k]).drop W.length = A.drop W.length ++ [k] := List.drop_append_of_le_length hl
              have e2 : W.length - (A ++ [k]).length = 0 := by
                rw [List.length_append, List.length_singleton]
                omega
              have e3 : W.length - A.length = 0 := by omega
              simp only [e1, e2, e3, List.take_zero, List.append_assoc]
            · have hl : A.length < W.length := by
                rcases Nat.lt_or_ge A.length W.length with z | z
                · exact z
                · exact absurd (by rw [Nat.sub_eq_zero_of_le z, List.take_zero]) hW
              rw [if_neg hW]
              have e1 : (A ++ [k]).drop W.length = A.drop W.length := by
                rw [List.drop_of_length_le (by rw [List.length_append, List.length_singleton]; omega), List.drop_of_length_le (by omega)]
              have e2 : (W.take (W.length - A.length)).dropLast = W.take (W.length - (A ++ [k]).length) := by
                rw [List.dropLast_eq_take, List.take_take, List.length_take, List.length_append, List.length_singleton]
                congr 1
                omega
              rw [e1, e2]
          · rw [if_neg (by simp [hB]), if_neg hB, List.dropLast_append_of_ne_nil hB]
        · rw [if_neg h2, if_neg h2]
    show go i (stp i _ k x) (k + 1) l = _
    rw [step]
    exact go_from i l L W (k + 1) _ _
/-- places moved on -/
theorem go_shift (i d : Int) : ∀ (l : List Int) (A B : List Int) (k : Int), go i (A.map (· + d), B.map (· + d)) (k + d) l = ((go i (A, B) k l).1.map (· + d), (go i (A, B) k l).2.map (· + d))
  | [], A, B, k => rfl
  | x :: l, A, B, k => by
    have step : stp i (A.map (· + d), B.map (· + d)) (k + d) x = ((stp i (A, B) k x).1.map (· + d), (stp i (A, B) k x).2.map (· + d)) := by
      unfold stp
      split
      · simp
      · split
        · by_cases hB : B = []
          · subst hB
            simp
          · rw [if_neg (by simp [hB]), if_neg hB]
            simp [List.map_dropLast]
        · rfl
    show go i (stp i _ (k + d) x) (k + d + 1) l = _
    rw [step]
    have e : k + d + 1 = k + 1 + d := by omega
    rw [e]
    exact go_shift i d l _ _ (k + 1)
theorem br_app (i : Int) (l r : List Int) :
    br i (l ++ r) = (lows i l ++ ((lows i r).map (· + (l.length : Int))).drop (highs i l).length, (highs i l).take ((highs i l).length - (lows i r).length) ++ (highs i r).map (· + (l.length : Int))) := by
  have h1 := go_from i r (lows i l) (highs i l) (0 + (l.length : Int)) [] []
  have h2 := go_shift i (l.length : Int) r [] [] 0
  unfold br
  rw [go_app]
  have e0 : go i ([], []) 0 l = (lows i l ++ ([] : List Int).drop (highs i l).length, (highs i l).take ((highs i l).length - ([] : List Int).length) ++ []) := by
    simp [lows, highs, br]
  rw [e0, h1]
  have e1 : go i (([] : List Int), ([] : List Int)) (0 + (l.length : Int)) r = ((lows i r).map (· + (l.length : Int)), (highs i r).map (· + (l.length : Int))) := h2
  rw [e1, List.length_map]
theorem lows_app (i : Int) (l r : List Int) : lows i (l ++ r) = lows i l ++ ((lows i r).map (· + (l.length : Int))).drop (highs i l).length := by
  show (br i (l ++ r)).1 = _
  rw [br_app]
theorem highs_app (i : Int) (l r : List Int) : highs i (l ++ r) = (highs i l).take ((highs i l).length - (lows i r).length) ++ (highs i r).map (· + (l.length : Int)) := by
  show (br i (l ++ r)).2 = _
  rw [br_app]
/-- how many are left over -/
def up (i : Int) (l : List Int) : Nat := (lows i l).length
def dn (i : Int) (l : List Int) : Nat := (highs i l).length
theorem up_app (i : Int) (l r : List Int) : up i (l ++ r) = up i l + (up i r - dn i l) := by
  unfold up dn
  rw [lows_app, List.length_append, List.length_drop, List.length_map]
theorem dn_app (i : Int) (l r : List Int) : dn i (l ++ r) = (dn i l - up i r) + dn i r := by
  unfold up dn
  rw [highs_app, List.length_append, List.length_take, List.length_map]
  omega
end LwM
/-! An own class's +, !=, len; the text of a list of numbers. -/
namespace LwE
open PySem PySem.Spec PyProof.Rows L2
section
variable {X : Cx} {pins : List (Addr × Obj)} {σ : L2.St} {H : Hp} {s : Shared} {k : Nat} {f C : Addr} {fd : FuncData} {ps : List Str} {sp : Sp}
/-- a def called anywhere below the running body -/
theorem run_below {A : Around} {Q : VK} {us : List Value} {vs : List V} (F : FnOk X.prog X.w X.K X.mg X.base CX0 k f fd ps sp) (hr : Room k A) (e0 : Env0 X.prog X.w X.K X.mg X.base A X.stack s H) (hb : Binds X.K fd ps [])
    (I : Inv X pins σ H s) (r : Vals vs us) (h : sp vs H Q E0) : wpAny (model X.prog X.w) A (call (.ref f) us) (EP X pins σ Q) X.xe s := by
  have hl : (us ++ []).length = ps.length := by
    rw [List.append_nil, ← r.length]
    exact F.len _ _ _ _ h
  have b0 := hb s us I.kIn hl
  rw [List.append_nil] at b0
  refine wpAny_call (codeAny_mono (F.run A X.stack s H ⟨us, []⟩ us vs Q E0 hr e0 b0 r h) fun r s' hq => ?_)
  cases r with
  | error e => exact (show False from hq).elim
  | ok fl =>
    cases fl with
    | ret u => exact I.after hq
    | next => exact False.elim hq
    | brk => exact False.elim hq
    | cont => exact False.elim hq
theorem inst_of {dx a : Addr} {fs : List (Str × V)} (I : Inv X pins σ H s) (e : H a = some (.ins C dx fs)) : ∃ ox od, PySem.W.InstAt s.heap a ox C (some od) := by
  obtain ⟨mA, O, _⟩ := ins_get I.hok e
  obtain ⟨od, J, _⟩ := O.look
  exact ⟨_, od, J⟩
/-- len(o) -/
def rLenO (C : Addr) (sp : Sp) : List V → Hp → VK → Prop := fun xs H Q => ∃ a dx fs, xs = [V.ref a] ∧ H a = some (.ins C dx fs) ∧ sp [.ref a] H (fun z H' => ∃ i : Int, z = .int i ∧ (0 ≤ i ∧ i < 2 ^ 63) ∧ Q (.int i) H') E0
theorem call_lenO (hs : PySem.W.findIn X.K (.ref C) "__len__" = some (some (.ref f))) (hf : PySem.W.isFn X.K (.ref f) = true) (F : FnOk X.prog X.w X.K X.mg X.base CX0 k f fd ps sp) (hb : Binds X.K fd ps []) (hr : Room (k + 1) X.A) :
    CallR X (.builtin "len") (rLenO C sp) := by
  intro pins s σ H xs us Q I r h
  obtain ⟨a, dx, fs, rfl, e, q⟩ := h
  obtain ⟨u, rfl, ru⟩ := vals1 r
  obtain rfl : u = Value.ref a := ru
  obtain ⟨ox, od, J⟩ := inst_of I e
  obtain ⟨m, hF⟩ := I.fr
  refine PySem.W.len_K hF I.ok.mod.kin J hs hf (wpAny_mono (run_below (vs := [.ref a]) F hr.in1 I.env0.in1 hb I (.cons rfl .nil) q) (fun v s' z => ?_) fun _ _ x => x)
  obtain ⟨z', H', I', rz, i, rfl, hi, q'⟩ := z
  obtain ⟨t, rfl⟩ := (show ∃ t, v = Value.int i t from rz)
  exact ⟨hi, .int i, H', I'.tok _, ⟨_, rfl⟩, q'⟩
/-- a + b, two of one class -/
def rTwoO (C : Addr) (sp : Sp) : R2 := fun x y H Q => ∃ a dx fs b dy gs, x = .ref a ∧ y = .ref b ∧ H a = some (.ins C dx fs) ∧ H b = some (.ins C dy gs) ∧ sp [x, y] H Q E0
theorem op_addO (hs : PySem.W.findIn X.K (.ref C) "__add__" = some (some (.ref f))) (hf : PySem.W.isFn X.K (.ref f) = true) (hc : PySem.W.selfFirst X.K C = true) (F : FnOk X.prog X.w X.K X.mg X.base CX0 k f fd ps sp) (hb : Binds X.K fd ps [])
    (hr : Room k X.A) : OpR X (binaryOp .Add) (rTwoO C sp) := by
  intro pins s σ H x y v u Q I rx ry h
  obtain ⟨a, dx, fs, b, dy, gs, rfl, rfl, ea, eb, q⟩ := h
  obtain rfl : v = Value.ref a := rx
  obtain rfl : u = Value.ref b := ry
  obtain ⟨ox, od, J⟩ := inst_of I ea
  obtain ⟨oy, oe, J'⟩ := inst_of I eb
  obtain ⟨m, hF⟩ := I.fr
  refine PySem.W.binop_K hF I.ok.mod.kin J J'.type hc hs hf (wpAny_mono (run_below (vs := [.ref a, .ref b]) F hr I.env0 hb I (.cons rfl (.cons rfl .nil)) q) (fun w s' z => ?_) fun _ _ x => x)
  obtain ⟨z', H', I', rz, qz⟩ := z
  exact SlX.cmpback rz ⟨z', H', I', rz, qz⟩
/-- a special method that is a built-in's, bound and called -/
theorem bound_slot {M : Model} {A : Around} {E : Value → Shared → Prop} {K : PySem.W.Frag} {x : Addr} {ox : Obj} {od : Option Obj} {name : Str} {B id : String} {args : List Value} {Q : Option Value → Shared → Prop} (Xk : K.In s.heap) (I : PySem.W.InstAt s.heap x ox C od)
    (hs : PySem.W.findIn K (.ref C) name = some (some (.builtin id))) (S : Slot B name id) (h : wpAny M A (call (.builtin id) (.ref x :: args)) (fun v => Q (some v)) E s) : wpAny M A (callSpecialIfBound? (.ref x) name args) Q E s := by
  simp only [callSpecialIfBound?, bindSpecialIfBound?]
  refine wpAny_holding (wpAny_bind (wpAny_bind (wpAny_bind (I.type.here ((PySem.W.looks_findIn Xk hs).here ?_)))))
  simp only [S.bind]
  refine wpAny_bind (wpAny_askSetting (wpAny_ite ?_))
  have fin : wpAny M A (call (.builtin id) ([.ref x] ++ args) >>= fun v => pure (some v)) Q E s := wpAny_bind (wpAny_mono h (fun v s' z => wpAny_pure z) fun _ _ z => z)
  split
  · exact wpAny_bind (wpAny_pure (wpAny_pure fin))
  · exact wpAny_tryCatch (wpAny_bind (wpAny_pure (wpAny_pure fin)))
/-- a != b by the class's own == -/
def rNeO (C : Addr) (sp : Sp) : R2 := fun x y H Q => ∃ a dx fs b dy gs, x = .ref a ∧ y = .ref b ∧ H a = some (.ins C dx fs) ∧ H b = some (.ins C dy gs) ∧ sp [x, y] H (fun z H' => ∃ c : Bool, z = .bl c ∧ Q (.bl (!c)) H') E0
theorem op_neO (hs : PySem.W.findIn X.K (.ref C) "__eq__" = some (some (.ref f))) (hf : PySem.W.isFn X.K (.ref f) = true) (hn : PySem.W.findIn X.K (.ref C) "__ne__" = some (some (.builtin "object.__ne__"))) (hm : PySem.W.mroIn X.K C (.type "object") = some true)
    (F : FnOk X.prog X.w X.K X.mg X.base CX0 k f fd ps sp) (hb : Binds X.K fd ps []) (hr : Room (k + 1) X.A) : OpR X (compareOp .NotEq) (rNeO C sp) := by
  intro pins s σ H x y v u Q I rx ry h
  obtain ⟨a, dx, fs, b, dy, gs, rfl, rfl, ea, eb, q⟩ := h
  obtain rfl : v = Value.ref a := rx
  obtain rfl : u = Value.ref b := ry
  obtain ⟨ox, od, J⟩ := inst_of I ea
  obtain ⟨oy, oe, J'⟩ := inst_of I eb
  have Xk := I.kIn
  have hcall : wpAny (model X.prog X.w) X.A.in1 (call (.ref f) [.ref a, .ref b]) (fun w s' => ∃ c, w = .bool c ∧ EP X pins σ Q (.bool (!c)) s') X.xe s :=
    wpAny_mono (run_below (vs := [.ref a, .ref b]) F hr.in1 I.env0.in1 hb I (.cons rfl (.cons rfl .nil)) q) (fun w s' z => by
      obtain ⟨z', H', I', rz, c, rfl, qz⟩ := z
      obtain rfl : w = Value.bool c := rz
      exact ⟨c, rfl, .bl (!c), H', I', rfl, qz⟩) fun _ _ x => x
  have h1 : X.A.units < cLine := hr.units0
  have h2 : X.A.in1.units < cLine := by
    have := hr.units
    show X.A.units + 1 < cLine
    omega
  have sub : PySem.W.Looks (model X.prog X.w) s.heap (isInstance (.ref a) (.type "object")) true := J.type.andThen (PySem.W.looks_mroIn Xk hm)
  have body : wpAny (model X.prog X.w) X.A.in1 (Builtin.«object.__ne__» ⟨[.ref a, .ref b], []⟩) (fun fin s' => ∃ c, fin = .done (.ret (.bool (!c))) ∧ EP X pins σ Q (.bool (!c)) s') X.xe s := by
    unfold Builtin.«object.__ne__»
    repeat (first
      | with_reducible refine wpAny_cRoomFor h2 ?_
      | (refine wpAny_bind (m := callSpecialIfBound? (.ref a) (Str.ofString "__eq__") [.ref b]) (PySem.W.ifBound_K Xk J hs hf (wpAny_mono hcall (fun r s' hq => by
          obtain ⟨c, rfl, qz⟩ := hq
          repeat (first | exact ⟨c, rfl, qz⟩ | exact wpAny_pure ⟨c, rfl, qz⟩ | exact wpAny_truthy_bool ⟨c, rfl, qz⟩ | (refine wpAny_bind (m := truthy (.bool _)) (wpAny_truthy_bool ?_)) | wp_step)) fun _ _ e => e)))
      | wp_step)
  have one : wpAny (model X.prog X.w) X.A (tryCompare (.ref a) "__ne__" (.ref b)) (fun r s' => ∃ c : Bool, r = some (.bool (!c)) ∧ EP X pins σ Q (.bool (!c)) s') X.xe s := by
    simp only [tryCompare]
    refine wpAny_bind (bound_slot (B := "object") Xk J hn PySem.F.cmp_object.ne (wpAny_call (codeAny_call_builtin PySem.F.cmp_object.ne.plain PySem.F.cmpEntry_ne
      (@PySem.W.check_slot (model X.prog X.w) _ _ s "object.__ne__" "object" "__ne__" (.ref a) [.ref b] [] _ PySem.F.cmpKind_ne PySem.F.cmpSplit_ne sub (PySem.F.cmpArgs_ne _ _) ?_))))
    refine wpAny_mono body (fun fin s' z => ?_) fun _ _ e => e
    obtain ⟨c, rfl, qz⟩ := z
    first | exact ⟨c, rfl, qz⟩ | exact wpAny_pure ⟨c, rfl, qz⟩
  show wpAny _ _ (richCompare .NotEq (.ref a) (.ref b)) _ _ _
  unfold richCompare
  simp only [oneThing_ref]
  refine wpAny_holding (wpAny_bind (wpAny_cRoomFor h1 ?_))
  rw [cmpInfo_NotEq]
  dsimp only
  refine wpAny_bind (J.type.here (wpAny_bind (J'.type.here ?_)))
  rw [show (Value.ref C != Value.ref C) = false from by simp]
  simp only [Bool.false_eq_true, if_false]
  refine wpAny_bind (wpAny_pure ?_)
  simp only [Bool.false_eq_true, if_false]
  refine wpAny_bind (wpAny_mono one (fun r s' z => ?_) fun _ _ e => e)
  obtain ⟨c, rfl, qz⟩ := z
  first | exact wpAny_pure qz | exact wpAny_pure (wpAny_pure qz)
/-- repr(x), x a list or tuple of what is data -/
def rReprD (K : PySem.W.Frag) : List V → Hp → VK → Prop := fun xs H Q => ∃ (a : Addr) (d : PyData), xs = [V.ref a] ∧ Dp K H (.ref a) d ∧ d.showable = true ∧ d.hasDict = false ∧ d.depth ≤ 8 ∧ d.shown.length ≤ sizeLine ∧ Q (.str d.shown) H
theorem call_reprD (hg : X.A.guards = some []) (hu : X.A.units + 64 < cLine) : CallR X (.builtin "repr") (rReprD X.K) := by
  intro pins s σ H xs us Q I r h
  obtain ⟨a, d, rfl, hd, h1, h2, h3, h4, q⟩ := h
  obtain ⟨u, rfl, ru⟩ := vals1 r
  obtain ⟨as, rd⟩ := Dp.reads I d _ _ hd ru
  obtain rfl : u = Value.ref a := ru
  refine repr_of_reads' rd h1 (fun z => by rw [h2] at z; cases z) hg (by omega) (fun b o e => e) (fun h' t tk kp => ?_) h4
  exact ⟨.str d.shown, H, I.kept kp, ⟨_, rfl⟩, q⟩
end
end LwE
/-! B. Bounds, kinds, sizes, indexes, letters. -/
namespace Lw
open PySem L2
/-- the numbers of the module words -/
structure Nums (mg : Str → Option Value) : Prop where
  least : ∃ t, mg "LEAST_SIZE" = some (.int 2 t)
  mostS : ∃ t, mg "MOST_SIZE" = some (.int 6 t)
  mostL : ∃ t, mg "MOST_LETTERS" = some (.int 40 t)
abbrev nums (l : List Int) : List V := l.map V.int
theorem nums_get {l : List Int} {i : Nat} {x : V} (h : (nums l)[i]? = some x) : ∃ z, x = .int z ∧ l[i]? = some z ∧ z ∈ l := by
  rw [List.getElem?_map] at h
  cases e : l[i]? with
  | none =>
    rw [e] at h
    cases h
  | some z =>
    rw [e] at h
    exact ⟨z, (Option.some.inj h).symm, rfl, List.mem_of_getElem? e⟩
section
variable {P : Program} {w : World} {K : PySem.W.Frag} {mg : Str → Option Value} {base : Heap}
/-! is_between -/
def spBetween : Sp := fun vs H Q _ => ∃ v a b : Int, vs = [.int v, .int a, .int b] ∧ Q (.bl (decide (a ≤ v ∧ v ≤ b))) H
theorem scBetween : FnScope ["value", "least", "most"] ["value", "least", "most"] (defScope sBetween) := ⟨rfl, rfl, rfl, by decide +kernel, rfl, by decide +kernel, by decide +kernel⟩
theorem ok_between {f : Addr} {fd : FuncData} (B : Bare mg) (F : Df K mg "is_between" sBetween f fd) : FnOk P w K mg base CX0 2 f fd ["value", "least", "most"] spBetween := by
  refine F.fn.ok scBetween (fun vs H Q E h => ?_) (fun cdv A outer s H vs Q E hr h => ?_)
  · obtain ⟨v, a, b, rfl, _⟩ := h
    rfl
  · obtain ⟨v, a, b, rfl, k⟩ := h
    refine ⟨_, pss_one (ps_ret (pe_and (pe_callB call_isi (by rfl) B.isinstance (by decide +kernel) (pa_cons (pv 0) (pa_cons (pe_bltn (v := .ty "int") (by rfl) B.int (by decide +kernel) rfl) pa_nil)))
      (pe_and (pe_not (pe_callB call_isi (by rfl) B.isinstance (by decide +kernel) (pa_cons (pv 0) (pa_cons (pe_bltn (v := .ty "bool") (by rfl) B.bool (by decide +kernel) rfl) pa_nil))))
      (pe_one (pe_chain op_le op_le (pv 1) (pv 0) (pv 2)))))), ?_⟩
    refine ⟨_, rfl, _, _, _, _, true, rfl, ClsV.ty _, TyX.base (TyOf.int _), kit_ty (by decide +kernel), _, rfl, ?_⟩
    refine iteT ?_
    refine ⟨_, rfl, _, _, _, _, false, rfl, ClsV.ty _, TyX.base (TyOf.int _), kit_ty (by decide +kernel), _, rfl, _, rfl, ?_⟩
    refine iteT ?_
    refine ⟨_, rfl, _, rfl, _, _, rfl, rfl, _, rfl, ?_⟩
    by_cases h1 : a ≤ v
    · rw [decide_eq_true h1]
      refine iteT ⟨_, rfl, _, _, rfl, rfl, ?_⟩
      have e : decide (a ≤ v ∧ v ≤ b) = decide (v ≤ b) := by simp [h1]
      rw [e] at k
      exact k
    · rw [decide_eq_false h1]
      refine iteF ?_
      have e : decide (a ≤ v ∧ v ≤ b) = false := by simp [h1]
      rw [e] at k
      exact k
/-! is_listing -/
def spListing : Sp := fun vs H Q _ => ∃ a : Addr, vs = [.ref a] ∧ ((∃ xs, H a = some (.lst xs)) ∨ ∃ xs, H a = some (.tup xs)) ∧ ∀ H', Same H H' → Q (.bl true) H'
theorem scListing : FnScope ["value"] ["value"] (defScope sListing) := ⟨rfl, rfl, rfl, by decide +kernel, rfl, by decide +kernel, by decide +kernel⟩
theorem same_new {H : Hp} {p : Addr} {o : HO} (h : H p = none) : Same H (upd H p o) := fun b u e => by
  rw [upd_ne (ne_of_none e h)]
  exact e
theorem ok_listing {f : Addr} {fd : FuncData} (B : Bare mg) (F : Df K mg "is_listing" sListing f fd) : FnOk P w K mg base CX0 1 f fd ["value"] spListing := by
  refine F.fn.ok scListing (fun vs H Q E h => ?_) (fun cdv A outer s H vs Q E hr h => ?_)
  · obtain ⟨a, rfl, _⟩ := h
    rfl
  · obtain ⟨a, rfl, hk, k⟩ := h
    refine ⟨_, pss_one (ps_ret (pe_callB call_isiT (by rfl) B.isinstance (by decide +kernel) (pa_cons (pv 0) (pa_cons (pe_tup (pa_cons (pe_bltn (v := .ty "list") (by rfl) B.list (by decide +kernel) rfl)
      (pa_cons (pe_bltn (v := .ty "tuple") (by rfl) B.tuple (by decide +kernel) rfl) pa_nil))) pa_nil)))), ?_⟩
    refine ⟨_, rfl, (by show 2 ≤ sizeLine; decide), fun t ht => ?_⟩
    have kk := k _ (same_new (o := .tup [.ty "list", .ty "tuple"]) ht)
    rcases hk with ⟨xs, e⟩ | ⟨xs, e⟩
    · exact ⟨_, _, _, _, _, true, rfl, upd_same, .cons (ClsV.ty _) (.cons (ClsV.ty _) .nil), TyX.base (TyOf.lst (by rw [upd_ne (ne_of_none e ht)]; exact e)),
        kitAny_cons (b := true) (kit_ty (by decide +kernel)) (fun z => by cases z) (fun _ => rfl), kk⟩
    · exact ⟨_, _, _, _, _, true, rfl, upd_same, .cons (ClsV.ty _) (.cons (ClsV.ty _) .nil), TyX.base (TyOf.tup (by rw [upd_ne (ne_of_none e ht)]; exact e)),
        kitAny_cons (b := false) (kit_ty (by decide +kernel)) (fun _ => kitAny_cons (b := true) (kit_ty (by decide +kernel)) (fun z => by cases z) (fun _ => rfl)) (fun z => by cases z), kk⟩
/-! check_size, check_index -/
def spCkSize : Sp := fun vs H Q _ => ∃ n : Int, vs = [.int n] ∧ 2 ≤ n ∧ n ≤ 6 ∧ Q .non H
theorem scCkSize : FnScope ["size"] ["size"] (defScope sCkSize) := ⟨rfl, rfl, rfl, by decide +kernel, rfl, by decide +kernel, by decide +kernel⟩
theorem ok_cksize {f f1 : Addr} {fd fd1 : FuncData} (N : Nums mg) (F : Df K mg "check_size" sCkSize f fd) (F1 : Df K mg "is_between" sBetween f1 fd1) (b1 : Binds K fd1 ["value", "least", "most"] [])
    (G1 : FnOk P w K mg base CX0 2 f1 fd1 ["value", "least", "most"] spBetween) : FnOk P w K mg base CX0 3 f fd ["size"] spCkSize := by
  refine F.fn.ok scCkSize (fun vs H Q E h => ?_) (fun cdv A outer s H vs Q E hr h => ?_)
  · obtain ⟨n, rfl, _⟩ := h
    rfl
  · obtain ⟨n, rfl, h1, h2, k⟩ := h
    obtain ⟨t1, e1⟩ := N.least
    obtain ⟨t2, e2⟩ := N.mostS
    refine ⟨_, pss_one (ps_if (pt_not (pt_val (pe_call G1 hr (by rfl) F1.g F1.fn.kp b1 .nil pass0 (pa_cons (pv 0) (pa_cons (pe_glob (v := .int 2) (by rfl) e1 ⟨_, rfl⟩) (pa_cons (pe_glob (v := .int 6) (by rfl) e2 ⟨_, rfl⟩) pa_nil))))))
      pss_never pss_nil), ?_⟩
    refine ⟨_, rfl, n, 2, 6, rfl, _, rfl, ?_⟩
    rw [decide_eq_true (show 2 ≤ n ∧ n ≤ 6 from ⟨h1, h2⟩)]
    exact iteF k
def spCkIndex : Sp := fun vs H Q _ => ∃ n i : Int, vs = [.int n, .int i] ∧ 1 ≤ i ∧ i ≤ n - 1 ∧ Q .non H
theorem scCkIndex : FnScope ["size", "i"] ["size", "i"] (defScope sCkIndex) := ⟨rfl, rfl, rfl, by decide +kernel, rfl, by decide +kernel, by decide +kernel⟩
theorem ok_ckindex {f f1 : Addr} {fd fd1 : FuncData} (F : Df K mg "check_index" sCkIndex f fd) (F1 : Df K mg "is_between" sBetween f1 fd1) (b1 : Binds K fd1 ["value", "least", "most"] [])
    (G1 : FnOk P w K mg base CX0 2 f1 fd1 ["value", "least", "most"] spBetween) : FnOk P w K mg base CX0 3 f fd ["size", "i"] spCkIndex := by
  refine F.fn.ok scCkIndex (fun vs H Q E h => ?_) (fun cdv A outer s H vs Q E hr h => ?_)
  · obtain ⟨n, i, rfl, _⟩ := h
    rfl
  · obtain ⟨n, i, rfl, h1, h2, k⟩ := h
    refine ⟨_, pss_one (ps_if (pt_not (pt_val (pe_call G1 hr (by rfl) F1.g F1.fn.kp b1 .nil pass0 (pa_cons (pv 1) (pa_cons pe_int (pa_cons (pe_op op_sub (pv 0) pe_int) pa_nil)))))) pss_never pss_nil), ?_⟩
    refine ⟨_, rfl, _, rfl, _, _, rfl, rfl, i, 1, n - 1, rfl, _, rfl, ?_⟩
    rw [decide_eq_true (show 1 ≤ i ∧ i ≤ n - 1 from ⟨h1, h2⟩)]
    exact iteF k
end
end Lw
/-! Gd. Defs that are called where no text is being made: the guards are known to be none. -/
namespace LwE
open PySem PySem.Spec PyProof.Rows L2
/-- a def's promise where no guard stands -/
structure FnG (P : Program) (w : World) (K : PySem.W.Frag) (mg : Str → Option Value) (base : Heap) (k : Nat) (f : Addr) (fd : FuncData) (ps : List Str) (sp : Sp) : Prop where
  len : ∀ vs H Q E, sp vs H Q E → vs.length = ps.length
  run : ∀ (A : Around) (outer : List Env) (s : Shared) (H : Hp) (args : Args) (us : List Value) (vs : List V) (Q : VK) (E : XK), A.guards = some [] → Room k A →
    Env0 P w K mg base A outer s H → BindsTo s fd args (ps.zip us) → Vals vs us → sp vs H Q E → codeAny (model P w) A (.call (.ref f) args) (CR CX0 outer P w H s Q E) s
section
variable {P : Program} {w : World} {K : PySem.W.Frag} {mg : Str → Option Value} {base : Heap}
theorem okG {x qual : Str} {st : Stmt} {f : Addr} {fd : FuncData} {N ps : List Str} {k : Nat} {sp : Sp} (F : Fun K x qual st f fd) (S : FnScope N ps (defScope st)) (len : ∀ vs H Q E, sp vs H Q E → vs.length = ps.length)
    (hbody : ∀ (cdv : Value) (A : Around) (outer : List Env) (s : Shared) (H : Hp) (vs : List V) (Q : VK) (E : XK), A.guards = some [] → Room k (A.deeper (PyProof.Rows.envOfC qual (defScope st) s.heap.objs.size f cdv)) → sp vs H Q E →
      ∃ t, PSs (cxOf CX0 P w K mg base N qual (defScope st) f cdv A outer s H E).nox (defBody st) t ∧ t { nx := fun _ H' => Q .non H', rt := Q } (L2.start N vs) H) : FnG P w K mg base (k + 1) f fd ps sp := by
  obtain ⟨oc, od, kV, doc, pm, an, cdv, ct, osl, rfl, lk, hcd⟩ := F.ex
  refine ⟨len, fun A outer s H args us vs Q E hg hr e0 hb r h => ?_⟩
  have old : ∀ b o, base.get? b = some o → s.heap.get? b = some o := fun b o e => (e0.bs b o e).1
  have Ks : K.In s.heap := e0.mod.kin.keeps old
  have free : s.heap.NoLimit := e0.mod.nolimit.keeps old
  have kinds : ∀ y ∈ ps.zip us, (defScope st).names.lookup y.1 = some .local ∨
      ((defScope st).names.lookup y.1 = some .cell ∧ ((cellsFrom (s.heap.objs.size + 1) (defScope st).names []).lookup y.1).isSome = true) := by
    rintro ⟨n, v⟩ hy
    rcases S.par n (List.of_mem_zip hy).1 with z | z
    · exact .inl z
    · exact .inr ⟨z, PySem.W.cellsFrom_some _ _ _ (.inl z)⟩
  refine codeAny_call_function hr.depth (Ks _ _ lk) rfl S.co S.gen rfl (PySem.W.codeRec_of Ks hcd) (hb _ _ _ _ ?_)
  refine wpAny_newFunctionEnv_cells S.kind kinds fun env eq s1 entry => ?_
  subst eq
  refine ⟨free.keeps entry.toInCall.keep, codeAny_func ?_⟩
  obtain ⟨t, ht, q⟩ := hbody cdv A outer s H vs Q E hg (hr.deeper _) h
  have I := inv_start (CX := CX0) (E := E) S hr.hd e0 (len _ _ _ _ h) r entry
  refine wpAny_mono (ht.nox.run [] s1 (L2.start N vs) H _ I q) (fun fl s' z => ?_) fun _ _ z => z
  cases fl with
  | brk =>
    obtain ⟨_, _, _, z⟩ := z
    exact z.elim
  | cont =>
    obtain ⟨_, _, _, z⟩ := z
    exact z.elim
  | next =>
    obtain ⟨σ', H', J, z⟩ := z
    exact ⟨.non, H', J.os, J.bare, J.base, J.hok, rfl, z⟩
  | ret u =>
    obtain ⟨v, σ', H', J, rv, z⟩ := z
    exact ⟨v, H', J.os, J.bare, J.base, J.hok, rv, z⟩
end
section
variable {X : Cx} {x : Str} {p pos : Pos} {e : Expr} {es : List Expr} {t : TA} {k : Nat} {f : Addr} {fd : FuncData} {ps : List Str} {sp : Sp}
/-- f(e, ..) where no guard stands -/
theorem pe_callG (hg : X.A.guards = some []) (F : FnG X.prog X.w X.K X.mg X.base k f fd ps sp) (hr : Room k X.A) (gx : Gl X x) (hm : X.mg x = some (.ref f)) (hk : PySem.W.keepIn X.K (.ref f) = true) (hb : Binds X.K fd ps [])
    (ha : PA X (e :: es) t) (hdb : (x == ("__debug__" : Str)) = false := by decide) (he : starEach (e :: es) X.env = (false, eval e X.env) :: starEach es X.env := by rfl)
    (hpl : (backTo pos (starEach es X.env)).any (·.1) = false := by rfl) : PE X (.Call (.Name x p) (e :: es) [] pos) (tCall sp [] E0 t) := by
  refine ⟨fun pins s σ H Q I h => ?_⟩
  refine wpAny_Call_Name_kw (ld_glob I gx hm ?_ hdb)
  refine PySem.W.callWith_K (h₀ := X.base) I.ok.mod.kin hk (thn (ha.run pos pins s σ H _ I h) fun us s1 ⟨vs, H1, I1, r, q⟩ => ⟨I1.kIn, ?_⟩) he hpl
  have q' : sp vs H1 Q E0 := by
    have z : sp (vs ++ []) H1 Q E0 := q
    rw [List.append_nil] at z
    exact z
  have hl : (us ++ []).length = ps.length := by
    rw [List.append_nil, ← r.length]
    exact F.len _ _ _ _ q'
  have b0 := hb s1 us I1.kIn hl
  rw [List.append_nil] at b0
  refine wpAny_call (codeAny_mono (F.run X.A X.stack s1 H1 ⟨us, []⟩ us vs Q E0 hg hr I1.env0 b0 r q') fun r s' z => ?_)
  cases r with
  | error e => exact (show False from z).elim
  | ok fl =>
    cases fl with
    | ret u => exact I1.after z
    | next => exact False.elim z
    | brk => exact False.elim z
    | cont => exact False.elim z
end
/-- the law's call -/
theorem call_law {P : Program} {w : World} {K : PySem.W.Frag} {mg mb : Str → Option Value} {k : Nat} {fa a : Addr} {fd : FuncData} {x : Str} {sp : Sp} {s₁ : Shared} {vs : List Value} {ns : List Int}
    (KX : K.In s₁.heap) (hns : s₁.heap.Ns mainGlobals mg) (hb : s₁.heap.Ns builtinsNs mb) (hbb : ∀ x : Str, x ≠ "__name__" → mb x = bootBuiltins x) (hlim : s₁.heap.NoLimit) (hgen : s₁.gens = #[])
    (ha : s₁.heap.get? a = some { cls := .type "list", data := .seq vs.toArray }) (hi : IntsAre vs ns) (hl : ns.length ≤ sizeLine) (hr : Room k callerA)
    (F : ∀ base : Heap, K.In base → base.Ns mainGlobals mg → FnG P w K mg base k fa fd [x] sp) (hbind : ∀ (s : Shared) (u : Value), BindsTo s fd ⟨[u], []⟩ [(x, u)])
    (hsp : ∀ H : Hp, Only H → SqL K H a (ns.map V.int) → sp [.ref a] H (fun v _ => v = .bl true) fun _ _ _ => False) :
    codeAny (model P w) callerA (.call (.ref fa) ⟨[.ref a], []⟩) (fun r s' => r = .ok (.ret (.bool true)) ∧ OldK s₁.heap s'.heap ∧ s'.os = s₁.os ∧ AllBare s'.gens) s₁ := by
  have rv := vals_ints hi
  have nlen := hi.length
  have core : ∀ H : Hp, Only H → SqL K H a (ns.map V.int) → HOk P w H s₁.heap → (∀ b, H b ≠ none → b = a) → (H a ≠ none → K.lookup a = none) →
      codeAny (model P w) callerA (.call (.ref fa) ⟨[.ref a], []⟩) (fun r s' => r = .ok (.ret (.bool true)) ∧ OldK s₁.heap s'.heap ∧ s'.os = s₁.os ∧ AllBare s'.gens) s₁ := by
    intro H hO hS hok only unk
    have keepsNs : ∀ {b : Addr} {m : Str → Option Value}, s₁.heap.Ns b m → (hidT s₁.heap H).Ns b m := by
      rintro b m ⟨o, es, ep, e, d, r⟩
      refine ⟨o, es, ep, hidT_get e ?_, d, r⟩
      cases q : H b with
      | none => rfl
      | some u =>
        have z := only b (by rw [q]; simp)
        rw [z, ha] at e
        cases e
        cases d
    have inK : K.In (hidT s₁.heap H) := by
      intro b o e
      refine hidT_get (KX b o e) ?_
      cases q : H b with
      | none => rfl
      | some u =>
        have z := only b (by rw [q]; simp)
        subst z
        rw [unk (by rw [q]; simp)] at e
        cases e
    have M : Mod K mg (hidT s₁.heap H) := ⟨inK, keepsNs hns, ⟨mb, keepsNs hb, hbb⟩, by
      obtain ⟨mc, z1, z2⟩ := hlim
      exact ⟨mc, keepsNs z1, z2⟩⟩
    have e0 : Env0 P w K mg (hidT s₁.heap H) callerA [] s₁ H := by
      refine ⟨rfl, M, fun b o e => of_hidT e, Nat.le_of_eq (hidT_size _ _), trivial, fun b hb => ?_, hok, .of_eq hgen⟩
      exact absurd (show b ∈ ([] : List Addr) from hb) (by simp)
    refine codeAny_mono ((F _ inK (keepsNs hns)).run callerA [] s₁ H ⟨[.ref a], []⟩ [.ref a] [.ref a] _ _ rfl hr e0 (hbind s₁ (.ref a)) (.cons rfl .nil) (hsp H hO hS)) fun r s' z => ?_
    cases r with
    | error e => exact (show False from z).elim
    | ok fl =>
      cases fl with
      | ret u =>
        obtain ⟨v, H', os, bare, un, hok', r', q⟩ := z
        obtain rfl : v = .bl true := q
        obtain rfl : u = Value.bool true := r'
        refine ⟨rfl, OldK.of_keep fun b o e => ?_, os, bare⟩
        cases q : H b with
        | none => exact un.keep b o e q (fun z => absurd (show b ∈ ([] : List Addr) from z) (by simp)) (by simp)
        | some u =>
          rcases hO b with z | ⟨ob, xs, z⟩
          · rw [q] at z
            cases z
          · obtain ⟨z1, _⟩ := hok b _ z
            obtain ⟨z2, _⟩ := hok' b _ (un.frzs b ob _ z)
            rw [e] at z1
            cases z1
            exact z2
      | next => exact False.elim z
      | brk => exact False.elim z
      | cont => exact False.elim z
  cases hk : K.lookup a with
  | some o =>
    have e := KX a o hk
    rw [ha] at e
    cases e
    refine core (fun _ => none) (fun _ => .inl rfl) ?_ (fun b u z => by cases (show (none : Option HO) = some u from z)) (fun b z => absurd rfl z) fun z => absurd rfl z
    exact .inr ⟨_, vs.toArray, _, hk, rfl, rfl, rfl, by rw [List.size_toArray, nlen]; exact hl, by simpa using rv⟩
  | none =>
    refine core (fun b => if b = a then some (.frz { cls := .type "list", data := .seq vs.toArray } (.lst (ns.map V.int))) else none) (fun b => ?_) ?_ (fun b u z => ?_) (fun b z => ?_) fun _ => hk
    · by_cases hb : b = a
      · exact .inr ⟨_, _, if_pos hb⟩
      · exact .inl (if_neg hb)
    · exact .inl (.inr ⟨_, if_pos rfl⟩)
    · by_cases hb : b = a
      · cases (if_pos hb).symm.trans z
        subst hb
        exact ⟨ha, by rw [List.length_map]; exact hl, vs, _, rv, ha⟩
      · cases (if_neg hb).symm.trans z
    · by_cases hb : b = a
      · exact hb
      · exact absurd (if_neg hb) z
/-- the goal behind the head -/
theorem walkG {l : PySem.W.OpenLaw} {n k : Nat} {q : Program} {loose : List Str} {XP : (Str → Option Value) → Heap → Prop} {YP : World → Heap → Prop} {d : DefRec} {K : Params → PySem.W.Frag} {sp : World → Sp} {x : Str}
    (hn : l.most = some n) (hn2 : n ≤ sizeLine) (hdf : d.params.defaults = []) (hr : Room k callerA) (hY : ∀ (w : World) (h : Heap), YP w h → (K w.params).In h)
    (F : ∀ (w : World) (mg : Str → Option Value) (fa : Addr) (h : Heap), (K w.params).In h → h.Ns mainGlobals mg → mg d.name = some (.ref fa) →
      ∃ fd : FuncData, (∀ (s : Shared) (u : Value), BindsTo s fd ⟨[u], []⟩ [(x, u)]) ∧ ∀ base : Heap, (K w.params).In base → base.Ns mainGlobals mg → FnG l.prog w (K w.params) mg base k fa fd [x] (sp w))
    (hsp : ∀ (w : World) (H : Hp) (a : Addr) (ns : List Int), ns.length ≤ n → Only H → SqL (K w.params) H a (ns.map V.int) → sp w [.ref a] H (fun v _ => v = .bl true) fun _ _ _ => False) :
    PySem.W.WalkO q loose XP YP l.row.toRowW d [] (fun f vs => PySem.call f vs) := by
  refine Att.attach_call hn hdf fun w s₀ s₁ mg mb fa o pm cd doc a vs ns G Y ho hd hcd hmg hobj hints hlen hg => ?_
  have KX := hY w _ Y
  obtain ⟨fd, hb, hF⟩ := F w mg fa _ KX G.T.g hmg
  exact call_law KX G.T.g G.T.b G.T.builtins G.T.nolimit hg hobj hints (Nat.le_trans hlen hn2) hr hF hb fun H hO hS => hsp w H a ns hlen hO hS
end LwE
/-! C. The draws: mixed, folded, draw, begun, size. -/
namespace Lw
open PySem L2 LwE
/-- sixty-four cells -/
structure Cells (cs : List Int) : Prop where
  len : cs.length = 64
  bd : ∀ x ∈ cs, 0 ≤ x ∧ x < 2147483647
theorem Cells.set {cs : List Int} (c : Cells cs) (j : Nat) {z : Int} (h0 : 0 ≤ z) (h1 : z < 2147483647) : Cells (cs.set j z) :=
  ⟨by rw [List.length_set]; exact c.len, fun x hx => by
    rcases List.mem_or_eq_of_mem_set hx with q | q
    · exact c.bd x q
    · rw [q]
      exact ⟨h0, h1⟩⟩
theorem Cells.at {cs : List Int} (c : Cells cs) {j : Nat} (hj : j < 64) : ∃ x, (nums cs)[j]? = some (.int x) ∧ 0 ≤ x ∧ x < 2147483647 := by
  have hl : j < cs.length := by rw [c.len]; exact hj
  refine ⟨cs[j], by simp [hl], c.bd _ (List.getElem_mem hl)⟩
theorem set_nums (cs : List Int) (j : Nat) (z : Int) : (nums cs).set j (.int z) = nums (cs.set j z) := by
  show _ = (cs.set j z).map V.int
  rw [List.map_set]
theorem ixN_lt {n j : Nat} (h : j < n) : ixN n (j : Int) = some j := by
  unfold ixN
  rw [if_pos (by omega), if_pos (by omega)]
  simp
section
variable {P : Program} {w : World} {K : PySem.W.Frag} {mg : Str → Option Value} {base : Heap}
/-! _law_mixed -/
def spMixed : Sp := fun vs H Q _ => ∃ c n : Int, vs = [.int c, .int n] ∧ 0 ≤ n ∧ n ≤ 1000000 ∧ ∀ z : Int, 0 ≤ z → z < 2147483647 → Q (.int z) H
theorem scMixed : FnScope ["cell", "n", "blend"] ["cell", "n"] (defScope sMixed) := ⟨rfl, rfl, rfl, by decide +kernel, rfl, by decide +kernel, by decide +kernel⟩
theorem ok_mixed {f : Addr} {fd : FuncData} (B : Bare mg) (F : Df K mg "_law_mixed" sMixed f fd) : FnOk P w K mg base CX0 1 f fd ["cell", "n"] spMixed := by
  refine F.fn.ok scMixed (fun vs H Q E h => ?_) (fun cdv A outer s H vs Q E hr h => ?_)
  · obtain ⟨c, n, rfl, _⟩ := h
    rfl
  · obtain ⟨c, n, rfl, h0, h1, k⟩ := h
    refine ⟨_, pss_cons (ps_set (i := 2) scMixed.nd rfl (Or.inl rfl)
        (pe_op op_add (pe_op op_add (pe_op op_mod (pe_callTy call_int1 (by rfl) B.int (by decide +kernel) (pa_cons (pe_op op_mul (pe_op op_mul (pv 0) (pe_op op_add pe_int (pe_op op_mul pe_int (pv 1)))) pe_int) pa_nil)) pe_int)
          (pe_op op_mul (pe_op op_mul pe_int (pv 1)) (pv 1))) (pe_op op_mul pe_int (pv 1))))
      (pss_one (ps_ret (pe_op op_fdiv (pe_op op_mod (pe_callTy call_int1 (by rfl) B.int (by decide +kernel) (pa_cons (pe_op op_mul (pv 2) pe_int) pa_nil)) pe_int) pe_int))), ?_⟩
    refine ⟨_, rfl, _, rfl, _, _, rfl, rfl, .inl ⟨by decide, by decide⟩, _, _, rfl, rfl, _, _, rfl, rfl, .inr ⟨by omega, by omega⟩, _, _, rfl, rfl, .inr ⟨by decide, by decide⟩,
      .inl ⟨_, rfl, _, _, rfl, rfl, (by show (0 : Int) < 2147483647; decide), _, rfl, _, _, rfl, rfl, .inl ⟨by decide, by decide⟩, _, rfl, _, _, rfl, rfl, .inr ⟨by omega, by omega⟩,
        _, _, rfl, rfl, _, rfl, _, _, rfl, rfl, .inl ⟨by decide, by decide⟩, _, _, rfl, rfl, ?_⟩⟩
    refine ⟨_, rfl, _, _, rfl, rfl, .inr ⟨by decide, by decide⟩, .inl ⟨_, rfl, _, _, rfl, rfl, (by show (0 : Int) < 2147483629; decide), _, _, rfl, rfl, ⟨by decide, by decide⟩, ?_⟩⟩
    refine k _ ?_ ?_ <;> omega
end
end Lw
/-! D. The sixty-four cells. -/
namespace Lw
open PySem L2 LwE
section
variable {P : Program} {w : World} {K : PySem.W.Frag} {mg : Str → Option Value} {base : Heap}
/-- behind H: a list of cells at D that was not there -/
structure FAt (H H' : Hp) (D : Addr) : Prop where
  same : Same H H'
  free : H D = none
  cells : ∃ cs, Cells cs ∧ H' D = some (.lst (nums cs))
theorem FAt.pair {H H' : Hp} {D T : Addr} {o : HO} (f : FAt H H' D) (h : H' T = none) : FAt H (upd H' T o) D :=
  ⟨f.same.trans (same_new h), f.free, let ⟨cs, c, e⟩ := f.cells; ⟨cs, c, (same_new h) _ _ e⟩⟩
theorem FAt.put {H H' : Hp} {D : Addr} {cs : List Int} (f : FAt H H' D) (c : Cells cs) : FAt H (upd H' D (.lst (nums cs))) D :=
  ⟨fun b o e => by
    rw [upd_ne (ne_of_none e f.free)]
    exact f.same _ _ e, f.free, cs, c, upd_same⟩
def spFolded (K : PySem.W.Frag) : Sp := fun vs H Q _ => ∃ (a : Addr) (ns : List Int), vs = [.ref a] ∧ SqL K H a (nums ns) ∧ ∀ D H', FAt H H' D → Q (.ref D) H'
theorem scFolded : FnScope ["script", "n", "found", "cell"] ["script"] (defScope sFolded) := ⟨rfl, rfl, rfl, by decide +kernel, rfl, by decide +kernel, by decide +kernel⟩
theorem ok_folded {f : Addr} {fd : FuncData} (B : Bare mg) (F : Df K mg "_law_folded" sFolded f fd) : FnOk P w K mg base CX0 1 f fd ["script"] (spFolded K) := by
  refine F.fn.ok scFolded (fun vs H Q E h => ?_) (fun cdv A outer s H vs Q E hr h => ?_)
  · obtain ⟨a, ns, rfl, _⟩ := h
    rfl
  · obtain ⟨a, ns, rfl, hS, k⟩ := h
    refine ⟨_, pss_cons (ps_setLc (i := 2) (own := [("n", 1)]) (g := gName 1) (tt := tYes) rfl scFolded.nd rfl rfl (sw_true rfl rfl rfl (by decide +kernel)) (pi_range1 (by rfl) B.range (pa_cons pe_int pa_nil))
        (blkOk_by (N := ["script", "n", "found", "cell"]) (sc := defScope sFolded) (by decide +kernel)) (fun _ _ _ _ _ => pg_name (i := 1) scFolded.nd rfl (Or.inl rfl)) (fun _ _ _ _ _ => pts_nil)
        (fun _ _ _ _ _ => pe_op op_add pe_int (pv 1)))
      (pss_cons (ps_for PassesOwn.never rfl (pi_enum (by rfl) B.enumerate (pa_cons (pv 0) pa_nil)) (pg_tup rfl (pgs_cons (pg_name (i := 1) scFolded.nd rfl (Or.inl rfl)) (pgs_cons (pg_name (i := 3) scFolded.nd rfl (Or.inl rfl)) pgs_nil)))
        (pss_one (ps_asg (pe_op op_mod (pe_callTy call_int1 (by rfl) B.int (by decide +kernel) (pa_cons (pe_op op_add (pe_op op_mul (pe_ix ix_list (pv 2)
            (pe_op op_mod (pe_callTy call_int1 (by rfl) B.int (by decide +kernel) (pa_cons (pv 1) pa_nil)) pe_int) (fun _ _ => rfl)) pe_int) (pv 3)) pa_nil)) pe_int)
          (pg_sub (pv 2) (pe_op op_mod (pe_callTy call_int1 (by rfl) B.int (by decide +kernel) (pa_cons (pv 1) pa_nil)) pe_int) set_list))))
      (pss_cons (ps_for PassesOwn.never rfl (pi_range2 (by rfl) B.range (pa_cons pe_int (pa_cons pe_int pa_nil))) (pg_name (i := 1) scFolded.nd rfl (Or.inl rfl))
        (pss_one (ps_asg (pe_op op_mod (pe_callTy call_int1 (by rfl) B.int (by decide +kernel) (pa_cons (pe_op op_add (pe_ix ix_list (pv 2) (pv 1) (fun _ _ => rfl))
            (pe_op op_mul (pe_ix ix_list (pv 2) (pe_op op_sub (pv 1) pe_int) (fun _ _ => rfl)) pe_int)) pa_nil)) pe_int)
          (pg_sub (pv 2) (pv 1) set_list))))
      (pss_one (ps_ret (pv 2))))), ?_⟩
    refine ⟨64, rfl, by decide, by decide, fun D hD => lc_range (lo := 0) (n := 64)
      (fun i H' => Same H H' ∧ ∃ cs : List Int, cs.length = i ∧ (∀ x ∈ cs, 0 ≤ x ∧ x < 2147483647) ∧ H' D = some (.lst (nums cs))) ⟨same_new hD, [], rfl, fun x hx => by simp at hx, upd_same⟩ ?_ ?_⟩
    · intro i H' hi ⟨h1, cs, h2, h3, h4⟩
      refine ⟨rfl, ?_⟩
      unfold tYes
      refine iteT ?_
      refine ⟨_, rfl, _, _, rfl, rfl, nums cs, h4, by rw [List.length_map]; exact small1000 (by omega), ?_, cs ++ [17 + (0 + (i : Int))], by simp [h2], fun x hx => ?_, by rw [upd_same]; simp [nums]⟩
      · intro b o e
        rw [upd_ne (ne_of_none e hD)]
        exact h1 _ _ e
      · rcases List.mem_append.mp hx with q | q
        · exact h3 x q
        · have e := List.mem_singleton.mp q
          omega
    · intro H' ⟨h1, cs, h2, h3, h4⟩
      have F0 : FAt H H' D := ⟨h1, hD, cs, ⟨h2, h3⟩, h4⟩
      refine ⟨_, rfl, a, _, rfl, h1.seq hS, for_enL (K := K) (a := a) (xs := nums ns) (fun i σ H'' => ∃ v1 v3 : Option V, σ = [some (.ref a), v1, some (.ref D), v3] ∧ FAt H H'' D) ⟨_, _, rfl, F0⟩ (fun i σ H'' _ ⟨_, _, _, f⟩ => f.same.seq hS) ?_ ?_⟩
      · rintro i x T σ H'' hx ⟨v1, v3, rfl, f⟩ hT
        obtain ⟨z, rfl, _, _⟩ := nums_get hx
        have f2 : FAt H (upd H'' T (.tup [.int (i : Nat), .int z])) D := f.pair hT
        obtain ⟨cs, cc, eD⟩ := f2.cells
        have hj : i % 64 < 64 := Nat.mod_lt _ (by decide)
        obtain ⟨y, hy, hy0, hy1⟩ := cc.at hj
        have ei : ((i : Nat) : Int) % 64 = ((i % 64 : Nat) : Int) := by omega
        refine ⟨T, _, rfl, SqT.of upd_same, rfl, _, _, rfl, _, _, rfl, rfl, ?_⟩
        refine ⟨_, rfl, _, rfl, .inl ⟨_, rfl, _, _, rfl, rfl, (by show (0 : Int) < 64; decide), D, _, _, _, rfl, rfl, SqL.of eD, at_of ei hy, _, _, rfl, rfl, .inr ⟨by decide, by decide⟩, _, rfl, _, _, rfl, rfl,
          .inl ⟨_, rfl, _, _, rfl, rfl, (by show (0 : Int) < 2147483647; decide), ?_⟩⟩⟩
        refine ⟨_, rfl, _, rfl, .inl ⟨_, rfl, _, _, rfl, rfl, (by show (0 : Int) < 64; decide), D, _, _, i % 64, rfl, rfl, eD, ?_, ?_⟩⟩
        · rw [ei]
          refine ixN_lt ?_
          rw [List.length_map, cc.len]
          exact hj
        · refine ⟨_, _, rfl, ?_⟩
          rw [set_nums]
          exact f2.put (cc.set _ (by omega) (by omega))
      · rintro σ H'' ⟨v1, v3, rfl, f⟩
        refine ⟨1, 64, rfl, ⟨by decide, by decide, by decide, by decide⟩, for_range (lo := 1) (n := 63) (fun i σ H'' => ∃ v1 v3 : Option V, σ = [some (.ref a), v1, some (.ref D), v3] ∧ FAt H H'' D) ⟨_, _, rfl, f⟩ ?_ ?_⟩
        · rintro i σ H3 hi ⟨v1, v3, rfl, f⟩
          obtain ⟨cs, cc, eD⟩ := f.cells
          obtain ⟨y, hy, hy0, hy1⟩ := cc.at (show i + 1 < 64 by omega)
          obtain ⟨z, hz, hz0, hz1⟩ := cc.at (show i < 64 by omega)
          have e1 : (1 + (i : Int)) = ((i + 1 : Nat) : Int) := by omega
          have e0 : (1 + (i : Int)) - 1 = ((i : Nat) : Int) := by omega
          refine ⟨_, rfl, _, rfl, D, _, _, _, rfl, rfl, SqL.of eD, at_of e1 hy, _, rfl, _, rfl, _, _, rfl, rfl, D, _, _, _, rfl, rfl, SqL.of eD, at_of e0 hz, _, _, rfl, rfl, .inr ⟨by decide, by decide⟩, _, _, rfl, rfl,
            .inl ⟨_, rfl, _, _, rfl, rfl, (by show (0 : Int) < 2147483647; decide), ?_⟩⟩
          refine ⟨_, rfl, _, rfl, D, _, _, i + 1, rfl, rfl, eD, ?_, ?_⟩
          · rw [e1]
            refine ixN_lt ?_
            rw [List.length_map, cc.len]
            omega
          · refine ⟨_, _, rfl, ?_⟩
            rw [set_nums]
            exact f.put (cc.set _ (by omega) (by omega))
        · rintro σ H3 ⟨v1, v3, rfl, f⟩
          exact ⟨_, rfl, k D H3 f⟩
end
end Lw
/-! F. The dict of the draws, one draw. -/
namespace Lw
open PySem L2 LwE
theorem nums_at {l : List Int} {i : Nat} (h : i < l.length) : (nums l)[i]? = some (.int l[i]) := by
  rw [List.getElem?_map, List.getElem?_eq_getElem h]
  rfl
abbrev kC : Key := Sum.inr "cells"
abbrev kG : Key := Sum.inr "great"
abbrev kS : Key := Sum.inr "spot"
theorem kCG : ¬ (("cells" : Str) = "great") := by decide +kernel
theorem kCS : ¬ (("cells" : Str) = "spot") := by decide +kernel
theorem kGS : ¬ (("great" : Str) = "spot") := by decide +kernel
theorem kSG : ¬ (("spot" : Str) = "great") := by decide +kernel
def mkd (c g : Addr) (n : Int) : List (Key × V) := [(kC, .ref c), (kG, .ref g), (kS, .int n)]
theorem mkd_c (c g : Addr) (n : Int) : valV (mkd c g n) kC = some (.ref c) := by
  simp [mkd, valV, List.find?_cons, kC, kG, kS, kCG, kCS, kGS, kSG]
theorem mkd_g (c g : Addr) (n : Int) : valV (mkd c g n) kG = some (.ref g) := by
  simp [mkd, valV, List.find?_cons, kC, kG, kS, kCG, kCS, kGS, kSG]
theorem mkd_s (c g : Addr) (n : Int) : valV (mkd c g n) kS = some (.int n) := by
  simp [mkd, valV, List.find?_cons, kC, kG, kS, kCG, kCS, kGS, kSG]
theorem mkd_ps (c g : Addr) (n z : Int) : putK (mkd c g n) kS (.int z) = mkd c g z := by
  simp [mkd, putK, kC, kG, kS, kCG, kCS, kGS, kSG]
theorem mkd_pg (c g h : Addr) (n : Int) : putK (mkd c g n) kG (.ref h) = mkd c h n := by
  simp [mkd, putK, kC, kG, kS, kCG, kCS, kGS, kSG]
/-- the dict of the draws at m, n of them drawn -/
structure Dr (H : Hp) (m g c : Addr) (n : Int) : Prop where
  hm : H m = some (.dK (mkd c g n))
  hc : ∃ cs, Cells cs ∧ H c = some (.lst (nums cs))
  hg : ∃ gs : List Int, gs.length ≤ 63 ∧ H g = some (.lst (nums gs))
  ne : c ≠ g
  n0 : 0 ≤ n
/-- all but the dict and its great cells stands -/
def Keep (m g : Addr) (H H' : Hp) : Prop := ∀ b o, H b = some o → b ≠ m → b ≠ g → H' b = some o
theorem Keep.refl (m g : Addr) (H : Hp) : Keep m g H H := fun _ _ e _ _ => e
theorem Keep.trans {m g : Addr} {H H1 H2 : Hp} (a : Keep m g H H1) (b : Keep m g H1 H2) : Keep m g H H2 := fun x o e h1 h2 => b x o (a x o e h1 h2) h1 h2
theorem Keep.of {m g : Addr} {H H1 : Hp} (a : Same H H1) : Keep m g H H1 := fun x o e _ _ => a x o e
theorem Dr.mg {H : Hp} {m g c : Addr} {n : Int} (d : Dr H m g c n) : m ≠ g := by
  obtain ⟨gs, _, e⟩ := d.hg
  exact ne_of d.hm e (by intro z; cases z)
theorem Dr.mc {H : Hp} {m g c : Addr} {n : Int} (d : Dr H m g c n) : m ≠ c := by
  obtain ⟨cs, _, e⟩ := d.hc
  exact ne_of d.hm e (by intro z; cases z)
theorem Dr.same {H H' : Hp} {m g c : Addr} {n : Int} (d : Dr H m g c n) (s : Same H H') : Dr H' m g c n :=
  ⟨s _ _ d.hm, let ⟨cs, a, b⟩ := d.hc; ⟨cs, a, s _ _ b⟩, let ⟨cs, a, b⟩ := d.hg; ⟨cs, a, s _ _ b⟩, d.ne, d.n0⟩
theorem Dr.next {H : Hp} {m g c : Addr} {n : Int} (d : Dr H m g c n) : Dr (upd H m (.dK (mkd c g (n + 1)))) m g c (n + 1) :=
  ⟨upd_same, let ⟨cs, a, b⟩ := d.hc; ⟨cs, a, by rw [upd_ne d.mc.symm]; exact b⟩, let ⟨cs, a, b⟩ := d.hg; ⟨cs, a, by rw [upd_ne d.mg.symm]; exact b⟩, d.ne, by have := d.n0; omega⟩
theorem Dr.great {H : Hp} {m g c : Addr} {n : Int} (d : Dr H m g c n) {gs : List Int} (h : gs.length ≤ 63) : Dr (upd H g (.lst (nums gs))) m g c n :=
  ⟨by rw [upd_ne d.mg]; exact d.hm, let ⟨cs, a, b⟩ := d.hc; ⟨cs, a, by rw [upd_ne d.ne]; exact b⟩, ⟨gs, h, upd_same⟩, d.ne, d.n0⟩
theorem dp_nums {K : PySem.W.Frag} {H : Hp} : ∀ l : List Int, DpAll K H (nums l) (l.map PyData.int)
  | [] => .nil
  | x :: l => .cons (.int x) (dp_nums l)
theorem lay_nums : ∀ l : List Int, PyData.canLayAll0 (l.map PyData.int) = true ∧ PyData.depthAll (l.map PyData.int) = 0
  | [] => by simp [PyData.canLayAll0, PyData.depthAll]
  | x :: l => by
    have ih := lay_nums l
    simp [PyData.canLayAll0, PyData.depthAll, PyData.canLay0, PyData.depth, ih.1, ih.2]
theorem shaped_nums (l : List Int) : SeqAt.shaped (.list (l.map PyData.int)) = true := by
  have h := lay_nums l
  unfold SeqAt.shaped
  simp [PyData.canLay0, PyData.depth, h.1, h.2]
theorem Dr.getS {H : Hp} {m g c : Addr} {n : Int} (d : Dr H m g c n) : DGet H m (.str "spot") (some (.int n)) := by
  have q := DGet.k (k := kS) d.hm
  rw [mkd_s] at q
  exact q
theorem Dr.getG {H : Hp} {m g c : Addr} {n : Int} (d : Dr H m g c n) : DGet H m (.str "great") (some (.ref g)) := by
  have q := DGet.k (k := kG) d.hm
  rw [mkd_g] at q
  exact q
theorem Dr.getC {H : Hp} {m g c : Addr} {n : Int} (d : Dr H m g c n) : DGet H m (.str "cells") (some (.ref c)) := by
  have q := DGet.k (k := kC) d.hm
  rw [mkd_c] at q
  exact q
section
variable {P : Program} {w : World} {K : PySem.W.Frag} {mg : Str → Option Value} {base : Heap}
def spDraw : Sp := fun vs H Q _ => ∃ (m g c : Addr) (n lim : Int), vs = [.ref m, .int lim] ∧ Dr H m g c n ∧ n ≤ 100000 ∧ 1 ≤ lim ∧ lim ≤ 1000 ∧
  ∀ (z : Int) (H' : Hp), 0 ≤ z → z < lim → Dr H' m g c (n + 1) → Keep m g H H' → Q (.int z) H'
theorem scDraw : FnScope ["m", "limit", "n", "lot", "here", "cell"] ["m", "limit"] (defScope sDraw) := ⟨rfl, rfl, rfl, by decide +kernel, rfl, by decide +kernel, by decide +kernel⟩
theorem ok_draw {f f1 : Addr} {fd fd1 : FuncData} (B : Bare mg) (F : Df K mg "_law_draw" sDraw f fd) (F1 : Df K mg "_law_mixed" sMixed f1 fd1) (b1 : Binds K fd1 ["cell", "n"] [])
    (G1 : FnOk P w K mg base CX0 1 f1 fd1 ["cell", "n"] spMixed) : FnOk P w K mg base CX0 2 f fd ["m", "limit"] spDraw := by
  refine F.fn.ok scDraw (fun vs H Q E h => ?_) (fun cdv A outer s H vs Q E hr h => ?_)
  · obtain ⟨m, g, c, n, lim, rfl, _⟩ := h
    rfl
  · obtain ⟨m, g, c, n, lim, rfl, d, hn, hl1, hl2, k⟩ := h
    have hu := hu_of hr
    refine ⟨_, pss_cons (ps_set (i := 2) scDraw.nd rfl (Or.inl rfl) (pe_dget hu (pv 0) pe_str (fun _ _ => rfl)))
      (pss_cons (ps_dput hu (pv 0) pe_str (pe_op op_add (pv 2) pe_int) rfl)
      (pss_cons (ps_if (pt_cmpR (op_neD hr.units) (pe_dget hu (pv 0) pe_str (fun _ _ => rfl)) (pe_lst pa_nil) (nomark _))
        (pss_cons (ps_set (i := 3) scDraw.nd rfl (Or.inl rfl) (pe_dget hu (pv 0) pe_str (fun _ _ => rfl)))
        (pss_cons (ps_set (i := 4) scDraw.nd rfl (Or.inl rfl) (pe_op op_mod (pe_callTy call_int1 (by rfl) B.int (by decide +kernel) (pa_cons (pv 2) pa_nil)) (pe_callB call_len_seq (by rfl) B.len PySem.boot_len (pa_cons (pv 3) pa_nil))))
        (pss_cons (ps_set (i := 5) scDraw.nd rfl (Or.inl rfl) (pe_ix ix_list (pv 3) (pv 4) (fun _ _ => rfl)))
        (pss_one (ps_if (pt_cmpR op_gt (pv 5) pe_int (nomark _))
          (pss_cons (ps_asg (pe_op op_fdiv (pv 5) (pv 1)) (pg_sub (pv 3) (pv 4) set_list))
          (pss_one (ps_ret (pe_op op_mod (pe_callTy call_int1 (by rfl) B.int (by decide +kernel) (pa_cons (pv 5) pa_nil)) (pv 1)))))
          pss_nil))))) pss_nil)
      (pss_cons (ps_set (i := 3) scDraw.nd rfl (Or.inl rfl) (pe_dget hu (pv 0) pe_str (fun _ _ => rfl)))
      (pss_one (ps_ret (pe_op op_mod (pe_callTy call_int1 (by rfl) B.int (by decide +kernel) (pa_cons
        (pe_call G1 hr (by rfl) F1.g F1.fn.kp b1 .nil pass0 (pa_cons (pe_call G1 hr (by rfl) F1.g F1.fn.kp b1 .nil pass0 (pa_cons
            (pe_op op_add (pe_ix ix_list (pv 3) (pe_op op_mod (pe_callTy call_int1 (by rfl) B.int (by decide +kernel) (pa_cons (pv 2) pa_nil)) pe_int) (fun _ _ => rfl)) (pe_op op_mul pe_int (pe_op op_fdiv (pv 2) pe_int)))
            (pa_cons (pv 2) pa_nil)))
          (pa_cons (pe_op op_add (pv 2) pe_int) pa_nil))) pa_nil)) (pv 1))))))), ?_⟩
    have n0 := d.n0
    -- n = m['spot']; m['spot'] = n + 1
    refine ⟨_, rfl, m, _, rfl, d.getS, ?_⟩
    refine ⟨_, rfl, _, _, rfl, rfl, _, rfl, m, _, rfl, DPut.k (k := kS) d.hm (by show 3 < sizeLine; decide), ?_⟩
    rw [mkd_ps]
    have d1 := d.next
    have k1 : Keep m g H (upd H m (.dK (mkd c g (n + 1)))) := fun b o e h1 _ => by
      rw [upd_ne h1]
      exact e
    generalize hH1 : upd H m (.dK (mkd c g (n + 1))) = H1 at d1 k1 ⊢
    clear hH1
    -- if m['great'] != []
    refine ⟨_, rfl, m, _, rfl, d1.getG, Nat.zero_le _, fun e he => ?_⟩
    have d2 : Dr (upd H1 e (.lst [])) m g c (n + 1) := d1.same (same_new he)
    have k2 : Keep m g H (upd H1 e (.lst [])) := k1.trans (.of (same_new he))
    obtain ⟨gs, hgl, hge⟩ := id d2.hg
    have hle : (upd H1 e (.lst [])) e = some (.lst []) := upd_same
    generalize hH2 : upd H1 e (.lst []) = H2 at d2 k2 hge hle ⊢
    clear hH2
    obtain ⟨cs, cc, hce⟩ := id d2.hc
    have hj : n.toNat % 64 < 64 := Nat.mod_lt _ (by decide)
    have ej : n % 64 = ((n.toNat % 64 : Nat) : Int) := by omega
    obtain ⟨y, hy, hy0, hy1⟩ := cc.at hj
    have el : (1 : Int) ≤ lim := hl1
    refine ⟨.list (gs.map PyData.int), .list [], .lst (SqL.of hge) (dp_nums gs), .lst (SqL.of hle) .nil, shaped_nums gs, by decide, _, rfl, ?_⟩
    cases gs with
    | nil =>
      refine iteF ?_
      refine ⟨_, rfl, m, _, rfl, d2.getC, ?_⟩
      refine ⟨_, rfl, _, rfl, .inl ⟨_, rfl, _, _, rfl, rfl, (by show (0 : Int) < 64; decide), c, _, _, _, rfl, rfl, SqL.of hce, at_of ej hy, _, rfl, _, _, rfl, rfl, ⟨by decide, by decide⟩,
        _, _, rfl, rfl, .inl ⟨by decide, by decide⟩, _, _, rfl, rfl, _, rfl, _, _, rfl, n0, by omega, fun z _ _ => ⟨_, rfl, _, _, rfl, rfl, _, _, rfl, by omega, by omega, fun z' h0' h1' =>
          .inl ⟨_, rfl, _, rfl, _, _, rfl, rfl, (by show (0 : Int) < lim; omega), k _ H2 (Int.emod_nonneg _ (by omega)) (Int.emod_lt_of_pos _ (by omega)) d2 k2⟩⟩⟩⟩
    | cons x gs =>
      refine iteT ?_
      have hlen : (nums (x :: gs)).length = (x :: gs).length := List.length_map ..
      have hpos : 0 < (x :: gs).length := Nat.succ_pos _
      have hi : n.toNat % (x :: gs).length < (x :: gs).length := Nat.mod_lt _ hpos
      have ei : n % (((nums (x :: gs)).length : Nat) : Int) = ((n.toNat % (x :: gs).length : Nat) : Int) := by
        rw [hlen]
        have e9 : ((n.toNat : Nat) : Int) = n := Int.toNat_of_nonneg n0
        have e8 : ((n.toNat % (x :: gs).length : Nat) : Int) = ((n.toNat : Nat) : Int) % (((x :: gs).length : Nat) : Int) := Int.natCast_emod _ _
        rw [e8, e9]
      generalize hi2 : n.toNat % (x :: gs).length = i at hi ei
      have hv : (nums (x :: gs))[i]? = some (.int ((x :: gs)[i])) := nums_at hi
      refine ⟨_, rfl, m, _, rfl, d2.getG, ?_⟩
      refine ⟨_, rfl, .inl ⟨_, rfl, _, rfl, g, _, rfl, .inl (SqL.of hge), _, _, rfl, rfl, (by rw [hlen]; omega), ?_⟩⟩
      refine ⟨_, rfl, _, rfl, g, _, _, _, rfl, rfl, SqL.of hge, at_of ei hv, ?_⟩
      refine ⟨_, rfl, _, _, rfl, rfl, _, rfl, ?_⟩
      refine ite2 (fun hc => ?_) (fun hc => ?_)
      · refine ⟨_, rfl, _, rfl, _, _, rfl, rfl, ⟨by omega, by omega⟩, _, rfl, _, rfl, g, _, _, i, rfl, rfl, hge, (by rw [ei]; exact ixN_lt (by rw [hlen]; exact hi)), ?_⟩
        rw [set_nums]
        refine ⟨_, rfl, .inl ⟨_, rfl, _, rfl, _, _, rfl, rfl, (by show (0 : Int) < lim; omega), ?_⟩⟩
        refine k _ _ (Int.emod_nonneg _ (by omega)) (Int.emod_lt_of_pos _ (by omega)) (d2.great (by rw [List.length_set]; exact hgl)) fun b o e1 h1 h2 => ?_
        rw [upd_ne h2]
        exact k2 _ _ e1 h1 h2
      · refine ⟨_, rfl, m, _, rfl, d2.getC, ?_⟩
        refine ⟨_, rfl, _, rfl, .inl ⟨_, rfl, _, _, rfl, rfl, (by show (0 : Int) < 64; decide), c, _, _, _, rfl, rfl, SqL.of hce, at_of ej hy, _, rfl, _, _, rfl, rfl, ⟨by decide, by decide⟩,
          _, _, rfl, rfl, .inl ⟨by decide, by decide⟩, _, _, rfl, rfl, _, rfl, _, _, rfl, n0, by omega, fun z _ _ => ⟨_, rfl, _, _, rfl, rfl, _, _, rfl, by omega, by omega, fun z' h0' h1' =>
            .inl ⟨_, rfl, _, rfl, _, _, rfl, rfl, (by show (0 : Int) < lim; omega), k _ H2 (Int.emod_nonneg _ (by omega)) (Int.emod_lt_of_pos _ (by omega)) d2 k2⟩⟩⟩⟩
end
end Lw
/-! G. The draws begin; sizes. -/
namespace Lw
open PySem L2 LwE
section
variable {P : Program} {w : World} {K : PySem.W.Frag} {mg : Str → Option Value} {base : Heap}
theorem merge_mkd (c g : Addr) : mergeK [] [(kC, V.ref c), (kG, V.ref g), (kS, V.int 0)] = mkd c g 0 := by
  simp [mergeK, putK, mkd, kC, kG, kS, kCG, kCS, kGS, kSG]
def spBegun (K : PySem.W.Frag) : Sp := fun vs H Q _ => ∃ (a : Addr) (ns : List Int), vs = [.ref a] ∧ SqL K H a (nums ns) ∧ ns.length ≤ 63 ∧ ∀ m g c H', Same H H' → Dr H' m g c 0 → Q (.ref m) H'
theorem scBegun : FnScope ["script", "m", "cell"] ["script"] (defScope sBegun) := ⟨rfl, rfl, rfl, by decide +kernel, rfl, by decide +kernel, by decide +kernel⟩
theorem ok_begun {f f1 : Addr} {fd fd1 : FuncData} (F : Df K mg "_law_begun" sBegun f fd) (F1 : Df K mg "_law_folded" sFolded f1 fd1) (b1 : Binds K fd1 ["script"] [])
    (G1 : FnOk P w K mg base CX0 1 f1 fd1 ["script"] (spFolded K)) : FnOk P w K mg base CX0 2 f fd ["script"] (spBegun K) := by
  refine F.fn.ok scBegun (fun vs H Q E h => ?_) (fun cdv A outer s H vs Q E hr h => ?_)
  · obtain ⟨a, ns, rfl, _⟩ := h
    rfl
  · obtain ⟨a, ns, rfl, hS, hl, k⟩ := h
    have hu := hu_of hr
    refine ⟨_, pss_cons (ps_set (i := 1) scBegun.nd rfl (Or.inl rfl) (pe_disp (pps_cons pe_str (pe_call G1 hr (by rfl) F1.g F1.fn.kp b1 .nil pass0 (pa_cons (pv 0) pa_nil))
        (pps_cons pe_str (pe_lst pa_nil) (pps_cons pe_str pe_int pps_nil))) (by rfl) (by rfl) (fun z => by cases z) (by decide)))
      (pss_cons (ps_dput hu (pv 1) pe_str (pe_lc (own := [("cell", 2)]) (g := gName 2) (tt := tYes) rfl scBegun.nd (pi_list (pv 0)) (blkOk_by (N := ["script", "m", "cell"]) (sc := defScope sBegun) (by decide +kernel))
          (fun _ _ _ _ _ => pg_name (i := 2) scBegun.nd rfl (Or.inl rfl)) (fun _ _ _ _ _ => pts_nil)
          (fun _ _ _ _ _ => pe_ifExp (pt_cmpR op_ge (pv 2) (pe_op op_pow pe_int pe_int) (nomark _)) (pv 2) pe_int)) rfl)
      (pss_one (ps_ret (pv 1)))), ?_⟩
    intro p hp
    refine ⟨_, rfl, a, ns, rfl, (same_new hp).seq hS, fun D H1 f1 => ?_⟩
    have s1 : Same H H1 := (same_new hp).trans f1.same
    have hp1 : H1 p = some (.dK []) := f1.same _ _ upd_same
    refine ⟨Nat.zero_le _, fun g hg => ?_⟩
    have npg : p ≠ g := ne_of_none hp1 hg
    refine ⟨by rw [upd_ne npg]; exact hp1, [(kC, .ref D), (kG, .ref g), (kS, .int 0)], rfl, (by show 3 ≤ 15; decide), ?_⟩
    rw [merge_mkd]
    obtain ⟨cs, cc, eD⟩ := f1.cells
    have nDp : D ≠ p := ne_of eD hp1 (by intro z; cases z)
    have nDg : D ≠ g := ne_of_none eD hg
    have d0 : Dr (upd (upd H1 g (.lst [])) p (.dK (mkd D g 0))) p g D 0 :=
      ⟨upd_same, ⟨cs, cc, by rw [upd_ne nDp, upd_ne nDg]; exact eD⟩, ⟨[], by decide, by rw [upd_ne npg.symm, upd_same]; rfl⟩, nDg, Int.le_refl 0⟩
    have s2 : Same H (upd (upd H1 g (.lst [])) p (.dK (mkd D g 0))) := fun b o e => by
      rw [upd_ne (ne_of_none e hp), upd_ne (ne_of_none (s1 _ _ e) hg)]
      exact s1 _ _ e
    generalize hH2 : upd (upd H1 g (.lst [])) p (.dK (mkd D g 0)) = H2 at d0 s2 ⊢
    clear hH2
    refine ⟨_, rfl, a, rfl, ⟨_, s2.seq hS⟩, fun q hq => lc_list (K := K) (a := a) (xs := nums ns) (fun i H' => Same H2 H' ∧ ∃ gs : List Int, gs.length = i ∧ H' q = some (.lst (nums gs))) ⟨same_new hq, [], rfl, upd_same⟩
      (fun i H' _ ⟨s3, _⟩ => (s2.trans s3).seq hS) ?_ ?_⟩
    · intro i x H' hx ⟨s3, gs, h2, h3⟩
      obtain ⟨z, rfl, hz, _⟩ := nums_get hx
      have hi : i < ns.length := (List.getElem?_eq_some_iff.mp hz).1
      refine ⟨rfl, ?_⟩
      unfold tYes
      refine iteT ?_
      refine ⟨_, rfl, _, _, rfl, rfl, ⟨by decide, by decide, by decide⟩, _, _, rfl, rfl, _, rfl, ?_⟩
      have put : ∀ y : Int, ∃ acc, H' q = some (.lst acc) ∧ acc.length < sizeLine ∧ Same H2 (upd H' q (.lst (acc ++ [.int y]))) ∧ ∃ gs : List Int, gs.length = i + 1 ∧ (upd H' q (.lst (acc ++ [.int y]))) q = some (.lst (nums gs)) := fun y => by
        refine ⟨nums gs, h3, by rw [List.length_map]; exact small1000 (by omega), fun b o e => ?_, gs ++ [y], by simp [h2], by rw [upd_same]; simp [nums]⟩
        rw [upd_ne (ne_of_none e hq)]
        exact s3 _ _ e
      refine ite2 (fun _ => ?_) (fun _ => ?_)
      · exact ⟨_, rfl, put z⟩
      · exact put 0
    · intro H' ⟨s3, gs, h2, h3⟩
      have d3 := d0.same s3
      refine ⟨_, rfl, p, _, rfl, DPut.k (k := kG) d3.hm (by show 3 < sizeLine; decide), ?_⟩
      rw [mkd_pg]
      have nqp : q ≠ p := ne_of h3 d3.hm (by intro z; cases z)
      obtain ⟨cs', cc', eD'⟩ := d0.hc
      have nDq : D ≠ q := ne_of_none eD' hq
      refine ⟨_, rfl, k p q D _ (fun b o e => ?_) ⟨upd_same, ⟨cs', cc', ?_⟩, ⟨gs, ?_, ?_⟩, nDq, Int.le_refl 0⟩⟩
      · rw [upd_ne (ne_of_none e hp)]
        exact s3 _ _ (s2 _ _ e)
      · rw [upd_ne nDp]
        exact s3 _ _ eD'
      · rw [h2, List.length_map]
        exact hl
      · rw [upd_ne nqp]
        exact h3
def spSize : Sp := fun vs H Q _ => ∃ (m g c : Addr) (n : Int), vs = [.ref m] ∧ Dr H m g c n ∧ n ≤ 100000 ∧ ∀ (z : Int) (H' : Hp), 2 ≤ z → z ≤ 6 → Dr H' m g c (n + 1) → Keep m g H H' → Q (.int z) H'
theorem scSize : FnScope ["m"] ["m"] (defScope sSize) := ⟨rfl, rfl, rfl, by decide +kernel, rfl, by decide +kernel, by decide +kernel⟩
theorem ok_size {f f1 : Addr} {fd fd1 : FuncData} (F : Df K mg "_law_size" sSize f fd) (F1 : Df K mg "_law_draw" sDraw f1 fd1) (b1 : Binds K fd1 ["m", "limit"] [])
    (G1 : FnOk P w K mg base CX0 2 f1 fd1 ["m", "limit"] spDraw) : FnOk P w K mg base CX0 3 f fd ["m"] spSize := by
  refine F.fn.ok scSize (fun vs H Q E h => ?_) (fun cdv A outer s H vs Q E hr h => ?_)
  · obtain ⟨m, g, c, n, rfl, _⟩ := h
    rfl
  · obtain ⟨m, g, c, n, rfl, d, hn, k⟩ := h
    refine ⟨_, pss_one (ps_ret (pe_op op_add pe_int (pe_call G1 hr (by rfl) F1.g F1.fn.kp b1 .nil pass0 (pa_cons (pv 0) (pa_cons pe_int pa_nil))))), ?_⟩
    refine ⟨_, rfl, m, g, c, n, 5, rfl, d, hn, by decide, by decide, fun z H' h0 h1 d' kp => ⟨_, _, rfl, rfl, k _ H' (by omega) (by omega) d' kp⟩⟩
end
end Lw
/-! H. Drawn letters. -/
namespace Lw
open PySem L2 LwE
theorem Dr.upd_at {H : Hp} {m g c q : Addr} {n : Int} {o : HO} (d : Dr H m g c n) (h1 : q ≠ m) (h2 : q ≠ g) (h3 : q ≠ c) : Dr (upd H q o) m g c n :=
  ⟨by rw [upd_ne h1.symm]; exact d.hm, let ⟨cs, a, b⟩ := d.hc; ⟨cs, a, by rw [upd_ne h3.symm]; exact b⟩, let ⟨cs, a, b⟩ := d.hg; ⟨cs, a, by rw [upd_ne h2.symm]; exact b⟩, d.ne, d.n0⟩
/-- what was not there ahead of a draw is none of its parts -/
structure Off (q m g c : Addr) : Prop where
  m : q ≠ m
  g : q ≠ g
  c : q ≠ c
theorem Dr.off {H : Hp} {m g c q : Addr} {n : Int} (d : Dr H m g c n) (h : H q = none) : Off q m g c :=
  ⟨(ne_of_none d.hm h).symm, let ⟨_, _, e⟩ := d.hg; (ne_of_none e h).symm, let ⟨_, _, e⟩ := d.hc; (ne_of_none e h).symm⟩
theorem Keep.free {m g c q : Addr} {n : Int} {H H' : Hp} (k : Keep m g H H') (d : Dr H' m g c n) (h : H' q = none) : H q = none := by
  have z := d.off h
  cases e : H q with
  | none => rfl
  | some o =>
    rw [k q o e z.m z.g] at h
    cases h
theorem Keep.put {m g q : Addr} {H H' : Hp} {o : HO} (k : Keep m g H H') (h : H q = none) : Keep m g H (upd H' q o) := fun b u e h1 h2 => by
  rw [upd_ne (ne_of_none e h)]
  exact k b u e h1 h2
theorem cut_take (l : List Int) {n : Int} (h : 0 ≤ n) : cutV (nums l) none (some n) = nums (l.take n.toNat) := by
  unfold cutV
  have e : HT.sIx (nums l).length (nums l).length (some n) = min n.toNat (nums l).length := by
    have q := HT.sIx_nat (nums l).length (nums l).length n.toNat
    rw [Int.toNat_of_nonneg h] at q
    exact q
  rw [HT.sIx_none, e, Nat.sub_zero, List.drop_zero]
  rw [List.length_map]
  show (l.map V.int).take _ = (l.take n.toNat).map V.int
  rw [← List.map_take]
  exact congrArg (List.map V.int) List.take_eq_take_min.symm
section
variable {P : Program} {w : World} {K : PySem.W.Frag} {mg : Str → Option Value} {base : Heap}
/-- between two turns -/
structure LW (H H' : Hp) (m g c : Addr) (n size : Int) (q : Addr) (fs : List Int) : Prop where
  dr : ∃ n', Dr H' m g c n' ∧ n ≤ n' ∧ n' ≤ n + 3 + 2 * fs.length
  kp : Keep m g H H'
  fr : H q = none
  at_ : H' q = some (.lst (nums fs))
  len : fs.length ≤ 46
  bd : ∀ x ∈ fs, 1 ≤ x ∧ x ≤ size
theorem LW.push {H H' H5 : Hp} {m g c : Addr} {n n1 size x : Int} {q : Addr} {fs : List Int} (W : LW H H' m g c n size q fs) (o : Off q m g c) (hl : fs.length ≤ 39) (k5 : Keep m g H' H5) (d5 : Dr H5 m g c n1) (h1 : n ≤ n1)
    (h2 : n1 ≤ n + 5 + 2 * fs.length) (x0 : 1 ≤ x) (x1 : x ≤ size) : LW H (upd H5 q (.lst (nums fs ++ [.int x]))) m g c n size q (fs ++ [x]) where
  dr := ⟨n1, d5.upd_at o.m o.g o.c, h1, by rw [List.length_append, List.length_singleton]; omega⟩
  kp := (W.kp.trans k5).put W.fr
  fr := W.fr
  at_ := by
    rw [upd_same]
    simp [nums]
  len := by
    rw [List.length_append, List.length_singleton]
    omega
  bd := fun y hy => by
    rcases List.mem_append.mp hy with z | z
    · exact W.bd y z
    · have e := List.mem_singleton.mp z
      omega
theorem LW.swap {H H' H5 : Hp} {m g c : Addr} {n n1 size : Int} {q p r : Addr} {fs xs : List Int} (W : LW H H' m g c n size q fs) (hl : fs.length ≤ 39) (hx : xs.length ≤ 6) (hx1 : 1 ≤ xs.length) (k5 : Keep m g H' H5) (d5 : Dr H5 m g c n1) (h1 : n ≤ n1)
    (h2 : n1 ≤ n + 5 + 2 * fs.length) (b : ∀ x ∈ xs, 1 ≤ x ∧ x ≤ size) (hp : H5 p = none) (hr : (upd H5 p (.lst (nums xs))) r = none) :
    LW H (upd (upd H5 p (.lst (nums xs))) r (.lst (nums fs ++ nums xs))) m g c n size r (fs ++ xs) where
  dr := ⟨n1, (d5.same (same_new hp)).same (same_new hr), h1, by rw [List.length_append]; omega⟩
  kp := ((W.kp.trans k5).trans (.of (same_new hp))).trans (.of (same_new hr))
  fr := ((W.kp.trans k5).trans (.of (same_new hp))).free (d5.same (same_new hp)) hr
  at_ := by
    rw [upd_same]
    simp [nums]
  len := by
    rw [List.length_append]
    omega
  bd := fun y hy => by
    rcases List.mem_append.mp hy with z | z
    · exact W.bd y z
    · exact b y z
/-- how long the list in the fifth place is -/
def lenOf (σ : List (Option V)) (H : Hp) : Nat := match (σ[5]? : Option (Option V)) with
  | some (some (V.ref q)) => (match H q with
    | some (HO.lst xs) => xs.length
    | _ => 0)
  | _ => 0
def spLetters : Sp := fun vs H Q _ => ∃ (m g c : Addr) (n size most : Int), vs = [.ref m, .int size, .int most] ∧ Dr H m g c n ∧ n ≤ 90000 ∧ 2 ≤ size ∧ size ≤ 6 ∧ 0 ≤ most ∧ most ≤ 40 ∧
  ∀ (p : Addr) (ls : List Int) (n' : Int) (H' : Hp), (ls.length : Int) ≤ most → (∀ x ∈ ls, 1 ≤ x ∧ x ≤ size) → n ≤ n' → n' ≤ n + 200 → Dr H' m g c n' → Keep m g H H' → H p = none → H' p = some (.lst (nums ls)) → Q (.ref p) H'
theorem scLetters : FnScope ["m", "size", "most", "kind", "many", "found", "low"] ["m", "size", "most"] (defScope sLetters) := ⟨rfl, rfl, rfl, by decide +kernel, rfl, by decide +kernel, by decide +kernel⟩
theorem ok_letters {f f1 : Addr} {fd fd1 : FuncData} (B : Bare mg) (F : Df K mg "_law_letters" sLetters f fd) (F1 : Df K mg "_law_draw" sDraw f1 fd1) (b1 : Binds K fd1 ["m", "limit"] [])
    (G1 : FnOk P w K mg base CX0 2 f1 fd1 ["m", "limit"] spDraw) : FnOk P w K mg base CX0 3 f fd ["m", "size", "most"] spLetters := by
  refine F.fn.ok scLetters (fun vs H Q E h => ?_) (fun cdv A outer s H vs Q E hr h => ?_)
  · obtain ⟨m, g, c, n, size, most, rfl, _⟩ := h
    rfl
  · obtain ⟨m, g, c, n, size, most, rfl, d, hn, hs1, hs2, hm1, hm2, k⟩ := h
    refine ⟨_, pss_cons (ps_par3 (i := 3) (j := 4) (l := 5) rfl scLetters.nd rfl rfl rfl (by decide) (by decide) (by decide) rfl rfl rfl
        (pa_cons (pe_call G1 hr (by rfl) F1.g F1.fn.kp b1 .nil pass0 (pa_cons (pv 0) (pa_cons pe_int pa_nil)))
        (pa_cons (pe_call G1 hr (by rfl) F1.g F1.fn.kp b1 .nil pass0 (pa_cons (pv 0) (pa_cons (pe_op op_add (pv 2) pe_int) pa_nil))) (pa_cons (pe_lst pa_nil) pa_nil))) (by rfl))
      (pss_cons (ps_set (i := 6) scLetters.nd rfl (Or.inl rfl) (pe_op op_add pe_int (pe_call G1 hr (by rfl) F1.g F1.fn.kp b1 .nil pass0 (pa_cons (pv 0) (pa_cons (pe_op op_sub (pv 1) pe_int) pa_nil)))))
      (pss_cons (ps_while PassesOwn.never (pt_cmpR op_lt (pe_callB call_len_seq (by rfl) B.len PySem.boot_len (pa_cons (pv 5) pa_nil)) (pv 4) (nomark _))
        (pss_one (ps_if (pt_cmpR op_eq (pv 3) pe_int (nomark _))
          (pss_one (ps_expr (pe_bm PySem.F.plainAttrs_list PySem.F.slot_list_append PySem.F.type_list_append mt_append (pv 5)
            (pa_cons (pe_op op_add pe_int (pe_call G1 hr (by rfl) F1.g F1.fn.kp b1 .nil pass0 (pa_cons (pv 0) (pa_cons (pv 1) pa_nil)))) pa_nil))))
          (pss_one (ps_if (pt_cmpR op_eq (pv 3) pe_int (nomark _))
            (pss_one (ps_expr (pe_bm PySem.F.plainAttrs_list PySem.F.slot_list_append PySem.F.type_list_append mt_append (pv 5)
              (pa_cons (pe_op op_add (pv 6) (pe_call G1 hr (by rfl) F1.g F1.fn.kp b1 .nil pass0 (pa_cons (pv 0) (pa_cons pe_int pa_nil)))) pa_nil))))
            (pss_one (ps_if (pt_cmpR op_eq (pv 3) pe_int (nomark _))
              (pss_one (ps_expr (pe_bm PySem.F.plainAttrs_list PySem.F.slot_list_append PySem.F.type_list_append mt_append (pv 5)
                (pa_cons (pe_ix ix_list (pe_lst (pa_cons (pv 6) (pa_cons (pv 6) (pa_cons (pe_op op_add pe_int (pe_call G1 hr (by rfl) F1.g F1.fn.kp b1 .nil pass0 (pa_cons (pv 0) (pa_cons (pv 1) pa_nil)))) pa_nil))))
                  (pe_call G1 hr (by rfl) F1.g F1.fn.kp b1 .nil pass0 (pa_cons (pv 0) (pa_cons pe_int pa_nil))) (fun _ _ => rfl)) pa_nil))))
              (pss_one (ps_if (pt_cmpR op_eq (pv 3) pe_int (nomark _))
                (pss_one (ps_set (i := 5) scLetters.nd rfl (Or.inl rfl) (pe_op op_cat (pv 5)
                  (pe_listDn rfl (by rfl) B.list (by rfl) B.range (pa_cons (pv 1) (pa_cons (pe_call G1 hr (by rfl) F1.g F1.fn.kp b1 .nil pass0 (pa_cons (pv 0) (pa_cons (pv 1) pa_nil))) (pa_cons (pe_un un_neg pe_int) pa_nil)))))))
                (pss_one (ps_set (i := 5) scLetters.nd rfl (Or.inl rfl) (pe_op op_cat (pv 5)
                  (pe_listRg rfl (by rfl) B.list (prg_2 (by rfl) B.range (pe_op op_add pe_int (pe_call G1 hr (by rfl) F1.g F1.fn.kp b1 .nil pass0 (pa_cons (pv 0) (pa_cons (pv 1) pa_nil)))) (pe_op op_add (pv 1) pe_int)))))))))))))))
      (pss_one (ps_ret (pe_slice sl_list (pv 5) po_none (po_some (pv 4))))))), ?_⟩
    refine ⟨_, rfl, m, g, c, n, 5, rfl, d, by omega, by decide, by decide, fun kd H1 kd0 kd1 d1 k1 => ?_⟩
    refine ⟨_, rfl, _, rfl, _, _, rfl, rfl, m, g, c, n + 1, most + 1, rfl, d1, by omega, by omega, by omega, fun many H2 m0 m1 d2 k2 => ?_⟩
    refine ⟨Nat.zero_le _, fun q hq => ⟨_, _, _, rfl, ?_⟩⟩
    have kk2 : Keep m g H H2 := k1.trans k2
    have d3 : Dr (upd H2 q (.lst [])) m g c (n + 1 + 1) := d2.same (same_new hq)
    have hq0 : H q = none := kk2.free d2 hq
    have off := d.off hq0
    refine ⟨_, rfl, _, rfl, _, _, rfl, rfl, m, g, c, n + 1 + 1, size - 1, rfl, d3, by omega, by omega, by omega, fun lw H4 l0 l1 d4 k4 => ?_⟩
    refine ⟨_, _, rfl, rfl, ?_⟩
    have W0 : LW H H4 m g c n size q [] := ⟨⟨_, d4, by omega, by simp; omega⟩, (kk2.trans (.of (same_new hq))).trans k4, hq0, k4 _ _ upd_same off.m off.g, by decide, fun x hx => by simp at hx⟩
    refine while_by (fun σ H' => ∃ q fs, σ = [some (.ref m), some (.int size), some (.int most), some (.int kd), some (.int many), some (.ref q), some (.int (1 + lw))] ∧ LW H H' m g c n size q fs)
      (fun σ H' => many.toNat - lenOf σ H') ⟨q, [], rfl, W0⟩ ?_ ?_
    · rintro σ H' ⟨q, fs, rfl, W⟩
      refine ⟨_, rfl, q, _, rfl, .inl (SqL.of W.at_), _, rfl, _, _, rfl, rfl, _, rfl, ?_⟩
      rw [List.length_map]
      have off := d.off W.fr
      obtain ⟨n1, dn, e1, e2⟩ := W.dr
      have lo : lenOf [some (.ref m), some (.int size), some (.int most), some (.int kd), some (.int many), some (.ref q), some (.int (1 + lw))] H' = fs.length := by
        unfold lenOf
        simp only [List.getElem?_cons_succ, List.getElem?_cons_zero, W.at_, List.length_map]
      refine ite2 (fun hc => ?_) (fun hc => ?_)
      · have hlt : (fs.length : Int) < many := of_decide_eq_true hc
        have hl : fs.length ≤ 39 := by omega
        rw [lo]
        have hsz : (nums fs).length < sizeLine := by
          rw [List.length_map]
          exact small1000 (by omega)
        have step : ∀ (H6 : Hp) (q' : Addr) (fs' : List Int), LW H H6 m g c n size q' fs' → fs.length < fs'.length →
            (∃ q fs, [some (V.ref m), some (.int size), some (.int most), some (.int kd), some (.int many), some (.ref q'), some (.int (1 + lw))] = [some (V.ref m), some (.int size), some (.int most), some (.int kd), some (.int many), some (.ref q), some (.int (1 + lw))] ∧ LW H H6 m g c n size q fs) ∧
            many.toNat - lenOf [some (.ref m), some (.int size), some (.int most), some (.int kd), some (.int many), some (.ref q'), some (.int (1 + lw))] H6 < many.toNat - fs.length := by
          intro H6 q' fs' W6 h6
          refine ⟨⟨q', fs', rfl, W6⟩, ?_⟩
          have lo6 : lenOf [some (.ref m), some (.int size), some (.int most), some (.int kd), some (.int many), some (.ref q'), some (.int (1 + lw))] H6 = fs'.length := by
            unfold lenOf
            simp only [List.getElem?_cons_succ, List.getElem?_cons_zero, W6.at_, List.length_map]
          rw [lo6]
          omega
        refine ⟨_, rfl, rfl, _, rfl, ite2 (fun _ => ?_) (fun _ => ?_)⟩
        · refine ⟨_, rfl, .inl ⟨rfl, _, SqL.of W.at_⟩, _, rfl, _, rfl, m, g, c, n1, size, rfl, dn, by omega, by omega, by omega, fun z H5 z0 z1 d5 k5 => ⟨_, _, rfl, rfl, q, _, _, rfl, rfl, k5 _ _ W.at_ off.m off.g, hsz, ?_⟩⟩
          exact step _ _ _ (W.push off hl k5 d5 (by omega) (by omega) (by omega) (by omega)) (by simp)
        refine ⟨_, rfl, rfl, _, rfl, ite2 (fun _ => ?_) (fun _ => ?_)⟩
        · refine ⟨_, rfl, .inl ⟨rfl, _, SqL.of W.at_⟩, _, rfl, _, rfl, m, g, c, n1, 2, rfl, dn, by omega, by omega, by omega, fun z H5 z0 z1 d5 k5 => ⟨_, _, rfl, rfl, q, _, _, rfl, rfl, k5 _ _ W.at_ off.m off.g, hsz, ?_⟩⟩
          exact step _ _ _ (W.push off hl k5 d5 (by omega) (by omega) (by omega) (by omega)) (by simp)
        refine ⟨_, rfl, rfl, _, rfl, ite2 (fun _ => ?_) (fun _ => ?_)⟩
        · refine ⟨_, rfl, .inl ⟨rfl, _, SqL.of W.at_⟩, _, rfl, _, rfl, _, rfl, _, rfl, m, g, c, n1, size, rfl, dn, by omega, by omega, by omega, fun z H5 z0 z1 d5 k5 => ⟨_, _, rfl, rfl, (by show 3 ≤ sizeLine; decide), fun l hl5 => ?_⟩⟩
          have d6 := d5.same (same_new (o := .lst [.int (1 + lw), .int (1 + lw), .int (1 + z)]) hl5)
          refine ⟨_, rfl, m, g, c, _, 3, rfl, d6, by omega, by omega, by omega, fun y H7 y0 y1 d7 k7 => ?_⟩
          have offl := d5.off hl5
          have h7 := k7 _ _ upd_same offl.m offl.g
          have k57 : Keep m g H' H7 := (k5.trans (.of (same_new hl5))).trans k7
          have fin : ∀ x : Int, 1 ≤ x → x ≤ size → ∃ (l' : Addr) (xs : List V) (y' : V), V.ref q = .ref l' ∧ [V.int x] = [y'] ∧ H7 l' = some (.lst xs) ∧ xs.length < sizeLine ∧
              (∃ q_1 fs, [some (V.ref m), some (.int size), some (.int most), some (.int kd), some (.int many), some (.ref q), some (.int (1 + lw))] = [some (V.ref m), some (.int size), some (.int most), some (.int kd), some (.int many), some (.ref q_1), some (.int (1 + lw))] ∧
                LW H (upd H7 l' (.lst (xs ++ [y']))) m g c n size q_1 fs) ∧
              many.toNat - lenOf [some (.ref m), some (.int size), some (.int most), some (.int kd), some (.int many), some (.ref q), some (.int (1 + lw))] (upd H7 l' (.lst (xs ++ [y']))) < many.toNat - fs.length := fun x x0 x1 =>
            ⟨q, _, _, rfl, rfl, k57 _ _ W.at_ off.m off.g, hsz, step _ _ _ (W.push off hl k57 d7 (by omega) (by omega) x0 x1) (by simp)⟩
          rcases (show y = 0 ∨ y = 1 ∨ y = 2 by omega) with e | e | e <;> subst e
          · exact ⟨l, _, _, _, rfl, rfl, SqL.of h7, at_of (j := 0) rfl rfl, fin _ (by omega) (by omega)⟩
          · exact ⟨l, _, _, _, rfl, rfl, SqL.of h7, at_of (j := 1) rfl rfl, fin _ (by omega) (by omega)⟩
          · exact ⟨l, _, _, _, rfl, rfl, SqL.of h7, at_of (j := 2) rfl rfl, fin _ (by omega) (by omega)⟩
        refine ⟨_, rfl, rfl, _, rfl, ite2 (fun _ => ?_) (fun _ => ?_)⟩
        · refine ⟨_, rfl, _, rfl, _, rfl, _, rfl, m, g, c, n1, size, rfl, dn, by omega, by omega, by omega, fun z H5 z0 z1 d5 k5 => ⟨1, rfl, size, z, rfl, ⟨by omega, by omega, by omega, by omega⟩, fun p hp => ?_⟩⟩
          refine ⟨q, p, _, _, rfl, rfl, (same_new hp) _ _ (k5 _ _ W.at_ off.m off.g), upd_same, ?_, fun r hr => ?_⟩
          · rw [List.length_map, List.length_map, dnV_length, sizeLine_eq]
            omega
          · exact step _ _ _ (W.swap hl (by rw [dnV_length]; omega) (by rw [dnV_length]; omega) k5 d5 (by omega) (by omega) (fun x hx => by have := dnV_mem hx; omega) hp hr) (by rw [List.length_append, dnV_length]; omega)
        · refine ⟨_, rfl, _, rfl, _, rfl, m, g, c, n1, size, rfl, dn, by omega, by omega, by omega, fun z H5 z0 z1 d5 k5 => ⟨_, _, rfl, rfl, _, rfl, _, _, rfl, rfl, _, _, rfl, rfl, RgOk.of_le (by omega) (by omega) (by omega) (by omega), fun p hp => ?_⟩⟩
          rw [upV_eq]
          refine ⟨q, p, _, _, rfl, rfl, (same_new hp) _ _ (k5 _ _ W.at_ off.m off.g), upd_same, ?_, fun r hr => ?_⟩
          · rw [List.length_map, List.length_map, upV_length, sizeLine_eq]
            omega
          · exact step _ _ _ (W.swap hl (by rw [upV_length]; omega) (by rw [upV_length]; omega) k5 d5 (by omega) (by omega) (fun x hx => by have := upV_mem hx; omega) hp hr) (by rw [List.length_append, upV_length]; omega)
      · refine ⟨_, rfl, _, rfl, _, rfl, q, _, rfl, SqL.of W.at_, fun p hp => ?_⟩
        rw [cut_take fs (by omega)]
        refine k p (fs.take many.toNat) n1 _ ?_ (fun x hx => W.bd x (List.mem_of_mem_take hx)) e1 ?_ (dn.same (same_new hp)) (W.kp.trans (.of (same_new hp))) (W.kp.free dn hp) upd_same
        · rw [List.length_take]
          omega
        · have := W.len
          omega
    · intro σ H' Q1 Q2 hq h
      obtain ⟨v, e1, p, ys, e2, e3, v2, e4, i, j, e5, e6, b, e7, h⟩ := h
      exact ⟨v, e1, p, ys, e2, e3, v2, e4, i, j, e5, e6, b, e7, hq _ _ h⟩
end
end Lw
/-! I. Letters checked; brackets read. -/
namespace Lw
open PySem L2 LwE LwM
section
variable {P : Program} {w : World} {K : PySem.W.Frag} {mg : Str → Option Value} {base : Heap}
/-- letters of the size, at most forty -/
structure Ls (size : Int) (ls : List Int) : Prop where
  s0 : 2 ≤ size
  s1 : size ≤ 6
  len : ls.length ≤ 40
  bd : ∀ x ∈ ls, 1 ≤ x ∧ x ≤ size
/-- a list, or a tuple, of them -/
def Seq (H : Hp) (a : Addr) (ls : List Int) : Prop := H a = some (.lst (nums ls)) ∨ H a = some (.tup (nums ls))
theorem Seq.same {H H' : Hp} {a : Addr} {ls : List Int} (h : Seq H a ls) (s : Same H H') : Seq H' a ls := h.elim (fun e => .inl (s _ _ e)) fun e => .inr (s _ _ e)
theorem Seq.is {H : Hp} {a : Addr} {ls : List Int} (h : Seq H a ls) : (∃ xs, H a = some (.lst xs)) ∨ ∃ xs, H a = some (.tup xs) := h.elim (fun e => .inl ⟨_, e⟩) fun e => .inr ⟨_, e⟩
theorem Seq.sq {H : Hp} {a : Addr} {ls : List Int} (h : Seq H a ls) : SqL K H a (nums ls) ∨ SqT K H a (nums ls) := h.elim (fun e => .inl (SqL.of e)) fun e => .inr (SqT.of e)
def spCkLetters : Sp := fun vs H Q _ => ∃ (size : Int) (a : Addr) (ls : List Int), vs = [.int size, .ref a] ∧ Seq H a ls ∧ Ls size ls ∧ ∀ H', Same H H' → Q .non H'
theorem scCkLetters : FnScope ["size", "letters", "place", "letter"] ["size", "letters"] (defScope sCkLetters) := ⟨rfl, rfl, rfl, by decide +kernel, rfl, by decide +kernel, by decide +kernel⟩
theorem ok_ckletters {f f1 f2 : Addr} {fd fd1 fd2 : FuncData} (B : Bare mg) (N : Nums mg) (F : Df K mg "check_letters" sCkLetters f fd) (F1 : Df K mg "is_between" sBetween f1 fd1) (b1 : Binds K fd1 ["value", "least", "most"] [])
    (G1 : FnOk P w K mg base CX0 2 f1 fd1 ["value", "least", "most"] spBetween) (F2 : Df K mg "is_listing" sListing f2 fd2) (b2 : Binds K fd2 ["value"] []) (G2 : FnOk P w K mg base CX0 1 f2 fd2 ["value"] spListing) :
    FnOk P w K mg base CX0 3 f fd ["size", "letters"] spCkLetters := by
  refine F.fn.ok scCkLetters (fun vs H Q E h => ?_) (fun cdv A outer s H vs Q E hr h => ?_)
  · obtain ⟨size, a, ls, rfl, _⟩ := h
    rfl
  · obtain ⟨size, a, ls, rfl, hq, L, k⟩ := h
    obtain ⟨t3, e3⟩ := N.mostL
    have hr1 : Room 1 _ := hr.mono (by decide)
    have turn : ∀ {X : Cx}, True := fun {_} => trivial
    have ck : ∀ (H1 : Hp), Same H H1 → Seq H1 a ls := fun H1 s1 => hq.same s1
    have lenOk : decide ((40 : Int) < (((nums ls).length : Nat) : Int)) = false := decide_eq_false (by rw [List.length_map]; have := L.len; omega)
    rcases hq with hq | hq
    · refine ⟨_, pss_cons (ps_if (pt_not (pt_val (pe_call G2 hr1 (by rfl) F2.g F2.fn.kp b2 .nil pass0 (pa_cons (pv 1) pa_nil)))) pss_never pss_nil)
        (pss_cons (ps_if (pt_cmpR op_gt (pe_callB call_len_seq (by rfl) B.len PySem.boot_len (pa_cons (pv 1) pa_nil)) (pe_glob (v := .int 40) (by rfl) e3 ⟨_, rfl⟩) (nomark _)) pss_never pss_nil)
        (pss_one (ps_for PassesOwn.never rfl (pi_enum (by rfl) B.enumerate (pa_cons (pv 1) pa_nil)) (pg_tup rfl (pgs_cons (pg_name (i := 2) scCkLetters.nd rfl (Or.inl rfl)) (pgs_cons (pg_name (i := 3) scCkLetters.nd rfl (Or.inl rfl)) pgs_nil)))
          (pss_one (ps_if (pt_not (pt_val (pe_call G1 hr (by rfl) F1.g F1.fn.kp b1 .nil pass0 (pa_cons (pv 3) (pa_cons pe_int (pa_cons (pv 0) pa_nil)))))) pss_never pss_nil))))), ?_⟩
      refine ⟨_, rfl, a, rfl, .inl ⟨_, hq⟩, fun H1 s1 => ⟨true, rfl, iteF ?_⟩⟩
      refine ⟨_, rfl, a, _, rfl, .inl (SqL.of (s1 _ _ hq)), _, _, rfl, rfl, _, rfl, ?_⟩
      rw [lenOk]
      refine iteF ?_
      refine ⟨_, rfl, a, _, rfl, SqL.of (s1 _ _ hq), for_enL (K := K) (a := a) (xs := nums ls) (fun i σ H2 => ∃ v2 v3 : Option V, σ = [some (.int size), some (.ref a), v2, v3] ∧ Same H H2) ⟨_, _, rfl, s1⟩
        (fun i σ H2 _ ⟨_, _, _, s2⟩ => SqL.of (s2 _ _ hq)) ?_ ?_⟩
      · rintro i x T σ H2 hx ⟨v2, v3, rfl, s2⟩ hT
        obtain ⟨z, rfl, _, hz⟩ := nums_get hx
        refine ⟨T, _, rfl, SqT.of upd_same, rfl, _, _, rfl, _, _, rfl, rfl, ?_⟩
        refine ⟨_, rfl, _, rfl, z, 1, size, rfl, _, rfl, ?_⟩
        rw [decide_eq_true (L.bd z hz)]
        exact iteF ⟨_, _, rfl, s2.trans (same_new hT)⟩
      · rintro σ H2 ⟨v2, v3, rfl, s2⟩
        exact k H2 s2
    · refine ⟨_, pss_cons (ps_if (pt_not (pt_val (pe_call G2 hr1 (by rfl) F2.g F2.fn.kp b2 .nil pass0 (pa_cons (pv 1) pa_nil)))) pss_never pss_nil)
        (pss_cons (ps_if (pt_cmpR op_gt (pe_callB call_len_seq (by rfl) B.len PySem.boot_len (pa_cons (pv 1) pa_nil)) (pe_glob (v := .int 40) (by rfl) e3 ⟨_, rfl⟩) (nomark _)) pss_never pss_nil)
        (pss_one (ps_for PassesOwn.never rfl (pi_enT (by rfl) B.enumerate (pa_cons (pv 1) pa_nil)) (pg_tup rfl (pgs_cons (pg_name (i := 2) scCkLetters.nd rfl (Or.inl rfl)) (pgs_cons (pg_name (i := 3) scCkLetters.nd rfl (Or.inl rfl)) pgs_nil)))
          (pss_one (ps_if (pt_not (pt_val (pe_call G1 hr (by rfl) F1.g F1.fn.kp b1 .nil pass0 (pa_cons (pv 3) (pa_cons pe_int (pa_cons (pv 0) pa_nil)))))) pss_never pss_nil))))), ?_⟩
      refine ⟨_, rfl, a, rfl, .inr ⟨_, hq⟩, fun H1 s1 => ⟨true, rfl, iteF ?_⟩⟩
      refine ⟨_, rfl, a, _, rfl, .inr (SqT.of (s1 _ _ hq)), _, _, rfl, rfl, _, rfl, ?_⟩
      rw [lenOk]
      refine iteF ?_
      refine ⟨_, rfl, a, _, rfl, SqT.of (s1 _ _ hq), for_enT (K := K) (a := a) (xs := nums ls) (fun i σ H2 => ∃ v2 v3 : Option V, σ = [some (.int size), some (.ref a), v2, v3] ∧ Same H H2) ⟨_, _, rfl, s1⟩
        (fun i σ H2 _ ⟨_, _, _, s2⟩ => SqT.of (s2 _ _ hq)) ?_ ?_⟩
      · rintro i x T σ H2 hx ⟨v2, v3, rfl, s2⟩ hT
        obtain ⟨z, rfl, _, hz⟩ := nums_get hx
        refine ⟨T, _, rfl, SqT.of upd_same, rfl, _, _, rfl, _, _, rfl, rfl, ?_⟩
        refine ⟨_, rfl, _, rfl, z, 1, size, rfl, _, rfl, ?_⟩
        rw [decide_eq_true (L.bd z hz)]
        exact iteF ⟨_, _, rfl, s2.trans (same_new hT)⟩
      · rintro σ H2 ⟨v2, v3, rfl, s2⟩
        exact k H2 s2
/-! bracketed -/
/-- between two turns: the three lists -/
structure BW (H H' : Hp) (pr lo wa : Addr) (i : Int) (ls : List Int) : Prop where
  same : Same H H'
  fp : H pr = none
  fl : H lo = none
  fw : H wa = none
  npl : pr ≠ lo
  npw : pr ≠ wa
  nlw : lo ≠ wa
  hp : ∃ ps, H' pr = some (.lst ps) ∧ ps.length ≤ ls.length ∧ ∀ x ∈ ps, ∃ t i j, x = V.ref t ∧ H' t = some (.tup [.int i, .int j])
  hl : H' lo = some (.lst (nums (lows i ls)))
  hw : H' wa = some (.lst (nums (highs i ls)))
/-- something new was laid -/
theorem BW.new {H H' : Hp} {pr lo wa T : Addr} {i : Int} {ls : List Int} {o : HO} (W : BW H H' pr lo wa i ls) (hT : H' T = none) : BW H (upd H' T o) pr lo wa i ls :=
  ⟨W.same.trans (same_new hT), W.fp, W.fl, W.fw, W.npl, W.npw, W.nlw, let ⟨ps, h1, h2, h3⟩ := W.hp; ⟨ps, same_new hT _ _ h1, h2, fun x hx => let ⟨t, a, b, e1, e2⟩ := h3 x hx; ⟨t, a, b, e1, same_new hT _ _ e2⟩⟩,
    same_new hT _ _ W.hl, same_new hT _ _ W.hw⟩
theorem brk (i : Int) (l : List Int) (x : Int) : lows i (l ++ [x]) = (stp i (lows i l, highs i l) l.length x).1 ∧ highs i (l ++ [x]) = (stp i (lows i l, highs i l) l.length x).2 := by
  unfold lows highs
  rw [br_snoc]
  exact ⟨rfl, rfl⟩
theorem BW.wait {H H' : Hp} {pr lo wa : Addr} {i : Int} {l : List Int} (W : BW H H' pr lo wa i l) {x : Int} (hx : x = i + 1) :
    BW H (upd H' wa (.lst (nums (highs i l) ++ [.int (l.length : Nat)]))) pr lo wa i (l ++ [x]) := by
  have e := brk i l x
  unfold stp at e
  rw [if_pos hx] at e
  refine ⟨fun b o z => ?_, W.fp, W.fl, W.fw, W.npl, W.npw, W.nlw, ?_, ?_, ?_⟩
  · rw [upd_ne (ne_of_none z W.fw)]
    exact W.same _ _ z
  · obtain ⟨ps, h1, h2, h3⟩ := W.hp
    refine ⟨ps, by rw [upd_ne W.npw]; exact h1, by rw [List.length_append]; omega, fun y hy => ?_⟩
    obtain ⟨t, a, b, e1, e2⟩ := h3 y hy
    exact ⟨t, a, b, e1, by rw [upd_ne (ne_of e2 W.hw (by intro z; cases z))]; exact e2⟩
  · rw [upd_ne W.nlw, e.1]
    exact W.hl
  · rw [upd_same, e.2]
    simp [nums]
theorem BW.low {H H' : Hp} {pr lo wa : Addr} {i : Int} {l : List Int} (W : BW H H' pr lo wa i l) {x : Int} (h1 : ¬ x = i + 1) (hx : x = i) (he : highs i l = []) :
    BW H (upd H' lo (.lst (nums (lows i l) ++ [.int (l.length : Nat)]))) pr lo wa i (l ++ [x]) := by
  have e := brk i l x
  unfold stp at e
  rw [if_neg h1, if_pos hx, if_pos he] at e
  refine ⟨fun b o z => ?_, W.fp, W.fl, W.fw, W.npl, W.npw, W.nlw, ?_, ?_, ?_⟩
  · rw [upd_ne (ne_of_none z W.fl)]
    exact W.same _ _ z
  · obtain ⟨ps, h1, h2, h3⟩ := W.hp
    refine ⟨ps, by rw [upd_ne W.npl]; exact h1, by rw [List.length_append]; omega, fun y hy => ?_⟩
    obtain ⟨t, a, b, e1, e2⟩ := h3 y hy
    exact ⟨t, a, b, e1, by rw [upd_ne (ne_of e2 W.hl (by intro z; cases z))]; exact e2⟩
  · rw [upd_same, e.1]
    simp [nums]
  · rw [upd_ne W.nlw.symm, e.2]
    exact W.hw
theorem BW.pass {H H' : Hp} {pr lo wa : Addr} {i : Int} {l : List Int} (W : BW H H' pr lo wa i l) {x : Int} (h1 : ¬ x = i + 1) (hx : ¬ x = i) : BW H H' pr lo wa i (l ++ [x]) := by
  have e := brk i l x
  unfold stp at e
  rw [if_neg h1, if_neg hx] at e
  refine ⟨W.same, W.fp, W.fl, W.fw, W.npl, W.npw, W.nlw, ?_, ?_, ?_⟩
  · obtain ⟨ps, h1, h2, h3⟩ := W.hp
    exact ⟨ps, h1, by rw [List.length_append]; omega, h3⟩
  · rw [e.1]
    exact W.hl
  · rw [e.2]
    exact W.hw
/-- the last that waits is taken away -/
theorem BW.popped {H H' : Hp} {pr lo wa T : Addr} {i a b : Int} {l : List Int} {ps : List V} (W : BW H H' pr lo wa i l) {x : Int} (h1 : ¬ x = i + 1) (hx : x = i) (he : ¬ highs i l = []) (hps : H' pr = some (.lst ps)) (hl : ps.length ≤ l.length)
    (h3 : ∀ x ∈ ps, ∃ t i j, x = V.ref t ∧ H' t = some (.tup [.int i, .int j])) (hT : upd H' wa (.lst (nums (highs i l)).dropLast) T = none) :
    BW H (upd (upd (upd H' wa (.lst (nums (highs i l)).dropLast)) T (.tup [.int a, .int b])) pr (.lst (ps ++ [.ref T]))) pr lo wa i (l ++ [x]) := by
  have e := brk i l x
  unfold stp at e
  rw [if_neg h1, if_pos hx, if_neg he] at e
  have nTw : T ≠ wa := fun z => by
    rw [z, upd_same] at hT
    cases hT
  have hT2 : H' T = none := by
    rw [upd_ne nTw] at hT
    exact hT
  have nTp : T ≠ pr := (ne_of_none hps hT2).symm
  have nTl : T ≠ lo := (ne_of_none W.hl hT2).symm
  refine ⟨fun c o z => ?_, W.fp, W.fl, W.fw, W.npl, W.npw, W.nlw, ⟨_, upd_same, by rw [List.length_append, List.length_append]; simp; omega, fun y hy => ?_⟩, ?_, ?_⟩
  · rw [upd_ne (ne_of_none z W.fp), upd_ne (ne_of_none (W.same _ _ z) hT2), upd_ne (ne_of_none z W.fw)]
    exact W.same _ _ z
  · rcases List.mem_append.mp hy with q | q
    · obtain ⟨t, c, d, e1, e2⟩ := h3 y q
      refine ⟨t, c, d, e1, ?_⟩
      rw [upd_ne (ne_of e2 hps (by intro z; cases z)), upd_ne (ne_of_none e2 hT2), upd_ne (ne_of e2 W.hw (by intro z; cases z))]
      exact e2
    · refine ⟨T, a, b, List.mem_singleton.mp q, ?_⟩
      rw [upd_ne nTp, upd_same]
  · rw [upd_ne W.npl.symm, upd_ne nTl.symm, upd_ne W.nlw, e.1]
    exact W.hl
  · rw [upd_ne W.npw.symm, upd_ne nTw.symm, upd_same, e.2]
    simp [nums, List.map_dropLast]
def spBrack : Sp := fun vs H Q _ => ∃ (t : Addr) (i : Int) (ls : List Int), vs = [.ref t, .int i] ∧ Seq H t ls ∧ ls.length ≤ 100 ∧
  ∀ (p a b c : Addr) (ps : List V) (H' : Hp), Same H H' → H' p = some (.tup [.ref a, .ref b, .ref c]) → H' a = some (.lst ps) → H' b = some (.lst (nums (lows i ls))) → H' c = some (.lst (nums (highs i ls))) → Q (.ref p) H'
theorem scBrack : FnScope ["letters", "i", "opening", "pairs", "lows", "waiting", "place", "letter"] ["letters", "i"] (defScope sBrack) := ⟨rfl, rfl, rfl, by decide +kernel, rfl, by decide +kernel, by decide +kernel⟩
theorem ok_brack {f : Addr} {fd : FuncData} (B : Bare mg) (F : Df K mg "bracketed" sBrack f fd) : FnOk P w K mg base CX0 1 f fd ["letters", "i"] spBrack := by
  refine F.fn.ok scBrack (fun vs H Q E h => ?_) (fun cdv A outer s H vs Q E hr h => ?_)
  · obtain ⟨t, i, ls, rfl, _⟩ := h
    rfl
  · obtain ⟨t, i, ls, rfl, ht, hlen, k⟩ := h
    rcases ht with ht | ht
    · refine ⟨_, pss_cons (ps_set (i := 2) scBrack.nd rfl (Or.inl rfl) (pe_op op_add (pv 1) pe_int)) (pss_cons (ps_set (i := 3) scBrack.nd rfl (Or.inl rfl) (pe_lst pa_nil)) (pss_cons (ps_set (i := 4) scBrack.nd rfl (Or.inl rfl) (pe_lst pa_nil)) (pss_cons (ps_set (i := 5) scBrack.nd rfl (Or.inl rfl) (pe_lst pa_nil))
        (pss_cons (ps_for PassesOwn.never rfl (pi_enum (by rfl) B.enumerate (pa_cons (pv 0) pa_nil)) (pg_tup rfl (pgs_cons (pg_name (i := 6) scBrack.nd rfl (Or.inl rfl)) (pgs_cons (pg_name (i := 7) scBrack.nd rfl (Or.inl rfl)) pgs_nil)))
          (pss_one (ps_if (pt_cmpR op_eq (pv 7) (pv 2) (nomark _))
            (pss_one (ps_expr (pe_bm PySem.F.plainAttrs_list PySem.F.slot_list_append PySem.F.type_list_append mt_append (pv 5) (pa_cons (pv 6) pa_nil))))
            (pss_one (ps_if (pt_cmpR op_eq (pv 7) (pv 1) (nomark _))
              (pss_one (ps_if (pt_truth (pv 5) (by intro _; rfl))
                (pss_one (ps_expr (pe_bm PySem.F.plainAttrs_list PySem.F.slot_list_append PySem.F.type_list_append mt_append (pv 3)
                  (pa_cons (pe_tup (pa_cons (pe_bm0 PySem.F.plainAttrs_list PySem.F.slot_list_pop PySem.F.type_list_pop mt_pop (pv 5)) (pa_cons (pv 6) pa_nil))) pa_nil))))
                (pss_one (ps_expr (pe_bm PySem.F.plainAttrs_list PySem.F.slot_list_append PySem.F.type_list_append mt_append (pv 4) (pa_cons (pv 6) pa_nil))))))
              pss_nil)))))
        (pss_one (ps_ret (pe_tup (pa_cons (pv 3) (pa_cons (pv 4) (pa_cons (pv 5) pa_nil)))))))))), ?_⟩
      refine ⟨_, rfl, _, _, rfl, rfl, ?_⟩
      refine ⟨Nat.zero_le _, fun pr hpr => ⟨Nat.zero_le _, fun lo hlo => ⟨Nat.zero_le _, fun wa hwa => ?_⟩⟩⟩
      have npl : pr ≠ lo := fun z => by
        rw [← z, upd_same] at hlo
        cases hlo
      have nlw : lo ≠ wa := fun z => by
        rw [← z, upd_same] at hwa
        cases hwa
      have npw : pr ≠ wa := fun z => by
        rw [← z, upd_ne npl, upd_same] at hwa
        cases hwa
      have s1 : Same H (upd (upd (upd H pr (.lst [])) lo (.lst [])) wa (.lst [])) := ((same_new hpr).trans (same_new hlo)).trans (same_new hwa)
      have fl : H lo = none := (same_new hpr).free hlo
      have fw : H wa = none := ((same_new hpr).trans (same_new hlo)).free hwa
      have W0 : BW H (upd (upd (upd H pr (.lst [])) lo (.lst [])) wa (.lst [])) pr lo wa i [] :=
        ⟨s1, hpr, fl, fw, npl, npw, nlw, ⟨[], by rw [upd_ne npw, upd_ne npl, upd_same], Nat.le_refl _, fun x hx => by simp at hx⟩, by rw [upd_ne nlw, upd_same]; rfl, by rw [upd_same]; rfl⟩
      refine ⟨_, rfl, t, _, rfl, SqL.of (s1 _ _ ht), for_enL (K := K) (a := t) (xs := nums ls)
        (fun j σ H' => ∃ v5 v6 : Option V, σ = [some (.ref t), some (.int i), some (.int (i + 1)), some (.ref pr), some (.ref lo), some (.ref wa), v5, v6] ∧ BW H H' pr lo wa i (ls.take j)) ⟨_, _, rfl, W0⟩ (fun j σ H' _ ⟨_, _, _, W⟩ => SqL.of (W.same _ _ ht)) ?_ ?_⟩
      · rintro j x T σ H' hx ⟨v5, v6, rfl, W1⟩ hT
        obtain ⟨z, rfl, hz, _⟩ := nums_get hx
        have hj : j < ls.length := (List.getElem?_eq_some_iff.mp hz).1
        have ej : (ls.take j).length = j := by
          rw [List.length_take]
          omega
        have en : ls.take (j + 1) = ls.take j ++ [z] := by
          rw [List.take_succ, hz]
          rfl
        have W := W1.new (o := .tup [.int (j : Nat), .int z]) hT
        have eT : (upd H' T (.tup [.int (j : Nat), .int z])) T = some (.tup [.int (j : Nat), .int z]) := upd_same
        generalize upd H' T (.tup [.int (j : Nat), .int z]) = H2 at W eT ⊢
        have szl : (nums (lows i (ls.take j))).length < sizeLine := by
          rw [List.length_map]
          exact small1000 (by have := (br_len i (ls.take j)).1; omega)
        have szh : (nums (highs i (ls.take j))).length < sizeLine := by
          rw [List.length_map]
          exact small1000 (by have := (br_len i (ls.take j)).2; omega)
        refine ⟨T, _, rfl, SqT.of eT, rfl, _, _, rfl, _, _, rfl, rfl, ?_⟩
        refine ⟨_, rfl, _, rfl, rfl, _, rfl, ite2 (fun hc => ?_) (fun hc => ?_)⟩
        · have hzi : z = i + 1 := by simpa using hc
          refine ⟨_, rfl, .inl ⟨rfl, _, SqL.of W.hw⟩, _, rfl, wa, _, _, rfl, rfl, W.hw, szh, ⟨_, _, rfl, ?_⟩⟩
          rw [en]
          have q := W.wait hzi
          rw [ej] at q
          exact q
        have hzi : ¬ z = i + 1 := by simpa using hc
        refine ⟨_, rfl, _, rfl, rfl, _, rfl, ite2 (fun hc2 => ?_) (fun hc2 => ?_)⟩
        · have hz2 : z = i := by simpa using hc2
          refine ⟨_, rfl, _, .inl ⟨_, SqL.of W.hw, rfl⟩, ?_⟩
          by_cases he : highs i (ls.take j) = []
          · rw [he]
            refine iteF ⟨_, rfl, .inl ⟨rfl, _, SqL.of W.hl⟩, _, rfl, lo, _, _, rfl, rfl, W.hl, szl, ⟨_, _, rfl, ?_⟩⟩
            rw [en]
            have q := W.low hzi hz2 he
            rw [ej] at q
            exact q
          · obtain ⟨ps, h1, h2, h3⟩ := W.hp
            have hne : (!(nums (highs i (ls.take j))).isEmpty) = true := by
              cases e : highs i (ls.take j) with
              | nil => exact absurd e he
              | cons a r => rfl
            rw [hne]
            have hlast : ∃ y, (highs i (ls.take j))[(highs i (ls.take j)).length - 1]? = some y := by
              cases e : highs i (ls.take j) with
              | nil => exact absurd e he
              | cons a r => exact ⟨(a :: r)[(a :: r).length - 1], by simp⟩
            obtain ⟨y, hy⟩ := hlast
            have hy2 : (nums (highs i (ls.take j)))[(nums (highs i (ls.take j))).length - 1]? = some (.int y) := by
              rw [List.length_map, List.getElem?_map, hy]
              rfl
            refine iteT ⟨_, rfl, .inl ⟨rfl, _, SqL.of h1⟩, _, rfl, .inl ⟨rfl, _, SqL.of W.hw⟩, wa, _, _, rfl, rfl, W.hw, hy2, ?_⟩
            refine ⟨_, rfl, (by show 2 ≤ sizeLine; decide), fun T2 hT2 => ⟨pr, ps, _, rfl, rfl, ?_, small1000 (by have := List.length_take_le j ls; omega), ⟨_, _, rfl, ?_⟩⟩⟩
            · have n2 : pr ≠ T2 := fun q => by
                rw [← q, upd_ne W.npw] at hT2
                rw [h1] at hT2
                cases hT2
              rw [upd_ne n2, upd_ne W.npw]
              exact h1
            · rw [en]
              exact W.popped hzi hz2 he h1 h2 h3 hT2
        · have hz2 : ¬ z = i := by simpa using hc2
          refine ⟨_, _, rfl, ?_⟩
          rw [en]
          exact W.pass hzi hz2
      · rintro σ H' ⟨v5, v6, rfl, W1⟩
        rw [List.length_map, List.take_length] at W1
        obtain ⟨ps, h1, h2, h3⟩ := W1.hp
        refine ⟨_, rfl, _, rfl, _, rfl, (by show 3 ≤ sizeLine; decide), fun p hp => ?_⟩
        have s6 := same_new (o := .tup [.ref pr, .ref lo, .ref wa]) hp
        exact k p pr lo wa ps _ (W1.same.trans s6) upd_same (s6 _ _ h1) (s6 _ _ W1.hl) (s6 _ _ W1.hw)
    · refine ⟨_, pss_cons (ps_set (i := 2) scBrack.nd rfl (Or.inl rfl) (pe_op op_add (pv 1) pe_int)) (pss_cons (ps_set (i := 3) scBrack.nd rfl (Or.inl rfl) (pe_lst pa_nil)) (pss_cons (ps_set (i := 4) scBrack.nd rfl (Or.inl rfl) (pe_lst pa_nil)) (pss_cons (ps_set (i := 5) scBrack.nd rfl (Or.inl rfl) (pe_lst pa_nil))
        (pss_cons (ps_for PassesOwn.never rfl (pi_enT (by rfl) B.enumerate (pa_cons (pv 0) pa_nil)) (pg_tup rfl (pgs_cons (pg_name (i := 6) scBrack.nd rfl (Or.inl rfl)) (pgs_cons (pg_name (i := 7) scBrack.nd rfl (Or.inl rfl)) pgs_nil)))
          (pss_one (ps_if (pt_cmpR op_eq (pv 7) (pv 2) (nomark _))
            (pss_one (ps_expr (pe_bm PySem.F.plainAttrs_list PySem.F.slot_list_append PySem.F.type_list_append mt_append (pv 5) (pa_cons (pv 6) pa_nil))))
            (pss_one (ps_if (pt_cmpR op_eq (pv 7) (pv 1) (nomark _))
              (pss_one (ps_if (pt_truth (pv 5) (by intro _; rfl))
                (pss_one (ps_expr (pe_bm PySem.F.plainAttrs_list PySem.F.slot_list_append PySem.F.type_list_append mt_append (pv 3)
                  (pa_cons (pe_tup (pa_cons (pe_bm0 PySem.F.plainAttrs_list PySem.F.slot_list_pop PySem.F.type_list_pop mt_pop (pv 5)) (pa_cons (pv 6) pa_nil))) pa_nil))))
                (pss_one (ps_expr (pe_bm PySem.F.plainAttrs_list PySem.F.slot_list_append PySem.F.type_list_append mt_append (pv 4) (pa_cons (pv 6) pa_nil))))))
              pss_nil)))))
        (pss_one (ps_ret (pe_tup (pa_cons (pv 3) (pa_cons (pv 4) (pa_cons (pv 5) pa_nil)))))))))), ?_⟩
      refine ⟨_, rfl, _, _, rfl, rfl, ?_⟩
      refine ⟨Nat.zero_le _, fun pr hpr => ⟨Nat.zero_le _, fun lo hlo => ⟨Nat.zero_le _, fun wa hwa => ?_⟩⟩⟩
      have npl : pr ≠ lo := fun z => by
        rw [← z, upd_same] at hlo
        cases hlo
      have nlw : lo ≠ wa := fun z => by
        rw [← z, upd_same] at hwa
        cases hwa
      have npw : pr ≠ wa := fun z => by
        rw [← z, upd_ne npl, upd_same] at hwa
        cases hwa
      have s1 : Same H (upd (upd (upd H pr (.lst [])) lo (.lst [])) wa (.lst [])) := ((same_new hpr).trans (same_new hlo)).trans (same_new hwa)
      have fl : H lo = none := (same_new hpr).free hlo
      have fw : H wa = none := ((same_new hpr).trans (same_new hlo)).free hwa
      have W0 : BW H (upd (upd (upd H pr (.lst [])) lo (.lst [])) wa (.lst [])) pr lo wa i [] :=
        ⟨s1, hpr, fl, fw, npl, npw, nlw, ⟨[], by rw [upd_ne npw, upd_ne npl, upd_same], Nat.le_refl _, fun x hx => by simp at hx⟩, by rw [upd_ne nlw, upd_same]; rfl, by rw [upd_same]; rfl⟩
      refine ⟨_, rfl, t, _, rfl, SqT.of (s1 _ _ ht), for_enT (K := K) (a := t) (xs := nums ls)
        (fun j σ H' => ∃ v5 v6 : Option V, σ = [some (.ref t), some (.int i), some (.int (i + 1)), some (.ref pr), some (.ref lo), some (.ref wa), v5, v6] ∧ BW H H' pr lo wa i (ls.take j)) ⟨_, _, rfl, W0⟩ (fun j σ H' _ ⟨_, _, _, W⟩ => SqT.of (W.same _ _ ht)) ?_ ?_⟩
      · rintro j x T σ H' hx ⟨v5, v6, rfl, W1⟩ hT
        obtain ⟨z, rfl, hz, _⟩ := nums_get hx
        have hj : j < ls.length := (List.getElem?_eq_some_iff.mp hz).1
        have ej : (ls.take j).length = j := by
          rw [List.length_take]
          omega
        have en : ls.take (j + 1) = ls.take j ++ [z] := by
          rw [List.take_succ, hz]
          rfl
        have W := W1.new (o := .tup [.int (j : Nat), .int z]) hT
        have eT : (upd H' T (.tup [.int (j : Nat), .int z])) T = some (.tup [.int (j : Nat), .int z]) := upd_same
        generalize upd H' T (.tup [.int (j : Nat), .int z]) = H2 at W eT ⊢
        have szl : (nums (lows i (ls.take j))).length < sizeLine := by
          rw [List.length_map]
          exact small1000 (by have := (br_len i (ls.take j)).1; omega)
        have szh : (nums (highs i (ls.take j))).length < sizeLine := by
          rw [List.length_map]
          exact small1000 (by have := (br_len i (ls.take j)).2; omega)
        refine ⟨T, _, rfl, SqT.of eT, rfl, _, _, rfl, _, _, rfl, rfl, ?_⟩
        refine ⟨_, rfl, _, rfl, rfl, _, rfl, ite2 (fun hc => ?_) (fun hc => ?_)⟩
        · have hzi : z = i + 1 := by simpa using hc
          refine ⟨_, rfl, .inl ⟨rfl, _, SqL.of W.hw⟩, _, rfl, wa, _, _, rfl, rfl, W.hw, szh, ⟨_, _, rfl, ?_⟩⟩
          rw [en]
          have q := W.wait hzi
          rw [ej] at q
          exact q
        have hzi : ¬ z = i + 1 := by simpa using hc
        refine ⟨_, rfl, _, rfl, rfl, _, rfl, ite2 (fun hc2 => ?_) (fun hc2 => ?_)⟩
        · have hz2 : z = i := by simpa using hc2
          refine ⟨_, rfl, _, .inl ⟨_, SqL.of W.hw, rfl⟩, ?_⟩
          by_cases he : highs i (ls.take j) = []
          · rw [he]
            refine iteF ⟨_, rfl, .inl ⟨rfl, _, SqL.of W.hl⟩, _, rfl, lo, _, _, rfl, rfl, W.hl, szl, ⟨_, _, rfl, ?_⟩⟩
            rw [en]
            have q := W.low hzi hz2 he
            rw [ej] at q
            exact q
          · obtain ⟨ps, h1, h2, h3⟩ := W.hp
            have hne : (!(nums (highs i (ls.take j))).isEmpty) = true := by
              cases e : highs i (ls.take j) with
              | nil => exact absurd e he
              | cons a r => rfl
            rw [hne]
            have hlast : ∃ y, (highs i (ls.take j))[(highs i (ls.take j)).length - 1]? = some y := by
              cases e : highs i (ls.take j) with
              | nil => exact absurd e he
              | cons a r => exact ⟨(a :: r)[(a :: r).length - 1], by simp⟩
            obtain ⟨y, hy⟩ := hlast
            have hy2 : (nums (highs i (ls.take j)))[(nums (highs i (ls.take j))).length - 1]? = some (.int y) := by
              rw [List.length_map, List.getElem?_map, hy]
              rfl
            refine iteT ⟨_, rfl, .inl ⟨rfl, _, SqL.of h1⟩, _, rfl, .inl ⟨rfl, _, SqL.of W.hw⟩, wa, _, _, rfl, rfl, W.hw, hy2, ?_⟩
            refine ⟨_, rfl, (by show 2 ≤ sizeLine; decide), fun T2 hT2 => ⟨pr, ps, _, rfl, rfl, ?_, small1000 (by have := List.length_take_le j ls; omega), ⟨_, _, rfl, ?_⟩⟩⟩
            · have n2 : pr ≠ T2 := fun q => by
                rw [← q, upd_ne W.npw] at hT2
                rw [h1] at hT2
                cases hT2
              rw [upd_ne n2, upd_ne W.npw]
              exact h1
            · rw [en]
              exact W.popped hzi hz2 he h1 h2 h3 hT2
        · have hz2 : ¬ z = i := by simpa using hc2
          refine ⟨_, _, rfl, ?_⟩
          rw [en]
          exact W.pass hzi hz2
      · rintro σ H' ⟨v5, v6, rfl, W1⟩
        rw [List.length_map, List.take_length] at W1
        obtain ⟨ps, h1, h2, h3⟩ := W1.hp
        refine ⟨_, rfl, _, rfl, _, rfl, (by show 3 ≤ sizeLine; decide), fun p hp => ?_⟩
        have s6 := same_new (o := .tup [.ref pr, .ref lo, .ref wa]) hp
        exact k p pr lo wa ps _ (W1.same.trans s6) upd_same (s6 _ _ h1) (s6 _ _ W1.hl) (s6 _ _ W1.hw)
end
end Lw
/-! J. The class of words. -/
namespace Lw
open PySem L2 LwE LwM
theorem sl_ : ¬ (("size" : Str) = "letters") := by decide +kernel
theorem ls_ : ¬ (("letters" : Str) = "size") := by decide +kernel
/-- a word's attributes -/
def wf (t : Addr) (z : Int) : List (Str × V) := putF "letters" (.ref t) (putF "size" (.int z) [])
theorem wf_size (t : Addr) (z : Int) : (wf t z).lookup ("size" : Str) = some (.int z) := by
  unfold wf
  rw [lookup_putF, if_neg sl_, lookup_putF, if_pos rfl]
theorem wf_letters (t : Addr) (z : Int) : (wf t z).lookup ("letters" : Str) = some (.ref t) := by
  unfold wf
  rw [lookup_putF, if_pos rfl]
theorem wf_no (t : Addr) (z : Int) {m : Str} (h1 : ¬ m = "letters") (h2 : ¬ m = "size") : (wf t z).lookup m = none := by
  unfold wf
  rw [lookup_putF, if_neg h1, lookup_putF, if_neg h2]
  rfl
/-- a word of the class at C stands at p -/
structure WAt (C : Addr) (H : Hp) (p : Addr) (size : Int) (ls : List Int) : Prop where
  ob : ∃ dx t, H p = some (.ins C dx (wf t size)) ∧ H t = some (.tup (nums ls))
  ls : Ls size ls
theorem WAt.same {C : Addr} {H H' : Hp} {p : Addr} {size : Int} {ls : List Int} (W : WAt C H p size ls) (s : Same H H') : WAt C H' p size ls :=
  ⟨let ⟨dx, t, a, b⟩ := W.ob; ⟨dx, t, s _ _ a, s _ _ b⟩, W.ls⟩
theorem WAt.keep {C : Addr} {H H' : Hp} {p m g c : Addr} {n size : Int} {ls : List Int} (W : WAt C H p size ls) (d : Dr H m g c n) (k : Keep m g H H') : WAt C H' p size ls := by
  obtain ⟨dx, t, a, b⟩ := W.ob
  obtain ⟨gs, _, e⟩ := d.hg
  exact ⟨⟨dx, t, k _ _ a (ne_of a d.hm (by intro z; cases z)) (ne_of a e (by intro z; cases z)), k _ _ b (ne_of b d.hm (by intro z; cases z)) (ne_of b e (by intro z; cases z))⟩, W.ls⟩
/-- what the top has made of the class -/
structure Cw (K : PySem.W.Frag) (mg : Str → Option Value) (C : Addr) : Prop where
  cl : Cls K C
  nS : NoAttr K C "size"
  nL : NoAttr K C "letters"
  mgC : mg "Word" = some (.ref C)
  ca : PySem.W.findIn K (.ref C) "__class__" = some (some (.builtin "object.__class__"))
  cn : PySem.W.specialIn K (.builtin "object.__class__") "__get__" = some (some (.builtin "getset_descriptor.__get__"))
  ct : PySem.W.takesIn K (.builtin "object.__class__") = some true
  cm : PySem.W.mroIn K C (.type "object") = some true
theorem cut_drop (l : List Int) {n : Int} (h : 0 ≤ n) : cutV (nums l) (some n) none = nums (l.drop n.toNat) := by
  unfold cutV
  have e : HT.sIx (nums l).length 0 (some n) = min n.toNat (nums l).length := by
    have q := HT.sIx_nat (nums l).length 0 n.toNat
    rw [Int.toNat_of_nonneg h] at q
    exact q
  rw [HT.sIx_none, e]
  rw [List.length_map]
  show ((l.map V.int).drop _).take _ = (l.drop n.toNat).map V.int
  rw [← List.map_drop, ← List.map_take]
  congr 1
  rw [List.take_of_length_le (by rw [List.length_drop]; omega)]
  rcases Nat.le_total n.toNat l.length with z | z
  · rw [Nat.min_eq_left z]
  · rw [Nat.min_eq_right z, List.drop_of_length_le (Nat.le_refl _), List.drop_of_length_le z]
/-- t + u, whichever is empty -/
theorem cat_any {K : PySem.W.Frag} {H : Hp} {Q : VK} {a b : Addr} {xs ys : List V} (ha : H a = some (.tup xs)) (hb : H b = some (.tup ys)) (hl : xs.length + ys.length ≤ sizeLine)
    (k : ∀ r H', Same H H' → H' r = some (.tup (xs ++ ys)) → Q (.ref r) H') : rCatA K (.ref a) (.ref b) H Q := by
  refine ⟨a, b, xs, ys, rfl, rfl, SqT.of ha, SqT.of hb, hl, fun e => ?_, fun _ e => ?_, fun _ _ p hp => k p _ (same_new hp) upd_same⟩
  · subst e
    exact k b H (Same.refl H) hb
  · subst e
    refine k a H (Same.refl H) ?_
    rw [List.append_nil]
    exact ha
theorem set_cut (l : List Int) (p : Nat) (x : Int) (h : p < l.length) : l.take p ++ [x] ++ l.drop (p + 1) = l.set p x := by
  rw [List.set_eq_take_append_cons_drop, if_pos h, List.append_assoc]
  rfl
theorem Ls.set {size : Int} {ls : List Int} (L : Ls size ls) (p : Nat) {x : Int} (h0 : 1 ≤ x) (h1 : x ≤ size) : Ls size (ls.set p x) :=
  ⟨L.s0, L.s1, by rw [List.length_set]; exact L.len, fun y hy => by
    rcases List.mem_or_eq_of_mem_set hy with q | q
    · exact L.bd y q
    · rw [q]
      exact ⟨h0, h1⟩⟩
section
variable {P : Program} {w : World} {K : PySem.W.Frag} {mg : Str → Option Value} {base : Heap}
/-! __init__ -/
def spInit (C : Addr) : Sp := fun vs H Q _ => ∃ (p dx : Addr) (size : Int) (a : Addr) (ls : List Int), vs = [.ref p, .int size, .ref a] ∧ H p = some (.ins C dx []) ∧ Seq H a ls ∧ Ls size ls ∧
  ∀ H', (∀ b o, H b = some o → b ≠ p → H' b = some o) → WAt C H' p size ls → Q .non H'
theorem scInit : FnScope ["self", "size", "letters"] ["self", "size", "letters"] (defScope sInit) := ⟨rfl, rfl, rfl, by decide +kernel, rfl, by decide +kernel, by decide +kernel⟩
theorem ok_init {f f1 f2 C : Addr} {fd fd1 fd2 : FuncData} (B : Bare mg) (T : Cw K mg C) (F : Fun K "__init__" "Word.__init__" sInit f fd) (F1 : Df K mg "check_size" sCkSize f1 fd1) (b1 : Binds K fd1 ["size"] [])
    (G1 : FnOk P w K mg base CX0 3 f1 fd1 ["size"] spCkSize) (F2 : Df K mg "check_letters" sCkLetters f2 fd2) (b2 : Binds K fd2 ["size", "letters"] []) (G2 : FnOk P w K mg base CX0 3 f2 fd2 ["size", "letters"] spCkLetters) :
    FnOk P w K mg base CX0 4 f fd ["self", "size", "letters"] (spInit C) := by
  refine F.ok scInit (fun vs H Q E h => ?_) (fun cdv A outer s H vs Q E hr h => ?_)
  · obtain ⟨p, dx, size, a, ls, rfl, _⟩ := h
    rfl
  · obtain ⟨p, dx, size, a, ls, rfl, hp, hq, L, k⟩ := h
    refine ⟨_, pss_cons (ps_expr (pe_call G1 hr (by rfl) F1.g F1.fn.kp b1 .nil pass0 (pa_cons (pv 1) pa_nil))) (pss_cons (ps_expr (pe_call G2 hr (by rfl) F2.g F2.fn.kp b2 .nil pass0 (pa_cons (pv 1) (pa_cons (pv 2) pa_nil))))
      (pss_cons (ps_fld (pv 0) (pv 1) rfl) (pss_one (ps_fld (pv 0) (pe_callTy call_tuple_of (by rfl) B.tuple (by decide +kernel) (pa_cons (pv 2) pa_nil)) rfl)))), ?_⟩
    refine ⟨_, rfl, size, rfl, L.s0, L.s1, ?_⟩
    refine ⟨_, rfl, _, rfl, size, a, ls, rfl, hq, L, fun H1 s1 => ?_⟩
    refine ⟨_, rfl, _, rfl, p, C, dx, _, rfl, s1 _ _ hp, T.cl, T.nS, (by show 0 < 1000; decide), ?_⟩
    have nap : a ≠ p := hq.elim (fun e => ne_of e hp (by intro z; cases z)) fun e => ne_of e hp (by intro z; cases z)
    have hq2 : Seq (upd H1 p (.ins C dx (putF "size" (.int size) []))) a ls := by
      rcases hq.same s1 with e | e
      · exact .inl (by rw [upd_ne nap]; exact e)
      · exact .inr (by rw [upd_ne nap]; exact e)
    have hp2 : (upd H1 p (.ins C dx (putF "size" (.int size) []))) p = some (.ins C dx (putF "size" (.int size) [])) := upd_same
    have k2 : ∀ b o, H b = some o → b ≠ p → (upd H1 p (.ins C dx (putF "size" (.int size) []))) b = some o := fun b o e h => by
      rw [upd_ne h]
      exact s1 _ _ e
    generalize upd H1 p (.ins C dx (putF "size" (.int size) [])) = H2 at hq2 hp2 k2 ⊢
    rcases hq2 with e | e
    · refine ⟨_, rfl, a, _, rfl, .inl ⟨SqL.of e, fun t ht => ?_⟩⟩
      have npt : p ≠ t := ne_of_none hp2 ht
      refine ⟨_, rfl, p, C, dx, _, rfl, same_new ht _ _ hp2, T.cl, T.nL, (by show 1 < 1000; decide), ?_⟩
      refine k _ (fun b o z h => ?_) ⟨⟨dx, t, upd_same, ?_⟩, L⟩
      · rw [upd_ne h]
        exact same_new ht _ _ (k2 _ _ z h)
      · rw [upd_ne npt.symm, upd_same]
    · refine ⟨_, rfl, a, _, rfl, .inr ⟨SqT.of e, ?_⟩⟩
      refine ⟨_, rfl, p, C, dx, _, rfl, hp2, T.cl, T.nL, (by show 1 < 1000; decide), ?_⟩
      refine k _ (fun b o z h => ?_) ⟨⟨dx, a, upd_same, ?_⟩, L⟩
      · rw [upd_ne h]
        exact k2 _ _ z h
      · rw [upd_ne nap]
        exact e
/-! a word made -/
theorem made {C : Addr} {H : Hp} {Q : VK} {size : Int} {a : Addr} {ls : List Int} (hq : Seq H a ls) (L : Ls size ls) (k : ∀ x H', Same H H' → H x = none → WAt C H' x size ls → Q (.ref x) H') :
    ∀ x dx, H x = none → H dx = none → dx ≠ x → spInit C (.ref x :: ([.int size, .ref a] ++ [])) (upd (upd H dx (.own x)) x (.ins C dx [])) (fun v H2 => v = .non ∧ Q (.ref x) H2) E0 := fun x dx nx ndx ne => by
  have s2 : Same H (upd (upd H dx (.own x)) x (.ins C dx [])) := fun b o e => by
    rw [upd_ne (ne_of_none e nx), upd_ne (ne_of_none e ndx)]
    exact e
  exact ⟨x, dx, size, a, ls, rfl, upd_same, hq.same s2, L, fun H' kp W => ⟨rfl, k x H' (Same.made nx ndx kp) nx W⟩⟩
end
end Lw
/-! K. The methods of words. -/
namespace Lw
open PySem L2 LwE LwM
/-- what is known of __init__ -/
structure In_ (P : Program) (w : World) (K : PySem.W.Frag) (mg : Str → Option Value) (base : Heap) (C : Addr) (fI : Addr) (fdI : FuncData) : Prop where
  m : Mk K C fI
  ok : FnOk P w K mg base CX0 4 fI fdI ["self", "size", "letters"] (spInit C)
  b : Binds K fdI ["self", "size", "letters"] []
section
variable {P : Program} {w : World} {K : PySem.W.Frag} {mg : Str → Option Value} {base : Heap}
/-! with_letter -/
def spWith (C : Addr) : Sp := fun vs H Q _ => ∃ (a : Addr) (p x size : Int) (ls : List Int), vs = [.ref a, .int p, .int x] ∧ WAt C H a size ls ∧ 0 ≤ p ∧ p < (ls.length : Int) ∧ 1 ≤ x ∧ x ≤ size ∧
  ∀ b H', Same H H' → H b = none → WAt C H' b size (ls.set p.toNat x) → Q (.ref b) H'
theorem scWith : FnScope ["word", "place", "letter"] ["word", "place", "letter"] (defScope sWith) := ⟨rfl, rfl, rfl, by decide +kernel, rfl, by decide +kernel, by decide +kernel⟩
theorem ok_with {f fI C : Addr} {fd fdI : FuncData} (T : Cw K mg C) (F : Df K mg "with_letter" sWith f fd) (I : In_ P w K mg base C fI fdI) : FnOk P w K mg base CX0 6 f fd ["word", "place", "letter"] (spWith C) := by
  refine F.fn.ok scWith (fun vs H Q E h => ?_) (fun cdv A outer s H vs Q E hr h => ?_)
  · obtain ⟨a, p, x, size, ls, rfl, _⟩ := h
    rfl
  · obtain ⟨a, p, x, size, ls, rfl, W, p0, p1, x0, x1, k⟩ := h
    refine ⟨_, pss_one (ps_ret (pe_make I.m I.ok hr (by rfl) T.mgC I.b .nil pass0 (pa_cons (pe_fld (pv 0) rfl) (pa_cons
      (pe_op op_catA (pe_op op_catA (pe_slice sl_tup (pe_fld (pv 0) rfl) po_none (po_some (pv 1))) (pe_tup (pa_cons (pv 2) pa_nil))) (pe_slice sl_tup (pe_fld (pv 0) rfl) (po_some (pe_op op_add (pv 1) pe_int)) po_none)) pa_nil)))), ?_⟩
    obtain ⟨dx, t, h1, h2⟩ := W.ob
    have hlen := W.ls.len
    have e1 : (p.toNat : Int) = p := Int.toNat_of_nonneg p0
    refine ⟨_, rfl, a, C, dx, _, _, rfl, h1, T.cl, T.nS, wf_size _ _, ?_⟩
    refine ⟨_, rfl, a, C, dx, _, _, rfl, h1, T.cl, T.nL, wf_letters _ _, _, rfl, p, rfl, t, _, rfl, SqT.of h2, ?_, fun q hq => ?_⟩
    · rw [HT.sIx_none, ← e1, HT.sIx_nat, List.length_map]
      omega
    rw [cut_take ls p0]
    have h1q := same_new (o := .tup (nums (ls.take p.toNat))) hq _ _ h1
    have h2q := same_new (o := .tup (nums (ls.take p.toNat))) hq _ _ h2
    have eq : (upd H q (.tup (nums (ls.take p.toNat)))) q = some (.tup (nums (ls.take p.toNat))) := upd_same
    have sq : Same H (upd H q (.tup (nums (ls.take p.toNat)))) := same_new hq
    generalize upd H q (.tup (nums (ls.take p.toNat))) = H1 at h1q h2q eq sq ⊢
    refine ⟨_, rfl, (by show 1 ≤ sizeLine; decide), fun r hr1 => ?_⟩
    have er : (upd H1 r (.tup [.int x])) r = some (.tup [.int x]) := upd_same
    have s2 : Same H1 (upd H1 r (.tup [.int x])) := same_new hr1
    generalize upd H1 r (.tup [.int x]) = H2 at er s2 ⊢
    refine cat_any (s2 _ _ eq) er (by rw [List.length_map, List.length_take, sizeLine_eq]; simp; omega) fun y H3 s3 ey => ?_
    refine ⟨_, rfl, a, C, dx, _, _, rfl, s3 _ _ (s2 _ _ h1q), T.cl, T.nL, wf_letters _ _, _, rfl, _, _, rfl, rfl, _, rfl, t, _, rfl, SqT.of (s3 _ _ (s2 _ _ h2q)), ?_, fun v hv => ?_⟩
    · have e2 : p + 1 = ((p.toNat + 1 : Nat) : Int) := by omega
      rw [HT.sIx_none, e2, HT.sIx_nat, List.length_map]
      omega
    rw [cut_drop ls (show 0 ≤ p + 1 by omega)]
    have s4 : Same H3 (upd H3 v (.tup (nums (ls.drop (p + 1).toNat)))) := same_new hv
    have ev : (upd H3 v (.tup (nums (ls.drop (p + 1).toNat)))) v = some (.tup (nums (ls.drop (p + 1).toNat))) := upd_same
    generalize upd H3 v (.tup (nums (ls.drop (p + 1).toNat))) = H4 at s4 ev ⊢
    refine cat_any (s4 _ _ ey) ev (by rw [List.length_append, List.length_map, List.length_map, List.length_take, List.length_drop, sizeLine_eq]; simp; omega) fun z H5 s5 ez => ?_
    have ef : nums (ls.take p.toNat) ++ [V.int x] ++ nums (ls.drop (p + 1).toNat) = nums (ls.set p.toNat x) := by
      have e3 : (p + 1).toNat = p.toNat + 1 := by omega
      rw [e3, ← set_cut ls p.toNat x (by omega)]
      simp [nums]
    rw [ef] at ez
    have sAll : Same H H5 := ((sq.trans s2).trans (s3.trans s4)).trans s5
    exact made (.inr ez) (W.ls.set p.toNat x0 x1) fun b H' s6 nb W' => k b H' (sAll.trans s6) (sAll.free nb) W'
/-! __len__ -/
def spLen (C : Addr) : Sp := fun vs H Q _ => ∃ (a : Addr) (size : Int) (ls : List Int), vs = [.ref a] ∧ WAt C H a size ls ∧ Q (.int (ls.length : Nat)) H
theorem scLen : FnScope ["self"] ["self"] (defScope sLen) := ⟨rfl, rfl, rfl, by decide +kernel, rfl, by decide +kernel, by decide +kernel⟩
theorem ok_len {f C : Addr} {fd : FuncData} (B : Bare mg) (T : Cw K mg C) (F : Fun K "__len__" "Word.__len__" sLen f fd) : FnOk P w K mg base CX0 1 f fd ["self"] (spLen C) := by
  refine F.ok scLen (fun vs H Q E h => ?_) (fun cdv A outer s H vs Q E hr h => ?_)
  · obtain ⟨a, size, ls, rfl, _⟩ := h
    rfl
  · obtain ⟨a, size, ls, rfl, W, k⟩ := h
    obtain ⟨dx, t, h1, h2⟩ := W.ob
    refine ⟨_, pss_one (ps_ret (pe_callB call_len_seq (by rfl) B.len PySem.boot_len (pa_cons (pe_fld (pv 0) rfl) pa_nil))), ?_⟩
    refine ⟨_, rfl, a, C, dx, _, _, rfl, h1, T.cl, T.nL, wf_letters _ _, t, _, rfl, .inr (SqT.of h2), ?_⟩
    rw [List.length_map]
    exact k
/-! __eq__ -/
theorem eqv_nums : ∀ l r : List Int, PyData.eqvAll (l.map PyData.int) (r.map PyData.int) = decide (l = r)
  | [], [] => by simp [PyData.eqvAll]
  | [], _ :: _ => by simp [PyData.eqvAll]
  | _ :: _, [] => by simp [PyData.eqvAll]
  | x :: l, y :: r => by
    have ih := eqv_nums l r
    simp only [List.map_cons, PyData.eqvAll, PyData.eqv, ih]
    by_cases h1 : x = y
    · subst h1
      simp
    · simp [h1]
theorem shaped_tup (l : List Int) : SeqAt.shaped (.tuple (l.map PyData.int)) = true := by
  have h := lay_nums l
  unfold SeqAt.shaped
  simp [PyData.canLay0, PyData.depth, h.1, h.2]
def spEq (C : Addr) : Sp := fun vs H Q _ => ∃ (a b : Addr) (s1 s2 : Int) (l1 l2 : List Int), vs = [.ref a, .ref b] ∧ WAt C H a s1 l1 ∧ WAt C H b s2 l2 ∧ Q (.bl (decide (s1 = s2 ∧ l1 = l2))) H
theorem scEq : FnScope ["self", "other"] ["self", "other"] (defScope sEq) := ⟨rfl, rfl, rfl, by decide +kernel, rfl, by decide +kernel, by decide +kernel⟩
theorem ty_word {C : Addr} (T : Cw K mg C) {H : Hp} {a : Addr} {s : Int} {l : List Int} (W : WAt C H a s l) : TyX K H (.ref a) (.ref C) := by
  obtain ⟨dx, t, h1, h2⟩ := W.ob
  exact TyX.base (TyOf.ins h1 T.cl T.ca T.cn T.ct T.cm)
theorem kit_word {C : Addr} : PySem.W.kitOne K (.ref C) (.ref C) = some true := by
  unfold PySem.W.kitOne
  simp
theorem ok_eq {f C : Addr} {fd : FuncData} (B : Bare mg) (T : Cw K mg C) (F : Fun K "__eq__" "Word.__eq__" sEq f fd) : FnOk P w K mg base CX0 1 f fd ["self", "other"] (spEq C) := by
  refine F.ok scEq (fun vs H Q E h => ?_) (fun cdv A outer s H vs Q E hr h => ?_)
  · obtain ⟨a, b, s1, s2, l1, l2, rfl, _⟩ := h
    rfl
  · obtain ⟨a, b, s1, s2, l1, l2, rfl, W1, W2, k⟩ := h
    obtain ⟨dx, t, h1, h2⟩ := W1.ob
    obtain ⟨dy, u, g1, g2⟩ := W2.ob
    refine ⟨_, pss_one (ps_ret (pe_and (pe_callB call_isi (by rfl) B.isinstance (by decide +kernel) (pa_cons (pv 1) (pa_cons (pe_glob (v := .ref C) (by rfl) T.mgC rfl) pa_nil)))
      (pe_and (pe_cmpR op_eq (pe_fld (pv 0) rfl) (pe_fld (pv 1) rfl) (nomark _)) (pe_one (pe_cmpR (op_eqD hr.units) (pe_fld (pv 0) rfl) (pe_fld (pv 1) rfl) (nomark _)))))), ?_⟩
    refine ⟨_, rfl, _, _, .ref C, .ref C, true, rfl, ClsV.own C, ty_word T W2, kit_word, true, rfl, iteT ?_⟩
    refine ⟨_, rfl, a, C, dx, _, _, rfl, h1, T.cl, T.nS, wf_size _ _, _, rfl, b, C, dy, _, _, rfl, g1, T.cl, T.nS, wf_size _ _, rfl, _, rfl, ?_⟩
    by_cases hs : s1 = s2
    · refine ite2 (fun _ => ?_) (fun z => absurd (by simp [hs]) z)
      refine ⟨_, rfl, a, C, dx, _, _, rfl, h1, T.cl, T.nL, wf_letters _ _, _, rfl, b, C, dy, _, _, rfl, g1, T.cl, T.nL, wf_letters _ _, ?_⟩
      refine ⟨.tuple (l1.map PyData.int), .tuple (l2.map PyData.int), .tup (SqT.of h2) (dp_nums l1), .tup (SqT.of g2) (dp_nums l2), shaped_tup l1, shaped_tup l2, ?_⟩
      have e : PyData.eqv (.tuple (l1.map PyData.int)) (.tuple (l2.map PyData.int)) = decide (s1 = s2 ∧ l1 = l2) := by
        show PyData.eqvAll _ _ = _
        rw [eqv_nums]
        simp [hs]
      rw [e]
      exact k
    · refine ite2 (fun z => absurd (by simpa using z) hs) (fun _ => ?_)
      have e : decide (s1 = s2 ∧ l1 = l2) = false := by simp [hs]
      rw [e] at k
      exact k
/-! __add__ -/
def spAdd (C : Addr) : Sp := fun vs H Q _ => ∃ (a b : Addr) (size : Int) (l1 l2 : List Int), vs = [.ref a, .ref b] ∧ WAt C H a size l1 ∧ WAt C H b size l2 ∧ l1.length + l2.length ≤ 40 ∧
  ∀ x H', Same H H' → H x = none → WAt C H' x size (l1 ++ l2) → Q (.ref x) H'
theorem scAdd : FnScope ["self", "other"] ["self", "other"] (defScope sAdd) := ⟨rfl, rfl, rfl, by decide +kernel, rfl, by decide +kernel, by decide +kernel⟩
theorem Ls.app {size : Int} {l r : List Int} (L : Ls size l) (R : Ls size r) (h : l.length + r.length ≤ 40) : Ls size (l ++ r) :=
  ⟨L.s0, L.s1, by rw [List.length_append]; exact h, fun x hx => by
    rcases List.mem_append.mp hx with z | z
    · exact L.bd x z
    · exact R.bd x z⟩
theorem ok_add {f fI C : Addr} {fd fdI : FuncData} (B : Bare mg) (N : Nums mg) (T : Cw K mg C) (F : Fun K "__add__" "Word.__add__" sAdd f fd) (I : In_ P w K mg base C fI fdI) : FnOk P w K mg base CX0 6 f fd ["self", "other"] (spAdd C) := by
  refine F.ok scAdd (fun vs H Q E h => ?_) (fun cdv A outer s H vs Q E hr h => ?_)
  · obtain ⟨a, b, size, l1, l2, rfl, _⟩ := h
    rfl
  · obtain ⟨a, b, size, l1, l2, rfl, W1, W2, hl, k⟩ := h
    obtain ⟨dx, t, h1, h2⟩ := W1.ob
    obtain ⟨dy, u, g1, g2⟩ := W2.ob
    obtain ⟨t3, e3⟩ := N.mostL
    refine ⟨_, pss_cons (ps_if (pt_not (pt_val (pe_callB call_isi (by rfl) B.isinstance (by decide +kernel) (pa_cons (pv 1) (pa_cons (pe_glob (v := .ref C) (by rfl) T.mgC rfl) pa_nil))))) pss_never pss_nil)
      (pss_cons (ps_if (pt_cmpR op_ne (pe_fld (pv 0) rfl) (pe_fld (pv 1) rfl) (nomark _)) pss_never pss_nil)
      (pss_cons (ps_if (pt_cmpR op_gt (pe_op op_add (pe_callB call_len_seq (by rfl) B.len PySem.boot_len (pa_cons (pe_fld (pv 0) rfl) pa_nil)) (pe_callB call_len_seq (by rfl) B.len PySem.boot_len (pa_cons (pe_fld (pv 1) rfl) pa_nil)))
        (pe_glob (v := .int 40) (by rfl) e3 ⟨_, rfl⟩) (nomark _)) pss_never pss_nil)
      (pss_one (ps_ret (pe_make I.m I.ok hr (by rfl) T.mgC I.b .nil pass0 (pa_cons (pe_fld (pv 0) rfl) (pa_cons (pe_op op_catA (pe_fld (pv 0) rfl) (pe_fld (pv 1) rfl)) pa_nil))))))), ?_⟩
    refine ⟨_, rfl, _, _, .ref C, .ref C, true, rfl, ClsV.own C, ty_word T W2, kit_word, true, rfl, iteF ?_⟩
    refine ⟨_, rfl, a, C, dx, _, _, rfl, h1, T.cl, T.nS, wf_size _ _, _, rfl, b, C, dy, _, _, rfl, g1, T.cl, T.nS, wf_size _ _, rfl, _, rfl, iteNS rfl ?_⟩
    refine ⟨_, rfl, a, C, dx, _, _, rfl, h1, T.cl, T.nL, wf_letters _ _, t, _, rfl, .inr (SqT.of h2), _, rfl, b, C, dy, _, _, rfl, g1, T.cl, T.nL, wf_letters _ _, u, _, rfl, .inr (SqT.of g2), _, _, rfl, rfl, _, _, rfl, rfl, _, rfl, ?_⟩
    rw [List.length_map, List.length_map]
    refine ite2 (fun z => ?_) (fun _ => ?_)
    · have := of_decide_eq_true z
      omega
    refine ⟨_, rfl, a, C, dx, _, _, rfl, h1, T.cl, T.nS, wf_size _ _, _, rfl, a, C, dx, _, _, rfl, h1, T.cl, T.nL, wf_letters _ _, _, rfl, b, C, dy, _, _, rfl, g1, T.cl, T.nL, wf_letters _ _, ?_⟩
    refine cat_any h2 g2 (by rw [List.length_map, List.length_map, sizeLine_eq]; omega) fun z H5 s5 ez => ?_
    have ef : nums l1 ++ nums l2 = nums (l1 ++ l2) := by simp [nums]
    rw [ef] at ez
    exact made (.inr ez) (W1.ls.app W2.ls hl) fun x H' s6 nb W' => k x H' (s5.trans s6) (s5.free nb) W'
end
end Lw
/-! N. What can be done at an index. -/
namespace LwM
def lst (l : List Int) : Int := l.getLast?.getD 0
def fst (l : List Int) : Int := l.head?.getD 0
def upL (i : Int) (l : List Int) : List Int := l.set (lst (lows i l)).toNat (i + 1)
def dnL (i : Int) (l : List Int) : List Int := l.set (fst (highs i l)).toNat i
theorem lst_app (l r : List Int) (h : r ≠ []) : lst (l ++ r) = lst r := by
  unfold lst
  rw [List.getLast?_append]
  cases r with
  | nil => exact absurd rfl h
  | cons a r =>
    rw [List.getLast?_eq_some_getLast (List.cons_ne_nil a r)]
    rfl
theorem lst_mem {l : List Int} (h : l ≠ []) : lst l ∈ l := by
  cases l with
  | nil => exact absurd rfl h
  | cons a r =>
    unfold lst
    rw [List.getLast?_eq_some_getLast (List.cons_ne_nil a r)]
    exact List.getLast_mem _
theorem lst_snoc {l : List Int} (h : l ≠ []) : ∃ r, l = r ++ [lst l] := by
  refine ⟨l.dropLast, ?_⟩
  unfold lst
  rw [List.getLast?_eq_some_getLast h]
  exact (List.dropLast_concat_getLast h).symm
theorem fst_mem {l : List Int} (h : l ≠ []) : fst l ∈ l := by
  cases l with
  | nil => exact absurd rfl h
  | cons a r => exact List.mem_cons_self ..
end LwM
namespace Lw
open PySem L2 LwE LwM
section
variable {P : Program} {w : World} {K : PySem.W.Frag} {mg : Str → Option Value} {base : Heap}
def spSpare (C : Addr) : Sp := fun vs H Q _ => ∃ (a : Addr) (i size : Int) (ls : List Int), vs = [.ref a, .int i] ∧ WAt C H a size ls ∧ 1 ≤ i ∧ i ≤ size - 1 ∧
  ∀ (p b c : Addr) H', Same H H' → H' p = some (.tup [.ref b, .ref c]) → H' b = some (.tup (nums (lows i ls))) → H' c = some (.tup (nums (highs i ls))) → Q (.ref p) H'
theorem scSpare : FnScope ["self", "i", "pairs", "lows", "highs"] ["self", "i"] (defScope sSpare) := ⟨rfl, rfl, rfl, by decide +kernel, rfl, by decide +kernel, by decide +kernel⟩
theorem ok_spare {f f1 f2 C : Addr} {fd fd1 fd2 : FuncData} (B : Bare mg) (T : Cw K mg C) (F : Fun K "spare" "Word.spare" sSpare f fd) (F1 : Df K mg "check_index" sCkIndex f1 fd1) (b1 : Binds K fd1 ["size", "i"] [])
    (G1 : FnOk P w K mg base CX0 3 f1 fd1 ["size", "i"] spCkIndex) (F2 : Df K mg "bracketed" sBrack f2 fd2) (b2 : Binds K fd2 ["letters", "i"] []) (G2 : FnOk P w K mg base CX0 1 f2 fd2 ["letters", "i"] spBrack) :
    FnOk P w K mg base CX0 4 f fd ["self", "i"] (spSpare C) := by
  refine F.ok scSpare (fun vs H Q E h => ?_) (fun cdv A outer s H vs Q E hr h => ?_)
  · obtain ⟨a, i, size, ls, rfl, _⟩ := h
    rfl
  · obtain ⟨a, i, size, ls, rfl, W, i0, i1, k⟩ := h
    obtain ⟨dx, t, h1, h2⟩ := W.ob
    have hr1 : Room 1 _ := hr.mono (by decide)
    refine ⟨_, pss_cons (ps_expr (pe_call G1 hr (by rfl) F1.g F1.fn.kp b1 .nil pass0 (pa_cons (pe_fld (pv 0) rfl) (pa_cons (pv 1) pa_nil))))
      (pss_cons (ps_asg (pe_call G2 hr1 (by rfl) F2.g F2.fn.kp b2 .nil pass0 (pa_cons (pe_fld (pv 0) rfl) (pa_cons (pv 1) pa_nil)))
        (pg_tup rfl (pgs_cons (pg_name (i := 2) scSpare.nd rfl (Or.inl rfl)) (pgs_cons (pg_name (i := 3) scSpare.nd rfl (Or.inl rfl)) (pgs_cons (pg_name (i := 4) scSpare.nd rfl (Or.inl rfl)) pgs_nil)))))
      (pss_one (ps_ret (pe_tup (pa_cons (pe_callTy call_tuple_of (by rfl) B.tuple (by decide +kernel) (pa_cons (pv 3) pa_nil)) (pa_cons (pe_callTy call_tuple_of (by rfl) B.tuple (by decide +kernel) (pa_cons (pv 4) pa_nil)) pa_nil)))))), ?_⟩
    refine ⟨_, rfl, a, C, dx, _, _, rfl, h1, T.cl, T.nS, wf_size _ _, _, rfl, size, i, rfl, i0, i1, ?_⟩
    refine ⟨_, rfl, a, C, dx, _, _, rfl, h1, T.cl, T.nL, wf_letters _ _, _, rfl, t, i, ls, rfl, .inr h2, by have := W.ls.len; omega, fun p x b c ps H1 s1 e1 e2 e3 e4 => ?_⟩
    refine ⟨p, _, rfl, SqT.of e1, rfl, _, _, rfl, _, _, rfl, _, _, rfl, rfl, ?_⟩
    refine ⟨_, rfl, b, _, rfl, .inl ⟨SqL.of e3, fun u hu => ?_⟩⟩
    have s2 := same_new (o := .tup (nums (lows i ls))) hu
    refine ⟨_, rfl, c, _, rfl, .inl ⟨SqL.of (s2 _ _ e4), fun v hv => ?_⟩⟩
    have s3 := same_new (o := .tup (nums (highs i ls))) hv
    refine ⟨(by show 2 ≤ sizeLine; decide), fun q hq => ?_⟩
    have s4 := same_new (o := .tup [.ref u, .ref v]) hq
    exact k q u v _ (((s1.trans s2).trans s3).trans s4) upd_same (s4 _ _ (s3 _ _ upd_same)) (s4 _ _ upd_same)
/-! how often -/
structure Sp_ (P : Program) (w : World) (K : PySem.W.Frag) (mg : Str → Option Value) (base : Heap) (C : Addr) (f : Addr) (fd : FuncData) : Prop where
  m : Meth K C "spare" f
  ok : FnOk P w K mg base CX0 4 f fd ["self", "i"] (spSpare C)
  b : Binds K fd ["self", "i"] []
def spUps (C : Addr) : Sp := fun vs H Q _ => ∃ (a : Addr) (i size : Int) (ls : List Int), vs = [.ref a, .int i] ∧ WAt C H a size ls ∧ 1 ≤ i ∧ i ≤ size - 1 ∧ ∀ H', Same H H' → Q (.int (up i ls : Nat)) H'
def spDowns (C : Addr) : Sp := fun vs H Q _ => ∃ (a : Addr) (i size : Int) (ls : List Int), vs = [.ref a, .int i] ∧ WAt C H a size ls ∧ 1 ≤ i ∧ i ≤ size - 1 ∧ ∀ H', Same H H' → Q (.int (dn i ls : Nat)) H'
theorem no_spare (t : Addr) (z : Int) : (wf t z).lookup ("spare" : Str) = none := wf_no t z (by decide +kernel) (by decide +kernel)
theorem scUps : FnScope ["self", "i"] ["self", "i"] (defScope sUps) := ⟨rfl, rfl, rfl, by decide +kernel, rfl, by decide +kernel, by decide +kernel⟩
theorem ok_ups {f fS C : Addr} {fd fdS : FuncData} (B : Bare mg) (T : Cw K mg C) (F : Fun K "ups" "Word.ups" sUps f fd) (S : Sp_ P w K mg base C fS fdS) : FnOk P w K mg base CX0 5 f fd ["self", "i"] (spUps C) := by
  refine F.ok scUps (fun vs H Q E h => ?_) (fun cdv A outer s H vs Q E hr h => ?_)
  · obtain ⟨a, i, size, ls, rfl, _⟩ := h
    rfl
  · obtain ⟨a, i, size, ls, rfl, W, i0, i1, k⟩ := h
    obtain ⟨dx, t, h1, h2⟩ := W.ob
    refine ⟨_, pss_one (ps_ret (pe_callB call_len_seq (by rfl) B.len PySem.boot_len (pa_cons (pe_ix ix_tup (pe_meth (pv 0) T.cl S.m S.ok hr S.b .nil pass0 (pa_cons (pv 1) pa_nil)) pe_int (fun _ _ => rfl)) pa_nil))), ?_⟩
    refine ⟨_, rfl, a, dx, _, rfl, h1, no_spare _ _, _, rfl, a, i, size, ls, rfl, W, i0, i1, fun p b c H1 s1 e1 e2 e3 => ?_⟩
    refine ⟨p, _, _, _, rfl, rfl, SqT.of e1, at_of (j := 0) rfl rfl, b, _, rfl, .inr (SqT.of e2), ?_⟩
    rw [List.length_map]
    exact k H1 s1
theorem scDowns : FnScope ["self", "i"] ["self", "i"] (defScope sDowns) := ⟨rfl, rfl, rfl, by decide +kernel, rfl, by decide +kernel, by decide +kernel⟩
theorem ok_downs {f fS C : Addr} {fd fdS : FuncData} (B : Bare mg) (T : Cw K mg C) (F : Fun K "downs" "Word.downs" sDowns f fd) (S : Sp_ P w K mg base C fS fdS) : FnOk P w K mg base CX0 5 f fd ["self", "i"] (spDowns C) := by
  refine F.ok scDowns (fun vs H Q E h => ?_) (fun cdv A outer s H vs Q E hr h => ?_)
  · obtain ⟨a, i, size, ls, rfl, _⟩ := h
    rfl
  · obtain ⟨a, i, size, ls, rfl, W, i0, i1, k⟩ := h
    obtain ⟨dx, t, h1, h2⟩ := W.ob
    refine ⟨_, pss_one (ps_ret (pe_callB call_len_seq (by rfl) B.len PySem.boot_len (pa_cons (pe_ix ix_tup (pe_meth (pv 0) T.cl S.m S.ok hr S.b .nil pass0 (pa_cons (pv 1) pa_nil)) pe_int (fun _ _ => rfl)) pa_nil))), ?_⟩
    refine ⟨_, rfl, a, dx, _, rfl, h1, no_spare _ _, _, rfl, a, i, size, ls, rfl, W, i0, i1, fun p b c H1 s1 e1 e2 e3 => ?_⟩
    refine ⟨p, _, _, _, rfl, rfl, SqT.of e1, at_of (j := 1) rfl rfl, c, _, rfl, .inr (SqT.of e3), ?_⟩
    rw [List.length_map]
    exact k H1 s1
/-! up, down -/
def spUp (C : Addr) : Sp := fun vs H Q _ => ∃ (a : Addr) (i size : Int) (ls : List Int), vs = [.ref a, .int i] ∧ WAt C H a size ls ∧ 1 ≤ i ∧ i ≤ size - 1 ∧ lows i ls ≠ [] ∧ ∀ b H', Same H H' → H b = none → WAt C H' b size (upL i ls) → Q (.ref b) H'
def spDown (C : Addr) : Sp := fun vs H Q _ => ∃ (a : Addr) (i size : Int) (ls : List Int), vs = [.ref a, .int i] ∧ WAt C H a size ls ∧ 1 ≤ i ∧ i ≤ size - 1 ∧ highs i ls ≠ [] ∧ ∀ b H', Same H H' → H b = none → WAt C H' b size (dnL i ls) → Q (.ref b) H'
theorem not_emp {l : List Int} (h : l ≠ []) : (!(nums l).isEmpty) = true := by
  cases l with
  | nil => exact absurd rfl h
  | cons a r => rfl
theorem at_lst {l : List Int} (h : l ≠ []) : atI (nums l) (-1) = some (.int (lst l)) := by
  obtain ⟨r, e⟩ := lst_snoc h
  have e2 : nums l = nums r ++ [.int (lst l)] := by
    rw [e]
    simp [nums, lst]
  rw [e2]
  exact atI_last _ _
theorem at_fst {l : List Int} (h : l ≠ []) : atI (nums l) 0 = some (.int (fst l)) := by
  cases l with
  | nil => exact absurd rfl h
  | cons a r => exact at_of (j := 0) rfl rfl
theorem scUp : FnScope ["self", "i", "lows"] ["self", "i"] (defScope sUp) := ⟨rfl, rfl, rfl, by decide +kernel, rfl, by decide +kernel, by decide +kernel⟩
theorem ok_up {f fS f2 C : Addr} {fd fdS fd2 : FuncData} (T : Cw K mg C) (F : Fun K "up" "Word.up" sUp f fd) (S : Sp_ P w K mg base C fS fdS) (F2 : Df K mg "with_letter" sWith f2 fd2) (b2 : Binds K fd2 ["word", "place", "letter"] [])
    (G2 : FnOk P w K mg base CX0 6 f2 fd2 ["word", "place", "letter"] (spWith C)) : FnOk P w K mg base CX0 7 f fd ["self", "i"] (spUp C) := by
  refine F.ok scUp (fun vs H Q E h => ?_) (fun cdv A outer s H vs Q E hr h => ?_)
  · obtain ⟨a, i, size, ls, rfl, _⟩ := h
    rfl
  · obtain ⟨a, i, size, ls, rfl, W, i0, i1, hne, k⟩ := h
    obtain ⟨dx, t, h1, h2⟩ := W.ob
    have hr4 : Room 4 _ := hr.mono (by decide)
    refine ⟨_, pss_cons (ps_set (i := 2) scUp.nd rfl (Or.inl rfl) (pe_ix ix_tup (pe_meth (pv 0) T.cl S.m S.ok hr4 S.b .nil pass0 (pa_cons (pv 1) pa_nil)) pe_int (fun _ _ => rfl)))
      (pss_cons (ps_if (pt_not (pt_truth (pv 2) (by intro _; rfl))) pss_never pss_nil)
      (pss_one (ps_ret (pe_call G2 hr (by rfl) F2.g F2.fn.kp b2 .nil pass0 (pa_cons (pv 0) (pa_cons (pe_ix ix_tup (pv 2) (pe_un un_neg pe_int) (fun _ _ => rfl)) (pa_cons (pe_op op_add (pv 1) pe_int) pa_nil))))))), ?_⟩
    refine ⟨_, rfl, a, dx, _, rfl, h1, no_spare _ _, _, rfl, a, i, size, ls, rfl, W, i0, i1, fun p b c H1 s1 e1 e2 e3 => ?_⟩
    refine ⟨p, _, _, _, rfl, rfl, SqT.of e1, at_of (j := 0) rfl rfl, ?_⟩
    refine ⟨_, rfl, _, .inr (.inl ⟨_, SqT.of e2, rfl⟩), ?_⟩
    rw [not_emp hne]
    refine iteF ?_
    have bd := br_bd (i := i) (l := ls) (.inl (lst_mem hne))
    refine ⟨_, rfl, _, rfl, 1, rfl, b, _, _, _, rfl, rfl, SqT.of e2, at_lst hne, _, rfl, _, _, rfl, rfl, a, lst (lows i ls), i + 1, size, ls, rfl, W.same s1, bd.1, bd.2, by omega, by omega, fun x H' s2 nx W' => ?_⟩
    exact k x H' (s1.trans s2) (s1.free nx) W'
theorem scDown : FnScope ["self", "i", "highs"] ["self", "i"] (defScope sDown) := ⟨rfl, rfl, rfl, by decide +kernel, rfl, by decide +kernel, by decide +kernel⟩
theorem ok_down {f fS f2 C : Addr} {fd fdS fd2 : FuncData} (T : Cw K mg C) (F : Fun K "down" "Word.down" sDown f fd) (S : Sp_ P w K mg base C fS fdS) (F2 : Df K mg "with_letter" sWith f2 fd2) (b2 : Binds K fd2 ["word", "place", "letter"] [])
    (G2 : FnOk P w K mg base CX0 6 f2 fd2 ["word", "place", "letter"] (spWith C)) : FnOk P w K mg base CX0 7 f fd ["self", "i"] (spDown C) := by
  refine F.ok scDown (fun vs H Q E h => ?_) (fun cdv A outer s H vs Q E hr h => ?_)
  · obtain ⟨a, i, size, ls, rfl, _⟩ := h
    rfl
  · obtain ⟨a, i, size, ls, rfl, W, i0, i1, hne, k⟩ := h
    obtain ⟨dx, t, h1, h2⟩ := W.ob
    have hr4 : Room 4 _ := hr.mono (by decide)
    refine ⟨_, pss_cons (ps_set (i := 2) scDown.nd rfl (Or.inl rfl) (pe_ix ix_tup (pe_meth (pv 0) T.cl S.m S.ok hr4 S.b .nil pass0 (pa_cons (pv 1) pa_nil)) pe_int (fun _ _ => rfl)))
      (pss_cons (ps_if (pt_not (pt_truth (pv 2) (by intro _; rfl))) pss_never pss_nil)
      (pss_one (ps_ret (pe_call G2 hr (by rfl) F2.g F2.fn.kp b2 .nil pass0 (pa_cons (pv 0) (pa_cons (pe_ix ix_tup (pv 2) pe_int (fun _ _ => rfl)) (pa_cons (pv 1) pa_nil))))))), ?_⟩
    refine ⟨_, rfl, a, dx, _, rfl, h1, no_spare _ _, _, rfl, a, i, size, ls, rfl, W, i0, i1, fun p b c H1 s1 e1 e2 e3 => ?_⟩
    refine ⟨p, _, _, _, rfl, rfl, SqT.of e1, at_of (j := 1) rfl rfl, ?_⟩
    refine ⟨_, rfl, _, .inr (.inl ⟨_, SqT.of e3, rfl⟩), ?_⟩
    rw [not_emp hne]
    refine iteF ?_
    have bd := br_bd (i := i) (l := ls) (.inr (fst_mem hne))
    refine ⟨_, rfl, _, rfl, c, _, _, _, rfl, rfl, SqT.of e3, at_fst hne, _, rfl, a, fst (highs i ls), i, size, ls, rfl, W.same s1, bd.1, bd.2, by omega, by omega, fun x H' s2 nx W' => ?_⟩
    exact k x H' (s1.trans s2) (s1.free nx) W'
end
end Lw
/-! V. Neighbors taken out, in plain lists. -/
namespace LwM
/-- the letter at a place -/
def val (ls : List Int) (p : Int) : Int := ls[p.toNat]?.getD 0
/-- places read one after another -/
def gp (i : Int) (f : Int → Int) : List Int × List Int → List Int → List Int × List Int
  | s, [] => s
  | s, p :: r => gp i f (stp i s p (f p)) r
theorem gp_app (i : Int) (f : Int → Int) : ∀ (A B : List Int) (s : List Int × List Int), gp i f s (A ++ B) = gp i f (gp i f s A) B
  | [], B, s => rfl
  | p :: A, B, s => gp_app i f A B _
theorem go_gp (i : Int) (f : Int → Int) : ∀ (l : List Int) (s : List Int × List Int) (k : Int), (∀ (j : Nat) x, l[j]? = some x → f (k + j) = x) → go i s k l = gp i f s ((List.range l.length).map fun j => k + (j : Nat))
  | [], s, k, h => rfl
  | x :: l, s, k, h => by
    have h0 : f k = x := by
      have := h 0 x rfl
      simpa using this
    have ih := go_gp i f l (stp i s k x) (k + 1) fun j y hy => by
      have := h (j + 1) y (by simpa using hy)
      rw [← this]
      congr 1
      omega
    show go i (stp i s k x) (k + 1) l = _
    rw [ih, List.length_cons, List.range_succ_eq_map, List.map_cons, List.map_map]
    show _ = gp i f (stp i s (k + ((0 : Nat) : Int)) (f (k + ((0 : Nat) : Int)))) _
    have e0 : k + ((0 : Nat) : Int) = k := by omega
    rw [e0, h0]
    congr 1
    apply List.map_congr_left
    intro j _
    show k + 1 + (j : Int) = k + ((Nat.succ j : Nat) : Int)
    omega
/-- what is passed over changes nothing -/
theorem gp_filter (i : Int) (f : Int → Int) : ∀ (A : List Int) (s : List Int × List Int), gp i f s (A.filter fun p => decide (f p = i ∨ f p = i + 1)) = gp i f s A
  | [], s => rfl
  | p :: A, s => by
    rw [List.filter_cons]
    by_cases h : f p = i ∨ f p = i + 1
    · rw [if_pos (by simpa using h)]
      exact gp_filter i f A _
    · rw [if_neg (by simpa using h)]
      show gp i f s _ = gp i f (stp i s p (f p)) A
      have e : stp i s p (f p) = s := by
        unfold stp
        rw [if_neg (fun z => h (.inr z)), if_neg (fun z => h (.inl z))]
      rw [e]
      exact gp_filter i f A s
/-- a pair of neighbors changes nothing -/
theorem gp_pair (i : Int) (f : Int → Int) (A B : List Int) (s : List Int × List Int) {p q : Int} (hp : f p = i + 1) (hq : f q = i) : gp i f s (A ++ p :: q :: B) = gp i f s (A ++ B) := by
  rw [gp_app, gp_app]
  show gp i f (stp i (stp i _ p (f p)) q (f q)) B = _
  generalize gp i f s A = t
  congr 1
  rw [hp, hq]
  unfold stp
  rw [if_pos rfl, if_neg (by omega), if_pos rfl]
  simp
theorem gp_ups (i : Int) (f : Int → Int) : ∀ (B : List Int) (L W : List Int), (∀ p ∈ B, f p = i + 1) → gp i f (L, W) B = (L, W ++ B)
  | [], L, W, _ => by simp [gp]
  | p :: B, L, W, h => by
    show gp i f (stp i (L, W) p (f p)) B = _
    have e : stp i (L, W) p (f p) = (L, W ++ [p]) := by
      unfold stp
      rw [if_pos (h p (List.mem_cons_self ..))]
    rw [e, gp_ups i f B L _ fun q hq => h q (List.mem_cons_of_mem _ hq)]
    simp
/-- no i + 1 stands right ahead of an i -/
def NoAdj (i : Int) (f : Int → Int) (A : List Int) : Prop := ∀ (j : Nat) a b, A[j]? = some a → A[j + 1]? = some b → ¬ (f a = i + 1 ∧ f b = i)
theorem NoAdj.tail {i : Int} {f : Int → Int} {p : Int} {A : List Int} (h : NoAdj i f (p :: A)) : NoAdj i f A := fun j a b ha hb => h (j + 1) a b (by simpa using ha) (by simpa using hb)
theorem NoAdj.all {i : Int} {f : Int → Int} : ∀ {A : List Int} {p : Int}, NoAdj i f (p :: A) → f p = i + 1 → (∀ q ∈ A, f q = i ∨ f q = i + 1) → ∀ q ∈ A, f q = i + 1
  | [], _, _, _, _, q, hq => by simp at hq
  | a :: A, p, h, hp, hA, q, hq => by
    have ha : f a = i + 1 := by
      rcases hA a (List.mem_cons_self ..) with z | z
      · exact absurd ⟨hp, z⟩ (h 0 p a rfl rfl)
      · exact z
    rcases List.mem_cons.mp hq with z | z
    · rw [z]
      exact ha
    · exact NoAdj.all h.tail ha (fun q hq => hA q (List.mem_cons_of_mem _ hq)) q z
theorem gp_end (i : Int) (f : Int → Int) : ∀ (A L : List Int), (∀ p ∈ A, f p = i ∨ f p = i + 1) → NoAdj i f A →
    gp i f (L, []) A = (L ++ A.filter (fun p => decide (f p = i)), A.filter fun p => decide (f p = i + 1))
  | [], L, _, _ => by simp [gp]
  | p :: A, L, h, hn => by
    have hA : ∀ q ∈ A, f q = i ∨ f q = i + 1 := fun q hq => h q (List.mem_cons_of_mem _ hq)
    rcases h p (List.mem_cons_self ..) with z | z
    · show gp i f (stp i (L, []) p (f p)) A = _
      have e : stp i (L, []) p (f p) = (L ++ [p], []) := by
        unfold stp
        rw [if_neg (by omega), if_pos z]
        simp
      rw [e, gp_end i f A _ hA hn.tail, List.filter_cons, List.filter_cons, if_pos (by simpa using z), if_neg (by simp; omega)]
      simp
    · have hall := NoAdj.all hn z hA
      have e1 := gp_ups i f (p :: A) L [] (fun q hq => by
        rcases List.mem_cons.mp hq with y | y
        · rw [y]
          exact z
        · exact hall q y)
      rw [e1]
      have e2 : (p :: A).filter (fun q => decide (f q = i)) = [] := by
        rw [List.filter_eq_nil_iff]
        intro q hq
        rcases List.mem_cons.mp hq with y | y
        · rw [y]
          simp
          omega
        · have := hall q y
          simp
          omega
      have e3 : (p :: A).filter (fun q => decide (f q = i + 1)) = p :: A := by
        rw [List.filter_eq_self]
        intro q hq
        rcases List.mem_cons.mp hq with y | y
        · rw [y]
          simpa using z
        · simpa using hall q y
      rw [e2, e3]
      simp
/-- the first places that hold i or i + 1 -/
def plc (i : Int) (ls : List Int) (n : Nat) : List Int := ((List.range n).map fun j => ((j : Nat) : Int)).filter fun p => decide (val ls p = i ∨ val ls p = i + 1)
theorem plc_succ (i : Int) (ls : List Int) (n : Nat) : plc i ls (n + 1) = plc i ls n ++ (if val ls (n : Nat) = i ∨ val ls (n : Nat) = i + 1 then [((n : Nat) : Int)] else []) := by
  unfold plc
  rw [List.range_succ, List.map_append, List.filter_append]
  congr 1
  simp only [List.map_cons, List.map_nil, List.filter_cons, List.filter_nil, decide_eq_true_eq]
theorem br_plc (i : Int) (ls : List Int) : br i ls = gp i (val ls) ([], []) (plc i ls ls.length) := by
  unfold plc
  rw [gp_filter]
  have h := go_gp i (val ls) ls ([], []) 0 fun j x hx => by
    unfold val
    have e : (0 + (j : Int)).toNat = j := by omega
    rw [e, hx]
    rfl
  unfold br
  rw [h]
  congr 1
  apply List.map_congr_left
  intro j _
  omega
/-- the word of the loop that takes neighbors out -/
structure Out (i : Int) (ls rest : List Int) (at_ : Nat) : Prop where
  br : gp i (val ls) ([], []) rest = br i ls
  two : ∀ p ∈ rest, val ls p = i ∨ val ls p = i + 1
  bd : ∀ p ∈ rest, 0 ≤ p ∧ p < ls.length
  far : ∀ (j : Nat) a b, j < at_ → rest[j]? = some a → rest[j + 1]? = some b → ¬ (val ls a = i + 1 ∧ val ls b = i)
  len : rest.length ≤ ls.length
theorem Out.start (i : Int) (ls : List Int) : Out i ls (plc i ls ls.length) 0 where
  br := (br_plc i ls).symm
  two := fun p hp => by
    have := (List.mem_filter.mp hp).2
    simpa using this
  bd := fun p hp => by
    obtain ⟨j, hj, rfl⟩ := List.mem_map.mp (List.mem_filter.mp hp).1
    have := List.mem_range.mp hj
    omega
  far := fun j a b h => absurd h (Nat.not_lt_zero j)
  len := by
    unfold plc
    refine Nat.le_trans (List.length_filter_le _ _) ?_
    rw [List.length_map, List.length_range]
    exact Nat.le_refl _
theorem Out.pass {i : Int} {ls rest : List Int} {n : Nat} (o : Out i ls rest n) {a b : Int} (ha : rest[n]? = some a) (hb : rest[n + 1]? = some b) (h : ¬ (val ls a = i + 1 ∧ val ls b = i)) : Out i ls rest (n + 1) :=
  ⟨o.br, o.two, o.bd, fun j x y hj hx hy => by
    rcases Nat.lt_or_ge j n with z | z
    · exact o.far j x y z hx hy
    · have e : j = n := by omega
      subst e
      rw [ha] at hx
      rw [hb] at hy
      cases hx
      cases hy
      exact h, o.len⟩
theorem split_at {rest : List Int} {n : Nat} {a b : Int} (ha : rest[n]? = some a) (hb : rest[n + 1]? = some b) : rest = rest.take n ++ a :: b :: rest.drop (n + 2) := by
  obtain ⟨h1, e1⟩ := List.getElem?_eq_some_iff.mp ha
  obtain ⟨h2, e2⟩ := List.getElem?_eq_some_iff.mp hb
  have := List.take_append_drop n rest
  rw [List.drop_eq_getElem_cons h1, List.drop_eq_getElem_cons h2, e1, e2] at this
  exact this.symm
theorem Out.take {i : Int} {ls rest : List Int} {n : Nat} (o : Out i ls rest n) {a b : Int} (ha : rest[n]? = some a) (hb : rest[n + 1]? = some b) (h1 : val ls a = i + 1) (h2 : val ls b = i) :
    Out i ls (rest.take n ++ rest.drop (n + 2)) (n - 1) := by
  have e := split_at ha hb
  have hlen : (rest.take n ++ rest.drop (n + 2)).length + 2 = rest.length := by
    have := congrArg List.length e
    rw [List.length_append, List.length_cons, List.length_cons] at this
    rw [List.length_append]
    omega
  have sub : ∀ p, p ∈ rest.take n ++ rest.drop (n + 2) → p ∈ rest := fun p hp => by
    rcases List.mem_append.mp hp with z | z
    · exact List.mem_of_mem_take z
    · exact List.mem_of_mem_drop z
  refine ⟨?_, fun p hp => o.two p (sub p hp), fun p hp => o.bd p (sub p hp), fun j x y hj hx hy => ?_, by have := o.len; omega⟩
  · rw [← o.br]
    conv => rhs; rw [e]
    exact (gp_pair i (val ls) _ _ _ h1 h2).symm
  · have hn : n < rest.length := (List.getElem?_eq_some_iff.mp ha).1
    have lt1 : j < (rest.take n).length := by
      rw [List.length_take]
      omega
    have lt2 : j + 1 < (rest.take n).length := by
      rw [List.length_take]
      omega
    rw [List.getElem?_append_left lt1, List.getElem?_take_of_lt (by omega)] at hx
    rw [List.getElem?_append_left lt2, List.getElem?_take_of_lt (by omega)] at hy
    exact o.far j x y (by omega) hx hy
theorem Out.done {i : Int} {ls rest : List Int} {n : Nat} (o : Out i ls rest n) (h : rest.length ≤ n + 1) : lows i ls = rest.filter (fun p => decide (val ls p = i)) ∧ highs i ls = rest.filter (fun p => decide (val ls p = i + 1)) := by
  have hn : NoAdj i (val ls) rest := fun j a b ha hb => by
    have := (List.getElem?_eq_some_iff.mp hb).1
    exact o.far j a b (by omega) ha hb
  have e := gp_end i (val ls) rest [] o.two hn
  rw [o.br] at e
  unfold lows highs
  rw [e]
  exact ⟨List.nil_append _, rfl⟩
end LwM
/-! W. The law's own brackets: neighbors taken out. -/
namespace LwE
open PySem PySem.Spec PyProof.Rows L2
/-- a comprehension over enumerate(list) -/
theorem lc_enL {K : PySem.W.Frag} {a : Addr} {xs : List V} {g : TG} {tt : TT} {te : TE} {vs : List Nat} {σ : L2.St} {H1 : Hp} {D : Addr} {Qd : Hp → Prop} (Pv : Nat → Hp → Prop) (h0 : Pv 0 (upd H1 D (.lst []))) (hl : ∀ i H, i ≤ xs.length → Pv i H → SqL K H a xs)
    (hs : ∀ i x T H, xs[i]? = some x → Pv i H → H T = none → g (.ref T) (wipe σ vs) (upd H T (.tup [.int (i : Nat), x])) fun σ2 H2 => wipe σ2 vs = wipe σ vs ∧ tt σ2 H2 fun b H3 =>
      if b = true then te σ2 H3 fun y H4 => ∃ acc, H4 D = some (.lst acc) ∧ acc.length < sizeLine ∧ Pv (i + 1) (upd H4 D (.lst (acc ++ [y]))) else Pv (i + 1) H3) (hd : ∀ H, Pv xs.length H → Qd H) :
    ∃ W : Nat → Nat → Hp → Prop, (∃ m, W 0 m (upd H1 D (.lst []))) ∧ ∀ i m H, W i m H →
      ((Ite K a).stop i H ∧ Qd H) ∨ ((Ite K a).go i H ∧ ∃ Nx : Hp → Prop, (∀ H', Nx H' → ∃ m', m' < m ∧ W (i + 1) m' H') ∧ ∀ x H', (Ite K a).yld i H x H' → g x (wipe σ vs) H' fun σ2 H2 => wipe σ2 vs = wipe σ vs ∧ tt σ2 H2 fun b H3 =>
        if b = true then te σ2 H3 fun y H4 => ∃ acc, H4 D = some (.lst acc) ∧ acc.length < sizeLine ∧ Nx (upd H4 D (.lst (acc ++ [y]))) else Nx H3) := by
  refine ⟨fun i m H => m = xs.length - i ∧ i ≤ xs.length ∧ Pv i H, ⟨xs.length, by simp, Nat.zero_le _, h0⟩, ?_⟩
  intro i m H hW
  obtain ⟨rfl, hi, p⟩ := hW
  have q := hl i H hi p
  by_cases hlt : i < xs.length
  · refine .inr ⟨⟨xs, xs[i], q, by simp [hlt]⟩, Pv (i + 1), fun H' p' => ⟨xs.length - (i + 1), by omega, rfl, hlt, p'⟩, fun x H' y => ?_⟩
    obtain ⟨T, v, rfl, hT, rfl, y2⟩ := y
    exact hs i v T H (y2 xs q) p hT
  · obtain rfl : i = xs.length := by omega
    exact .inl ⟨⟨xs, q, Nat.le_refl _⟩, hd H p⟩
end LwE
namespace Lw
open PySem L2 LwE LwM
theorem inV2 (z a b : Int) : inV (.int z) [.int a, .int b] = decide (z = a ∨ z = b) := by
  show ((a == z) || ((b == z) || false)) = decide (z = a ∨ z = b)
  rw [Bool.or_false, Bool.eq_iff_iff]
  simp only [Bool.or_eq_true, beq_iff_eq, decide_eq_true_eq]
  omega
theorem val_at {ls : List Int} {j : Nat} {z : Int} (h : ls[j]? = some z) : val ls (j : Nat) = z := by
  unfold val
  rw [Int.toNat_natCast, h]
  rfl
theorem val_get {ls : List Int} {p : Int} (h0 : 0 ≤ p) (h1 : p < ls.length) : atI (nums ls) p = some (.int (val ls p)) := by
  have hl : p.toNat < ls.length := by omega
  have e : ls[p.toNat]? = some ls[p.toNat] := List.getElem?_eq_getElem hl
  refine at_of (j := p.toNat) (by omega) ?_
  rw [List.getElem?_map, e]
  unfold val
  rw [e]
  rfl
theorem filt_snoc {l : List Int} {j : Nat} {x : Int} (h : l[j]? = some x) (p : Int → Bool) : (l.take (j + 1)).filter p = (l.take j).filter p ++ (if p x = true then [x] else []) := by
  rw [List.take_succ, h, List.filter_append]
  congr 1
  show List.filter p [x] = _
  rw [List.filter_cons, List.filter_nil]
/-- how long the list in a place is; the number in a place -/
def lenAt (k : Nat) (σ : List (Option V)) (H : Hp) : Nat := match (σ[k]? : Option (Option V)) with
  | some (some (V.ref q)) => (match H q with
    | some (HO.lst xs) => xs.length
    | _ => 0)
  | _ => 0
def intAt (k : Nat) (σ : List (Option V)) : Nat := match (σ[k]? : Option (Option V)) with
  | some (some (V.int z)) => z.toNat
  | _ => 0
section
variable {P : Program} {w : World} {K : PySem.W.Frag} {mg : Str → Option Value} {base : Heap}
/-- a list of pairs of numbers -/
def PairL (H : Hp) (p : Addr) (n : Nat) : Prop := ∃ ps, H p = some (.lst ps) ∧ ps.length ≤ n ∧ ∀ x ∈ ps, ∃ t i j, x = V.ref t ∧ H t = some (.tup [.int i, .int j])
theorem PairL.same {H H' : Hp} {p : Addr} {n : Nat} (h : PairL H p n) (s : Same H H') : PairL H' p n := by
  obtain ⟨ps, h1, h2, h3⟩ := h
  exact ⟨ps, s _ _ h1, h2, fun x hx => let ⟨t, i, j, e1, e2⟩ := h3 x hx; ⟨t, i, j, e1, s _ _ e2⟩⟩
def spLeft : Sp := fun vs H Q _ => ∃ (a : Addr) (i : Int) (ls : List Int), vs = [.ref a, .int i] ∧ H a = some (.lst (nums ls)) ∧ ls.length ≤ 100 ∧
  ∀ (q r lo hi : Addr) (ps : List V) (H' : Hp), Same H H' → H' q = some (.lst [.ref r, .ref lo, .ref hi]) → H' r = some (.lst ps) → H' lo = some (.lst (nums (lows i ls))) → H' hi = some (.lst (nums (highs i ls))) → Q (.ref q) H'
theorem scLeft : FnScope ["letters", "i", "rest", "pairs", "at", "lows", "place", "letter"] ["letters", "i"] (defScope sLeft) := ⟨rfl, rfl, rfl, by decide +kernel, rfl, by decide +kernel, by decide +kernel⟩
theorem ok_left {f : Addr} {fd : FuncData} (B : Bare mg) (F : Df K mg "_law_left" sLeft f fd) : FnOk P w K mg base CX0 1 f fd ["letters", "i"] spLeft := by
  refine F.fn.ok scLeft (fun vs H Q E h => ?_) (fun cdv A outer s H vs Q E hr h => ?_)
  · obtain ⟨a, i, ls, rfl, _⟩ := h
    rfl
  · obtain ⟨a, i, ls, rfl, ha, hlen, k⟩ := h
    refine ⟨_, pss_cons (ps_setLc (i := 2) (own := [("place", 6), ("letter", 7)]) (g := gTup K 2 (gCons (gName 6) (gCons (gName 7) gNil)))
        (tt := tTest (tOp (rIn K false) (tVar 7) (tTup (tCons (tVar 1) (tCons (tOp (rI0 fun i j => .int (i + j)) (tVar 1) (tC (.int 1))) tNil))))) rfl scLeft.nd rfl rfl (sw_true rfl rfl rfl (by decide +kernel)) (pi_enum (by rfl) B.enumerate (pa_cons (pv 0) pa_nil))
        (blkOk_by (N := ["letters", "i", "rest", "pairs", "at", "lows", "place", "letter"]) (sc := defScope sLeft) (by decide +kernel))
        (fun _ _ _ _ _ => pg_tup rfl (pgs_cons (pg_name (i := 6) scLeft.nd rfl (Or.inl rfl)) (pgs_cons (pg_name (i := 7) scLeft.nd rfl (Or.inl rfl)) pgs_nil)))
        (fun _ _ _ _ _ => pts_one (pt_cmpR op_in_seq (pv 7) (pe_tup (pa_cons (pv 1) (pa_cons (pe_op op_add (pv 1) pe_int) pa_nil))) (by rfl))) (fun _ _ _ _ _ => pv 6))
      (pss_cons (ps_par (i := 3) (j := 4) (by rfl) scLeft.nd rfl rfl (by decide) rfl rfl (pa_cons (pe_lst pa_nil) (pa_cons pe_int pa_nil)) (by rfl))
      (pss_cons (ps_while PassesOwn.never (pt_cmpR op_lt (pe_op op_add (pv 4) pe_int) (pe_callB call_len_seq (by rfl) B.len PySem.boot_len (pa_cons (pv 2) pa_nil)) (nomark _))
        (pss_one (ps_if (PW.pt (pw_and (pt_cmpR op_eq (pe_ix ix_list (pv 0) (pe_ix ix_list (pv 2) (pv 4) (fun _ _ => rfl)) (fun _ _ => rfl)) (pe_op op_add (pv 1) pe_int) (nomark _))
            (pw_and1 (pt_cmpR op_eq (pe_ix ix_list (pv 0) (pe_ix ix_list (pv 2) (pe_op op_add (pv 4) pe_int) (fun _ _ => rfl)) (fun _ _ => rfl)) (pv 1) (nomark _)))))
          (pss_cons (ps_expr (pe_bm PySem.F.plainAttrs_list PySem.F.slot_list_append PySem.F.type_list_append mt_append (pv 3) (pa_cons (pe_tup (pa_cons (pe_ix ix_list (pv 2) (pv 4) (fun _ _ => rfl)) (pa_cons (pe_ix ix_list (pv 2) (pe_op op_add (pv 4) pe_int) (fun _ _ => rfl)) pa_nil))) pa_nil)))
          (pss_cons (ps_set (i := 2) scLeft.nd rfl (Or.inl rfl) (pe_op op_cat (pe_slice sl_list (pv 2) po_none (po_some (pv 4))) (pe_slice sl_list (pv 2) (po_some (pe_op op_add (pv 4) pe_int)) po_none)))
          (pss_one (ps_set (i := 4) scLeft.nd rfl (Or.inl rfl) (pe_callB (call_max2 rfl) (by rfl) B.max (by decide +kernel) (pa_cons pe_int (pa_cons (pe_op op_sub (pv 4) pe_int) pa_nil)))))))
          (pss_one (ps_set (i := 4) scLeft.nd rfl (Or.inl rfl) (pe_op op_add (pv 4) pe_int))))))
      (pss_cons (ps_setLc (i := 5) (own := [("place", 6)]) (g := gName 6) (tt := tTest (tOp rEq (tOp (rIxL K) (tVar 0) (tVar 6)) (tVar 1))) rfl scLeft.nd rfl rfl (sw_true rfl rfl rfl (by decide +kernel)) (pi_list (pv 2))
        (blkOk_by (N := ["letters", "i", "rest", "pairs", "at", "lows", "place", "letter"]) (sc := defScope sLeft) (by decide +kernel))
        (fun _ _ _ _ _ => pg_name (i := 6) scLeft.nd rfl (Or.inl rfl)) (fun _ _ _ _ _ => pts_one (pt_cmpR op_eq (pe_ix ix_list (pv 0) (pv 6) (fun _ _ => rfl)) (pv 1) (nomark _))) (fun _ _ _ _ _ => pv 6))
      (pss_one (ps_ret (pe_lst (pa_cons (pe_callB cr_sortedP (by rfl) B.sorted (by decide +kernel) (pa_cons (pv 3) pa_nil)) (pa_cons (pv 5) (pa_cons
        (pe_lc (own := [("place", 6)]) (g := gName 6) (tt := tTest (tOp rEq (tOp (rIxL K) (tVar 0) (tVar 6)) (tOp (rI0 fun i j => .int (i + j)) (tVar 1) (tC (.int 1))))) rfl scLeft.nd (pi_list (pv 2)) (blkOk_by (N := ["letters", "i", "rest", "pairs", "at", "lows", "place", "letter"]) (sc := defScope sLeft) (by decide +kernel))
          (fun _ _ _ _ _ => pg_name (i := 6) scLeft.nd rfl (Or.inl rfl)) (fun _ _ _ _ _ => pts_one (pt_cmpR op_eq (pe_ix ix_list (pv 0) (pv 6) (fun _ _ => rfl)) (pe_op op_add (pv 1) pe_int) (nomark _))) (fun _ _ _ _ _ => pv 6)) pa_nil)))))))))
      , ?_⟩
    refine ⟨_, rfl, a, _, rfl, SqL.of ha, fun D hD => ?_⟩
    have s0 : Same H (upd H D (.lst [])) := same_new hD
    refine lc_enL (K := K) (a := a) (xs := nums ls) (fun j H' => Same H H' ∧ H' D = some (.lst (nums (plc i ls j)))) ⟨s0, by rw [upd_same]; rfl⟩ (fun j H' _ ⟨s1, _⟩ => SqL.of (s1 _ _ ha)) ?_ ?_
    · rintro j x T H' hx ⟨s1, e1⟩ hT
      obtain ⟨z, rfl, hz, _⟩ := nums_get hx
      have hj : j < ls.length := (List.getElem?_eq_some_iff.mp hz).1
      have s2 : Same H' (upd H' T (.tup [.int (j : Nat), .int z])) := same_new hT
      have eT : (upd H' T (.tup [.int (j : Nat), .int z])) T = some (.tup [.int (j : Nat), .int z]) := upd_same
      generalize upd H' T (.tup [.int (j : Nat), .int z]) = H2 at s2 eT ⊢
      have e2 := s2 _ _ e1
      refine ⟨T, _, rfl, SqT.of eT, rfl, _, _, rfl, _, _, rfl, rfl, rfl, ?_⟩
      refine ⟨_, rfl, _, rfl, _, rfl, _, _, rfl, rfl, (by show 2 ≤ sizeLine; decide), fun T2 hT2 => ?_⟩
      refine ⟨T2, _, rfl, .inr (SqT.of upd_same), rfl, rfl, _, rfl, ?_⟩
      have e3 := same_new (o := .tup [.int i, .int (i + 1)]) hT2 _ _ e2
      have s3 : Same H (upd H2 T2 (.tup [.int i, .int (i + 1)])) := (s1.trans s2).trans (same_new hT2)
      generalize upd H2 T2 (.tup [.int i, .int (i + 1)]) = H3 at s3 e3 ⊢
      rw [if_neg Bool.false_ne_true, inV2]
      have ep := plc_succ i ls j
      rw [val_at hz] at ep
      refine ite2 (fun hc => ?_) (fun hc => ?_)
      · rw [if_pos (of_decide_eq_true hc)] at ep
        refine ⟨_, rfl, _, e3, ?_, ?_, ?_⟩
        · rw [List.length_map]
          refine small1000 ?_
          have := List.length_filter_le (fun p => decide (val ls p = i ∨ val ls p = i + 1)) ((List.range j).map fun j => ((j : Nat) : Int))
          rw [List.length_map, List.length_range] at this
          show (plc i ls j).length ≤ 1000
          unfold plc
          omega
        · exact fun b o e => by
            rw [upd_ne (ne_of_none e hD)]
            exact s3 _ _ e
        · rw [upd_same, ep]
          simp [nums]
      · rw [if_neg (fun z => hc (decide_eq_true z)), List.append_nil] at ep
        exact ⟨s3, by rw [ep]; exact e3⟩
    · rintro H1 ⟨s1, e1⟩
      rw [List.length_map] at e1
      refine ⟨Nat.zero_le _, fun pr hpr => ⟨_, _, rfl, ?_⟩⟩
      have s2 : Same H (upd H1 pr (.lst [])) := s1.trans (same_new hpr)
      have fp : H pr = none := s1.free hpr
      refine while_by (fun σ H' => ∃ (rp : Addr) (rest : List Int) (n : Nat), σ = [some (.ref a), some (.int i), some (.ref rp), some (.ref pr), some (.int (n : Nat)), none, none, none] ∧ Same H H' ∧ H rp = none ∧ rp ≠ pr ∧ H' rp = some (.lst (nums rest)) ∧
          PairL H' pr (ls.length - rest.length) ∧ Out i ls rest n ∧ n ≤ ls.length)
        (fun σ H' => 2 * lenAt 2 σ H' + 2 * ls.length - intAt 4 σ) ⟨D, plc i ls ls.length, 0, rfl, s2, hD, ?_, ?_, ?_, Out.start i ls, Nat.zero_le _⟩ ?_ ?_
      · exact ne_of_none e1 hpr
      · rw [upd_ne (ne_of_none e1 hpr)]
        exact e1
      · exact ⟨[], upd_same, Nat.zero_le _, fun x hx => by simp at hx⟩
      · rintro σ H' ⟨rp, rest, n, rfl, s3, frp, npr, e3, PL, O, hn⟩
        have mu : ∀ (rp' : Addr) (rest' : List Int) (n' : Nat) (H'' : Hp), H'' rp' = some (.lst (nums rest')) →
            2 * lenAt 2 [some (.ref a), some (.int i), some (.ref rp'), some (.ref pr), some (.int (n' : Nat)), none, none, none] H'' + 2 * ls.length - intAt 4 [some (.ref a), some (.int i), some (.ref rp'), some (.ref pr), some (.int (n' : Nat)), none, none, none] = 2 * rest'.length + 2 * ls.length - n' := fun rp' rest' n' H'' e => by
          unfold lenAt intAt
          simp only [List.getElem?_cons_succ, List.getElem?_cons_zero, e, List.length_map, Int.toNat_natCast]
        have hrl := O.len
        refine ⟨_, rfl, _, _, rfl, rfl, _, rfl, rp, _, rfl, .inl (SqL.of e3), _, _, rfl, rfl, _, rfl, ?_⟩
        rw [List.length_map]
        refine ite2 (fun hc => ?_) (fun hc => ?_)
        · have hlt : n + 1 < rest.length := by
            have := of_decide_eq_true hc
            omega
          rw [mu rp rest n H' e3]
          have hx0 : rest[n]? = some rest[n] := List.getElem?_eq_getElem (by omega)
          have hx1 : rest[n + 1]? = some rest[n + 1] := List.getElem?_eq_getElem hlt
          generalize rest[n] = x0 at hx0
          generalize rest[n + 1] = x1 at hx1
          have nx0 : (nums rest)[n]? = some (.int x0) := by
            rw [List.getElem?_map, hx0]
            rfl
          have nx1 : (nums rest)[n + 1]? = some (.int x1) := by
            rw [List.getElem?_map, hx1]
            rfl
          have b0 := O.bd x0 (List.mem_of_getElem? hx0)
          have b1 := O.bd x1 (List.mem_of_getElem? hx1)
          have ea := s3 _ _ ha
          have els : ¬ (val ls x0 = i + 1 ∧ val ls x1 = i) → (∃ (rp_1 : Addr) (rest_1 : List Int) (n_1 : Nat), [some (V.ref a), some (.int i), some (.ref rp), some (.ref pr), some (.int ((n : Nat) + 1)), none, none, none] =
              [some (V.ref a), some (.int i), some (.ref rp_1), some (.ref pr), some (.int (n_1 : Nat)), none, none, none] ∧ Same H H' ∧ H rp_1 = none ∧ rp_1 ≠ pr ∧ H' rp_1 = some (.lst (nums rest_1)) ∧ PairL H' pr (ls.length - rest_1.length) ∧ Out i ls rest_1 n_1 ∧ n_1 ≤ ls.length) ∧
              2 * lenAt 2 [some (.ref a), some (.int i), some (.ref rp), some (.ref pr), some (.int ((n : Nat) + 1)), none, none, none] H' + 2 * ls.length - intAt 4 [some (.ref a), some (.int i), some (.ref rp), some (.ref pr), some (.int ((n : Nat) + 1)), none, none, none] < 2 * rest.length + 2 * ls.length - n := fun z => by
            have ec : ((n : Nat) : Int) + 1 = ((n + 1 : Nat) : Int) := by omega
            rw [ec]
            refine ⟨⟨rp, rest, n + 1, rfl, s3, frp, npr, e3, PL, O.pass hx0 hx1 z, by omega⟩, ?_⟩
            rw [mu rp rest (n + 1) H' e3]
            omega
          refine ⟨_, rfl, _, rfl, _, rfl, rp, _, _, _, rfl, rfl, SqL.of e3, at_of (j := n) rfl nx0, a, _, _, _, rfl, rfl, SqL.of ea, val_get b0.1 b0.2, _, rfl, _, _, rfl, rfl, rfl, _, rfl, ite2 (fun h1 => ?_) (fun h1 => iteF ?_)⟩
          · have v0 : val ls x0 = i + 1 := by simpa using h1
            have e1n : ((n : Nat) : Int) + 1 = ((n + 1 : Nat) : Int) := by omega
            refine ⟨_, rfl, _, rfl, _, rfl, _, _, rfl, rfl, rp, _, _, _, rfl, rfl, SqL.of e3, at_of e1n nx1, a, _, _, _, rfl, rfl, SqL.of ea, val_get b1.1 b1.2, _, rfl, rfl, _, rfl, ite2 (fun h2 => ?_) (fun h2 => ?_)⟩
            · have v1 : val ls x1 = i := by simpa using h2
              obtain ⟨ps, p1, p2, p3⟩ := PL
              refine ⟨_, rfl, .inl ⟨rfl, _, SqL.of p1⟩, _, rfl, _, rfl, rp, _, _, _, rfl, rfl, SqL.of e3, at_of (j := n) rfl nx0, _, rfl, _, rfl, _, _, rfl, rfl, rp, _, _, _, rfl, rfl, SqL.of e3, at_of e1n nx1, (by show 2 ≤ sizeLine; decide), fun T hT => ?_⟩
              have nTp : T ≠ pr := (ne_of_none p1 hT).symm
              refine ⟨pr, ps, _, rfl, rfl, by rw [upd_ne nTp.symm]; exact p1, small1000 (by omega), ?_⟩
              have s4 : Same H (upd (upd H' T (.tup [.int x0, .int x1])) pr (.lst (ps ++ [.ref T]))) := fun b o e => by
                rw [upd_ne (ne_of_none e fp), upd_ne (ne_of_none (s3 _ _ e) hT)]
                exact s3 _ _ e
              have e4 : (upd (upd H' T (.tup [.int x0, .int x1])) pr (.lst (ps ++ [.ref T]))) rp = some (.lst (nums rest)) := by
                rw [upd_ne npr, upd_ne (ne_of_none e3 hT)]
                exact e3
              have PL4 : PairL (upd (upd H' T (.tup [.int x0, .int x1])) pr (.lst (ps ++ [.ref T]))) pr (ls.length - (rest.take n ++ rest.drop (n + 2)).length) := by
                refine ⟨_, upd_same, ?_, fun x hx => ?_⟩
                · rw [List.length_append, List.length_singleton, List.length_append, List.length_take, List.length_drop]
                  omega
                · rcases List.mem_append.mp hx with q | q
                  · obtain ⟨t, c, d, f1, f2⟩ := p3 x q
                    refine ⟨t, c, d, f1, ?_⟩
                    rw [upd_ne (ne_of f2 p1 (by intro z; cases z)), upd_ne (ne_of_none f2 hT)]
                    exact f2
                  · exact ⟨T, x0, x1, List.mem_singleton.mp q, by rw [upd_ne nTp, upd_same]⟩
              generalize upd (upd H' T (.tup [.int x0, .int x1])) pr (.lst (ps ++ [.ref T])) = H4 at s4 e4 PL4 ⊢
              refine ⟨_, rfl, _, rfl, _, rfl, rp, _, rfl, SqL.of e4, fun q1 hq1 => ?_⟩
              rw [cut_take rest (show (0 : Int) ≤ (n : Nat) by omega), Int.toNat_natCast]
              have s5 : Same H4 (upd H4 q1 (.lst (nums (rest.take n)))) := same_new hq1
              have e5 : (upd H4 q1 (.lst (nums (rest.take n)))) q1 = some (.lst (nums (rest.take n))) := upd_same
              generalize upd H4 q1 (.lst (nums (rest.take n))) = H5 at s5 e5 ⊢
              refine ⟨_, rfl, _, rfl, _, _, rfl, rfl, _, rfl, rp, _, rfl, SqL.of (s5 _ _ e4), fun q2 hq2 => ?_⟩
              rw [cut_drop rest (show (0 : Int) ≤ (n : Nat) + 2 by omega), show (((n : Nat) : Int) + 2).toNat = n + 2 by omega]
              have s6 : Same H4 (upd H5 q2 (.lst (nums (rest.drop (n + 2))))) := s5.trans (same_new hq2)
              refine ⟨q1, q2, _, _, rfl, rfl, same_new hq2 _ _ e5, upd_same, ?_, fun q3 hq3 => ?_⟩
              · rw [List.length_map, List.length_map, List.length_take, List.length_drop, sizeLine_eq]
                omega
              rw [show nums (rest.take n) ++ nums (rest.drop (n + 2)) = nums (rest.take n ++ rest.drop (n + 2)) by simp [nums]]
              have s7 : Same H4 (upd (upd H5 q2 (.lst (nums (rest.drop (n + 2))))) q3 (.lst (nums (rest.take n ++ rest.drop (n + 2))))) := s6.trans (same_new hq3)
              have e7 : (upd (upd H5 q2 (.lst (nums (rest.drop (n + 2))))) q3 (.lst (nums (rest.take n ++ rest.drop (n + 2))))) q3 = some (.lst (nums (rest.take n ++ rest.drop (n + 2)))) := upd_same
              have f7 : H4 q3 = none := s6.free hq3
              generalize upd (upd H5 q2 (.lst (nums (rest.drop (n + 2))))) q3 (.lst (nums (rest.take n ++ rest.drop (n + 2)))) = H7 at s7 e7 ⊢
              refine ⟨_, rfl, _, _, rfl, rfl, _, _, rfl, ?_⟩
              have em : (if ((n : Nat) : Int) - 1 > 0 then ((n : Nat) : Int) - 1 else 0) = ((n - 1 : Nat) : Int) := by
                split <;> omega
              rw [em]
              have nq3 : q3 ≠ pr := fun z => by
                obtain ⟨ps4, h4, _⟩ := PL4
                rw [z, h4] at f7
                cases f7
              refine ⟨⟨q3, rest.take n ++ rest.drop (n + 2), n - 1, rfl, s4.trans s7, s4.free f7, nq3, e7, PL4.same s7, O.take hx0 hx1 v0 v1, by omega⟩, ?_⟩
              refine Nat.lt_of_le_of_lt (Nat.le_of_eq (mu q3 (rest.take n ++ rest.drop (n + 2)) (n - 1) H7 e7)) ?_
              rw [List.length_append, List.length_take, List.length_drop]
              omega
            · have v1 : ¬ val ls x1 = i := by simpa using h2
              exact ⟨_, rfl, _, _, rfl, rfl, els fun z => v1 z.2⟩
          · have v0 : ¬ val ls x0 = i + 1 := by simpa using h1
            exact ⟨_, rfl, _, _, rfl, rfl, els fun z => v0 z.1⟩
        · have hle : rest.length ≤ n + 1 := by
            have : ¬ (((n : Nat) : Int) + 1 < (rest.length : Nat)) := fun z => hc (decide_eq_true z)
            omega
          obtain ⟨dl, dh⟩ := O.done hle
          refine ⟨_, rfl, rp, rfl, ⟨_, SqL.of e3⟩, fun D2 hD2 => lc_list (K := K) (a := rp) (xs := nums rest) (fun j H2 => Same H' H2 ∧ H2 D2 = some (.lst (nums ((rest.take j).filter fun p => decide (val ls p = i))))) ⟨same_new hD2, upd_same⟩
            (fun j H2 _ ⟨s4, _⟩ => SqL.of (s4 _ _ e3)) ?_ ?_⟩
          · rintro j x H2 hx ⟨s4, e4⟩
            obtain ⟨z, rfl, hz, hzm⟩ := nums_get hx
            have hj : j < rest.length := (List.getElem?_eq_some_iff.mp hz).1
            have bz := O.bd z hzm
            refine ⟨rfl, _, rfl, _, rfl, a, _, _, _, rfl, rfl, SqL.of (s4 _ _ (s3 _ _ ha)), val_get bz.1 bz.2, _, rfl, rfl, _, rfl, ?_⟩
            have ef := filt_snoc hz fun p => decide (val ls p = i)
            refine ite2 (fun hv => ?_) (fun hv => ?_)
            · have v : val ls z = i := by simpa using hv
              rw [if_pos (by simpa using v)] at ef
              refine ⟨_, rfl, _, e4, ?_, fun b o e => ?_, ?_⟩
              · rw [List.length_map]
                have := List.length_filter_le (fun p => decide (val ls p = i)) (rest.take j)
                rw [List.length_take] at this
                exact small1000 (by omega)
              · rw [upd_ne (ne_of_none e hD2)]
                exact s4 _ _ e
              · rw [upd_same, ef]
                simp [nums]
            · have v : ¬ val ls z = i := by simpa using hv
              rw [if_neg (by simpa using v), List.append_nil] at ef
              exact ⟨s4, by rw [ef]; exact e4⟩
          · rintro H2 ⟨s4, e4⟩
            rw [List.length_map, List.take_length, ← dl] at e4
            obtain ⟨ps, p1, p2, p3⟩ := PL.same s4
            refine ⟨_, rfl, pr, ps, rfl, SqL.of p1, p3, fun ys q1 _ hq1 => ?_⟩
            have s5 : Same H2 (upd H2 q1 (.lst ys)) := same_new hq1
            have e5 : (upd H2 q1 (.lst ys)) q1 = some (.lst ys) := upd_same
            generalize upd H2 q1 (.lst ys) = H3 at s5 e5 ⊢
            have s45 : Same H' H3 := s4.trans s5
            refine ⟨_, rfl, _, rfl, rp, rfl, ⟨_, SqL.of (s45 _ _ e3)⟩, fun D3 hD3 => lc_list (K := K) (a := rp) (xs := nums rest) (fun j H6 => Same H3 H6 ∧ H6 D3 = some (.lst (nums ((rest.take j).filter fun p => decide (val ls p = i + 1))))) ⟨same_new hD3, upd_same⟩
              (fun j H6 _ ⟨s6, _⟩ => SqL.of (s6 _ _ (s45 _ _ e3))) ?_ ?_⟩
            · rintro j x H6 hx ⟨s6, e6⟩
              obtain ⟨z, rfl, hz, hzm⟩ := nums_get hx
              have hj : j < rest.length := (List.getElem?_eq_some_iff.mp hz).1
              have bz := O.bd z hzm
              refine ⟨rfl, _, rfl, _, rfl, a, _, _, _, rfl, rfl, SqL.of (s6 _ _ (s45 _ _ (s3 _ _ ha))), val_get bz.1 bz.2, _, rfl, _, _, rfl, rfl, rfl, _, rfl, ?_⟩
              have ef := filt_snoc hz fun p => decide (val ls p = i + 1)
              refine ite2 (fun hv => ?_) (fun hv => ?_)
              · have v : val ls z = i + 1 := by simpa using hv
                rw [if_pos (by simpa using v)] at ef
                refine ⟨_, rfl, _, e6, ?_, fun b o e => ?_, ?_⟩
                · rw [List.length_map]
                  have := List.length_filter_le (fun p => decide (val ls p = i + 1)) (rest.take j)
                  rw [List.length_take] at this
                  exact small1000 (by omega)
                · rw [upd_ne (ne_of_none e hD3)]
                  exact s6 _ _ e
                · rw [upd_same, ef]
                  simp [nums]
              · have v : ¬ val ls z = i + 1 := by simpa using hv
                rw [if_neg (by simpa using v), List.append_nil] at ef
                exact ⟨s6, by rw [ef]; exact e6⟩
            · rintro H6 ⟨s6, e6⟩
              rw [List.length_map, List.take_length, ← dh] at e6
              refine ⟨(by show 3 ≤ sizeLine; decide), fun q hq => ?_⟩
              have s7 := same_new (o := .lst [.ref q1, .ref D2, .ref D3]) hq
              exact k q q1 D2 D3 ys _ ((s3.trans s45).trans (s6.trans s7)) upd_same (s7 _ _ (s6 _ _ e5)) (s7 _ _ (s6 _ _ (s5 _ _ e4))) (s7 _ _ e6)
      · intro σ H' Q1 Q2 hq h
        obtain ⟨v, e1, i1, j1, e2, e3, v2, e4, p, ys, e5, e6, i2, j2, e7, e8, b, e9, h⟩ := h
        exact ⟨v, e1, i1, j1, e2, e3, v2, e4, p, ys, e5, e6, i2, j2, e7, e8, b, e9, hq _ _ h⟩
end
end Lw
/-! X. Tops and bottoms by counts; a deed done. -/
namespace LwM
theorem one_up (i x : Int) : up i [x] = if x = i then 1 else 0 := by
  unfold up lows br go go stp
  by_cases h : x = i
  · rw [if_neg (by omega), if_pos h, if_pos h]
    rfl
  · by_cases h2 : x = i + 1
    · rw [if_pos h2, if_neg h]
      rfl
    · rw [if_neg h2, if_neg h, if_neg h]
      rfl
theorem one_dn (i x : Int) : dn i [x] = if x = i + 1 then 1 else 0 := by
  unfold dn highs br go go stp
  by_cases h2 : x = i + 1
  · rw [if_pos h2, if_pos h2]
    rfl
  · rw [if_neg h2, if_neg h2]
    by_cases h : x = i
    · rw [if_pos h]
      rfl
    · rw [if_neg h]
      rfl
/-- what is left over is what is more -/
theorem more (i : Int) : ∀ l : List Int, (up i l : Int) - dn i l = (l.count i : Int) - l.count (i + 1)
  | [] => by simp [up, dn, lows, highs, br, go]
  | x :: l => by
    have ih := more i l
    have e1 := up_app i [x] l
    have e2 := dn_app i [x] l
    rw [one_up, one_dn] at *
    show (up i ([x] ++ l) : Int) - dn i ([x] ++ l) = _
    rw [e1, e2, List.count_cons, List.count_cons]
    by_cases h : x = i
    · subst h
      have hn : ¬ x = x + 1 := by omega
      simp only [if_pos rfl, if_neg hn, beq_self_eq_true, if_true]
      rw [if_neg (by simpa using hn)]
      omega
    · by_cases h2 : x = i + 1
      · subst h2
        simp only [if_neg h, if_pos rfl, beq_self_eq_true, if_true]
        rw [if_neg (by simpa using h)]
        omega
      · simp only [if_neg h, if_neg h2]
        rw [if_neg (by simpa using h), if_neg (by simpa using h2)]
        omega
/-- nothing can go down: each end has enough -/
theorem dn_ends (i : Int) : ∀ l : List Int, dn i l = 0 ↔ ∀ k, k < l.length → (l.drop k).count (i + 1) ≤ (l.drop k).count i
  | [] => by simp [dn, highs, br, go]
  | x :: l => by
    have ih := dn_ends i l
    have e2 := dn_app i [x] l
    have m := more i (x :: l)
    rw [one_dn] at e2
    have e3 : dn i (x :: l) = (if x = i + 1 then 1 else 0) - up i l + dn i l := e2
    constructor
    · intro h k hk
      cases k with
      | zero =>
        rw [List.drop_zero]
        omega
      | succ k =>
        rw [List.drop_succ_cons]
        exact ih.mp (by omega) k (by rw [List.length_cons] at hk; omega)
    · intro h
      have h0 : dn i l = 0 := ih.mpr fun k hk => by
        have := h (k + 1) (by rw [List.length_cons]; omega)
        rwa [List.drop_succ_cons] at this
      have h1 := h 0 (by rw [List.length_cons]; omega)
      rw [List.drop_zero] at h1
      have e1 := up_app i [x] l
      have e4 : up i (x :: l) = up i [x] + (up i l - dn i [x]) := e1
      rw [one_up, one_dn] at e4
      split at e3 <;> split at e4 <;> omega
/-- nothing can go up: each beginning has enough -/
theorem up_starts (i : Int) (l : List Int) : up i l = 0 ↔ ∀ k, k ≤ l.length → (l.take k).count i ≤ (l.take k).count (i + 1) := by
  constructor
  · intro h k hk
    have e := up_app i (l.take k) (l.drop k)
    rw [List.take_append_drop] at e
    have m := more i (l.take k)
    omega
  · suffices key : ∀ n, n ≤ l.length → (∀ k, k ≤ n → (l.take k).count i ≤ (l.take k).count (i + 1)) → up i (l.take n) = 0 by
      intro h
      have := key l.length (Nat.le_refl _) h
      rwa [List.take_length] at this
    intro n
    induction n with
    | zero =>
      intro _ _
      rfl
    | succ n ih =>
      intro hn h
      have h0 := ih (by omega) fun k hk => h k (by omega)
      have hx : l[n]? = some l[n] := List.getElem?_eq_getElem (by omega)
      have e : l.take (n + 1) = l.take n ++ [l[n]] := by
        rw [List.take_succ, hx]
        rfl
      have m := more i (l.take (n + 1))
      have c := h (n + 1) (Nat.le_refl _)
      have e1 := up_app i (l.take n) [l[n]]
      have e2 := dn_app i (l.take n) [l[n]]
      rw [← e, one_up] at e1
      rw [← e, one_up, one_dn] at e2
      generalize l[n] = x at e1 e2
      by_cases c1 : x = i
      · rw [if_pos c1] at e1 e2
        rw [if_neg (by omega)] at e2
        omega
      · rw [if_neg c1] at e1 e2
        omega
/-- which letter changes -/
theorem low_val {i : Int} {l : List Int} {p : Int} (h : p ∈ lows i l) : val l p = i := by
  have key : ∀ (A : List Int) (s : List Int × List Int), (∀ q ∈ s.1, val l q = i) → (∀ q ∈ s.2, val l q = i + 1) → (∀ q ∈ (gp i (val l) s A).1, val l q = i) ∧ ∀ q ∈ (gp i (val l) s A).2, val l q = i + 1 := by
    intro A
    induction A with
    | nil => intro s h1 h2; exact ⟨h1, h2⟩
    | cons a A ih =>
      intro s h1 h2
      refine ih (stp i s a (val l a)) ?_ ?_
      · intro q hq
        unfold stp at hq
        split at hq
        · exact h1 q hq
        · split at hq
          · split at hq
            · rcases List.mem_append.mp hq with z | z
              · exact h1 q z
              · rw [List.mem_singleton.mp z]
                assumption
            · exact h1 q hq
          · exact h1 q hq
      · intro q hq
        unfold stp at hq
        split at hq
        · rcases List.mem_append.mp hq with z | z
          · exact h2 q z
          · rw [List.mem_singleton.mp z]
            assumption
        · split at hq
          · split at hq
            · exact h2 q hq
            · exact h2 q ((List.dropLast_sublist _).subset hq)
          · exact h2 q hq
  have k := key (plc i l l.length) ([], []) (fun q hq => by simp at hq) fun q hq => by simp at hq
  rw [← br_plc] at k
  exact k.1 p h
theorem high_val {i : Int} {l : List Int} {p : Int} (h : p ∈ highs i l) : val l p = i + 1 := by
  have key : ∀ (A : List Int) (s : List Int × List Int), (∀ q ∈ s.2, val l q = i + 1) → ∀ q ∈ (gp i (val l) s A).2, val l q = i + 1 := by
    intro A
    induction A with
    | nil => intro s h2; exact h2
    | cons a A ih =>
      intro s h2
      refine ih (stp i s a (val l a)) ?_
      intro q hq
      unfold stp at hq
      split at hq
      · rcases List.mem_append.mp hq with z | z
        · exact h2 q z
        · rw [List.mem_singleton.mp z]
          assumption
      · split at hq
        · split at hq
          · exact h2 q hq
          · exact h2 q ((List.dropLast_sublist _).subset hq)
        · exact h2 q hq
  have k := key (plc i l l.length) ([], []) fun q hq => by simp at hq
  rw [← br_plc] at k
  exact k p h
theorem val_some {l : List Int} {p : Int} (h0 : 0 ≤ p) (h1 : p < l.length) : l[p.toNat]? = some (val l p) := by
  have e : l[p.toNat]? = some l[p.toNat] := List.getElem?_eq_getElem (by omega)
  unfold val
  rw [e]
  rfl
theorem up_sum {i : Int} {l : List Int} (h : lows i l ≠ []) : (upL i l).sum = l.sum + 1 := by
  have hm := lst_mem h
  have b := br_bd (i := i) (l := l) (.inl hm)
  have e := val_some b.1 b.2
  rw [low_val hm] at e
  unfold upL
  rw [L2.sum_set e]
  omega
theorem dn_sum {i : Int} {l : List Int} (h : highs i l ≠ []) : (dnL i l).sum = l.sum - 1 := by
  have hm := fst_mem h
  have b := br_bd (i := i) (l := l) (.inr hm)
  have e := val_some b.1 b.2
  rw [high_val hm] at e
  unfold dnL
  rw [L2.sum_set e]
  omega
/-- what the law's deed makes of letters -/
def doneL (d : Int) (l : List Int) : Option (List Int) := if 0 < d then (if lows d l = [] then none else some (upL d l)) else (if highs (-d) l = [] then none else some (dnL (-d) l))
theorem sum_bd {l : List Int} {n : Int} (h : ∀ x ∈ l, 1 ≤ x ∧ x ≤ n) : (l.length : Int) ≤ l.sum ∧ l.sum ≤ n * l.length := by
  induction l with
  | nil => simp
  | cons a l ih =>
    have h1 := ih fun x hx => h x (List.mem_cons_of_mem _ hx)
    have h2 := h a (List.mem_cons_self ..)
    rw [List.sum_cons, List.length_cons]
    have e : n * ((l.length + 1 : Nat) : Int) = n * (l.length : Int) + n := by
      rw [Int.natCast_add, Int.mul_add]
      simp
    rw [e]
    omega
end LwM
/-! Eq. Two lists of numbers alike. -/
namespace Lw
open PySem L2 LwE LwM
theorem eqv_empty (l : List Int) : PyData.eqv (.list (l.map PyData.int)) (.list []) = decide (l = []) := by
  have := eqv_nums l []
  exact this
end Lw
/-! U. A deed done by the law; deeds until none is left. -/
namespace LwM
theorem upL_len (i : Int) (l : List Int) : (upL i l).length = l.length := List.length_set ..
theorem dnL_len (i : Int) (l : List Int) : (dnL i l).length = l.length := List.length_set ..
theorem doneL_len {d : Int} {l r : List Int} (h : doneL d l = some r) : r.length = l.length := by
  unfold doneL at h
  split at h
  · split at h
    · cases h
    · cases h
      exact upL_len _ _
  · split at h
    · cases h
    · cases h
      exact dnL_len _ _
theorem set_bd {l : List Int} {n : Int} (h : ∀ x ∈ l, 1 ≤ x ∧ x ≤ n) (p : Nat) {z : Int} (z0 : 1 ≤ z) (z1 : z ≤ n) : ∀ x ∈ l.set p z, 1 ≤ x ∧ x ≤ n := fun y hy => by
  rcases List.mem_or_eq_of_mem_set hy with q | q
  · exact h y q
  · rw [q]
    exact ⟨z0, z1⟩
theorem doneL_bd {d n : Int} {l r : List Int} (hl : ∀ x ∈ l, 1 ≤ x ∧ x ≤ n) (h0 : d ≠ 0) (h1 : -(n - 1) ≤ d) (h2 : d ≤ n - 1) (h : doneL d l = some r) : ∀ x ∈ r, 1 ≤ x ∧ x ≤ n := by
  unfold doneL at h
  split at h
  · split at h
    · cases h
    · cases h
      exact set_bd hl _ (by omega) (by omega)
  · split at h
    · cases h
    · cases h
      exact set_bd hl _ (by omega) (by omega)
theorem doneL_sum {d : Int} {l r : List Int} (h : doneL d l = some r) : r.sum = l.sum + (if 0 < d then 1 else -1) := by
  unfold doneL at h
  by_cases hd : 0 < d
  · rw [if_pos hd] at h ⊢
    split at h
    · cases h
    · rename_i z
      cases h
      exact up_sum z
  · rw [if_neg hd] at h ⊢
    split at h
    · cases h
    · rename_i z
      cases h
      have := dn_sum z
      omega
end LwM
namespace Lw
open PySem L2 LwE LwM
section
variable {P : Program} {w : World} {K : PySem.W.Frag} {mg : Str → Option Value} {base : Heap} {C : Addr}
def spDone : Sp := fun vs H Q _ => ∃ (a : Addr) (d : Int) (ls : List Int), vs = [.ref a, .int d] ∧ H a = some (.lst (nums ls)) ∧ ls.length ≤ 100 ∧ d ≠ 0 ∧
  (doneL d ls = none → ∀ H', Same H H' → Q .non H') ∧ ∀ r, doneL d ls = some r → ∀ q H', Same H H' → H q = none → H' q = some (.lst (nums r)) → Q (.ref q) H'
theorem scDone : FnScope ["letters", "deed", "i", "pairs", "lows", "highs"] ["letters", "deed"] (defScope sDone) := ⟨rfl, rfl, rfl, by decide +kernel, rfl, by decide +kernel, by decide +kernel⟩
theorem ok_done {f f1 : Addr} {fd fd1 : FuncData} (F : Df K mg "_law_done" sDone f fd) (F1 : Df K mg "_law_left" sLeft f1 fd1) (b1 : Binds K fd1 ["letters", "i"] []) (G1 : FnOk P w K mg base CX0 1 f1 fd1 ["letters", "i"] spLeft) :
    FnOk P w K mg base CX0 2 f fd ["letters", "deed"] spDone := by
  refine F.fn.ok scDone (fun vs H Q E h => ?_) (fun cdv A outer s H vs Q E hr h => ?_)
  · obtain ⟨a, d, ls, rfl, _⟩ := h
    rfl
  · obtain ⟨a, d, ls, rfl, ha, hlen, hd, kn, ks⟩ := h
    refine ⟨_, pss_cons (ps_set (i := 2) scDone.nd rfl (Or.inl rfl) (pe_ifExp (pt_cmpR op_gt (pv 1) pe_int (nomark _)) (pv 1) (pe_op op_sub pe_int (pv 1))))
      (pss_cons (ps_asg (pe_call G1 hr (by rfl) F1.g F1.fn.kp b1 .nil pass0 (pa_cons (pv 0) (pa_cons (pv 2) pa_nil)))
        (pg_unl rfl (pgs_cons (pg_name (i := 3) scDone.nd rfl (Or.inl rfl)) (pgs_cons (pg_name (i := 4) scDone.nd rfl (Or.inl rfl)) (pgs_cons (pg_name (i := 5) scDone.nd rfl (Or.inl rfl)) pgs_nil)))))
      (pss_cons (ps_if (PW.pt (pw_and (pt_cmpR op_gt (pv 1) pe_int (nomark _)) (pw_and1 (pt_cmpR (op_neD hr.units) (pv 4) (pe_lst pa_nil) (nomark _)))))
        (pss_one (ps_ret (pe_op op_cat (pe_op op_cat (pe_slice sl_list (pv 0) po_none (po_some (pe_ix ix_list (pv 4) (pe_un un_neg pe_int) (fun _ _ => rfl)))) (pe_lst (pa_cons (pe_op op_add (pv 2) pe_int) pa_nil)))
          (pe_slice sl_list (pv 0) (po_some (pe_op op_add (pe_ix ix_list (pv 4) (pe_un un_neg pe_int) (fun _ _ => rfl)) pe_int)) po_none)))) pss_nil)
      (pss_cons (ps_if (PW.pt (pw_and (pt_cmpR op_lt (pv 1) pe_int (nomark _)) (pw_and1 (pt_cmpR (op_neD hr.units) (pv 5) (pe_lst pa_nil) (nomark _)))))
        (pss_one (ps_ret (pe_op op_cat (pe_op op_cat (pe_slice sl_list (pv 0) po_none (po_some (pe_ix ix_list (pv 5) pe_int (fun _ _ => rfl)))) (pe_lst (pa_cons (pv 2) pa_nil)))
          (pe_slice sl_list (pv 0) (po_some (pe_op op_add (pe_ix ix_list (pv 5) pe_int (fun _ _ => rfl)) pe_int)) po_none)))) pss_nil)
      (pss_one (ps_ret pe_non))))), ?_⟩
    have out : ∀ (H1 : Hp) (p x : Int) (r : List Int), Same H H1 → 0 ≤ p → p < ls.length → r = ls.set p.toNat x → doneL d ls = some r → ∀ q1, H1 q1 = none → ∀ q2, (upd H1 q1 (.lst (nums (ls.take p.toNat)))) q2 = none →
        ∀ q3, (upd (upd H1 q1 (.lst (nums (ls.take p.toNat)))) q2 (.lst [.int x])) q3 = none → ∀ q4, (upd (upd (upd H1 q1 (.lst (nums (ls.take p.toNat)))) q2 (.lst [.int x])) q3 (.lst (nums (ls.take p.toNat) ++ [.int x]))) q4 = none →
        ∀ q5, (upd (upd (upd (upd H1 q1 (.lst (nums (ls.take p.toNat)))) q2 (.lst [.int x])) q3 (.lst (nums (ls.take p.toNat) ++ [.int x]))) q4 (.lst (nums (ls.drop (p + 1).toNat)))) q5 = none →
        Q (.ref q5) (upd (upd (upd (upd (upd H1 q1 (.lst (nums (ls.take p.toNat)))) q2 (.lst [.int x])) q3 (.lst (nums (ls.take p.toNat) ++ [.int x]))) q4 (.lst (nums (ls.drop (p + 1).toNat)))) q5 (.lst (nums (ls.take p.toNat) ++ [.int x] ++ nums (ls.drop (p + 1).toNat)))) := by
      intro H1 p x r s1 p0 p1 er ed q1 n1 q2 n2 q3 n3 q4 n4 q5 n5
      have s2 := (((s1.trans (same_new n1)).trans (same_new n2)).trans (same_new n3)).trans (same_new (o := .lst (nums (ls.drop (p + 1).toNat))) n4)
      refine ks r ed q5 _ (s2.trans (same_new n5)) (s2.free n5) ?_
      rw [upd_same, er]
      have e3 : (p + 1).toNat = p.toNat + 1 := by omega
      rw [e3, ← set_cut ls p.toNat x (by omega)]
      simp [nums]
    have szs : ∀ (p : Int), (nums (ls.take p.toNat)).length ≤ 100 ∧ (nums (ls.drop (p + 1).toNat)).length ≤ 100 := fun p => by
      rw [List.length_map, List.length_map, List.length_take, List.length_drop]
      omega
    refine ⟨_, rfl, _, _, rfl, rfl, _, rfl, ?_⟩
    by_cases hpos : 0 < d
    · rw [decide_eq_true hpos]
      refine iteT ⟨_, rfl, ?_⟩
      refine ⟨_, rfl, _, rfl, a, d, ls, rfl, ha, hlen, fun q r lo hi ps H1 s1 e1 e2 e3 e4 => ?_⟩
      refine ⟨q, _, rfl, SqL.of e1, rfl, _, _, rfl, _, _, rfl, _, _, rfl, rfl, ?_⟩
      refine ⟨_, rfl, _, _, rfl, rfl, _, rfl, ?_⟩
      rw [decide_eq_true hpos]
      refine iteT ⟨_, rfl, Nat.zero_le _, fun z hz => ?_⟩
      have s2 : Same H1 (upd H1 z (.lst [])) := same_new hz
      have ez : (upd H1 z (.lst [])) z = some (.lst []) := upd_same
      generalize upd H1 z (.lst []) = H2 at s2 ez ⊢
      have s12 := s1.trans s2
      refine ⟨.list ((lows d ls).map PyData.int), .list [], .lst (SqL.of (s2 _ _ e3)) (dp_nums _), .lst (SqL.of ez) .nil, shaped_nums _, by decide, _, rfl, ?_⟩
      rw [eqv_empty]
      by_cases hz0 : lows d ls = []
      · rw [decide_eq_true hz0]
        have ed : doneL d ls = none := by
          unfold doneL
          rw [if_pos hpos, if_pos hz0]
        refine iteF ⟨_, rfl, _, _, rfl, rfl, _, rfl, ?_⟩
        rw [decide_eq_false (by omega)]
        exact iteF (iteF (kn ed H2 s12))
      · rw [decide_eq_false hz0]
        have ed : doneL d ls = some (upL d ls) := by
          unfold doneL
          rw [if_pos hpos, if_neg hz0]
        have b := br_bd (i := d) (l := ls) (.inl (lst_mem hz0))
        have el := at_lst hz0
        have sz := szs (lst (lows d ls))
        refine iteT ⟨_, rfl, _, rfl, 1, rfl, lo, _, _, _, rfl, rfl, SqL.of (s2 _ _ e3), el, _, rfl, a, _, rfl, SqL.of (s12 _ _ ha), fun q1 n1 => ?_⟩
        rw [cut_take ls b.1]
        refine ⟨_, rfl, _, _, rfl, rfl, (by show 1 ≤ sizeLine; decide), fun q2 n2 => ?_⟩
        refine ⟨q1, q2, _, _, rfl, rfl, same_new n2 _ _ upd_same, upd_same, by rw [sizeLine_eq]; simp; omega, fun q3 n3 => ?_⟩
        have s3 := (same_new (o := .lst (nums (ls.take (lst (lows d ls)).toNat))) n1).trans ((same_new (o := .lst [.int (d + 1)]) n2).trans (same_new (o := .lst (nums (ls.take (lst (lows d ls)).toNat) ++ [.int (d + 1)])) n3))
        refine ⟨_, rfl, _, rfl, 1, rfl, lo, _, _, _, rfl, rfl, SqL.of (s3 _ _ (s2 _ _ e3)), el, _, _, rfl, rfl, _, rfl, a, _, rfl, SqL.of (s3 _ _ (s12 _ _ ha)), fun q4 n4 => ?_⟩
        rw [cut_drop ls (by omega)] at *
        refine ⟨q3, q4, _, _, rfl, rfl, same_new n4 _ _ upd_same, upd_same, by rw [sizeLine_eq]; simp; omega, fun q5 n5 => ?_⟩
        exact out H2 _ (d + 1) _ s12 b.1 b.2 rfl ed q1 n1 q2 n2 q3 n3 q4 n4 q5 n5
    · rw [decide_eq_false hpos]
      refine iteF ⟨_, rfl, _, _, rfl, rfl, ?_⟩
      refine ⟨_, rfl, _, rfl, a, 0 - d, ls, rfl, ha, hlen, fun q r lo hi ps H1 s1 e1 e2 e3 e4 => ?_⟩
      refine ⟨q, _, rfl, SqL.of e1, rfl, _, _, rfl, _, _, rfl, _, _, rfl, rfl, ?_⟩
      refine ⟨_, rfl, _, _, rfl, rfl, _, rfl, ?_⟩
      rw [decide_eq_false hpos]
      refine iteF (iteF ⟨_, rfl, _, _, rfl, rfl, _, rfl, ?_⟩)
      rw [decide_eq_true (show d < 0 by omega)]
      refine iteT ⟨_, rfl, Nat.zero_le _, fun z hz => ?_⟩
      have s2 : Same H1 (upd H1 z (.lst [])) := same_new hz
      have ez : (upd H1 z (.lst [])) z = some (.lst []) := upd_same
      generalize upd H1 z (.lst []) = H2 at s2 ez ⊢
      have s12 := s1.trans s2
      have em : 0 - d = -d := by omega
      rw [em] at e3 e4
      refine ⟨.list ((highs (-d) ls).map PyData.int), .list [], .lst (SqL.of (s2 _ _ e4)) (dp_nums _), .lst (SqL.of ez) .nil, shaped_nums _, by decide, _, rfl, ?_⟩
      rw [eqv_empty]
      by_cases hz0 : highs (-d) ls = []
      · rw [decide_eq_true hz0]
        have ed : doneL d ls = none := by
          unfold doneL
          rw [if_neg hpos, if_pos hz0]
        exact iteF (kn ed H2 s12)
      · rw [decide_eq_false hz0]
        have ed : doneL d ls = some (dnL (-d) ls) := by
          unfold doneL
          rw [if_neg hpos, if_neg hz0]
        have b := br_bd (i := -d) (l := ls) (.inr (fst_mem hz0))
        have el := at_fst hz0
        have sz := szs (fst (highs (-d) ls))
        refine iteT ⟨_, rfl, _, rfl, hi, _, _, _, rfl, rfl, SqL.of (s2 _ _ e4), el, _, rfl, a, _, rfl, SqL.of (s12 _ _ ha), fun q1 n1 => ?_⟩
        rw [cut_take ls b.1]
        refine ⟨_, rfl, (by show 1 ≤ sizeLine; decide), fun q2 n2 => ?_⟩
        refine ⟨q1, q2, _, _, rfl, rfl, same_new n2 _ _ upd_same, upd_same, by rw [sizeLine_eq]; simp; omega, fun q3 n3 => ?_⟩
        have s3 := (same_new (o := .lst (nums (ls.take (fst (highs (-d) ls)).toNat))) n1).trans ((same_new (o := .lst [.int (0 - d)]) n2).trans (same_new (o := .lst (nums (ls.take (fst (highs (-d) ls)).toNat) ++ [.int (0 - d)])) n3))
        refine ⟨_, rfl, _, rfl, hi, _, _, _, rfl, rfl, SqL.of (s3 _ _ (s2 _ _ e4)), el, _, _, rfl, rfl, _, rfl, a, _, rfl, SqL.of (s3 _ _ (s12 _ _ ha)), fun q4 n4 => ?_⟩
        rw [cut_drop ls (by omega)] at *
        refine ⟨q3, q4, _, _, rfl, rfl, same_new n4 _ _ upd_same, upd_same, by rw [sizeLine_eq]; simp; omega, fun q5 n5 => ?_⟩
        exact out H2 _ (0 - d) _ s12 b.1 b.2 (by rw [em]; rfl) ed q1 n1 q2 n2 q3 n3 q4 n4 q5 n5
end
end Lw
/-! Far. Deeds at indexes that are not neighbors; a string of one index. -/
namespace LwM
/-- a letter that is no bracket of j stays none -/
theorem go_set (j : Int) : ∀ (l : List Int) (p : Nat) (x y : Int) (s : List Int × List Int) (k : Int), l[p]? = some x → x ≠ j → x ≠ j + 1 → y ≠ j → y ≠ j + 1 → go j s k (l.set p y) = go j s k l
  | [], p, x, y, s, k, h, _, _, _, _ => by simp at h
  | a :: l, 0, x, y, s, k, h, h1, h2, h3, h4 => by
    have e : a = x := by simpa using h
    subst e
    show go j (stp j s k y) (k + 1) l = go j (stp j s k a) (k + 1) l
    unfold stp
    rw [if_neg h4, if_neg h3, if_neg h2, if_neg h1]
  | a :: l, p + 1, x, y, s, k, h, h1, h2, h3, h4 => by
    show go j (stp j s k a) (k + 1) (l.set p y) = go j (stp j s k a) (k + 1) l
    exact go_set j l p x y _ _ (by simpa using h) h1 h2 h3 h4
theorem br_set {j x y : Int} {l : List Int} {p : Nat} (h : l[p]? = some x) (h1 : x ≠ j) (h2 : x ≠ j + 1) (h3 : y ≠ j) (h4 : y ≠ j + 1) : br j (l.set p y) = br j l := go_set j l p x y _ _ h h1 h2 h3 h4
/-- the index of a deed -/
def ix (d : Int) : Int := if 0 < d then d else -d
/-- where a deed does something, and what it lays there -/
def plD (d : Int) (l : List Int) : Nat := if 0 < d then (lst (lows d l)).toNat else (fst (highs (-d) l)).toNat
def lyD (d : Int) : Int := if 0 < d then d + 1 else -d
theorem doneL_set {d : Int} {l r : List Int} (h : doneL d l = some r) : r = l.set (plD d l) (lyD d) ∧ ∃ x, l[plD d l]? = some x ∧ (x = ix d ∨ x = ix d + 1) := by
  unfold doneL at h
  unfold plD lyD ix
  by_cases c : 0 < d
  · rw [if_pos c] at h ⊢
    rw [if_pos c, if_pos c]
    split at h
    · cases h
    · rename_i z
      cases h
      have hm := lst_mem z
      have b := br_bd (i := d) (l := l) (.inl hm)
      exact ⟨rfl, _, val_some b.1 b.2, .inl (low_val hm)⟩
  · rw [if_neg c] at h ⊢
    rw [if_neg c, if_neg c]
    split at h
    · cases h
    · rename_i z
      cases h
      have hm := fst_mem z
      have b := br_bd (i := -d) (l := l) (.inr hm)
      exact ⟨rfl, _, val_some b.1 b.2, .inr (high_val hm)⟩
theorem lyD_or (d : Int) : lyD d = ix d ∨ lyD d = ix d + 1 := by
  unfold lyD ix
  split
  · exact .inr rfl
  · exact .inl rfl
/-- two deeds whose indexes are not neighbors -/
def FarD (d e : Int) : Prop := ix d + 1 < ix e ∨ ix e + 1 < ix d
theorem FarD.symm {d e : Int} (h : FarD d e) : FarD e d := h.elim .inr .inl
/-- the brackets of a far index stay -/
theorem far_br {d j : Int} {l r : List Int} (h : doneL d l = some r) (hj : ix d + 1 < j ∨ j + 1 < ix d) : br j r = br j l := by
  obtain ⟨e, x, hx, c⟩ := doneL_set h
  have c2 := lyD_or d
  rw [e]
  exact br_set hx (by omega) (by omega) (by omega) (by omega)
theorem far_done_eq {d e : Int} {l r : List Int} (h : doneL d l = some r) (f : FarD d e) : plD e r = plD e l ∧ (doneL e r = none ↔ doneL e l = none) := by
  have hb : br (ix e) r = br (ix e) l := far_br h (by unfold FarD at f; omega)
  unfold ix at hb
  unfold plD doneL lows highs
  by_cases c : 0 < e
  · simp only [c, if_true] at hb ⊢
    rw [hb]
    refine ⟨rfl, ?_⟩
    by_cases z : (br e l).1 = []
    · simp [z]
    · simp [z]
  · simp only [c, if_false] at hb ⊢
    rw [hb]
    refine ⟨rfl, ?_⟩
    by_cases z : (br (-e) l).2 = []
    · simp [z]
    · simp [z]
/-- far deeds can be done in any order -/
theorem far_comm {d e : Int} {l a b : List Int} (f : FarD d e) (h1 : doneL d l = some a) (h2 : doneL e l = some b) : ∃ z, doneL e a = some z ∧ doneL d b = some z := by
  obtain ⟨e1, x, hx, c1⟩ := doneL_set h1
  obtain ⟨e2, y, hy, c2⟩ := doneL_set h2
  obtain ⟨p1, n1⟩ := far_done_eq h1 f
  obtain ⟨p2, n2⟩ := far_done_eq h2 f.symm
  have ne : plD d l ≠ plD e l := by
    intro z
    rw [z, hy] at hx
    have : y = x := Option.some.inj hx
    unfold FarD at f
    omega
  cases q1 : doneL e a with
  | none =>
    rw [n1.mp q1] at h2
    cases h2
  | some z1 =>
    cases q2 : doneL d b with
    | none =>
      rw [n2.mp q2] at h1
      cases h1
    | some z2 =>
      have g1 := (doneL_set q1).1
      have g2 := (doneL_set q2).1
      rw [p1, e1] at g1
      rw [p2, e2] at g2
      refine ⟨z1, rfl, ?_⟩
      rw [g1, g2, List.set_comm _ _ ne]
/-- rows of deeds -/
def runL : List Int → List Int → Option (List Int)
  | [], l => some l
  | d :: ds, l => match doneL d l with
    | none => none
    | some r => runL ds r
theorem runL_cons {d : Int} {ds l r : List Int} (h : doneL d l = some r) : runL (d :: ds) l = runL ds r := by
  show (match doneL d l with | none => none | some r => runL ds r) = _
  rw [h]
theorem runL_split {d : Int} {ds l r : List Int} (h : runL (d :: ds) l = some r) : ∃ a, doneL d l = some a ∧ runL ds a = some r := by
  unfold runL at h
  cases e : doneL d l with
  | none =>
    rw [e] at h
    cases h
  | some a =>
    rw [e] at h
    exact ⟨a, rfl, h⟩
theorem runL_app : ∀ (a b l : List Int), runL (a ++ b) l = (runL a l).bind (runL b)
  | [], b, l => rfl
  | d :: a, b, l => by
    show (match doneL d l with | none => none | some r => runL (a ++ b) r) = (match doneL d l with | none => none | some r => runL a r).bind (runL b)
    cases doneL d l with
    | none => rfl
    | some r => exact runL_app a b r
/-- one deed ahead of a far row, or behind it -/
theorem far_row {d : Int} : ∀ {row l a b : List Int}, (∀ e ∈ row, FarD d e) → doneL d l = some a → runL row l = some b → ∃ z, runL row a = some z ∧ doneL d b = some z
  | [], l, a, b, _, h1, h2 => by
    cases h2
    exact ⟨a, rfl, h1⟩
  | e :: row, l, a, b, f, h1, h2 => by
    obtain ⟨c, g1, g2⟩ := runL_split h2
    obtain ⟨z, y1, y2⟩ := far_comm (f e (List.mem_cons_self ..)) h1 g1
    obtain ⟨u, v1, v2⟩ := far_row (fun x hx => f x (List.mem_cons_of_mem _ hx)) y2 g2
    exact ⟨u, by rw [runL_cons y1]; exact v1, v2⟩
/-- two rows put together, each in its order -/
inductive Ming : List Int → List Int → List Int → Prop
  | nil : Ming [] [] []
  | left {d : Int} {a b r : List Int} : Ming a b r → Ming (d :: a) b (d :: r)
  | right {e : Int} {a b r : List Int} : Ming a b r → Ming a (e :: b) (e :: r)
theorem Ming.ones : ∀ a : List Int, Ming a [] a
  | [] => .nil
  | _ :: a => .left (ones a)
theorem Ming.others : ∀ b : List Int, Ming [] b b
  | [] => .nil
  | _ :: b => .right (others b)
theorem Ming.app : ∀ a b : List Int, Ming a b (a ++ b)
  | [], b => others b
  | _ :: a, b => .left (app a b)
theorem Ming.flip {a b r : List Int} (h : Ming a b r) : Ming b a r := by
  induction h with
  | nil => exact .nil
  | left _ ih => exact .right ih
  | right _ ih => exact .left ih
theorem ming_run {a b r : List Int} (h : Ming a b r) : ∀ {l x y : List Int}, (∀ d ∈ a, ∀ e ∈ b, FarD d e) → runL a l = some x → runL b l = some y → runL r l = runL b x ∧ ∃ z, runL b x = some z := by
  induction h with
  | nil =>
    intro l x y _ h1 h2
    cases h1
    exact ⟨rfl, l, rfl⟩
  | @left d a b r _ ih =>
    intro l x y f h1 h2
    obtain ⟨l1, g1, g2⟩ := runL_split h1
    obtain ⟨z, y1, _⟩ := far_row (f d (List.mem_cons_self ..)) g1 h2
    have q := ih (fun d' hd e he => f d' (List.mem_cons_of_mem _ hd) e he) g2 y1
    rw [runL_cons g1]
    exact q
  | @right e a b r _ ih =>
    intro l x y f h1 h2
    obtain ⟨l2, g1, g2⟩ := runL_split h2
    obtain ⟨z, y1, y2⟩ := far_row (fun d hd => (f d hd e (List.mem_cons_self ..)).symm) g1 h1
    have q := ih (fun d hd e' he => f d hd e' (List.mem_cons_of_mem _ he)) y1 g2
    rw [runL_cons g1, runL_cons y2]
    exact q
/-- all rows put together of two far rows lead to the same -/
theorem ming_same {a b r l x y : List Int} (f : ∀ d ∈ a, ∀ e ∈ b, FarD d e) (h1 : runL a l = some x) (h2 : runL b l = some y) : ∃ z, ∀ r, Ming a b r → runL r l = some z := by
  obtain ⟨_, z, hz⟩ := ming_run (Ming.app a b) f h1 h2
  exact ⟨z, fun r h => by rw [(ming_run h f h1 h2).1, hz]⟩
end LwM
/-! Str. Along a string of one index. -/
namespace LwM
theorem set_mid (A B : List Int) (x y : Int) : (A ++ x :: B).set A.length y = A ++ y :: B := by
  rw [List.set_append_right _ _ (Nat.le_refl _), Nat.sub_self]
  rfl
theorem up_cons (i x : Int) (l : List Int) : up i (x :: l) = up i [x] + (up i l - dn i [x]) := up_app i [x] l
theorem dn_cons (i x : Int) (l : List Int) : dn i (x :: l) = (dn i [x] - up i l) + dn i l := dn_app i [x] l
/-- the last i that is left over: nothing waits ahead of it, and no i behind it is left over -/
theorem low_last {i : Int} {l : List Int} (h : lows i l ≠ []) : ∃ A B, l = A ++ i :: B ∧ (lst (lows i l)).toNat = A.length ∧ dn i A = 0 ∧ up i B = 0 := by
  have hm := lst_mem h
  have b := br_bd (i := i) (l := l) (.inl hm)
  have v := low_val hm
  have e := val_some b.1 b.2
  rw [v] at e
  have hp : (lst (lows i l)).toNat < l.length := by omega
  refine ⟨l.take (lst (lows i l)).toNat, l.drop ((lst (lows i l)).toNat + 1), ?_, ?_, ?_⟩
  · have e2 : l[(lst (lows i l)).toNat] = i := by
      rw [List.getElem?_eq_getElem hp] at e
      exact Option.some.inj e
    have e3 := List.take_append_drop (lst (lows i l)).toNat l
    rw [List.drop_eq_getElem_cons hp, e2] at e3
    exact e3.symm
  · rw [List.length_take]
    omega
  · generalize hq : (lst (lows i l)).toNat = p at *
    have hpi : lst (lows i l) = (p : Int) := by omega
    have el : l = (l.take p ++ [i]) ++ l.drop (p + 1) := by
      have e2 : l[p] = i := by
        rw [List.getElem?_eq_getElem hp] at e
        exact Option.some.inj e
      have e3 := List.take_append_drop p l
      rw [List.drop_eq_getElem_cons hp, e2] at e3
      rw [List.append_assoc]
      exact e3.symm
    have hl : (l.take p ++ [i]).length = p + 1 := by
      rw [List.length_append, List.length_take, List.length_singleton]
      omega
    have lA : (l.take p).length = p := by
      rw [List.length_take]
      omega
    have ll := lows_app i (l.take p ++ [i]) (l.drop (p + 1))
    rw [← el] at ll
    -- nothing of the rest is left over
    have hB : ((lows i (l.drop (p + 1))).map (· + ((l.take p ++ [i]).length : Int))).drop (highs i (l.take p ++ [i])).length = [] := by
      apply Classical.byContradiction
      intro z
      have q := lst_app (lows i (l.take p ++ [i])) _ z
      rw [← ll, hpi] at q
      have m := lst_mem z
      rw [← q] at m
      obtain ⟨u, hu, eu⟩ := List.mem_map.mp (List.mem_of_mem_drop m)
      have := br_bd (i := i) (.inl hu)
      omega
    rw [hB, List.append_nil] at ll
    have hm2 : (p : Int) ∈ lows i (l.take p ++ [i]) := by
      rw [← ll, ← hpi]
      exact hm
    have sn := br_snoc i (l.take p) i
    unfold stp at sn
    rw [if_neg (by omega), if_pos rfl] at sn
    have hz : highs i (l.take p) = [] := by
      apply Classical.byContradiction
      intro z
      rw [if_neg (show ¬ (br i (l.take p)).2 = [] from z)] at sn
      have m3 : (p : Int) ∈ lows i (l.take p) := by
        have : lows i (l.take p ++ [i]) = lows i (l.take p) := by
          unfold lows
          rw [sn]
        rwa [this] at hm2
      have := br_bd (i := i) (.inl m3)
      omega
    have hd : dn i (l.take p) = 0 := by
      unfold dn
      rw [hz]
      rfl
    refine ⟨hd, ?_⟩
    have d1 := dn_app i (l.take p) [i]
    rw [hd, one_dn, one_up, if_pos rfl, if_neg (by omega)] at d1
    have hl2 := congrArg List.length hB
    rw [List.length_drop, List.length_map] at hl2
    have d2 : (highs i (l.take p ++ [i])).length = 0 := d1
    rw [d2] at hl2
    unfold up
    simpa using hl2
/-- one up along the string -/
theorem up_upL {i : Int} {l : List Int} (h : lows i l ≠ []) : up i (upL i l) + 1 = up i l ∧ dn i (upL i l) = dn i l + 1 := by
  obtain ⟨A, B, e, e2, dA, uB⟩ := low_last h
  have eL : upL i l = A ++ (i + 1) :: B := by
    unfold upL
    rw [e2]
    conv => lhs; rw [e]
    exact set_mid A B i (i + 1)
  rw [eL]
  have w1 : up i [i] = 1 := by rw [one_up, if_pos rfl]
  have w2 : dn i [i] = 0 := by rw [one_dn, if_neg (by omega)]
  have w3 : up i [i + 1] = 0 := by rw [one_up, if_neg (by omega)]
  have w4 : dn i [i + 1] = 1 := by rw [one_dn, if_pos rfl]
  have u1 := up_app i A (i :: B)
  have d1 := dn_app i A (i :: B)
  have u2 := up_app i A ((i + 1) :: B)
  have d2 := dn_app i A ((i + 1) :: B)
  have a1 := up_cons i i B
  have a2 := dn_cons i i B
  have a3 := up_cons i (i + 1) B
  have a4 := dn_cons i (i + 1) B
  rw [← e] at u1 d1
  omega
/-- and down the string -/
theorem up_nil_iff {i : Int} {l : List Int} : lows i l = [] ↔ up i l = 0 := by
  unfold up
  exact List.length_eq_zero_iff.symm
theorem far_up {i j : Int} {l : List Int} (h : lows i l ≠ []) (i0 : 0 < i) (f : i + 1 < j ∨ j + 1 < i) : up j (upL i l) = up j l ∧ dn j (upL i l) = dn j l := by
  have q : doneL i l = some (upL i l) := by
    unfold doneL
    rw [if_pos i0, if_neg h]
  have b := far_br (j := j) q (by unfold ix; rw [if_pos i0]; exact f)
  unfold up dn lows highs
  rw [b]
  exact ⟨rfl, rfl⟩
end LwM
/-! WkM. What is left over, behind one deed. -/
namespace LwM
theorem one_i (i : Int) : lows i [i] = [0] ∧ highs i [i] = [] := by
  have h : ¬ (i = i + 1) := by omega
  unfold lows highs br go go stp
  simp [h]
theorem one_i1 (i : Int) : lows i [i + 1] = [] ∧ highs i [i + 1] = [0] := by
  unfold lows highs br go go stp
  simp
theorem nil_of_up {i : Int} {B : List Int} (h : up i B = 0) : lows i B = [] := List.length_eq_zero_iff.mp h
theorem nil_of_dn {i : Int} {B : List Int} (h : dn i B = 0) : highs i B = [] := List.length_eq_zero_iff.mp h
theorem br_low {i : Int} {A B : List Int} (dA : dn i A = 0) (uB : up i B = 0) :
    lows i (A ++ i :: B) = lows i A ++ [(A.length : Int)] ∧ highs i (A ++ i :: B) = ((highs i B).map (· + 1)).map (· + (A.length : Int)) := by
  have a1 := lows_app i [i] B
  have a2 := highs_app i [i] B
  have o := one_i i
  rw [o.1, o.2, nil_of_up uB] at a1
  rw [o.2, nil_of_up uB] at a2
  have e : [i] ++ B = i :: B := rfl
  rw [e] at a1 a2
  have l1 := lows_app i A (i :: B)
  have l2 := highs_app i A (i :: B)
  rw [a1, nil_of_dn dA] at l1
  rw [a1, a2, nil_of_dn dA] at l2
  constructor
  · rw [l1]
    simp
  · rw [l2]
    simp
theorem br_high {i : Int} {A B : List Int} (dA : dn i A = 0) (uB : up i B = 0) :
    lows i (A ++ (i + 1) :: B) = lows i A ∧ highs i (A ++ (i + 1) :: B) = (A.length : Int) :: ((highs i B).map (· + 1)).map (· + (A.length : Int)) := by
  have a1 := lows_app i [i + 1] B
  have a2 := highs_app i [i + 1] B
  have o := one_i1 i
  rw [o.1, o.2, nil_of_up uB] at a1
  rw [o.2, nil_of_up uB] at a2
  have e : [i + 1] ++ B = (i + 1) :: B := rfl
  rw [e] at a1 a2
  have l1 := lows_app i A ((i + 1) :: B)
  have l2 := highs_app i A ((i + 1) :: B)
  rw [a1, nil_of_dn dA] at l1
  rw [a1, a2, nil_of_dn dA] at l2
  constructor
  · rw [l1]
    simp
  · rw [l2]
    simp
/-- the first i + 1 that is left over -/
theorem high_first {i : Int} {l : List Int} (h : highs i l ≠ []) : ∃ A B, l = A ++ (i + 1) :: B ∧ (fst (highs i l)).toNat = A.length ∧ dn i A = 0 ∧ up i B = 0 := by
  have hm := fst_mem h
  have b := br_bd (i := i) (l := l) (.inr hm)
  have v := high_val hm
  have e := val_some b.1 b.2
  rw [v] at e
  have hp : (fst (highs i l)).toNat < l.length := by omega
  have e2 : l[(fst (highs i l)).toNat] = i + 1 := by
    rw [List.getElem?_eq_getElem hp] at e
    exact Option.some.inj e
  have e3 := List.take_append_drop (fst (highs i l)).toNat l
  rw [List.drop_eq_getElem_cons hp, e2] at e3
  have eA : (l.take (fst (highs i l)).toNat).length = (fst (highs i l)).toNat := by
    rw [List.length_take]
    omega
  have eF : ((fst (highs i l)).toNat : Int) = fst (highs i l) := Int.toNat_of_nonneg b.1
  generalize hA : l.take (fst (highs i l)).toNat = A at *
  generalize hB : l.drop ((fst (highs i l)).toNat + 1) = B at *
  have hh := highs_app i A ((i + 1) :: B)
  rw [e3] at hh
  have o := one_i1 i
  have a2 := highs_app i [i + 1] B
  rw [o.2] at a2
  have e4 : [i + 1] ++ B = (i + 1) :: B := rfl
  rw [e4] at a2
  have hT : (highs i A).take ((highs i A).length - (lows i ((i + 1) :: B)).length) = [] := by
    apply Classical.byContradiction
    intro z
    cases q : (highs i A).take ((highs i A).length - (lows i ((i + 1) :: B)).length) with
    | nil => exact z q
    | cons a T =>
      rw [q] at hh
      have ha : a ∈ highs i A := List.mem_of_mem_take (by rw [q]; exact List.mem_cons_self ..)
      have hb := br_bd (i := i) (.inr ha)
      have : fst (highs i l) = a := by
        rw [hh]
        rfl
      omega
  rw [hT, List.nil_append] at hh
  have hu : up i B = 0 := by
    apply Classical.byContradiction
    intro z
    have z2 : ([0] : List Int).length - (lows i B).length = 0 := by
      unfold up at z
      simp
      omega
    rw [z2, List.take_zero, List.nil_append] at a2
    have hm2 := hm
    rw [hh] at hm2
    obtain ⟨u, hu, eu⟩ := List.mem_map.mp hm2
    rw [a2] at hu
    obtain ⟨t, ht, et⟩ := List.mem_map.mp hu
    have hb := br_bd (i := i) (.inr ht)
    have e5 : fst ((highs i ((i + 1) :: B)).map (· + (A.length : Int))) = fst (highs i l) := by rw [hh]
    have e6 : t + 1 = u := et
    have e7 : u + (A.length : Int) = fst ((highs i ((i + 1) :: B)).map (· + (A.length : Int))) := eu
    have e8 : fst (highs i l) = (A.length : Int) := by omega
    rw [e5, e8] at e7
    omega
  refine ⟨A, B, e3.symm, by omega, ?_, hu⟩
  have u2 := up_cons i (i + 1) B
  have w3 : up i [i + 1] = 0 := by rw [one_up, if_neg (by omega)]
  have w4 : dn i [i + 1] = 1 := by rw [one_dn, if_pos rfl]
  rw [hu, w3, w4] at u2
  have l2 := congrArg List.length hT
  have u3 : (lows i ((i + 1) :: B)).length = 0 := u2
  rw [u3, Nat.sub_zero, List.take_length] at l2
  exact l2
theorem up_br {i : Int} {l : List Int} (h : lows i l ≠ []) : lows i (upL i l) ++ [lst (lows i l)] = lows i l ∧ highs i (upL i l) = lst (lows i l) :: highs i l := by
  obtain ⟨A, B, e, e2, dA, uB⟩ := low_last h
  have eL : upL i l = A ++ (i + 1) :: B := by
    unfold upL
    rw [e2]
    conv => lhs; rw [e]
    exact set_mid A B i (i + 1)
  have b1 := br_low dA uB
  have b2 := br_high dA uB
  rw [← e] at b1
  rw [← eL] at b2
  have el : lst (lows i l) = (A.length : Int) := by
    rw [b1.1, lst_app _ _ (List.cons_ne_nil _ _)]
    rfl
  constructor
  · rw [el, b2.1, b1.1]
  · rw [el, b2.2, b1.2]
theorem dn_br {i : Int} {l : List Int} (h : highs i l ≠ []) : lows i (dnL i l) = lows i l ++ [fst (highs i l)] ∧ fst (highs i l) :: highs i (dnL i l) = highs i l := by
  obtain ⟨A, B, e, e2, dA, uB⟩ := high_first h
  have eL : dnL i l = A ++ i :: B := by
    unfold dnL
    rw [e2]
    conv => lhs; rw [e]
    exact set_mid A B (i + 1) i
  have b1 := br_low dA uB
  have b2 := br_high dA uB
  rw [← eL] at b1
  rw [← e] at b2
  have el : fst (highs i l) = (A.length : Int) := by
    rw [b2.2]
    rfl
  constructor
  · rw [el, b1.1, b2.1]
  · rw [el, b1.2, b2.2]
/-- all that is left over -/
def fre (i : Int) (l : List Int) : List Int := lows i l ++ highs i l
theorem fre_up {i : Int} {l : List Int} (h : lows i l ≠ []) : fre i (upL i l) = fre i l ∧ ((lows i (upL i l)).length : Int) = (lows i l).length - 1 ∧ (lows i l).length ≠ 0 ∧ (fre i l)[(lows i l).length - 1]? = some (lst (lows i l)) := by
  obtain ⟨a, b⟩ := up_br h
  have hl := congrArg List.length a
  rw [List.length_append, List.length_singleton] at hl
  refine ⟨?_, by omega, by omega, ?_⟩
  · unfold fre
    rw [b]
    conv => rhs; rw [← a]
    simp
  · unfold fre
    rw [← a]
    rw [show (lows i (upL i l) ++ [lst (lows i l)]).length - 1 = (lows i (upL i l)).length by simp]
    rw [List.append_assoc, List.getElem?_append_right (Nat.le_refl _), Nat.sub_self]
    have e : lst (lows i (upL i l) ++ [lst (lows i l)]) = lst (lows i l) := by rw [a]
    rw [e]
    rfl
theorem fre_dn {i : Int} {l : List Int} (h : highs i l ≠ []) : fre i (dnL i l) = fre i l ∧ ((lows i (dnL i l)).length : Int) = (lows i l).length + 1 ∧ (lows i l).length ≠ (fre i l).length ∧ (fre i l)[(lows i l).length]? = some (fst (highs i l)) := by
  obtain ⟨a, b⟩ := dn_br h
  have hl := congrArg List.length a
  rw [List.length_append, List.length_singleton] at hl
  have hb := congrArg List.length b
  rw [List.length_cons] at hb
  refine ⟨?_, by omega, ?_, ?_⟩
  · unfold fre
    rw [a]
    conv => rhs; rw [← b]
    simp
  · unfold fre
    rw [List.length_append]
    omega
  · unfold fre
    rw [List.getElem?_append_right (Nat.le_refl _), Nat.sub_self, ← b]
    rfl
end LwM
/-! Wk. The walk of a row of deeds: what is left over is kept. -/
namespace Lw
open PySem L2 LwE LwM
/-- the attributes of a walk -/
def kf (hd fr lw : Addr) (z : Int) : List (Str × V) := putF "low" (.ref lw) (putF "free" (.ref fr) (putF "held" (.ref hd) (putF "size" (.int z) [])))
theorem k_ls : ¬ (("low" : Str) = "size") := by decide +kernel
theorem k_lh : ¬ (("low" : Str) = "held") := by decide +kernel
theorem k_lf : ¬ (("low" : Str) = "free") := by decide +kernel
theorem k_fs : ¬ (("free" : Str) = "size") := by decide +kernel
theorem k_fh : ¬ (("free" : Str) = "held") := by decide +kernel
theorem k_fl : ¬ (("free" : Str) = "low") := by decide +kernel
theorem k_hs : ¬ (("held" : Str) = "size") := by decide +kernel
theorem k_hl : ¬ (("held" : Str) = "low") := by decide +kernel
theorem k_hf : ¬ (("held" : Str) = "free") := by decide +kernel
theorem k_sl : ¬ (("size" : Str) = "low") := by decide +kernel
theorem k_sf : ¬ (("size" : Str) = "free") := by decide +kernel
theorem k_sh : ¬ (("size" : Str) = "held") := by decide +kernel
theorem kf_low (hd fr lw : Addr) (z : Int) : (kf hd fr lw z).lookup ("low" : Str) = some (.ref lw) := by
  unfold kf
  rw [lookup_putF, if_pos rfl]
theorem kf_free (hd fr lw : Addr) (z : Int) : (kf hd fr lw z).lookup ("free" : Str) = some (.ref fr) := by
  unfold kf
  rw [lookup_putF, if_neg k_fl, lookup_putF, if_pos rfl]
theorem kf_held (hd fr lw : Addr) (z : Int) : (kf hd fr lw z).lookup ("held" : Str) = some (.ref hd) := by
  unfold kf
  rw [lookup_putF, if_neg k_hl, lookup_putF, if_neg k_hf, lookup_putF, if_pos rfl]
theorem kf_size (hd fr lw : Addr) (z : Int) : (kf hd fr lw z).lookup ("size" : Str) = some (.int z) := by
  unfold kf
  rw [lookup_putF, if_neg k_sl, lookup_putF, if_neg k_sf, lookup_putF, if_neg k_sh, lookup_putF, if_pos rfl]
theorem kf_no (hd fr lw : Addr) (z : Int) {m : Str} (h1 : ¬ m = "low") (h2 : ¬ m = "free") (h3 : ¬ m = "held") (h4 : ¬ m = "size") : (kf hd fr lw z).lookup m = none := by
  unfold kf
  rw [lookup_putF, if_neg h1, lookup_putF, if_neg h2, lookup_putF, if_neg h3, lookup_putF, if_neg h4]
  rfl
/-- what the top has made of the class of walks -/
structure Cwk (K : PySem.W.Frag) (mg : Str → Option Value) (D : Addr) : Prop where
  cl : Cls K D
  nS : NoAttr K D "size"
  nH : NoAttr K D "held"
  nF : NoAttr K D "free"
  nL : NoAttr K D "low"
  mgC : mg "Walk" = some (.ref D)
/-- a walk of the class at D stands at p -/
structure Wk (D : Addr) (H : Hp) (p hd fr lw : Addr) (size : Int) (ls : List Int) (fs : List V) (los : List Int) : Prop where
  hp : ∃ dx, H p = some (.ins D dx (kf hd fr lw size))
  hh : H hd = some (.lst (nums ls))
  hf : H fr = some (.lst fs)
  hl : H lw = some (.lst (nums los))
  n1 : hd ≠ fr
  n2 : hd ≠ lw
  n3 : fr ≠ lw
  lf : (fs.length : Int) = size + 1
  ll : (los.length : Int) = size + 1
  ki : ∀ x ∈ fs, x = V.non ∨ ∃ f, x = V.ref f
  inv : ∀ (j : Nat) f, fs[j]? = some (V.ref f) → f ≠ hd ∧ f ≠ fr ∧ f ≠ lw ∧ H f = some (.lst (nums (fre j ls))) ∧ los[j]? = some ((lows j ls).length : Int)
  L : Ls size ls
/-- all but the three lists stays -/
def K3 (hd fr lw : Addr) (H H' : Hp) : Prop := ∀ b o, H b = some o → b ≠ hd → b ≠ fr → b ≠ lw → H' b = some o
theorem K3.of {hd fr lw : Addr} {H H' : Hp} (s : Same H H') : K3 hd fr lw H H' := fun b o e _ _ _ => s b o e
theorem K3.trans {hd fr lw : Addr} {H H' H'' : Hp} (a : K3 hd fr lw H H') (b : K3 hd fr lw H' H'') : K3 hd fr lw H H'' := fun c o e x y z => b c o (a c o e x y z) x y z
theorem Wk.same {D : Addr} {H H' : Hp} {p hd fr lw : Addr} {size : Int} {ls : List Int} {fs : List V} {los : List Int} (W : Wk D H p hd fr lw size ls fs los) (s : Same H H') : Wk D H' p hd fr lw size ls fs los :=
  ⟨let ⟨dx, a⟩ := W.hp; ⟨dx, s _ _ a⟩, s _ _ W.hh, s _ _ W.hf, s _ _ W.hl, W.n1, W.n2, W.n3, W.lf, W.ll, W.ki, fun j f e => let ⟨a, b, c, d, g⟩ := W.inv j f e; ⟨a, b, c, s _ _ d, g⟩, W.L⟩
/-- a place of the list of what is known -/
theorem Wk.at_ {D : Addr} {H : Hp} {p hd fr lw : Addr} {size : Int} {ls : List Int} {fs : List V} {los : List Int} (W : Wk D H p hd fr lw size ls fs los) {n : Nat} (h : (n : Int) ≤ size) :
    fs[n]? = some V.non ∨ ∃ f, fs[n]? = some (V.ref f) := by
  have h2 : n < fs.length := by
    have := W.lf
    omega
  rw [List.getElem?_eq_getElem h2]
  rcases W.ki _ (List.getElem_mem h2) with z | ⟨f, z⟩
  · exact .inl (by rw [z])
  · exact .inr ⟨f, by rw [z]⟩
/-- index n is looked up -/
theorem Wk.looked {D : Addr} {H : Hp} {p hd fr lw f : Addr} {size : Int} {ls : List Int} {fs : List V} {los : List Int} (W : Wk D H p hd fr lw size ls fs los) {n : Nat} (h : (n : Int) ≤ size)
    (hf : H f = some (.lst (nums (fre n ls)))) (g1 : f ≠ hd) (g2 : f ≠ fr) (g3 : f ≠ lw) :
    Wk D (upd (upd H fr (.lst (fs.set n (.ref f)))) lw (.lst (nums (los.set n ((lows n ls).length : Int))))) p hd fr lw size ls (fs.set n (.ref f)) (los.set n ((lows n ls).length : Int)) := by
  obtain ⟨dx, hp⟩ := W.hp
  have np2 : p ≠ fr := ne_of hp W.hf (by intro z; cases z)
  have np3 : p ≠ lw := ne_of hp W.hl (by intro z; cases z)
  refine ⟨⟨dx, ?_⟩, ?_, ?_, upd_same, W.n1, W.n2, W.n3, by rw [List.length_set]; exact W.lf, by rw [List.length_set]; exact W.ll, fun x hx => ?_, fun j g e => ?_, W.L⟩
  · rw [upd_ne np3, upd_ne np2]
    exact hp
  · rw [upd_ne W.n2, upd_ne W.n1]
    exact W.hh
  · rw [upd_ne W.n3, upd_same]
  · rcases List.mem_or_eq_of_mem_set hx with z | z
    · exact W.ki x z
    · exact .inr ⟨f, z⟩
  · by_cases hj : n = j
    · subst hj
      have h1 : n < fs.length := by
        have := W.lf
        omega
      have h2 : n < los.length := by
        have := W.ll
        omega
      rw [List.getElem?_set_self h1] at e
      have eg : f = g := by
        have := Option.some.inj e
        cases this
        rfl
      subst eg
      refine ⟨g1, g2, g3, ?_, ?_⟩
      · rw [upd_ne g3, upd_ne g2]
        exact hf
      · rw [List.getElem?_set_self h2]
    · rw [List.getElem?_set_ne hj] at e
      obtain ⟨a, b, c, d, q⟩ := W.inv j g e
      refine ⟨a, b, c, ?_, ?_⟩
      · rw [upd_ne c, upd_ne b]
        exact d
      · rw [List.getElem?_set_ne hj]
        exact q
/-- a deed is done -/
theorem Wk.step {D : Addr} {H : Hp} {p hd fr lw f : Addr} {size : Int} {ls r : List Int} {fs : List V} {los : List Int} (W : Wk D H p hd fr lw size ls fs los) {d : Int} (hr : doneL d ls = some r) (h0 : d ≠ 0) (h1 : -(size - 1) ≤ d) (h2 : d ≤ size - 1)
    {n : Nat} (hn : (n : Int) = ix d) (hf : fs[n]? = some (V.ref f)) (ef : fre n r = fre n ls) :
    Wk D (upd (upd (upd (upd H lw (.lst (nums (los.set n ((lows n r).length : Int))))) hd (.lst (nums r))) fr (.lst (fs.set (n - 1) .non))) fr (.lst ((fs.set (n - 1) .non).set (n + 1) .non))) p hd fr lw size r
      ((fs.set (n - 1) .non).set (n + 1) .non) (los.set n ((lows n r).length : Int)) := by
  obtain ⟨dx, hp⟩ := W.hp
  have np1 : p ≠ hd := ne_of hp W.hh (by intro z; cases z)
  have np2 : p ≠ fr := ne_of hp W.hf (by intro z; cases z)
  have np3 : p ≠ lw := ne_of hp W.hl (by intro z; cases z)
  have n1 : (1 : Int) ≤ n ∧ (n : Int) ≤ size - 1 := by
    unfold ix at hn
    split at hn <;> omega
  refine ⟨⟨dx, ?_⟩, ?_, upd_same, ?_, W.n1, W.n2, W.n3, by rw [List.length_set, List.length_set]; exact W.lf, by rw [List.length_set]; exact W.ll, fun x hx => ?_, fun j g e => ?_,
    ⟨W.L.s0, W.L.s1, by rw [doneL_len hr]; exact W.L.len, doneL_bd W.L.bd h0 h1 h2 hr⟩⟩
  · rw [upd_ne np2, upd_ne np2, upd_ne np1, upd_ne np3]
    exact hp
  · rw [upd_ne W.n1, upd_ne W.n1, upd_same]
  · rw [upd_ne W.n3.symm, upd_ne W.n3.symm, upd_ne W.n2.symm, upd_same]
  · rcases List.mem_or_eq_of_mem_set hx with z | z
    · rcases List.mem_or_eq_of_mem_set z with z | z
      · exact W.ki x z
      · exact .inl z
    · exact .inl z
  · have hjl : j < fs.length := by
      have q := (List.getElem?_eq_some_iff.mp e).1
      rw [List.length_set, List.length_set] at q
      exact q
    have hj1 : n + 1 ≠ j := by
      intro z
      subst z
      rw [List.getElem?_set_self (by rw [List.length_set]; exact hjl)] at e
      cases Option.some.inj e
    rw [List.getElem?_set_ne hj1] at e
    have hj2 : n - 1 ≠ j := by
      intro z
      subst z
      rw [List.getElem?_set_self hjl] at e
      cases Option.some.inj e
    rw [List.getElem?_set_ne hj2] at e
    obtain ⟨a, b, c, u, q⟩ := W.inv j g e
    have eb : fre j r = fre j ls ∧ (n ≠ j → lows j r = lows j ls) := by
      by_cases hj : n = j
      · subst hj
        exact ⟨ef, fun z => absurd rfl z⟩
      · have hb := far_br (j := (j : Int)) hr (by omega)
        unfold fre lows highs
        rw [hb]
        exact ⟨rfl, fun _ => rfl⟩
    refine ⟨a, b, c, ?_, ?_⟩
    · rw [upd_ne b, upd_ne b, upd_ne a, upd_ne c, eb.1]
      exact u
    · by_cases hj : n = j
      · subst hj
        rw [List.getElem?_set_self (by have := W.ll; omega)]
      · rw [List.getElem?_set_ne hj, eb.2 hj]
        exact q
theorem join2 {c : Bool} {T : Prop} {R : Hp → Prop} {H : Hp} (J : Hp → Prop) (h : ∀ H1, J H1 → R H1) (ht : c = true → (∀ H1, J H1 → R H1) → T) (he : c = false → J H) : if c = true then T else R H := by
  cases c with
  | true => exact ht rfl h
  | false => exact h H (he rfl)
section
variable {P : Program} {w : World} {K : PySem.W.Frag} {mg : Str → Option Value} {base : Heap}
/-! __init__ -/
def spWalk (C D : Addr) : Sp := fun vs H Q _ => ∃ (p dx a : Addr) (size : Int) (ls : List Int), vs = [.ref p, .ref a] ∧ H p = some (.ins D dx []) ∧ WAt C H a size ls ∧
  ∀ H' hd fr lw fs los, (∀ b o, H b = some o → b ≠ p → H' b = some o) → H hd = none → H fr = none → H lw = none → Wk D H' p hd fr lw size ls fs los → Q .non H'
theorem scWalk : FnScope ["self", "word"] ["self", "word"] (defScope sWInit) := ⟨rfl, rfl, rfl, by decide +kernel, rfl, by decide +kernel, by decide +kernel⟩
theorem rep_one {α : Type} (x : α) (n : Nat) : (List.replicate n [x]).flatten = List.replicate n x := by
  induction n with
  | zero => rfl
  | succ n ih => rw [List.replicate_succ, List.flatten_cons, ih]; rfl
theorem ok_walk {f C D : Addr} {fd : FuncData} (B : Bare mg) (T : Cw K mg C) (T2 : Cwk K mg D) (F : Fun K "__init__" "Walk.__init__" sWInit f fd) : FnOk P w K mg base CX0 1 f fd ["self", "word"] (spWalk C D) := by
  refine F.ok scWalk (fun vs H Q E h => ?_) (fun cdv A outer s H vs Q E hr h => ?_)
  · obtain ⟨p, dx, a, size, ls, rfl, _⟩ := h
    rfl
  · obtain ⟨p, dx, a, size, ls, rfl, hp, W, k⟩ := h
    refine ⟨_, pss_cons (ps_fld (pv 0) (pe_fld (pv 1) rfl) rfl)
      (pss_cons (ps_fld (pv 0) (pe_callTy call_list_of (by rfl) B.list (by decide +kernel) (pa_cons (pe_fld (pv 1) rfl) pa_nil)) rfl)
      (pss_cons (ps_fld (pv 0) (pe_op op_rep (pe_lst (pa_cons pe_non pa_nil)) (pe_op op_add (pe_fld (pv 1) rfl) pe_int)) rfl)
      (pss_one (ps_fld (pv 0) (pe_op op_rep (pe_lst (pa_cons pe_int pa_nil)) (pe_op op_add (pe_fld (pv 1) rfl) pe_int)) rfl)))), ?_⟩
    obtain ⟨dw, t, h1, h2⟩ := W.ob
    have L := W.ls
    have nap : a ≠ p := by
      intro z
      subst z
      rw [h1] at hp
      have := Option.some.inj hp
      injection this with e1 e2 e3
      have q := wf_size t size
      rw [e3] at q
      cases q
    have ntp : t ≠ p := ne_of h2 hp (by intro z; cases z)
    refine ⟨_, rfl, a, C, dw, _, _, rfl, h1, T.cl, T.nS, wf_size _ _, _, rfl, p, D, dx, _, rfl, hp, T2.cl, T2.nS, (by show 0 < 1000; decide), ?_⟩
    -- held
    have p1 : (upd H p (.ins D dx (putF "size" (.int size) []))) p = some (.ins D dx (putF "size" (.int size) [])) := upd_same
    have k1 : ∀ b o, H b = some o → b ≠ p → (upd H p (.ins D dx (putF "size" (.int size) []))) b = some o := fun b o e h => by rw [upd_ne h]; exact e
    have fr1 : ∀ b, (upd H p (.ins D dx (putF "size" (.int size) []))) b = none → H b = none := fun b e => by
      by_cases hb : b = p
      · subst hb
        rw [upd_same] at e
        cases e
      · rw [upd_ne hb] at e
        exact e
    generalize upd H p (.ins D dx (putF "size" (.int size) [])) = H1 at p1 k1 fr1 ⊢
    refine ⟨_, rfl, a, C, dw, _, _, rfl, k1 _ _ h1 nap, T.cl, T.nL, wf_letters _ _, t, _, rfl, .inr (SqT.of (k1 _ _ h2 ntp)), fun hd nhd => ?_⟩
    have npd : p ≠ hd := ne_of_none p1 nhd
    refine ⟨_, rfl, p, D, dx, _, rfl, same_new nhd _ _ p1, T2.cl, T2.nH, (by show 1 < 1000; decide), ?_⟩
    have p2 : (upd (upd H1 hd (.lst (nums ls))) p (.ins D dx (putF "held" (.ref hd) (putF "size" (.int size) [])))) p = some (.ins D dx (putF "held" (.ref hd) (putF "size" (.int size) []))) := upd_same
    have d2 : (upd (upd H1 hd (.lst (nums ls))) p (.ins D dx (putF "held" (.ref hd) (putF "size" (.int size) [])))) hd = some (.lst (nums ls)) := by rw [upd_ne npd.symm, upd_same]
    have k2 : ∀ b o, H b = some o → b ≠ p → (upd (upd H1 hd (.lst (nums ls))) p (.ins D dx (putF "held" (.ref hd) (putF "size" (.int size) [])))) b = some o := fun b o e h => by
      rw [upd_ne h]
      exact same_new nhd _ _ (k1 _ _ e h)
    have fr2 : ∀ b, (upd (upd H1 hd (.lst (nums ls))) p (.ins D dx (putF "held" (.ref hd) (putF "size" (.int size) [])))) b = none → H b = none := fun b e => by
      by_cases hb : b = p
      · subst hb
        rw [upd_same] at e
        cases e
      · rw [upd_ne hb] at e
        exact fr1 _ ((same_new nhd).free e)
    generalize upd (upd H1 hd (.lst (nums ls))) p (.ins D dx (putF "held" (.ref hd) (putF "size" (.int size) []))) = H2 at p2 d2 k2 fr2 ⊢
    -- free
    have e1 : size + 1 = ((size + 1).toNat : Nat) := by
      have := L.s0
      omega
    have s01 := L.s0
    have s11 := L.s1
    refine ⟨(by show 1 ≤ sizeLine; decide), fun q nq => ?_⟩
    have pq : p ≠ q := ne_of_none p2 nq
    have dq : hd ≠ q := ne_of_none d2 nq
    refine ⟨_, rfl, a, C, dw, _, _, rfl, same_new nq _ _ (k2 _ _ h1 nap), T.cl, T.nS, wf_size _ _, _, _, rfl, rfl, ?_⟩
    refine ⟨q, size + 1, _, rfl, rfl, upd_same, by omega, by omega, by rw [sizeLine_eq]; simp; omega, fun fr nfr => ?_⟩
    rw [rep_one]
    have s3 : Same H2 (upd (upd H2 q (.lst [.non])) fr (.lst (List.replicate (size + 1).toNat V.non))) := (same_new nq).trans (same_new nfr)
    have efr : (upd (upd H2 q (.lst [.non])) fr (.lst (List.replicate (size + 1).toNat V.non))) fr = some (.lst (List.replicate (size + 1).toNat V.non)) := upd_same
    have nfr2 : H2 fr = none := (same_new nq).free nfr
    generalize upd (upd H2 q (.lst [.non])) fr (.lst (List.replicate (size + 1).toNat V.non)) = H3 at s3 efr ⊢
    have npf : p ≠ fr := ne_of_none p2 nfr2
    have ndf : hd ≠ fr := ne_of_none d2 nfr2
    refine ⟨_, rfl, p, D, dx, _, rfl, s3 _ _ p2, T2.cl, T2.nF, (by show 2 < 1000; decide), ?_⟩
    have p4 : (upd H3 p (.ins D dx (putF "free" (.ref fr) (putF "held" (.ref hd) (putF "size" (.int size) []))))) p = some (.ins D dx (putF "free" (.ref fr) (putF "held" (.ref hd) (putF "size" (.int size) [])))) := upd_same
    have d4 : (upd H3 p (.ins D dx (putF "free" (.ref fr) (putF "held" (.ref hd) (putF "size" (.int size) []))))) hd = some (.lst (nums ls)) := by
      rw [upd_ne npd.symm]
      exact s3 _ _ d2
    have f4 : (upd H3 p (.ins D dx (putF "free" (.ref fr) (putF "held" (.ref hd) (putF "size" (.int size) []))))) fr = some (.lst (List.replicate (size + 1).toNat V.non)) := by
      rw [upd_ne npf.symm]
      exact efr
    have k4 : ∀ b o, H b = some o → b ≠ p → (upd H3 p (.ins D dx (putF "free" (.ref fr) (putF "held" (.ref hd) (putF "size" (.int size) []))))) b = some o := fun b o e h => by
      rw [upd_ne h]
      exact s3 _ _ (k2 _ _ e h)
    have fr4 : ∀ b, (upd H3 p (.ins D dx (putF "free" (.ref fr) (putF "held" (.ref hd) (putF "size" (.int size) []))))) b = none → H b = none := fun b e => by
      by_cases hb : b = p
      · subst hb
        rw [upd_same] at e
        cases e
      · rw [upd_ne hb] at e
        exact fr2 _ (s3.free e)
    have nfr0 : H fr = none := fr2 _ nfr2
    have nhd0 : H hd = none := fr1 _ nhd
    generalize upd H3 p (.ins D dx (putF "free" (.ref fr) (putF "held" (.ref hd) (putF "size" (.int size) [])))) = H4 at p4 d4 f4 k4 fr4 ⊢
    -- low
    refine ⟨(by show 1 ≤ sizeLine; decide), fun q2 nq2 => ?_⟩
    refine ⟨_, rfl, a, C, dw, _, _, rfl, same_new nq2 _ _ (k4 _ _ h1 nap), T.cl, T.nS, wf_size _ _, _, _, rfl, rfl, ?_⟩
    refine ⟨q2, size + 1, _, rfl, rfl, upd_same, by omega, by omega, by rw [sizeLine_eq]; simp; omega, fun lw nlw => ?_⟩
    rw [rep_one]
    have s5 : Same H4 (upd (upd H4 q2 (.lst [.int 0])) lw (.lst (List.replicate (size + 1).toNat (V.int 0)))) := (same_new nq2).trans (same_new nlw)
    have elw : (upd (upd H4 q2 (.lst [.int 0])) lw (.lst (List.replicate (size + 1).toNat (V.int 0)))) lw = some (.lst (List.replicate (size + 1).toNat (V.int 0))) := upd_same
    have nlw4 : H4 lw = none := (same_new nq2).free nlw
    generalize upd (upd H4 q2 (.lst [.int 0])) lw (.lst (List.replicate (size + 1).toNat (V.int 0))) = H5 at s5 elw ⊢
    have npl : p ≠ lw := ne_of_none p4 nlw4
    have ndl : hd ≠ lw := ne_of_none d4 nlw4
    have nfl : fr ≠ lw := ne_of_none f4 nlw4
    refine ⟨_, rfl, p, D, dx, _, rfl, s5 _ _ p4, T2.cl, T2.nL, (by show 3 < 1000; decide), ?_⟩
    refine k _ hd fr lw (List.replicate (size + 1).toNat V.non) (List.replicate (size + 1).toNat 0) (fun b o e h => ?_) nhd0 nfr0 (fr4 _ nlw4) ⟨⟨dx, upd_same⟩, ?_, ?_, ?_, ndf, ndl, nfl, by rw [List.length_replicate]; omega, by rw [List.length_replicate]; omega, fun x hx => .inl (List.eq_of_mem_replicate hx), fun j f e => ?_, L⟩
    · rw [upd_ne h]
      exact s5 _ _ (k4 _ _ e h)
    · rw [upd_ne npd.symm]
      exact s5 _ _ d4
    · rw [upd_ne npf.symm]
      exact s5 _ _ f4
    · rw [upd_ne npl.symm, elw]
      simp [nums]
    · have q := List.mem_of_getElem? e
      have z := List.eq_of_mem_replicate q
      cases z
end
end Lw
/-! Go. One deed of a walk. -/
namespace Lw
open PySem L2 LwE LwM
section
variable {P : Program} {w : World} {K : PySem.W.Frag} {mg : Str → Option Value} {base : Heap}
/-! look -/
def spLook (D : Addr) : Sp := fun vs H Q _ => ∃ (p hd fr lw : Addr) (n : Nat) (size : Int) (ls : List Int) (fs : List V) (los : List Int), vs = [.ref p, .int (n : Nat)] ∧ Wk D H p hd fr lw size ls fs los ∧ (n : Int) ≤ size ∧
  ∀ H' f los', H f = none → K3 hd fr lw H H' → Wk D H' p hd fr lw size ls (fs.set n (.ref f)) los' → Q .non H'
theorem scLook : FnScope ["self", "i", "pairs", "lows", "highs"] ["self", "i"] (defScope sLook) := ⟨rfl, rfl, rfl, by decide +kernel, rfl, by decide +kernel, by decide +kernel⟩
theorem ixN_nat {n j : Nat} (h : j < n) : ixN n (j : Int) = some j := by
  unfold ixN
  rw [if_pos (by omega), if_pos (by omega)]
  simp
theorem ok_look {f f2 D : Addr} {fd fd2 : FuncData} (B : Bare mg) (T2 : Cwk K mg D) (F : Fun K "look" "Walk.look" sLook f fd) (F2 : Df K mg "bracketed" sBrack f2 fd2) (b2 : Binds K fd2 ["letters", "i"] []) (G2 : FnOk P w K mg base CX0 1 f2 fd2 ["letters", "i"] spBrack) :
    FnOk P w K mg base CX0 2 f fd ["self", "i"] (spLook D) := by
  refine F.ok scLook (fun vs H Q E h => ?_) (fun cdv A outer s H vs Q E hr h => ?_)
  · obtain ⟨p, hd, fr, lw, n, size, ls, fs, los, rfl, _⟩ := h
    rfl
  · obtain ⟨p, hd, fr, lw, n, size, ls, fs, los, rfl, W, hn, k⟩ := h
    refine ⟨_, pss_cons (ps_asg (pe_call G2 hr (by rfl) F2.g F2.fn.kp b2 .nil pass0 (pa_cons (pe_fld (pv 0) rfl) (pa_cons (pv 1) pa_nil)))
        (pg_tup rfl (pgs_cons (pg_name (i := 2) scLook.nd rfl (Or.inl rfl)) (pgs_cons (pg_name (i := 3) scLook.nd rfl (Or.inl rfl)) (pgs_cons (pg_name (i := 4) scLook.nd rfl (Or.inl rfl)) pgs_nil)))))
      (pss_cons (ps_asg (pe_op op_cat (pv 3) (pv 4)) (pg_sub (pe_fld (pv 0) rfl) (pv 1) set_list))
      (pss_one (ps_asg (pe_callB call_len_seq (by rfl) B.len PySem.boot_len (pa_cons (pv 3) pa_nil)) (pg_sub (pe_fld (pv 0) rfl) (pv 1) set_list)))), ?_⟩
    obtain ⟨dx, hp⟩ := W.hp
    refine ⟨_, rfl, p, D, dx, _, _, rfl, hp, T2.cl, T2.nH, kf_held _ _ _ _, _, rfl, hd, (n : Int), ls, rfl, .inl W.hh, by have := W.L.len; omega, fun u x lo hi ps H1 s1 e1 e2 e3 e4 => ?_⟩
    refine ⟨u, _, rfl, SqT.of e1, rfl, _, _, rfl, _, _, rfl, _, _, rfl, rfl, ?_⟩
    have bl := br_len (n : Int) ls
    have L := W.L.len
    refine ⟨_, rfl, _, rfl, lo, hi, _, _, rfl, rfl, e3, e4, by rw [List.length_map, List.length_map, sizeLine_eq]; omega, fun f hf => ?_⟩
    rw [show nums (lows n ls) ++ nums (highs n ls) = nums (fre n ls) by simp [nums, fre]]
    have W1 := W.same s1
    have g1 : f ≠ hd := (ne_of_none W1.hh hf).symm
    have g2 : f ≠ fr := (ne_of_none W1.hf hf).symm
    have g3 : f ≠ lw := (ne_of_none W1.hl hf).symm
    have s2 := same_new (o := .lst (nums (fre n ls))) hf
    have W2 := W1.same s2
    have ef : (upd H1 f (.lst (nums (fre n ls)))) f = some (.lst (nums (fre n ls))) := upd_same
    have elo := s2 _ _ e3
    have s12 := s1.trans s2
    generalize upd H1 f (.lst (nums (fre n ls))) = H2 at W2 ef elo s12 ⊢
    have W3 := W2.looked hn ef g1 g2 g3
    obtain ⟨dy, hp2⟩ := W2.hp
    have nfl : (n : Int) < fs.length := by
      have := W.lf
      omega
    have nll : (n : Int) < los.length := by
      have := W.ll
      omega
    refine ⟨_, rfl, p, D, dy, _, _, rfl, hp2, T2.cl, T2.nF, kf_free _ _ _ _, _, rfl, fr, fs, n, n, rfl, rfl, W2.hf, ixN_nat (by omega), ?_⟩
    have lof : lo ≠ fr := by
      intro z
      subst z
      have q := W.hf
      have q2 := s1 _ _ q
      rw [e3] at q2
      have q3 := Option.some.inj q2
      injection q3 with q4
      have h3 : fs.length = (nums (lows n ls)).length := by rw [q4]
      have bn : ∀ x ∈ fs, False := by
        intro x hx
        have hx2 := hx
        rw [← q4] at hx2
        obtain ⟨y, _, ey⟩ := List.mem_map.mp hx2
        rcases W.ki x hx with c | ⟨g, c⟩
        · rw [← ey] at c; cases c
        · rw [← ey] at c; cases c
      cases hfs : fs with
      | nil =>
        rw [hfs] at nfl
        simp at nfl
        omega
      | cons a t => exact bn a (by rw [hfs]; exact List.mem_cons_self ..)
    have np2 : p ≠ fr := ne_of hp2 W2.hf (by intro z; cases z)
    refine ⟨_, rfl, lo, _, rfl, .inl (SqL.of (by rw [upd_ne lof]; exact elo)), ?_⟩
    rw [List.length_map]
    refine ⟨_, rfl, p, D, dy, _, _, rfl, by rw [upd_ne np2]; exact hp2, T2.cl, T2.nL, kf_low _ _ _ _, _, rfl, lw, _, n, n, rfl, rfl, by rw [upd_ne W.n3.symm]; exact W2.hl, ixN_nat (by rw [List.length_map]; omega), ?_⟩
    have el : (nums los).set n (V.int ((lows n ls).length : Nat)) = nums (los.set n ((lows n ls).length : Int)) := by
      unfold nums
      rw [List.map_set]
    rw [el]
    refine k _ f _ (s1.free hf) (fun b o e x1 x2 x3 => ?_) W3
    rw [upd_ne x3, upd_ne x2]
    exact s12 _ _ e
/-! go -/
/-- what is known of the indexes is old, or lies in new lists -/
def Fr_ (H : Hp) (fs fs' : List V) : Prop := ∀ (j : Nat) g, fs'[j]? = some (V.ref g) → fs[j]? = some (V.ref g) ∨ H g = none
theorem Fr_.set {H : Hp} {fs fs' : List V} (h : Fr_ H fs fs') (n : Nat) : Fr_ H fs (fs'.set n V.non) := fun j g e => by
  by_cases c : n = j
  · subst c
    by_cases z : n < fs'.length
    · rw [List.getElem?_set_self z] at e
      cases Option.some.inj e
    · rw [List.getElem?_eq_none (by rw [List.length_set]; omega)] at e
      cases e
  · rw [List.getElem?_set_ne c] at e
    exact h j g e
def spGo (D : Addr) : Sp := fun vs H Q _ => ∃ (p hd fr lw : Addr) (d size : Int) (ls : List Int) (fs : List V) (los : List Int), vs = [.ref p, .int d] ∧ Wk D H p hd fr lw size ls fs los ∧ d ≠ 0 ∧ -(size - 1) ≤ d ∧ d ≤ size - 1 ∧
  (doneL d ls = none → ∀ H' fs' los', Fr_ H fs fs' → K3 hd fr lw H H' → Wk D H' p hd fr lw size ls fs' los' → Q (.bl false) H') ∧
  ∀ r, doneL d ls = some r → ∀ H' fs' los', Fr_ H fs fs' → K3 hd fr lw H H' → Wk D H' p hd fr lw size r fs' los' → Q (.bl true) H'
structure Lk_ (P : Program) (w : World) (K : PySem.W.Frag) (mg : Str → Option Value) (base : Heap) (D : Addr) (f : Addr) (fd : FuncData) : Prop where
  m : Meth K D "look" f
  ok : FnOk P w K mg base CX0 2 f fd ["self", "i"] (spLook D)
  b : Binds K fd ["self", "i"] []
theorem scGo : FnScope ["self", "deed", "i", "free", "low"] ["self", "deed"] (defScope sGo) := ⟨rfl, rfl, rfl, by decide +kernel, rfl, by decide +kernel, by decide +kernel⟩
theorem ok_go {f fL D : Addr} {fd fdL : FuncData} (B : Bare mg) (T2 : Cwk K mg D) (F : Fun K "go" "Walk.go" sGo f fd) (S : Lk_ P w K mg base D fL fdL) : FnOk P w K mg base CX0 3 f fd ["self", "deed"] (spGo D) := by
  refine F.ok scGo (fun vs H Q E h => ?_) (fun cdv A outer s H vs Q E hr h => ?_)
  · obtain ⟨p, hd, fr, lw, d, size, ls, fs, los, rfl, _⟩ := h
    rfl
  · obtain ⟨p, hd, fr, lw, d, size, ls, fs, los, rfl, W, d0, d1, d2, kn, ks⟩ := h
    refine ⟨_, pss_cons (ps_set (i := 2) scGo.nd rfl (Or.inl rfl) (pe_callB call_abs (by rfl) B.abs (by decide +kernel) (pa_cons (pv 1) pa_nil)))
      (pss_cons (ps_if (pt_cmp (pc_isN (pe_ix ix_list (pe_fld (pv 0) rfl) (pv 2) (fun _ _ => rfl))))
        (pss_one (ps_expr (pe_meth (pv 0) T2.cl S.m S.ok hr S.b .nil pass0 (pa_cons (pv 2) pa_nil)))) pss_nil)
      (pss_cons (ps_set (i := 3) scGo.nd rfl (Or.inl rfl) (pe_ix ix_list (pe_fld (pv 0) rfl) (pv 2) (fun _ _ => rfl)))
      (pss_cons (ps_set (i := 4) scGo.nd rfl (Or.inl rfl) (pe_ix ix_list (pe_fld (pv 0) rfl) (pv 2) (fun _ _ => rfl)))
      (pss_cons (ps_if (pt_cmpR op_eq (pv 4) (pe_ifExp (pt_cmpR op_gt (pv 1) pe_int (nomark _)) pe_int (pe_callB call_len_seq (by rfl) B.len PySem.boot_len (pa_cons (pv 3) pa_nil))) (nomark _))
        (pss_one (ps_ret pe_bl)) pss_nil)
      (pss_cons (ps_if (pt_cmpR op_gt (pv 1) pe_int (nomark _))
        (pss_cons (ps_asg (pe_op op_sub (pv 4) pe_int) (pg_sub (pe_fld (pv 0) rfl) (pv 2) set_list))
          (pss_one (ps_asg (pe_op op_add (pv 2) pe_int) (pg_sub (pe_fld (pv 0) rfl) (pe_ix ix_list (pv 3) (pe_op op_sub (pv 4) pe_int) (fun _ _ => rfl)) set_list))))
        (pss_cons (ps_asg (pe_op op_add (pv 4) pe_int) (pg_sub (pe_fld (pv 0) rfl) (pv 2) set_list))
          (pss_one (ps_asg (pv 2) (pg_sub (pe_fld (pv 0) rfl) (pe_ix ix_list (pv 3) (pv 4) (fun _ _ => rfl)) set_list)))))
      (pss_cons (ps_asg2 pe_non (pg_sub (pe_fld (pv 0) rfl) (pe_op op_sub (pv 2) pe_int) set_list) (pg_sub (pe_fld (pv 0) rfl) (pe_op op_add (pv 2) pe_int) set_list))
      (pss_one (ps_ret pe_bl)))))))), ?_⟩
    have eabs : (if d < 0 then -d else d) = (d.natAbs : Int) := by
      split <;> omega
    have eix : (d.natAbs : Int) = ix d := by
      unfold ix
      split <;> omega
    refine ⟨_, rfl, d, rfl, ?_⟩
    rw [eabs]
    generalize hn : d.natAbs = n at *
    have nb : (n : Int) ≤ size - 1 ∧ 1 ≤ n := by
      unfold ix at eix
      split at eix <;> omega
    have nsz : (n : Int) ≤ size := by omega
    obtain ⟨dx, hp⟩ := W.hp
    have at_free : ∀ {fs : List V} {v : V}, fs[n]? = some v → atI fs (n : Int) = some v := fun h => atI_nat h
    obtain ⟨v0, hv0⟩ : ∃ v0, fs[n]? = some v0 := by
      rcases W.at_ nsz with z | ⟨g, z⟩
      · exact ⟨_, z⟩
      · exact ⟨_, z⟩
    refine ⟨_, rfl, p, D, dx, _, _, rfl, hp, T2.cl, T2.nF, kf_free _ _ _ _, _, rfl, fr, fs, _, v0, rfl, rfl, SqL.of W.hf, at_free hv0, _, rfl, ?_⟩
    refine join2 (H := H) (fun H1 => ∃ fs1 los1 g, Fr_ H fs fs1 ∧ K3 hd fr lw H H1 ∧ Wk D H1 p hd fr lw size ls fs1 los1 ∧ fs1[n]? = some (V.ref g)) ?_ ?_ ?_
    rotate_left
    · intro hc J
      have hv : v0 = .non := by simpa using hc
      refine ⟨_, rfl, p, dx, _, rfl, hp, kf_no _ _ _ _ (by decide +kernel) (by decide +kernel) (by decide +kernel) (by decide +kernel), _, rfl, p, hd, fr, lw, n, size, ls, fs, los, rfl, W, nsz, fun H1 g los1 ng k1 W1 => ?_⟩
      refine J _ ⟨_, _, g, fun j y e => ?_, k1, W1, ?_⟩
      · by_cases c : n = j
        · subst c
          by_cases z : n < fs.length
          · rw [List.getElem?_set_self z] at e
            cases Option.some.inj e
            exact .inr ng
          · rw [List.getElem?_eq_none (by rw [List.length_set]; omega)] at e
            cases e
        · rw [List.getElem?_set_ne c] at e
          exact .inl e
      rw [List.getElem?_set_self]
      have := W.lf
      omega
    · intro hc
      have hv : ¬ v0 = .non := by simpa using hc
      rcases W.at_ nsz with z | ⟨g, z⟩
      · rw [hv0] at z
        exact absurd (Option.some.inj z) hv
      · exact ⟨fs, los, g, fun _ _ e => .inl e, .of (Same.refl H), W, z⟩
    rintro H1 ⟨fs1, los1, g, fr1, k1, W1, hg⟩
    obtain ⟨g1, g2, g3, eg, elo⟩ := W1.inv n g hg
    obtain ⟨dx1, hp1⟩ := W1.hp
    have np1 : p ≠ hd := ne_of hp1 W1.hh (by intro z; cases z)
    have np2 : p ≠ fr := ne_of hp1 W1.hf (by intro z; cases z)
    have np3 : p ≠ lw := ne_of hp1 W1.hl (by intro z; cases z)
    have lnl : n < los1.length := by
      have := W1.ll
      omega
    have lnf : n + 1 < fs1.length := by
      have := W1.lf
      omega
    have elo2 : (nums los1)[n]? = some (.int ((lows n ls).length : Int)) := by
      rw [List.getElem?_map, elo]
      rfl
    refine ⟨_, rfl, p, D, dx1, _, _, rfl, hp1, T2.cl, T2.nF, kf_free _ _ _ _, _, rfl, fr, fs1, _, _, rfl, rfl, SqL.of W1.hf, at_free hg, ?_⟩
    refine ⟨_, rfl, p, D, dx1, _, _, rfl, hp1, T2.cl, T2.nL, kf_low _ _ _ _, _, rfl, lw, _, _, _, rfl, rfl, SqL.of W1.hl, atI_nat elo2, ?_⟩
    have eF : (fre n ls).length = (lows n ls).length + (highs n ls).length := List.length_append
    have bl := br_len (n : Int) ls
    have ln := W1.L.len
    have eL1 : ∀ {r : List Int} {x : Int}, x = ((lows n r).length : Int) → (nums los1).set n (V.int x) = nums (los1.set n ((lows n r).length : Int)) := fun {r x} e => by
      rw [e]
      unfold nums
      rw [List.map_set]
    have ex1 : ixN (nums los1).length (n : Int) = some n := ixN_nat (by rw [List.length_map]; exact lnl)
    have ex2 : ixN fs1.length ((n : Int) - 1) = some (n - 1) := by
      rw [show ((n : Int) - 1) = ((n - 1 : Nat) : Int) by omega]
      exact ixN_nat (by omega)
    have ex3 : ixN (fs1.set (n - 1) V.non).length ((n : Int) + 1) = some (n + 1) := by
      rw [show ((n : Int) + 1) = ((n + 1 : Nat) : Int) by omega]
      exact ixN_nat (by rw [List.length_set]; exact lnf)
    have ixP : ∀ {x : Int}, 0 ≤ x → x < ls.length → ixN (nums ls).length x = some x.toNat := fun {x} h0 h1 => by
      unfold ixN
      rw [if_pos h0, if_pos (by rw [List.length_map]; exact h1)]
    have k3 : ∀ {o1 o2 o3 o4 : HO}, K3 hd fr lw H (upd (upd (upd (upd H1 lw o1) hd o2) fr o3) fr o4) := fun {o1 o2 o3 o4} b o e x y z => by
      rw [upd_ne y, upd_ne y, upd_ne x, upd_ne z]
      exact k1 b o e x y z
    by_cases hpos : 0 < d
    · have ed : d = (n : Int) := by
        unfold ix at eix
        rw [if_pos hpos] at eix
        exact eix.symm
      subst ed
      refine ⟨_, rfl, _, rfl, _, _, rfl, rfl, _, rfl, ?_⟩
      rw [decide_eq_true hpos]
      refine iteT ⟨rfl, _, rfl, ?_⟩
      by_cases hz : lows (n : Int) ls = []
      · have en : doneL (n : Int) ls = none := by
          unfold doneL
          rw [if_pos hpos, if_pos hz]
        rw [hz]
        exact iteT (kn en _ _ _ fr1 k1 W1)
      · have en : doneL (n : Int) ls = some (upL n ls) := by
          unfold doneL
          rw [if_pos hpos, if_neg hz]
        obtain ⟨u1, u2, u3, u4⟩ := fre_up hz
        refine ite2 (fun c => absurd (by simpa using c) (show ¬ ((lows (n : Int) ls).length : Int) = 0 by omega)) (fun _ => ?_)
        refine ⟨_, rfl, _, _, rfl, rfl, _, rfl, ?_⟩
        rw [decide_eq_true hpos]
        refine iteT ?_
        refine ⟨_, rfl, _, _, rfl, rfl, _, rfl, p, D, dx1, _, _, rfl, hp1, T2.cl, T2.nL, kf_low _ _ _ _, _, rfl, lw, _, _, n, rfl, rfl, W1.hl, ex1, ?_⟩
        rw [eL1 u2.symm]
        have bb := br_bd (i := (n : Int)) (l := ls) (.inl (lst_mem hz))
        have eg2 : (nums (fre n ls))[(lows (n : Int) ls).length - 1]? = some (.int (lst (lows n ls))) := by
          rw [List.getElem?_map, u4]
          rfl
        refine ⟨_, rfl, _, _, rfl, rfl, _, rfl, p, D, dx1, _, _, rfl, by rw [upd_ne np3]; exact hp1, T2.cl, T2.nH, kf_held _ _ _ _, _, rfl, _, rfl, _, _, rfl, rfl, g, _, _, .int (lst (lows n ls)), rfl, rfl, SqL.of (by rw [upd_ne g3]; exact eg), ?_,
          hd, _, _, _, rfl, rfl, by rw [upd_ne W1.n2]; exact W1.hh, ixP bb.1 bb.2, ?_⟩
        · rw [show ((lows (n : Int) ls).length : Int) - 1 = (((lows (n : Int) ls).length - 1 : Nat) : Int) by omega]
          exact atI_nat eg2
        rw [show (nums ls).set (lst (lows (n : Int) ls)).toNat (V.int ((n : Int) + 1)) = nums (upL n ls) by unfold nums upL; rw [List.map_set]]
        refine ⟨_, rfl, p, D, dx1, _, _, rfl, by rw [upd_ne np1, upd_ne np3]; exact hp1, T2.cl, T2.nF, kf_free _ _ _ _, _, rfl, _, _, rfl, rfl, fr, _, _, _, rfl, rfl, by rw [upd_ne W1.n1.symm, upd_ne W1.n3]; exact W1.hf, ex2, ?_⟩
        refine ⟨_, rfl, p, D, dx1, _, _, rfl, by rw [upd_ne np2, upd_ne np1, upd_ne np3]; exact hp1, T2.cl, T2.nF, kf_free _ _ _ _, _, rfl, _, _, rfl, rfl, fr, _, _, _, rfl, rfl, upd_same, ex3, ?_⟩
        exact ks _ en _ _ _ ((fr1.set _).set _) k3 (W1.step en d0 d1 d2 eix hg u1)
    · have ed : d = -(n : Int) := by
        unfold ix at eix
        rw [if_neg hpos] at eix
        omega
      subst ed
      refine ⟨_, rfl, _, rfl, _, _, rfl, rfl, _, rfl, ?_⟩
      rw [decide_eq_false hpos]
      refine iteF ⟨_, rfl, g, _, rfl, .inl (SqL.of eg), rfl, _, rfl, ?_⟩
      have edn : doneL (-(n : Int)) ls = if highs (n : Int) ls = [] then none else some (dnL n ls) := by
        unfold doneL
        rw [if_neg hpos, Int.neg_neg]
      rw [List.length_map]
      by_cases hz : highs (n : Int) ls = []
      · have en : doneL (-(n : Int)) ls = none := by rw [edn, if_pos hz]
        have e0 : (fre n ls).length = (lows n ls).length := by
          rw [eF, hz]
          rfl
        rw [e0]
        refine ite2 (fun _ => kn en _ _ _ fr1 k1 W1) (fun c => absurd (by simp) c)
      · have en : doneL (-(n : Int)) ls = some (dnL n ls) := by rw [edn, if_neg hz]
        obtain ⟨u1, u2, u3, u4⟩ := fre_dn hz
        refine ite2 (fun c => absurd (show (lows (n : Int) ls).length = (fre n ls).length by have q : ((lows (n : Int) ls).length : Int) = ((fre n ls).length : Int) := (by simpa using c); omega) u3) (fun _ => ?_)
        refine ⟨_, rfl, _, _, rfl, rfl, _, rfl, ?_⟩
        rw [decide_eq_false hpos]
        refine iteF ?_
        refine ⟨_, rfl, _, _, rfl, rfl, _, rfl, p, D, dx1, _, _, rfl, hp1, T2.cl, T2.nL, kf_low _ _ _ _, _, rfl, lw, _, _, n, rfl, rfl, W1.hl, ex1, ?_⟩
        rw [eL1 u2.symm]
        have bb := br_bd (i := (n : Int)) (l := ls) (.inr (fst_mem hz))
        have eg2 : (nums (fre n ls))[(lows (n : Int) ls).length]? = some (.int (fst (highs n ls))) := by
          rw [List.getElem?_map, u4]
          rfl
        refine ⟨_, rfl, _, rfl, p, D, dx1, _, _, rfl, by rw [upd_ne np3]; exact hp1, T2.cl, T2.nH, kf_held _ _ _ _, _, rfl, _, rfl, g, _, _, .int (fst (highs n ls)), rfl, rfl, SqL.of (by rw [upd_ne g3]; exact eg), atI_nat eg2,
          hd, _, _, _, rfl, rfl, by rw [upd_ne W1.n2]; exact W1.hh, ixP bb.1 bb.2, ?_⟩
        rw [show (nums ls).set (fst (highs (n : Int) ls)).toNat (V.int (n : Int)) = nums (dnL n ls) by unfold nums dnL; rw [List.map_set]]
        refine ⟨_, rfl, p, D, dx1, _, _, rfl, by rw [upd_ne np1, upd_ne np3]; exact hp1, T2.cl, T2.nF, kf_free _ _ _ _, _, rfl, _, _, rfl, rfl, fr, _, _, _, rfl, rfl, by rw [upd_ne W1.n1.symm, upd_ne W1.n3]; exact W1.hf, ex2, ?_⟩
        refine ⟨_, rfl, p, D, dx1, _, _, rfl, by rw [upd_ne np2, upd_ne np1, upd_ne np3]; exact hp1, T2.cl, T2.nF, kf_free _ _ _ _, _, rfl, _, _, rfl, rfl, fr, _, _, _, rfl, rfl, upd_same, ex3, ?_⟩
        exact ks _ en _ _ _ ((fr1.set _).set _) k3 (W1.step en d0 d1 d2 eix hg u1)
end
end Lw
/-! Run. A row of deeds done. -/
namespace Lw
open PySem L2 LwE LwM
structure Nums2 (mg : Str → Option Value) : Prop where
  mostD : ∃ t, mg "MOST_DEEDS" = some (.int 1000 t)
section
variable {P : Program} {w : World} {K : PySem.W.Frag} {mg : Str → Option Value} {base : Heap}
/-- a deed of the size -/
def Deed (size d : Int) : Prop := d ≠ 0 ∧ -(size - 1) ≤ d ∧ d ≤ size - 1
/-! is_deed -/
def spIsDeed : Sp := fun vs H Q _ => ∃ size d : Int, vs = [.int size, .int d] ∧ Deed size d ∧ Q (.bl true) H
theorem scIsDeed : FnScope ["size", "value"] ["size", "value"] (defScope sIsDeed) := ⟨rfl, rfl, rfl, by decide +kernel, rfl, by decide +kernel, by decide +kernel⟩
theorem ok_isdeed {f f1 : Addr} {fd fd1 : FuncData} (F : Df K mg "is_deed" sIsDeed f fd) (F1 : Df K mg "is_between" sBetween f1 fd1) (b1 : Binds K fd1 ["value", "least", "most"] [])
    (G1 : FnOk P w K mg base CX0 2 f1 fd1 ["value", "least", "most"] spBetween) : FnOk P w K mg base CX0 3 f fd ["size", "value"] spIsDeed := by
  refine F.fn.ok scIsDeed (fun vs H Q E h => ?_) (fun cdv A outer s H vs Q E hr h => ?_)
  · obtain ⟨size, d, rfl, _⟩ := h
    rfl
  · obtain ⟨size, d, rfl, ⟨d0, d1, d2⟩, k⟩ := h
    refine ⟨_, pss_one (ps_ret (pe_and (pe_call G1 hr (by rfl) F1.g F1.fn.kp b1 .nil pass0 (pa_cons (pv 1) (pa_cons (pe_op op_sub pe_int (pv 0)) (pa_cons (pe_op op_sub (pv 0) pe_int) pa_nil))))
      (pe_one (pe_cmpR op_ne (pv 1) pe_int (nomark _))))), ?_⟩
    refine ⟨_, rfl, _, rfl, _, _, rfl, rfl, _, rfl, _, _, rfl, rfl, d, 1 - size, size - 1, rfl, ?_⟩
    rw [decide_eq_true (show 1 - size ≤ d ∧ d ≤ size - 1 from ⟨by omega, by omega⟩)]
    refine ⟨true, rfl, iteT ⟨_, rfl, rfl, ?_⟩⟩
    have e : (!decide (V.int d = V.int 0)) = true := by simp [d0]
    rw [e]
    exact k
/-! check_row -/
def spCkRow : Sp := fun vs H Q _ => ∃ (size : Int) (r : Addr) (row : List Int), vs = [.int size, .ref r] ∧ H r = some (.lst (nums row)) ∧ row.length ≤ 1000 ∧ (∀ d ∈ row, Deed size d) ∧ ∀ H', Same H H' → Q .non H'
theorem scCkRow : FnScope ["size", "row", "place", "deed"] ["size", "row"] (defScope sCkRow) := ⟨rfl, rfl, rfl, by decide +kernel, rfl, by decide +kernel, by decide +kernel⟩
theorem ok_ckrow {f f1 f2 : Addr} {fd fd1 fd2 : FuncData} (B : Bare mg) (N : Nums2 mg) (F : Df K mg "check_row" sCkRow f fd) (F1 : Df K mg "is_listing" sListing f1 fd1) (b1 : Binds K fd1 ["value"] []) (G1 : FnOk P w K mg base CX0 1 f1 fd1 ["value"] spListing)
    (F2 : Df K mg "is_deed" sIsDeed f2 fd2) (b2 : Binds K fd2 ["size", "value"] []) (G2 : FnOk P w K mg base CX0 3 f2 fd2 ["size", "value"] spIsDeed) : FnOk P w K mg base CX0 4 f fd ["size", "row"] spCkRow := by
  refine F.fn.ok scCkRow (fun vs H Q E h => ?_) (fun cdv A outer s H vs Q E hr h => ?_)
  · obtain ⟨size, r, row, rfl, _⟩ := h
    rfl
  · obtain ⟨size, r, row, rfl, hq, hlen, hd, k⟩ := h
    obtain ⟨t3, e3⟩ := N.mostD
    have hr1 : Room 1 _ := hr.mono (by decide)
    refine ⟨_, pss_cons (ps_if (PW.pt (pw_or (pt_not (pt_val (pe_call G1 hr1 (by rfl) F1.g F1.fn.kp b1 .nil pass0 (pa_cons (pv 1) pa_nil))))
        (pw_or1 (pt_cmpR op_gt (pe_callB call_len_seq (by rfl) B.len PySem.boot_len (pa_cons (pv 1) pa_nil)) (pe_glob (v := .int 1000) (by rfl) e3 ⟨_, rfl⟩) (nomark _))))) pss_never pss_nil)
      (pss_one (ps_for PassesOwn.never rfl (pi_enum (by rfl) B.enumerate (pa_cons (pv 1) pa_nil)) (pg_tup rfl (pgs_cons (pg_name (i := 2) scCkRow.nd rfl (Or.inl rfl)) (pgs_cons (pg_name (i := 3) scCkRow.nd rfl (Or.inl rfl)) pgs_nil)))
        (pss_one (ps_if (pt_not (pt_val (pe_call G2 hr (by rfl) F2.g F2.fn.kp b2 .nil pass0 (pa_cons (pv 0) (pa_cons (pv 3) pa_nil))))) pss_never pss_nil)))), ?_⟩
    refine ⟨_, rfl, r, rfl, .inl ⟨_, hq⟩, fun H1 s1 => ⟨true, rfl, iteF ?_⟩⟩
    refine ⟨_, rfl, r, _, rfl, .inl (SqL.of (s1 _ _ hq)), _, _, rfl, rfl, _, rfl, ?_⟩
    rw [decide_eq_false (show ¬ ((1000 : Int) < (((nums row).length : Nat) : Int)) by rw [List.length_map]; omega)]
    refine iteF ?_
    refine ⟨_, rfl, r, _, rfl, SqL.of (s1 _ _ hq), for_enL (K := K) (a := r) (xs := nums row) (fun i σ H2 => ∃ v2 v3 : Option V, σ = [some (.int size), some (.ref r), v2, v3] ∧ Same H H2) ⟨_, _, rfl, s1⟩
      (fun i σ H2 _ ⟨_, _, _, s2⟩ => SqL.of (s2 _ _ hq)) ?_ ?_⟩
    · rintro i x T σ H2 hx ⟨v2, v3, rfl, s2⟩ hT
      obtain ⟨z, rfl, _, hz⟩ := nums_get hx
      refine ⟨T, _, rfl, SqT.of upd_same, rfl, _, _, rfl, _, _, rfl, rfl, ?_⟩
      exact ⟨_, rfl, _, rfl, size, z, rfl, hd z hz, true, rfl, iteF ⟨_, _, rfl, s2.trans (same_new hT)⟩⟩
    · rintro σ H2 ⟨v2, v3, rfl, s2⟩
      exact k H2 s2
/-! Walk(word), followed -/
structure Wi_ (P : Program) (w : World) (K : PySem.W.Frag) (mg : Str → Option Value) (base : Heap) (C D : Addr) (fW : Addr) (fdW : FuncData) : Prop where
  m : Mk K D fW
  ok : FnOk P w K mg base CX0 1 fW fdW ["self", "word"] (spWalk C D)
  b : Binds K fdW ["self", "word"] []
structure Go_ (P : Program) (w : World) (K : PySem.W.Frag) (mg : Str → Option Value) (base : Heap) (D : Addr) (f : Addr) (fd : FuncData) : Prop where
  m : Meth K D "go" f
  ok : FnOk P w K mg base CX0 3 f fd ["self", "deed"] (spGo D)
  b : Binds K fd ["self", "deed"] []
theorem made_same {C x dx : Addr} {H : Hp} (nx : H x = none) (ndx : H dx = none) : Same H (upd (upd H dx (.own x)) x (.ins C dx [])) := fun b o e => by
  rw [upd_ne (ne_of_none e nx), upd_ne (ne_of_none e ndx)]
  exact e
theorem K3.same {hd fr lw : Addr} {H0 H H' : Hp} (s : Same H0 H) (k : K3 hd fr lw H H') (n1 : H0 hd = none) (n2 : H0 fr = none) (n3 : H0 lw = none) : Same H0 H' := fun b o e =>
  k b o (s b o e) (ne_of_none e n1) (ne_of_none e n2) (ne_of_none e n3)
def spFollowed (C D : Addr) : Sp := fun vs H Q _ => ∃ (a r : Addr) (size : Int) (l row z : List Int), vs = [.ref a, .ref r] ∧ WAt C H a size l ∧ H r = some (.lst (nums row)) ∧ row.length ≤ 1000 ∧ (∀ d ∈ row, Deed size d) ∧ runL row l = some z ∧
  ∀ q x hd fr lw fs los H', Same H H' → H' q = some (.tup [.ref x, .non]) → Wk D H' x hd fr lw size z fs los → Q (.ref q) H'
theorem scFollowed : FnScope ["word", "row", "walk", "place", "deed"] ["word", "row"] (defScope sFollowed) := ⟨rfl, rfl, rfl, by decide +kernel, rfl, by decide +kernel, by decide +kernel⟩
theorem runL_take {row l : List Int} {z : List Int} (h : runL row l = some z) {j : Nat} {d : Int} (hj : row[j]? = some d) : ∃ a b, runL (row.take j) l = some a ∧ doneL d a = some b ∧ runL (row.take (j + 1)) l = some b := by
  have hjl := (List.getElem?_eq_some_iff.mp hj).1
  have e : row = row.take j ++ d :: row.drop (j + 1) := by
    have e2 : row[j] = d := (List.getElem?_eq_some_iff.mp hj).2
    have e3 := List.take_append_drop j row
    rw [List.drop_eq_getElem_cons hjl, e2] at e3
    exact e3.symm
  have en : row.take (j + 1) = row.take j ++ [d] := by
    rw [List.take_succ, hj]
    rfl
  rw [e, runL_app] at h
  cases ha : runL (row.take j) l with
  | none =>
    rw [ha] at h
    cases h
  | some a =>
    rw [ha] at h
    obtain ⟨b, h1, _⟩ := runL_split (show runL (d :: row.drop (j + 1)) a = some z from h)
    refine ⟨a, b, rfl, h1, ?_⟩
    rw [en, runL_app, ha]
    show runL [d] a = some b
    rw [runL_cons h1]
    rfl
theorem ok_followed {f fW fG C D : Addr} {fd fdW fdG : FuncData} (B : Bare mg) (T2 : Cwk K mg D) (F : Df K mg "followed" sFollowed f fd) (I : Wi_ P w K mg base C D fW fdW) (G : Go_ P w K mg base D fG fdG) :
    FnOk P w K mg base CX0 4 f fd ["word", "row"] (spFollowed C D) := by
  refine F.fn.ok scFollowed (fun vs H Q E h => ?_) (fun cdv A outer s H vs Q E hr h => ?_)
  · obtain ⟨a, r, size, l, row, z, rfl, _⟩ := h
    rfl
  · obtain ⟨a, r, size, l, row, z, rfl, W, hq, hlen, hd, hz, k⟩ := h
    have hr2 : Room 2 _ := hr.mono (by decide)
    refine ⟨_, pss_cons (ps_set (i := 2) scFollowed.nd rfl (Or.inl rfl) (pe_make I.m I.ok hr2 (by rfl) T2.mgC I.b .nil pass0 (pa_cons (pv 0) pa_nil)))
      (pss_cons (ps_for PassesOwn.never rfl (pi_enum (by rfl) B.enumerate (pa_cons (pv 1) pa_nil)) (pg_tup rfl (pgs_cons (pg_name (i := 3) scFollowed.nd rfl (Or.inl rfl)) (pgs_cons (pg_name (i := 4) scFollowed.nd rfl (Or.inl rfl)) pgs_nil)))
        (pss_one (ps_if (pt_not (pt_val (pe_meth (pv 2) T2.cl G.m G.ok hr G.b .nil pass0 (pa_cons (pv 4) pa_nil)))) pss_never pss_nil)))
      (pss_one (ps_ret (pe_tup (pa_cons (pv 2) (pa_cons pe_non pa_nil)))))), ?_⟩
    refine ⟨_, rfl, ?_⟩
    intro x dx nx ndx ne
    have s0 := made_same (C := D) nx ndx
    refine ⟨x, dx, a, size, l, rfl, upd_same, W.same s0, fun H1 hd1 fr lw fs los kp nhd nfr nlw Z => ⟨rfl, ?_⟩⟩
    have s1 : Same H H1 := Same.made nx ndx kp
    replace nhd := s0.free nhd
    replace nfr := s0.free nfr
    replace nlw := s0.free nlw
    refine ⟨_, rfl, r, _, rfl, SqL.of (s1 _ _ hq), for_enL (K := K) (a := r) (xs := nums row) (fun i σ H2 => ∃ (v3 v4 : Option V) (c : List Int) (fs2 : List V) (los2 : List Int), σ = [some (.ref a), some (.ref r), some (.ref x), v3, v4] ∧ Same H H2 ∧
      runL (row.take i) l = some c ∧ Wk D H2 x hd1 fr lw size c fs2 los2) ⟨_, _, l, fs, los, rfl, s1, rfl, Z⟩ (fun i σ H2 _ ⟨_, _, _, _, _, _, s2, _⟩ => SqL.of (s2 _ _ hq)) ?_ ?_⟩
    · rintro i y T σ H2 hx ⟨v3, v4, c, fs2, los2, rfl, s2, hc, Z2⟩ hT
      obtain ⟨d, rfl, hj, hdm⟩ := nums_get hx
      obtain ⟨c1, b, g1, g2, g3⟩ := runL_take hz hj
      rw [hc] at g1
      cases g1
      have sT := same_new (o := .tup [.int (i : Nat), .int d]) hT
      have Z3 := Z2.same sT
      obtain ⟨dx, hp⟩ := Z3.hp
      obtain ⟨d0, d1, d2⟩ := hd d hdm
      refine ⟨T, _, rfl, SqT.of upd_same, rfl, _, _, rfl, _, _, rfl, rfl, ?_⟩
      refine ⟨_, rfl, x, dx, _, rfl, hp, kf_no _ _ _ _ (by decide +kernel) (by decide +kernel) (by decide +kernel) (by decide +kernel), _, rfl, x, hd1, fr, lw, d, size, c, fs2, los2, rfl, Z3, d0, d1, d2, (fun e => by rw [g2] at e; cases e), fun r2 e H3 fs3 los3 _ k3 Z4 => ?_⟩
      rw [g2] at e
      cases e
      exact ⟨true, rfl, iteF ⟨_, _, b, fs3, los3, rfl, K3.same (s2.trans sT) k3 nhd nfr nlw, g3, Z4⟩⟩
    · rintro σ H2 ⟨v3, v4, c, fs2, los2, rfl, s2, hc, Z2⟩
      rw [List.length_map, List.take_length, hz] at hc
      cases hc
      refine ⟨_, rfl, (by show 2 ≤ sizeLine; decide), fun q hq2 => ?_⟩
      exact k q x hd1 fr lw fs2 los2 _ (s2.trans (same_new hq2)) upd_same (Z2.same (same_new hq2))
/-! reached -/
def spReached (C D : Addr) : Sp := fun vs H Q _ => ∃ (x hd fr lw : Addr) (size : Int) (ls : List Int) (fs : List V) (los : List Int), vs = [.ref x] ∧ Wk D H x hd fr lw size ls fs los ∧ ∀ b H', Same H H' → H b = none → WAt C H' b size ls → Q (.ref b) H'
theorem scReached : FnScope ["self"] ["self"] (defScope sReached) := ⟨rfl, rfl, rfl, by decide +kernel, rfl, by decide +kernel, by decide +kernel⟩
theorem ok_reached {f fI C D : Addr} {fd fdI : FuncData} (T : Cw K mg C) (T2 : Cwk K mg D) (F : Fun K "reached" "Walk.reached" sReached f fd) (I : In_ P w K mg base C fI fdI) : FnOk P w K mg base CX0 6 f fd ["self"] (spReached C D) := by
  refine F.ok scReached (fun vs H Q E h => ?_) (fun cdv A outer s H vs Q E hr h => ?_)
  · obtain ⟨x, hd, fr, lw, size, ls, fs, los, rfl, _⟩ := h
    rfl
  · obtain ⟨x, hd, fr, lw, size, ls, fs, los, rfl, Z, k⟩ := h
    obtain ⟨dx, hp⟩ := Z.hp
    refine ⟨_, pss_one (ps_ret (pe_make I.m I.ok hr (by rfl) T.mgC I.b .nil pass0 (pa_cons (pe_fld (pv 0) rfl) (pa_cons (pe_fld (pv 0) rfl) pa_nil)))), ?_⟩
    refine ⟨_, rfl, x, D, dx, _, _, rfl, hp, T2.cl, T2.nS, kf_size _ _ _ _, _, rfl, x, D, dx, _, _, rfl, hp, T2.cl, T2.nH, kf_held _ _ _ _, ?_⟩
    exact made (.inl Z.hh) Z.L fun b H' s nb W => k b H' s nb W
/-! run -/
structure Re_ (P : Program) (w : World) (K : PySem.W.Frag) (mg : Str → Option Value) (base : Heap) (C D : Addr) (f : Addr) (fd : FuncData) : Prop where
  m : Meth K D "reached" f
  ok : FnOk P w K mg base CX0 6 f fd ["self"] (spReached C D)
  b : Binds K fd ["self"] []
def spRun (C : Addr) : Sp := fun vs H Q _ => ∃ (a r : Addr) (size : Int) (l row z : List Int), vs = [.ref a, .ref r] ∧ WAt C H a size l ∧ H r = some (.lst (nums row)) ∧ row.length ≤ 100 ∧ (∀ d ∈ row, d ≠ 0 ∧ -(size - 1) ≤ d ∧ d ≤ size - 1) ∧ runL row l = some z ∧ ∀ b H', Same H H' → WAt C H' b size z → Q (.ref b) H'
theorem scRun : FnScope ["word", "row", "walk", "stuck"] ["word", "row"] (defScope sRun) := ⟨rfl, rfl, rfl, by decide +kernel, rfl, by decide +kernel, by decide +kernel⟩
theorem ok_run {f f1 f2 fR C D : Addr} {fd fd1 fd2 fdR : FuncData} (T : Cw K mg C) (T2 : Cwk K mg D) (F : Df K mg "run" sRun f fd) (F1 : Df K mg "check_row" sCkRow f1 fd1) (b1 : Binds K fd1 ["size", "row"] []) (G1 : FnOk P w K mg base CX0 4 f1 fd1 ["size", "row"] spCkRow)
    (F2 : Df K mg "followed" sFollowed f2 fd2) (b2 : Binds K fd2 ["word", "row"] []) (G2 : FnOk P w K mg base CX0 4 f2 fd2 ["word", "row"] (spFollowed C D)) (R : Re_ P w K mg base C D fR fdR) : FnOk P w K mg base CX0 9 f fd ["word", "row"] (spRun C) := by
  refine F.fn.ok scRun (fun vs H Q E h => ?_) (fun cdv A outer s H vs Q E hr h => ?_)
  · obtain ⟨a, r, size, l, row, z, rfl, _⟩ := h
    rfl
  · obtain ⟨a, r, size, l, row, z, rfl, W, hq, hlen, hd, hz, k⟩ := h
    have hr4 : Room 4 _ := hr.mono (by decide)
    have hr6 : Room 6 _ := hr.mono (by decide)
    refine ⟨_, pss_cons (ps_expr (pe_call G1 hr4 (by rfl) F1.g F1.fn.kp b1 .nil pass0 (pa_cons (pe_fld (pv 0) rfl) (pa_cons (pv 1) pa_nil))))
      (pss_cons (ps_asg (pe_call G2 hr4 (by rfl) F2.g F2.fn.kp b2 .nil pass0 (pa_cons (pv 0) (pa_cons (pv 1) pa_nil))) (pg_tup rfl (pgs_cons (pg_name (i := 2) scRun.nd rfl (Or.inl rfl)) (pgs_cons (pg_name (i := 3) scRun.nd rfl (Or.inl rfl)) pgs_nil))))
      (pss_cons (ps_if (pt_cmp (pc_notN (pv 3))) pss_never pss_nil)
      (pss_one (ps_ret (pe_meth0 (pv 2) T2.cl R.m R.ok hr6 R.b .nil pass0))))), ?_⟩
    obtain ⟨dx, t, h1, h2⟩ := W.ob
    refine ⟨_, rfl, a, C, dx, _, _, rfl, h1, T.cl, T.nS, wf_size _ _, _, rfl, size, r, row, rfl, hq, by omega, hd, fun H1 s1 => ?_⟩
    refine ⟨_, rfl, _, rfl, a, r, size, l, row, z, rfl, W.same s1, s1 _ _ hq, by omega, hd, hz, fun q x hd1 fr lw fs los H2 s2 eq Z => ?_⟩
    refine ⟨q, _, rfl, SqT.of eq, rfl, _, _, rfl, _, _, rfl, rfl, ?_⟩
    refine ⟨_, rfl, _, rfl, iteF ?_⟩
    obtain ⟨dy, hp⟩ := Z.hp
    exact ⟨_, rfl, x, dy, _, rfl, hp, kf_no _ _ _ _ (by decide +kernel) (by decide +kernel) (by decide +kernel) (by decide +kernel), x, hd1, fr, lw, size, z, fs, los, rfl, Z, fun b H' s3 nb Wb => k b H' ((s1.trans s2).trans s3) Wb⟩
end
end Lw
/-! Cr. Deeds on words put together; neighbors exchanged. -/
namespace LwM
def U (i : Int) (l : List Int) : Option (List Int) := if lows i l = [] then none else some (upL i l)
def D (i : Int) (l : List Int) : Option (List Int) := if highs i l = [] then none else some (dnL i l)
theorem doneL_pos {d : Int} (h : 0 < d) (l : List Int) : doneL d l = U d l := by
  unfold doneL U
  rw [if_pos h]
theorem doneL_neg {d : Int} (h : ¬ 0 < d) (l : List Int) : doneL d l = D (-d) l := by
  unfold doneL D
  rw [if_neg h]
theorem lst_map (l : List Int) (c : Int) (h : l ≠ []) : lst (l.map (· + c)) = lst l + c := by
  unfold lst
  rw [List.getLast?_map]
  cases e : l.getLast? with
  | none => exact absurd (List.getLast?_eq_none_iff.mp e) h
  | some a => rfl
theorem fst_map (l : List Int) (c : Int) (h : l ≠ []) : fst (l.map (· + c)) = fst l + c := by
  cases l with
  | nil => exact absurd rfl h
  | cons a l => rfl
theorem fst_app (l r : List Int) (h : l ≠ []) : fst (l ++ r) = fst l := by
  cases l with
  | nil => exact absurd rfl h
  | cons a l => rfl
theorem lst_drop (l : List Int) (k : Nat) (h : l.drop k ≠ []) : lst (l.drop k) = lst l := by
  have e := List.take_append_drop k l
  have q := lst_app (l.take k) (l.drop k) h
  rw [e] at q
  exact q.symm
theorem fst_take (l : List Int) (k : Nat) (h : l.take k ≠ []) : fst (l.take k) = fst l := by
  have e := List.take_append_drop k l
  have q := fst_app (l.take k) (l.drop k) h
  rw [e] at q
  exact q.symm
theorem U_app (i : Int) (a b : List Int) : U i (a ++ b) = if dn i a < up i b then (U i b).map (a ++ ·) else (U i a).map (· ++ b) := by
  have hl := lows_app i a b
  by_cases c : dn i a < up i b
  · rw [if_pos c]
    have hb : lows i b ≠ [] := by
      intro z
      unfold up at c
      rw [z] at c
      simp at c
    have hX : ((lows i b).map (· + (a.length : Int))).drop (highs i a).length ≠ [] := by
      intro z
      have q := congrArg List.length z
      rw [List.length_drop, List.length_map] at q
      unfold up dn at c
      simp at q
      omega
    have hne : lows i (a ++ b) ≠ [] := by
      rw [hl]
      intro z
      exact hX (List.append_eq_nil_iff.mp z).2
    unfold U
    rw [if_neg hne, if_neg hb]
    show some (upL i (a ++ b)) = some (a ++ upL i b)
    have bb := br_bd (i := i) (l := b) (.inl (lst_mem hb))
    have e1 : lst (lows i (a ++ b)) = lst (lows i b) + (a.length : Int) := by
      rw [hl, lst_app _ _ hX, lst_drop _ _ hX, lst_map _ _ hb]
    unfold upL
    rw [e1]
    have e2 : (lst (lows i b) + (a.length : Int)).toNat = a.length + (lst (lows i b)).toNat := by omega
    rw [e2, List.set_append_right _ _ (by omega)]
    congr 2
    rw [Nat.add_sub_cancel_left]
  · rw [if_neg c]
    have hX : ((lows i b).map (· + (a.length : Int))).drop (highs i a).length = [] := by
      apply List.drop_eq_nil_of_le
      rw [List.length_map]
      unfold up dn at c
      omega
    rw [hX, List.append_nil] at hl
    unfold U
    rw [hl]
    by_cases ha : lows i a = []
    · rw [if_pos ha, if_pos ha]
      rfl
    · rw [if_neg ha, if_neg ha]
      show some (upL i (a ++ b)) = some (upL i a ++ b)
      have bb := br_bd (i := i) (l := a) (.inl (lst_mem ha))
      unfold upL
      rw [hl, List.set_append_left _ _ (by omega)]
theorem D_app (i : Int) (a b : List Int) : D i (a ++ b) = if up i b < dn i a then (D i a).map (· ++ b) else (D i b).map (a ++ ·) := by
  have hl := highs_app i a b
  by_cases c : up i b < dn i a
  · rw [if_pos c]
    have ha : highs i a ≠ [] := by
      intro z
      unfold dn at c
      rw [z] at c
      simp at c
    have hX : (highs i a).take ((highs i a).length - (lows i b).length) ≠ [] := by
      intro z
      have q := congrArg List.length z
      rw [List.length_take] at q
      unfold up dn at c
      simp at q
      omega
    have hne : highs i (a ++ b) ≠ [] := by
      rw [hl]
      intro z
      exact hX (List.append_eq_nil_iff.mp z).1
    unfold D
    rw [if_neg hne, if_neg ha]
    show some (dnL i (a ++ b)) = some (dnL i a ++ b)
    have bb := br_bd (i := i) (l := a) (.inr (fst_mem ha))
    have e1 : fst (highs i (a ++ b)) = fst (highs i a) := by
      rw [hl, fst_app _ _ hX, fst_take _ _ hX]
    unfold dnL
    rw [e1, List.set_append_left _ _ (by omega)]
  · rw [if_neg c]
    have hX : (highs i a).take ((highs i a).length - (lows i b).length) = [] := by
      have e : (highs i a).length - (lows i b).length = 0 := by
        unfold up dn at c
        omega
      rw [e, List.take_zero]
    rw [hX, List.nil_append] at hl
    unfold D
    rw [hl]
    by_cases hb : highs i b = []
    · rw [hb]
      rfl
    · rw [if_neg hb, if_neg (by intro z; exact hb (List.map_eq_nil_iff.mp z))]
      show some (dnL i (a ++ b)) = some (a ++ dnL i b)
      have bb := br_bd (i := i) (l := b) (.inr (fst_mem hb))
      unfold dnL
      rw [hl, fst_map _ _ hb]
      have e2 : (fst (highs i b) + (a.length : Int)).toNat = a.length + (fst (highs i b)).toNat := by omega
      rw [e2, List.set_append_right _ _ (by omega)]
      congr 2
      rw [Nat.add_sub_cancel_left]
/-- which of two words put together a deed changes -/
def Lft (d : Int) (a b : List Int) : Prop := if 0 < d then ¬ dn d a < up d b else up (-d) b < dn (-d) a
instance (d : Int) (a b : List Int) : Decidable (Lft d a b) := by
  unfold Lft
  infer_instance
theorem Lft_pos {d : Int} (h : 0 < d) (a b : List Int) : Lft d a b ↔ ¬ dn d a < up d b := by
  unfold Lft
  rw [if_pos h]
theorem Lft_neg {d : Int} (h : ¬ 0 < d) (a b : List Int) : Lft d a b ↔ up (-d) b < dn (-d) a := by
  unfold Lft
  rw [if_neg h]
theorem done_app (d : Int) (a b : List Int) : doneL d (a ++ b) = if Lft d a b then (doneL d a).map (· ++ b) else (doneL d b).map (a ++ ·) := by
  by_cases h : 0 < d
  · rw [doneL_pos h, doneL_pos h, doneL_pos h, U_app]
    by_cases c : dn d a < up d b
    · rw [if_pos c, if_neg (fun z => (Lft_pos h a b).mp z c)]
    · rw [if_neg c, if_pos ((Lft_pos h a b).mpr c)]
  · rw [doneL_neg h, doneL_neg h, doneL_neg h, D_app]
    by_cases c : up (-d) b < dn (-d) a
    · rw [if_pos c, if_pos ((Lft_neg h a b).mpr c)]
    · rw [if_neg c, if_neg (fun z => c ((Lft_neg h a b).mp z))]
/-- the same numbers -/
def Nn (u v : List Int) : Prop := ∀ i, up i u = up i v ∧ dn i u = dn i v
theorem Nn.rfl' (u : List Int) : Nn u u := fun _ => ⟨rfl, rfl⟩
theorem Nn.symm {u v : List Int} (h : Nn u v) : Nn v u := fun i => ⟨(h i).1.symm, (h i).2.symm⟩
theorem Nn.trans {u v w : List Int} (h : Nn u v) (k : Nn v w) : Nn u w := fun i => ⟨(h i).1.trans (k i).1, (h i).2.trans (k i).2⟩
theorem Nn.app {u v p q : List Int} (h : Nn u v) (k : Nn p q) : Nn (u ++ p) (v ++ q) := fun i => by
  rw [up_app, up_app, dn_app, dn_app, (h i).1, (h i).2, (k i).1, (k i).2]
  exact ⟨rfl, rfl⟩
theorem Nn.lft {u v p q : List Int} (h : Nn u v) (k : Nn p q) (d : Int) : Lft d u p ↔ Lft d v q := by
  unfold Lft
  rw [(h d).2, (k d).1, (h (-d)).2, (k (-d)).1]
theorem none_iff (d : Int) (l : List Int) : doneL d l = none ↔ (if 0 < d then up d l = 0 else dn (-d) l = 0) := by
  by_cases h : 0 < d
  · rw [doneL_pos h, if_pos h]
    unfold U up
    by_cases c : lows d l = []
    · simp [c]
    · simp [c]
  · rw [doneL_neg h, if_neg h]
    unfold D dn
    by_cases c : highs (-d) l = []
    · simp [c]
    · simp [c]
/-- three neighbors exchanged, as letters are inserted -/
inductive K3 : List Int → List Int → Prop
  | F {a y b : Int} : a ≤ b → b < y → K3 [a, y, b] [y, a, b]
  | L {a z x : Int} : x < a → a ≤ z → K3 [a, z, x] [a, x, z]
theorem U_one (i x : Int) : U i [x] = if x = i then some [i + 1] else none := by
  unfold U
  by_cases h : x = i
  · subst h
    rw [if_pos rfl, (one_i x).1, if_neg (by simp)]
    unfold upL
    rw [(one_i x).1]
    rfl
  · have e : up i [x] = 0 := by rw [one_up, if_neg h]
    rw [if_neg h, nil_of_up' e, if_pos rfl]
where nil_of_up' {i x : Int} (h : up i [x] = 0) : lows i [x] = [] := List.length_eq_zero_iff.mp h
      one_i (i : Int) : lows i [i] = [0] ∧ highs i [i] = [] := by
        have h : ¬ (i = i + 1) := by omega
        unfold lows highs br go go stp
        simp [h]
theorem D_one (i x : Int) : D i [x] = if x = i + 1 then some [i] else none := by
  unfold D
  by_cases h : x = i + 1
  · subst h
    rw [if_pos rfl, one_i1', if_neg (by simp)]
    unfold dnL
    rw [one_i1']
    rfl
  · have e : dn i [x] = 0 := by rw [one_dn, if_neg h]
    have e2 : highs i [x] = [] := List.length_eq_zero_iff.mp e
    rw [if_neg h, e2, if_pos rfl]
where one_i1' {i : Int} : highs i [i + 1] = [0] := by
        unfold highs br go go stp
        simp
theorem up3 (i a b c : Int) : up i [a, b, c] = up i [a] + ((up i [b] + (up i [c] - dn i [b])) - dn i [a]) := by
  have h1 := up_app i [a] [b, c]
  have h2 := up_app i [b] [c]
  have e1 : [a] ++ [b, c] = [a, b, c] := rfl
  have e2 : [b] ++ [c] = [b, c] := rfl
  rw [e1] at h1
  rw [e2] at h2
  rw [h1, h2]
theorem dn3 (i a b c : Int) : dn i [a, b, c] = (dn i [a] - (up i [b] + (up i [c] - dn i [b]))) + ((dn i [b] - up i [c]) + dn i [c]) := by
  have h1 := dn_app i [a] [b, c]
  have h2 := dn_app i [b] [c]
  have h3 := up_app i [b] [c]
  have e1 : [a] ++ [b, c] = [a, b, c] := rfl
  have e2 : [b] ++ [c] = [b, c] := rfl
  rw [e1] at h1
  rw [e2] at h2 h3
  rw [h1, h2, h3]
theorem U3 (i a b c : Int) : U i [a, b, c] = if dn i [a] < up i [b] + (up i [c] - dn i [b]) then (if dn i [b] < up i [c] then (U i [c]).map ([b] ++ ·) else (U i [b]).map (· ++ [c])).map ([a] ++ ·) else (U i [a]).map (· ++ [b, c]) := by
  have h1 := U_app i [a] [b, c]
  have h2 := U_app i [b] [c]
  have h3 := up_app i [b] [c]
  have e1 : [a] ++ [b, c] = [a, b, c] := rfl
  have e2 : [b] ++ [c] = [b, c] := rfl
  rw [e1] at h1
  rw [e2] at h2 h3
  rw [h1, h2, h3]
theorem D3 (i a b c : Int) : D i [a, b, c] = if up i [b] + (up i [c] - dn i [b]) < dn i [a] then (D i [a]).map (· ++ [b, c]) else (if up i [c] < dn i [b] then (D i [b]).map (· ++ [c]) else (D i [c]).map ([b] ++ ·)).map ([a] ++ ·) := by
  have h1 := D_app i [a] [b, c]
  have h2 := D_app i [b] [c]
  have h3 := up_app i [b] [c]
  have e1 : [a] ++ [b, c] = [a, b, c] := rfl
  have e2 : [b] ++ [c] = [b, c] := rfl
  rw [e1] at h1
  rw [e2] at h2 h3
  rw [h1, h2, h3]
theorem K3.nn {u v : List Int} (h : K3 u v) : Nn u v := fun i => by
  cases h with
  | F h1 h2 =>
    rw [up3, up3, dn3, dn3]
    simp only [one_up, one_dn]
    constructor <;> (repeat' split) <;> omega
  | L h1 h2 =>
    rw [up3, up3, dn3, dn3]
    simp only [one_up, one_dn]
    constructor <;> (repeat' split) <;> omega
end LwM
namespace LwM
theorem tri (i x : Int) : x = i ∨ x = i + 1 ∨ (¬ x = i ∧ ¬ x = i + 1) := by omega
theorem K3.U {i : Int} {u v u' : List Int} (h : K3 u v) (hd : LwM.U i u = some u') : ∃ v', LwM.U i v = some v' ∧ K3 u' v' := by
  have n1 : ¬ (i = i + 1) := by omega
  have n2 : ¬ (i + 1 = i) := by omega
  cases h with
  | @F a y b h1 h2 =>
    rw [U3] at hd ⊢
    simp only [one_up, one_dn, U_one] at hd ⊢
    rcases tri i a with ha | ha | ⟨ha, ha'⟩ <;> rcases tri i y with hy | hy | ⟨hy, hy'⟩ <;> rcases tri i b with hb | hb | ⟨hb, hb'⟩ <;> first
      | (exfalso; omega)
      | (simp [*] at hd; done)
      | (simp [*] at hd ⊢; subst hd; first | exact .F (by omega) (by omega) | exact .L (by omega) (by omega))
  | @L a z x h1 h2 =>
    rw [U3] at hd ⊢
    simp only [one_up, one_dn, U_one] at hd ⊢
    rcases tri i a with ha | ha | ⟨ha, ha'⟩ <;> rcases tri i z with hy | hy | ⟨hy, hy'⟩ <;> rcases tri i x with hb | hb | ⟨hb, hb'⟩ <;> first
      | (exfalso; omega)
      | (simp [*] at hd; done)
      | (simp [*] at hd ⊢; subst hd; first | exact .F (by omega) (by omega) | exact .L (by omega) (by omega))
theorem K3.D {i : Int} {u v u' : List Int} (h : K3 u v) (hd : LwM.D i u = some u') : ∃ v', LwM.D i v = some v' ∧ K3 u' v' := by
  have n1 : ¬ (i = i + 1) := by omega
  have n2 : ¬ (i + 1 = i) := by omega
  cases h with
  | @F a y b h1 h2 =>
    rw [D3] at hd ⊢
    simp only [one_up, one_dn, D_one] at hd ⊢
    rcases tri i a with ha | ha | ⟨ha, ha'⟩ <;> rcases tri i y with hy | hy | ⟨hy, hy'⟩ <;> rcases tri i b with hb | hb | ⟨hb, hb'⟩ <;> first
      | (exfalso; omega)
      | (simp [*] at hd; done)
      | (simp [*] at hd ⊢; subst hd; first | exact .F (by omega) (by omega) | exact .L (by omega) (by omega))
  | @L a z x h1 h2 =>
    rw [D3] at hd ⊢
    simp only [one_up, one_dn, D_one] at hd ⊢
    rcases tri i a with ha | ha | ⟨ha, ha'⟩ <;> rcases tri i z with hy | hy | ⟨hy, hy'⟩ <;> rcases tri i x with hb | hb | ⟨hb, hb'⟩ <;> first
      | (exfalso; omega)
      | (simp [*] at hd; done)
      | (simp [*] at hd ⊢; subst hd; first | exact .F (by omega) (by omega) | exact .L (by omega) (by omega))
theorem K3.done {d : Int} {u v u' : List Int} (h : K3 u v) (hd : doneL d u = some u') : ∃ v', doneL d v = some v' ∧ K3 u' v' := by
  by_cases c : 0 < d
  · rw [doneL_pos c] at hd ⊢
    exact h.U hd
  · rw [doneL_neg c] at hd ⊢
    exact h.D hd
/-- one exchange somewhere in a word -/
inductive Kw : List Int → List Int → Prop
  | mk {p s t t' : List Int} : K3 t t' → Kw (p ++ (t ++ s)) (p ++ (t' ++ s))
/-- exchanges one after another -/
inductive Kn : List Int → List Int → Prop
  | refl {u : List Int} : Kn u u
  | step {u v w : List Int} : Kw u v → Kn v w → Kn u w
theorem Kw.nn {u v : List Int} (h : Kw u v) : Nn u v := by
  cases h with
  | mk k => exact (Nn.rfl' _).app (k.nn.app (Nn.rfl' _))
theorem Kw.done {d : Int} {u v u' : List Int} (h : Kw u v) (hd : doneL d u = some u') : ∃ v', doneL d v = some v' ∧ Kw u' v' := by
  cases h with
  | @mk p s t t' k =>
    have n1 := k.nn.app (Nn.rfl' s)
    rw [done_app] at hd ⊢
    by_cases c : Lft d p (t ++ s)
    · rw [if_pos c] at hd
      rw [if_pos (((Nn.rfl' p).lft n1 d).mp c)]
      cases e : doneL d p with
      | none =>
        rw [e] at hd
        cases hd
      | some p' =>
        rw [e] at hd
        cases hd
        exact ⟨_, rfl, .mk k⟩
    · rw [if_neg c] at hd
      rw [if_neg (fun z => c (((Nn.rfl' p).lft n1 d).mpr z))]
      rw [done_app] at hd ⊢
      by_cases c2 : Lft d t s
      · rw [if_pos c2] at hd
        rw [if_pos ((k.nn.lft (Nn.rfl' s) d).mp c2)]
        cases e : doneL d t with
        | none =>
          rw [e] at hd
          cases hd
        | some t2 =>
          rw [e] at hd
          cases hd
          obtain ⟨v', e2, k2⟩ := k.done e
          rw [e2]
          exact ⟨_, rfl, .mk k2⟩
      · rw [if_neg c2] at hd
        rw [if_neg (fun z => c2 ((k.nn.lft (Nn.rfl' s) d).mpr z))]
        cases e : doneL d s with
        | none =>
          rw [e] at hd
          cases hd
        | some s2 =>
          rw [e] at hd
          cases hd
          exact ⟨_, rfl, .mk k⟩
theorem Kn.trans {u v w : List Int} (h : Kn u v) (k : Kn v w) : Kn u w := by
  induction h with
  | refl => exact k
  | step a _ ih => exact .step a (ih k)
theorem Kn.one {u v : List Int} (h : Kw u v) : Kn u v := .step h .refl
theorem Kn.ctx {u v : List Int} (h : Kn u v) (p s : List Int) : Kn (p ++ (u ++ s)) (p ++ (v ++ s)) := by
  induction h with
  | refl => exact .refl
  | step a _ ih =>
    refine .step ?_ ih
    cases a with
    | @mk q r t t' k =>
      have e1 : ∀ x : List Int, p ++ ((q ++ (x ++ r)) ++ s) = (p ++ q) ++ (x ++ (r ++ s)) := fun x => by simp [List.append_assoc]
      rw [e1, e1]
      exact .mk k
theorem Kn.left {u v : List Int} (h : Kn u v) (p : List Int) : Kn (p ++ u) (p ++ v) := by
  have q := h.ctx p []
  rw [List.append_nil, List.append_nil] at q
  exact q
theorem Kn.right {u v : List Int} (h : Kn u v) (s : List Int) : Kn (u ++ s) (v ++ s) := h.ctx [] s
theorem Kn.nn {u v : List Int} (h : Kn u v) : Nn u v := by
  induction h with
  | refl => exact Nn.rfl' _
  | step a _ ih => exact a.nn.trans ih
theorem Kn.done {d : Int} {u v : List Int} (h : Kn u v) : ∀ {u' : List Int}, doneL d u = some u' → ∃ v', doneL d v = some v' ∧ Kn u' v' := by
  induction h with
  | refl => exact fun {u'} e => ⟨u', e, .refl⟩
  | step a _ ih =>
    intro u' e
    obtain ⟨v1, e1, k1⟩ := a.done e
    obtain ⟨v2, e2, k2⟩ := ih e1
    exact ⟨v2, e2, .step k1 k2⟩
theorem Kn.run : ∀ {row : List Int} {u v u' : List Int}, Kn u v → runL row u = some u' → ∃ v', runL row v = some v' ∧ Kn u' v'
  | [], u, v, u', h, e => by
    cases e
    exact ⟨v, rfl, h⟩
  | d :: row, u, v, u', h, e => by
    obtain ⟨a, e1, e2⟩ := runL_split e
    obtain ⟨b, f1, k1⟩ := h.done e1
    obtain ⟨v', f2, k2⟩ := Kn.run (u := a) (v := b) k1 e2
    exact ⟨v', by rw [runL_cons f1]; exact f2, k2⟩
theorem Kn.perm {u v : List Int} (h : Kn u v) : u.Perm v := by
  induction h with
  | refl => exact .refl _
  | step a _ ih =>
    refine .trans ?_ ih
    cases a with
    | @mk p s t t' k =>
      refine List.Perm.append_left _ (List.Perm.append_right _ ?_)
      cases k with
      | F _ _ => exact List.Perm.swap _ _ _
      | L _ _ => exact (List.Perm.swap _ _ _).cons _
end LwM
/-! Rs. Letters inserted: the reading of the rows comes by exchanges. -/
namespace LwM
def Srt : List Int → Prop
  | [] => True
  | a :: l => (∀ x ∈ l, a ≤ x) ∧ Srt l
def rowIns (x : Int) : List Int → Option Int × List Int
  | [] => (none, [x])
  | y :: R => if x < y then (some y, x :: R) else ((rowIns x R).1, y :: (rowIns x R).2)
def insT (x : Int) : List (List Int) → List (List Int)
  | [] => [[x]]
  | R :: T => match (rowIns x R).1 with
    | none => (rowIns x R).2 :: T
    | some y => (rowIns x R).2 :: insT y T
def rd : List (List Int) → List Int
  | [] => []
  | R :: T => rd T ++ R
def tabL (l : List Int) : List (List Int) := l.foldl (fun T x => insT x T) []
theorem tabL_snoc (l : List Int) (x : Int) : tabL (l ++ [x]) = insT x (tabL l) := by
  unfold tabL
  rw [List.foldl_append]
  rfl
theorem rowIns_lt {x y : Int} {R : List Int} (h : x < y) : rowIns x (y :: R) = (some y, x :: R) := by
  show (if x < y then (some y, x :: R) else ((rowIns x R).1, y :: (rowIns x R).2)) = _
  rw [if_pos h]
theorem rowIns_ge {x y : Int} {R : List Int} (h : ¬ x < y) : rowIns x (y :: R) = ((rowIns x R).1, y :: (rowIns x R).2) := by
  show (if x < y then (some y, x :: R) else ((rowIns x R).1, y :: (rowIns x R).2)) = _
  rw [if_neg h]
theorem kn_here : ∀ {R : List Int} {a x : Int}, x < a → Srt (a :: R) → Kn (a :: (R ++ [x])) (a :: x :: R)
  | [], a, x, _, _ => .refl
  | z :: R, a, x, h, s => by
    have az : a ≤ z := s.1 z (List.mem_cons_self ..)
    have ih := kn_here (R := R) (a := z) (x := x) (by omega) s.2
    have k1 := ih.left [a]
    refine k1.trans (.one ?_)
    exact Kw.mk (p := []) (s := R) (.L h az)
theorem row_none : ∀ {R : List Int} {x : Int}, (rowIns x R).1 = none → (rowIns x R).2 = R ++ [x] ∧ ∀ z ∈ R, z ≤ x
  | [], x, _ => ⟨rfl, fun z hz => by simp at hz⟩
  | y :: R, x, h => by
    by_cases c : x < y
    · rw [rowIns_lt c] at h
      cases h
    · rw [rowIns_ge c] at h ⊢
      obtain ⟨e, b⟩ := row_none (R := R) h
      refine ⟨by show y :: (rowIns x R).2 = _; rw [e]; rfl, fun z hz => ?_⟩
      rcases List.mem_cons.mp hz with q | q
      · omega
      · exact b z q
theorem row_some : ∀ {R : List Int} {x y : Int}, Srt R → (rowIns x R).1 = some y → Kn (R ++ [x]) (y :: (rowIns x R).2) ∧ Srt (rowIns x R).2 ∧ x < y ∧ y ∈ R ∧ (rowIns x R).2.length = R.length ∧ (∀ z ∈ (rowIns x R).2, z ∈ R ∨ z = x) ∧
    ∃ b R', (rowIns x R).2 = b :: R' ∧ b ≤ x
  | [], x, y, _, h => by cases h
  | a :: R, x, y, s, h => by
    by_cases c : x < a
    · rw [rowIns_lt c] at h ⊢
      cases h
      refine ⟨kn_here c s, ⟨fun z hz => by have := s.1 z hz; omega, s.2⟩, c, List.mem_cons_self .., rfl, fun z hz => ?_, x, R, rfl, Int.le_refl _⟩
      rcases List.mem_cons.mp hz with q | q
      · exact .inr q
      · exact .inl (List.mem_cons_of_mem _ q)
    · rw [rowIns_ge c] at h ⊢
      obtain ⟨k, s2, xy, my, hl, mm, b, R', e, hb⟩ := row_some (R := R) s.2 h
      have ab : ∀ z ∈ (rowIns x R).2, a ≤ z := fun z hz => by
        rcases mm z hz with q | q
        · exact s.1 z q
        · omega
      refine ⟨?_, ⟨ab, s2⟩, xy, List.mem_cons_of_mem _ my, by simp [hl], fun z hz => ?_, a, _, rfl, by omega⟩
      · have k1 := k.left [a]
        refine Kn.trans k1 (.one ?_)
        show Kw (a :: y :: (rowIns x R).2) (y :: a :: (rowIns x R).2)
        have a1 := ab b (by rw [e]; exact List.mem_cons_self ..)
        rw [e]
        exact Kw.mk (p := []) (s := R') (.F a1 (by omega))
      · rcases List.mem_cons.mp hz with q | q
        · exact .inl (by rw [q]; exact List.mem_cons_self ..)
        · rcases mm z q with q | q
          · exact .inl (List.mem_cons_of_mem _ q)
          · exact .inr q
theorem srt_snoc : ∀ {R : List Int} {x : Int}, Srt R → (∀ z ∈ R, z ≤ x) → Srt (R ++ [x])
  | [], x, _, _ => ⟨fun z hz => by simp at hz, trivial⟩
  | a :: R, x, s, h => ⟨fun z hz => by
      rcases List.mem_append.mp hz with q | q
      · exact s.1 z q
      · rw [List.mem_singleton.mp q]
        exact h a (List.mem_cons_self ..), srt_snoc s.2 fun z hz => h z (List.mem_cons_of_mem _ hz)⟩
/-- what an insertion makes of the first row -/
theorem insT_cons (x : Int) (R : List Int) (T : List (List Int)) : insT x (R :: T) = match (rowIns x R).1 with | none => (rowIns x R).2 :: T | some y => (rowIns x R).2 :: insT y T := rfl
theorem ins_kn : ∀ {T : List (List Int)} {x : Int}, (∀ R ∈ T, Srt R) → Kn (rd T ++ [x]) (rd (insT x T)) ∧ ∀ R ∈ insT x T, Srt R
  | [], x, _ => ⟨.refl, fun R hR => by
      rw [List.mem_singleton.mp hR]
      exact ⟨fun z hz => by simp at hz, trivial⟩⟩
  | R :: T, x, s => by
    have sR := s R (List.mem_cons_self ..)
    have sT : ∀ R ∈ T, Srt R := fun Q hQ => s Q (List.mem_cons_of_mem _ hQ)
    rw [insT_cons]
    cases e : (rowIns x R).1 with
    | none =>
      obtain ⟨e2, b⟩ := row_none e
      show Kn ((rd T ++ R) ++ [x]) (rd T ++ (rowIns x R).2) ∧ _
      rw [e2, List.append_assoc]
      refine ⟨.refl, fun Q hQ => ?_⟩
      rcases List.mem_cons.mp hQ with q | q
      · rw [q]
        exact srt_snoc sR b
      · exact sT Q q
    | some y =>
      obtain ⟨k, s2, _⟩ := row_some sR e
      obtain ⟨ih, s3⟩ := ins_kn (T := T) (x := y) sT
      show Kn ((rd T ++ R) ++ [x]) (rd (insT y T) ++ (rowIns x R).2) ∧ _
      refine ⟨?_, fun Q hQ => ?_⟩
      · rw [List.append_assoc]
        refine (k.left (rd T)).trans ?_
        have e3 : rd T ++ y :: (rowIns x R).2 = (rd T ++ [y]) ++ (rowIns x R).2 := by simp
        rw [e3]
        exact ih.right _
      · rcases List.mem_cons.mp hQ with q | q
        · rw [q]
          exact s2
        · exact s3 Q q
theorem tab_kn (l : List Int) : Kn l (rd (tabL l)) ∧ ∀ R ∈ tabL l, Srt R := by
  have h : ∀ n (l : List Int), l.length = n → Kn l (rd (tabL l)) ∧ ∀ R ∈ tabL l, Srt R := by
    intro n
    induction n with
    | zero =>
      intro l e
      rw [List.length_eq_zero_iff.mp e]
      exact ⟨.refl, fun R hR => by simp [tabL] at hR⟩
    | succ n ih =>
      intro l e
      have hne : l ≠ [] := by
        intro z
        rw [z] at e
        simp at e
      obtain ⟨r, x, rfl⟩ : ∃ r x, l = r ++ [x] := ⟨l.dropLast, l.getLast hne, (List.dropLast_concat_getLast hne).symm⟩
      have el : r.length = n := by simpa using e
      obtain ⟨k, s⟩ := ih r el
      obtain ⟨k2, s2⟩ := ins_kn (x := x) s
      rw [tabL_snoc]
      exact ⟨(k.right [x]).trans k2, s2⟩
  exact h _ l rfl
/-! ### columns -/
def Abv : List Int → List Int → Prop
  | _, [] => True
  | [], _ :: _ => False
  | a :: R, b :: S => a < b ∧ Abv R S
def hdT : List (List Int) → List Int
  | [] => []
  | R :: _ => R
def Tab : List (List Int) → Prop
  | [] => True
  | R :: T => R ≠ [] ∧ Srt R ∧ Abv R (hdT T) ∧ Tab T
theorem abv_nil (R : List Int) : Abv R [] := by
  cases R <;> exact trivial
theorem abv_snoc : ∀ {R S : List Int} {x : Int}, Abv R S → Abv (R ++ [x]) S
  | R, [], x, _ => abv_nil _
  | [], _ :: _, x, h => h.elim
  | a :: R, b :: S, x, h => ⟨h.1, abv_snoc h.2⟩
theorem abv_ins1 : ∀ {R S : List Int} {x y : Int}, (rowIns x R).1 = some y → Abv R S → Abv (rowIns x R).2 S
  | R, [], x, y, _, _ => abv_nil _
  | [], _ :: _, x, y, _, h => h.elim
  | a :: R, b :: S, x, y, e, h => by
    by_cases c : x < a
    · rw [rowIns_lt c]
      exact ⟨by have := h.1; omega, h.2⟩
    · rw [rowIns_ge c] at e ⊢
      exact ⟨h.1, abv_ins1 e h.2⟩
theorem ge_some : ∀ {R : List Int} {x y : Int}, (rowIns x R).1 = some y → x < y
  | [], x, y, e => by cases e
  | a :: R, x, y, e => by
    by_cases c : x < a
    · rw [rowIns_lt c] at e
      cases e
      exact c
    · rw [rowIns_ge c] at e
      exact ge_some (R := R) e
theorem abv_ins : ∀ {R S : List Int} {x y : Int}, (rowIns x R).1 = some y → Abv R S → Abv (rowIns x R).2 (rowIns y S).2
  | [], S, x, y, e, _ => by cases e
  | a :: R, [], x, y, e, h => by
    show Abv _ [y]
    by_cases c : x < a
    · rw [rowIns_lt c] at e ⊢
      cases e
      exact ⟨c, abv_nil _⟩
    · have hxy := ge_some e
      rw [rowIns_ge c] at e ⊢
      exact ⟨by omega, abv_nil _⟩
  | a :: R, b :: S, x, y, e, h => by
    have hxy := ge_some e
    by_cases c : x < a
    · rw [rowIns_lt c] at e ⊢
      cases e
      rw [rowIns_lt h.1]
      exact ⟨c, h.2⟩
    · rw [rowIns_ge c] at e ⊢
      by_cases c2 : y < b
      · rw [rowIns_lt c2]
        exact ⟨by omega, abv_ins1 e h.2⟩
      · rw [rowIns_ge c2]
        exact ⟨h.1, abv_ins e h.2⟩
theorem hd_ins (x : Int) (T : List (List Int)) : hdT (insT x T) = (rowIns x (hdT T)).2 := by
  cases T with
  | nil => rfl
  | cons R T =>
    rw [insT_cons]
    cases e : (rowIns x R).1 with
    | none => rfl
    | some y => rfl
theorem row_ne : ∀ (R : List Int) (x : Int), (rowIns x R).2 ≠ []
  | [], x => by simp [rowIns]
  | a :: R, x => by
    by_cases c : x < a
    · rw [rowIns_lt c]
      simp
    · rw [rowIns_ge c]
      simp
theorem ins_tab : ∀ {T : List (List Int)} {x : Int}, Tab T → Tab (insT x T)
  | [], x, _ => ⟨by simp, ⟨fun z hz => by simp at hz, trivial⟩, trivial, trivial⟩
  | R :: T, x, ⟨h1, h2, h3, h4⟩ => by
    rw [insT_cons]
    cases e : (rowIns x R).1 with
    | none =>
      obtain ⟨e2, b⟩ := row_none e
      refine ⟨row_ne _ _, ?_, ?_, h4⟩
      · rw [e2]
        exact srt_snoc h2 b
      · rw [e2]
        exact abv_snoc h3
    | some y =>
      obtain ⟨k, s2, _⟩ := row_some h2 e
      refine ⟨row_ne _ _, s2, ?_, ins_tab h4⟩
      rw [hd_ins]
      exact abv_ins e h3
theorem tab_foldl : ∀ (l : List Int) (T : List (List Int)), Tab T → Tab (l.foldl (fun T x => insT x T) T)
  | [], T, h => h
  | x :: l, T, h => tab_foldl l _ (ins_tab h)
theorem tab_tab (l : List Int) : Tab (tabL l) := tab_foldl l [] trivial
end LwM
/-! Rt. A deed on the reading of a table: a table of the same shape. -/
namespace LwM
theorem cnt_cons (i a : Int) (l : List Int) : (a :: l).count i = l.count i + if a = i then 1 else 0 := by
  rw [List.count_cons]
  by_cases h : a = i
  · simp [h]
  · simp [h]
theorem cnt_zero {i : Int} {l : List Int} (h : ∀ z ∈ l, z ≠ i) : l.count i = 0 := List.count_eq_zero.mpr fun m => h i m rfl
theorem srt_row (i : Int) : ∀ {R : List Int}, Srt R → up i R = R.count i ∧ dn i R = R.count (i + 1)
  | [], _ => ⟨rfl, rfl⟩
  | a :: R, s => by
    obtain ⟨h1, h2⟩ := srt_row i s.2
    rw [up_cons i a R, dn_cons i a R, one_up, one_dn, cnt_cons, cnt_cons, h1, h2]
    by_cases c : a = i + 1
    · have z : R.count i = 0 := cnt_zero fun y hy => by have := s.1 y hy; omega
      rw [z]
      constructor <;> (repeat' split) <;> omega
    · constructor <;> (repeat' split) <;> omega
def upR (i : Int) : List Int → List Int
  | [] => []
  | a :: R => if R.count i = 0 then (if a = i then (i + 1) :: R else a :: R) else a :: upR i R
def dnR (i : Int) : List Int → List Int
  | [] => []
  | a :: R => if a = i + 1 then i :: R else a :: dnR i R
theorem upR_cons (i a : Int) (R : List Int) : upR i (a :: R) = if R.count i = 0 then (if a = i then (i + 1) :: R else a :: R) else a :: upR i R := rfl
theorem dnR_cons (i a : Int) (R : List Int) : dnR i (a :: R) = if a = i + 1 then i :: R else a :: dnR i R := rfl
theorem U_row (i : Int) : ∀ {R : List Int}, Srt R → U i R = if R.count i = 0 then none else some (upR i R)
  | [], _ => rfl
  | a :: R, s => by
    obtain ⟨h1, h2⟩ := srt_row i s.2
    have ih := U_row i s.2
    have e : a :: R = [a] ++ R := rfl
    rw [e, U_app, one_dn, h1, ih, ← e, cnt_cons, U_one, upR_cons]
    by_cases c : R.count i = 0
    · rw [c, if_neg (by omega), if_pos rfl]
      by_cases c2 : a = i
      · rw [if_pos c2, if_pos c2, if_neg (by omega), if_pos c2]
        rfl
      · rw [if_neg c2, if_neg c2, if_pos rfl]
        rfl
    · have ha : ¬ a = i + 1 := by
        intro z
        exact c (cnt_zero fun y hy => by have := s.1 y hy; omega)
      rw [if_neg ha, if_pos (by omega), if_neg c, if_neg (by omega), if_neg c]
      rfl
theorem D_row (i : Int) : ∀ {R : List Int}, Srt R → D i R = if R.count (i + 1) = 0 then none else some (dnR i R)
  | [], _ => rfl
  | a :: R, s => by
    obtain ⟨h1, h2⟩ := srt_row i s.2
    have ih := D_row i s.2
    have e : a :: R = [a] ++ R := rfl
    rw [e, D_app, one_dn, h1, ih, ← e, cnt_cons, D_one, dnR_cons]
    by_cases c : a = i + 1
    · have z : R.count i = 0 := cnt_zero fun y hy => by have := s.1 y hy; omega
      rw [z, if_pos c, if_pos (by omega), if_pos c, if_pos c, if_neg (by omega)]
      rfl
    · rw [if_neg c, if_neg (by omega), if_neg c]
      by_cases c2 : R.count (i + 1) = 0
      · rw [if_pos c2, if_pos (by omega)]
        rfl
      · rw [if_neg c2, if_neg (by omega)]
        rfl
theorem mem_upR {i z : Int} : ∀ {R : List Int}, z ∈ upR i R → z ∈ R ∨ (z = i + 1 ∧ i ∈ R)
  | [], h => by simp [upR] at h
  | a :: R, h => by
    unfold upR at h
    by_cases c : R.count i = 0
    · rw [if_pos c] at h
      by_cases c2 : a = i
      · rw [if_pos c2] at h
        rcases List.mem_cons.mp h with q | q
        · exact .inr ⟨q, by rw [← c2]; exact List.mem_cons_self ..⟩
        · exact .inl (List.mem_cons_of_mem _ q)
      · rw [if_neg c2] at h
        exact .inl h
    · rw [if_neg c] at h
      rcases List.mem_cons.mp h with q | q
      · exact .inl (by rw [q]; exact List.mem_cons_self ..)
      · rcases mem_upR (R := R) q with q | ⟨q1, q2⟩
        · exact .inl (List.mem_cons_of_mem _ q)
        · exact .inr ⟨q1, List.mem_cons_of_mem _ q2⟩
theorem mem_dnR {i z : Int} : ∀ {R : List Int}, z ∈ dnR i R → z ∈ R ∨ (z = i ∧ i + 1 ∈ R)
  | [], h => by simp [dnR] at h
  | a :: R, h => by
    unfold dnR at h
    by_cases c : a = i + 1
    · rw [if_pos c] at h
      rcases List.mem_cons.mp h with q | q
      · exact .inr ⟨q, by rw [← c]; exact List.mem_cons_self ..⟩
      · exact .inl (List.mem_cons_of_mem _ q)
    · rw [if_neg c] at h
      rcases List.mem_cons.mp h with q | q
      · exact .inl (by rw [q]; exact List.mem_cons_self ..)
      · rcases mem_dnR (R := R) q with q | ⟨q1, q2⟩
        · exact .inl (List.mem_cons_of_mem _ q)
        · exact .inr ⟨q1, List.mem_cons_of_mem _ q2⟩
theorem len_upR (i : Int) : ∀ R : List Int, (upR i R).length = R.length
  | [] => rfl
  | a :: R => by
    unfold upR
    split
    · split <;> simp
    · simp [len_upR i R]
theorem len_dnR (i : Int) : ∀ R : List Int, (dnR i R).length = R.length
  | [] => rfl
  | a :: R => by
    unfold dnR
    split
    · simp
    · simp [len_dnR i R]
theorem srt_upR {i : Int} : ∀ {R : List Int}, Srt R → Srt (upR i R)
  | [], _ => trivial
  | a :: R, s => by
    unfold upR
    by_cases c : R.count i = 0
    · rw [if_pos c]
      by_cases c2 : a = i
      · rw [if_pos c2]
        refine ⟨fun z hz => ?_, s.2⟩
        have h1 := s.1 z hz
        have h2 : z ≠ i := fun q => by
          subst q
          exact absurd c (by have := List.count_pos_iff.mpr hz; omega)
        omega
      · rw [if_neg c2]
        exact s
    · rw [if_neg c]
      refine ⟨fun z hz => ?_, srt_upR s.2⟩
      rcases mem_upR hz with q | ⟨q1, q2⟩
      · exact s.1 z q
      · have := s.1 i q2
        omega
theorem srt_dnR {i : Int} : ∀ {R : List Int}, Srt R → Srt (dnR i R)
  | [], _ => trivial
  | a :: R, s => by
    unfold dnR
    by_cases c : a = i + 1
    · rw [if_pos c]
      exact ⟨fun z hz => by have := s.1 z hz; omega, s.2⟩
    · rw [if_neg c]
      refine ⟨fun z hz => ?_, srt_dnR s.2⟩
      rcases mem_dnR hz with q | ⟨q1, q2⟩
      · exact s.1 z q
      · have := s.1 _ q2
        omega
theorem abv_below {i : Int} : ∀ {R S : List Int}, Abv R S → Abv R (upR i S)
  | R, [], _ => abv_nil _
  | [], _ :: _, h => h.elim
  | a :: R, b :: S, h => by
    unfold upR
    by_cases c : S.count i = 0
    · rw [if_pos c]
      by_cases c2 : b = i
      · rw [if_pos c2]
        exact ⟨by have := h.1; omega, h.2⟩
      · rw [if_neg c2]
        exact h
    · rw [if_neg c]
      exact ⟨h.1, abv_below h.2⟩
theorem abv_above {i : Int} : ∀ {R S : List Int}, Abv R S → Abv (dnR i R) S
  | R, [], _ => abv_nil _
  | [], _ :: _, h => h.elim
  | a :: R, b :: S, h => by
    unfold dnR
    by_cases c : a = i + 1
    · rw [if_pos c]
      exact ⟨by have := h.1; omega, h.2⟩
    · rw [if_neg c]
      exact ⟨h.1, abv_above h.2⟩
theorem abv_upR {i : Int} : ∀ {R S : List Int}, Srt R → Srt S → Abv R S → S.count (i + 1) < R.count i → Abv (upR i R) S
  | R, [], _, _, _, _ => abv_nil _
  | [], _ :: _, _, _, h, _ => h.elim
  | a :: R, b :: S, sR, sS, h, hc => by
    rw [cnt_cons, cnt_cons] at hc
    unfold upR
    by_cases c : R.count i = 0
    · rw [if_pos c]
      have hai : a = i := by
        apply Classical.byContradiction
        intro z
        rw [if_neg z] at hc
        omega
      rw [if_pos hai]
      rw [if_pos hai] at hc
      have hb : b ≠ i + 1 := by
        intro z
        rw [if_pos z] at hc
        omega
      exact ⟨by have := h.1; omega, h.2⟩
    · rw [if_neg c]
      refine ⟨h.1, abv_upR sR.2 sS.2 h.2 ?_⟩
      by_cases hai : a = i
      · rw [if_pos hai] at hc
        by_cases hb : b = i + 1
        · rw [if_pos hb] at hc
          omega
        · have hb2 : i + 1 < b := by have := h.1; omega
          have z : S.count (i + 1) = 0 := cnt_zero fun y hy => by have := sS.1 y hy; omega
          omega
      · rw [if_neg hai] at hc
        omega
theorem abv_cnt {i : Int} : ∀ {R S : List Int}, (∀ z ∈ R, i ≤ z) → Srt R → Srt S → Abv R S → S.count (i + 1) ≤ R.count i
  | R, [], _, _, _, _ => Nat.zero_le _
  | [], _ :: _, _, _, _, h => h.elim
  | a :: R, b :: S, g, sR, sS, h => by
    rw [cnt_cons, cnt_cons]
    have ih := abv_cnt (R := R) (S := S) (i := i) (fun z hz => g z (List.mem_cons_of_mem _ hz)) sR.2 sS.2 h.2
    have g1 := g a (List.mem_cons_self ..)
    have h1 := h.1
    by_cases hb : b = i + 1
    · rw [if_pos hb, if_pos (show a = i by omega)]
      omega
    · rw [if_neg hb]
      omega
theorem abv_dnR {i : Int} : ∀ {R S : List Int}, Srt R → Srt S → Abv R S → R.count i < S.count (i + 1) → Abv R (dnR i S)
  | R, [], _, _, _, _ => abv_nil _
  | [], _ :: _, _, _, h, _ => h.elim
  | a :: R, b :: S, sR, sS, h, hc => by
    unfold dnR
    by_cases hb : b = i + 1
    · rw [if_pos hb]
      refine ⟨?_, h.2⟩
      have h1 := h.1
      apply Classical.byContradiction
      intro z
      have hai : a = i := by omega
      have q := abv_cnt (i := i) (fun z hz => by
        rcases List.mem_cons.mp hz with y | y
        · omega
        · have := sR.1 z y
          omega) sR sS h
      omega
    · rw [if_neg hb]
      refine ⟨h.1, abv_dnR sR.2 sS.2 h.2 ?_⟩
      rw [cnt_cons, cnt_cons, if_neg hb] at hc
      omega
/-- a deed on the reading of a table -/
theorem done_tab {d : Int} : ∀ {T : List (List Int)} {u : List Int}, Tab T → doneL d (rd T) = some u → ∃ T', u = rd T' ∧ Tab T' ∧ T'.map List.length = T.map List.length ∧
    (hdT T' = hdT T ∨ (0 < d ∧ hdT T' = upR d (hdT T)) ∨ (¬ 0 < d ∧ hdT T' = dnR (-d) (hdT T) ∧ dn (-d) (rd T) = (hdT T).count (-d + 1)))
  | [], u, _, h => by
    have e : doneL d [] = none := by
      rw [none_iff]
      split <;> rfl
    rw [show rd [] = [] from rfl, e] at h
    cases h
  | R :: T, u, ⟨r1, r2, r3, r4⟩, h => by
    rw [show rd (R :: T) = rd T ++ R from rfl, done_app] at h
    by_cases c : Lft d (rd T) R
    · rw [if_pos c] at h
      cases e : doneL d (rd T) with
      | none =>
        rw [e] at h
        cases h
      | some t =>
        rw [e] at h
        cases h
        obtain ⟨T', e1, t1, l1, hd1⟩ := done_tab r4 e
        refine ⟨R :: T', by rw [e1]; rfl, ⟨r1, r2, ?_, t1⟩, by rw [List.map_cons, List.map_cons, l1], .inl rfl⟩
        rcases hd1 with q | ⟨_, q⟩ | ⟨p, q, n⟩
        · rw [q]
          exact r3
        · rw [q]
          exact abv_below r3
        · rw [q]
          have c2 := (Lft_neg p _ _).mp c
          rw [n] at c2
          have hS : Srt (hdT T) := by
            cases T with
            | nil => trivial
            | cons S T => exact r4.2.1
          have e3 := (srt_row (-d) r2).1
          exact abv_dnR r2 hS r3 (by omega)
    · rw [if_neg c] at h
      have hS : Srt (hdT T) := by
        cases T with
        | nil => trivial
        | cons S T => exact r4.2.1
      by_cases p : 0 < d
      · rw [doneL_pos p, U_row d r2] at h
        have c2 : dn d (rd T) < up d R := by
          apply Classical.byContradiction
          intro z
          exact c ((Lft_pos p _ _).mpr z)
        rw [(srt_row d r2).1] at c2
        rw [if_neg (by omega)] at h
        cases h
        refine ⟨upR d R :: T, rfl, ⟨?_, srt_upR r2, ?_, r4⟩, by rw [List.map_cons, List.map_cons, len_upR], .inr (.inl ⟨p, rfl⟩)⟩
        · intro z
          have q := len_upR d R
          rw [z] at q
          exact r1 (List.length_eq_zero_iff.mp q.symm)
        · refine abv_upR r2 hS r3 ?_
          have q : (hdT T).count (d + 1) ≤ dn d (rd T) := by
            cases T with
            | nil => exact Nat.zero_le _
            | cons S T =>
              have e3 := dn_app d (rd T) S
              have e4 := (srt_row d (R := S) hS).2
              show S.count (d + 1) ≤ dn d (rd T ++ S)
              omega
          omega
      · rw [doneL_neg p, D_row (-d) r2] at h
        by_cases z : R.count (-d + 1) = 0
        · rw [if_pos z] at h
          cases h
        · rw [if_neg z] at h
          cases h
          refine ⟨dnR (-d) R :: T, rfl, ⟨?_, srt_dnR r2, abv_above r3, r4⟩, by rw [List.map_cons, List.map_cons, len_dnR], .inr (.inr ⟨p, rfl, ?_⟩)⟩
          · intro z
            have q := len_dnR (-d) R
            rw [z] at q
            exact r1 (List.length_eq_zero_iff.mp q.symm)
          · have c2 : ¬ up (-d) R < dn (-d) (rd T) := fun q => c ((Lft_neg p _ _).mpr q)
            show dn (-d) (rd T ++ R) = R.count (-d + 1)
            rw [dn_app, (srt_row (-d) r2).2]
            omega
theorem run_tab : ∀ {row : List Int} {T : List (List Int)} {u : List Int}, Tab T → runL row (rd T) = some u → ∃ T', u = rd T' ∧ Tab T' ∧ T'.map List.length = T.map List.length
  | [], T, u, h, e => by
    cases e
    exact ⟨T, rfl, h, rfl⟩
  | d :: row, T, u, h, e => by
    obtain ⟨a, e1, e2⟩ := runL_split e
    obtain ⟨T1, rfl, h1, l1, _⟩ := done_tab h e1
    obtain ⟨T2, e3, h2, l2⟩ := run_tab (row := row) h1 e2
    exact ⟨T2, e3, h2, l2.trans l1⟩
end LwM
/-! Ru. Tops: their rows; there is one top alone. -/
namespace LwM
def TopW (n : Int) (l : List Int) : Prop := ∀ i, 1 ≤ i → i ≤ n - 1 → dn i l = 0
def BotW (n : Int) (l : List Int) : Prop := ∀ i, 1 ≤ i → i ≤ n - 1 → up i l = 0
def Bd (n : Int) (l : List Int) : Prop := ∀ x ∈ l, 1 ≤ x ∧ x ≤ n
def DeedN (n d : Int) : Prop := d ≠ 0 ∧ -(n - 1) ≤ d ∧ d ≤ n - 1
def Yam : Int → List (List Int) → Prop
  | _, [] => True
  | k, R :: T => (∀ z ∈ R, z = k) ∧ Yam (k + 1) T
theorem up_zero {i : Int} : ∀ {l : List Int}, (∀ z ∈ l, z ≠ i) → up i l = 0
  | [], _ => rfl
  | a :: l, h => by
    rw [up_cons i a l, one_up, if_neg (h a (List.mem_cons_self ..)), up_zero fun z hz => h z (List.mem_cons_of_mem _ hz)]
    omega
theorem abv_mem {k : Int} : ∀ {R S : List Int}, Abv R S → (∀ a ∈ R, k ≤ a) → ∀ b ∈ S, k < b
  | R, [], _, _ => fun b hb => by simp at hb
  | [], _ :: _, h, _ => h.elim
  | a :: R, c :: S, h, g => fun b hb => by
    rcases List.mem_cons.mp hb with q | q
    · have := g a (List.mem_cons_self ..)
      have := h.1
      omega
    · exact abv_mem h.2 (fun z hz => g z (List.mem_cons_of_mem _ hz)) b q
theorem srt_last : ∀ {A : List Int} {m : Int}, Srt (A ++ [m]) → ∀ z ∈ A ++ [m], z ≤ m
  | [], m, _ => fun z hz => by rw [List.mem_singleton.mp hz]; exact Int.le_refl _
  | a :: A, m, s => fun z hz => by
    rcases List.mem_cons.mp hz with q | q
    · rw [q]
      exact s.1 m (List.mem_append_right _ (List.mem_singleton.mpr rfl))
    · exact srt_last s.2 z q
theorem yam_of {n : Int} : ∀ {T : List (List Int)} {k : Int} {S : List Int}, 1 ≤ k → Tab T → (∀ z ∈ hdT T, k ≤ z) → (∀ R ∈ T, ∀ z ∈ R, z ≤ n) → (∀ z ∈ S, z < k) → TopW n (rd T ++ S) → Yam k T
  | [], k, S, _, _, _, _, _, _ => trivial
  | R :: T, k, S, k1, ⟨r1, r2, r3, r4⟩, g, bd, hS, tp => by
    obtain ⟨A, m, eR⟩ : ∃ A m, R = A ++ [m] := ⟨R.dropLast, R.getLast r1, (List.dropLast_concat_getLast r1).symm⟩
    have hm : m ∈ R := by
      rw [eR]
      exact List.mem_append_right _ (List.mem_singleton.mpr rfl)
    have mk : m ≤ k := by
      apply Classical.byContradiction
      intro z
      have b1 := bd R (List.mem_cons_self ..) m hm
      have t1 := tp (m - 1) (by omega) (by omega)
      have e1 : rd (R :: T) ++ S = (rd T ++ A) ++ ([m] ++ S) := by
        show (rd T ++ R) ++ S = _
        rw [eR]
        simp [List.append_assoc]
      rw [e1, dn_app, dn_app (m - 1) [m] S, one_dn, if_pos (by omega), up_zero (l := S) fun z hz => by have := hS z hz; omega] at t1
      omega
    have all : ∀ z ∈ R, z = k := fun z hz => by
      have h1 := g z hz
      have h2 := srt_last (A := A) (m := m) (by rw [← eR]; exact r2) z (by rw [← eR]; exact hz)
      omega
    refine ⟨all, yam_of (S := R ++ S) (by omega) r4 (fun z hz => ?_) (fun Q hQ => bd Q (List.mem_cons_of_mem _ hQ)) (fun z hz => ?_) ?_⟩
    · have := abv_mem r3 g z hz
      omega
    · rcases List.mem_append.mp hz with q | q
      · rw [all z q]
        omega
      · have := hS z q
        omega
    · rw [← List.append_assoc]
      exact tp
theorem mem_rd : ∀ {T : List (List Int)} {R : List Int} {z : Int}, R ∈ T → z ∈ R → z ∈ rd T
  | [], R, z, h, _ => by simp at h
  | Q :: T, R, z, h, hz => by
    show z ∈ rd T ++ Q
    rcases List.mem_cons.mp h with q | q
    · rw [← q]
      exact List.mem_append_right _ hz
    · exact List.mem_append_left _ (mem_rd q hz)
theorem yam_top {n : Int} {T : List (List Int)} (t : Tab T) (b : Bd n (rd T)) (h : TopW n (rd T)) : Yam 1 T := by
  refine yam_of (n := n) (S := []) (by omega) t (fun z hz => ?_) (fun R hR z hz => (b z (mem_rd hR hz)).2) (fun z hz => by simp at hz) (by rw [List.append_nil]; exact h)
  cases T with
  | nil => simp [hdT] at hz
  | cons R T => exact (b z (mem_rd (List.mem_cons_self ..) hz)).1
theorem yam_ge : ∀ {T : List (List Int)} {k : Int}, Yam k T → ∀ z ∈ rd T, k ≤ z
  | [], k, _ => fun z hz => by simp [rd] at hz
  | R :: T, k, h => fun z hz => by
    rcases List.mem_append.mp (show z ∈ rd T ++ R from hz) with q | q
    · have := yam_ge h.2 z q
      omega
    · rw [h.1 z q]
      exact Int.le_refl _
theorem yam_count : ∀ {T : List (List Int)} {k : Int}, Yam k T → ∀ j : Nat, (rd T).count (k + (j : Int)) = (T.map List.length).getD j 0
  | [], k, _, j => by simp [rd]
  | R :: T, k, h, 0 => by
    show (rd T ++ R).count (k + ((0 : Nat) : Int)) = R.length
    rw [List.count_append, cnt_zero fun z hz => by have := yam_ge h.2 z hz; omega, Nat.zero_add]
    exact List.count_eq_length.mpr fun z hz => by rw [h.1 z hz]; simp
  | R :: T, k, h, j + 1 => by
    have ih := yam_count h.2 j
    show (rd T ++ R).count (k + ((j + 1 : Nat) : Int)) = (T.map List.length).getD j 0
    have e : k + ((j + 1 : Nat) : Int) = k + 1 + (j : Int) := by omega
    rw [e, List.count_append, ih, cnt_zero fun z hz => by rw [h.1 z hz]; omega, Nat.add_zero]
theorem yam_eq : ∀ {T T' : List (List Int)} {k : Int}, Yam k T → Yam k T' → T.map List.length = T'.map List.length → T = T'
  | [], [], k, _, _, _ => rfl
  | [], _ :: _, k, _, _, e => by simp at e
  | _ :: _, [], k, _, _, e => by simp at e
  | R :: T, R' :: T', k, h, h', e => by
    rw [List.map_cons, List.map_cons] at e
    injection e with e1 e2
    have q1 := List.eq_replicate_iff.mpr ⟨rfl, h.1⟩
    have q2 := List.eq_replicate_iff.mpr ⟨rfl, h'.1⟩
    rw [q1, q2, e1, yam_eq h.2 h'.2 e2]
theorem pos_eq : ∀ {l l' : List Nat}, (∀ x ∈ l, 0 < x) → (∀ x ∈ l', 0 < x) → (∀ j, l.getD j 0 = l'.getD j 0) → l = l'
  | [], [], _, _, _ => rfl
  | [], a :: l, _, h, e => by
    have := h a (List.mem_cons_self ..)
    have q : 0 = a := e 0
    omega
  | a :: l, [], h, _, e => by
    have := h a (List.mem_cons_self ..)
    have q : a = 0 := e 0
    omega
  | a :: l, b :: l', h, h', e => by
    have q : a = b := e 0
    rw [q, pos_eq (l := l) (l' := l') (fun x hx => h x (List.mem_cons_of_mem _ hx)) (fun x hx => h' x (List.mem_cons_of_mem _ hx)) fun j => e (j + 1)]
theorem tab_pos : ∀ {T : List (List Int)}, Tab T → ∀ x ∈ T.map List.length, 0 < x
  | [], _ => fun x hx => by simp at hx
  | R :: T, ⟨r1, _, _, r4⟩ => fun x hx => by
    rcases List.mem_cons.mp hx with q | q
    · rw [q]
      exact List.length_pos_iff.mpr r1
    · exact tab_pos r4 x q
theorem Bd.perm {n : Int} {u v : List Int} (b : Bd n u) (p : u.Perm v) : Bd n v := fun x hx => b x (p.mem_iff.mpr hx)
theorem TopW.nn {n : Int} {u v : List Int} (t : TopW n u) (k : Nn u v) : TopW n v := fun i h1 h2 => by
  rw [← (k i).2]
  exact t i h1 h2
theorem BotW.nn {n : Int} {u v : List Int} (t : BotW n u) (k : Nn u v) : BotW n v := fun i h1 h2 => by
  rw [← (k i).1]
  exact t i h1 h2
/-- downs lead to a top -/
theorem top_ex {n : Int} : ∀ (s : Nat) (l : List Int), Bd n l → l.sum.toNat ≤ s → ∃ row t, runL row l = some t ∧ TopW n t ∧ (∀ d ∈ row, DeedN n d)
  | 0, l, b, hs => by
    have q := sum_bd b
    have e : l = [] := List.length_eq_zero_iff.mp (by omega)
    subst e
    exact ⟨[], [], rfl, fun i _ _ => rfl, fun d hd => by simp at hd⟩
  | s + 1, l, b, hs => by
    by_cases c : TopW n l
    · exact ⟨[], l, rfl, c, fun d hd => by simp at hd⟩
    · obtain ⟨i, hi⟩ := Classical.not_forall.mp c
      have h1 : 1 ≤ i := by
        apply Classical.byContradiction
        intro z
        exact hi fun h => absurd h z
      have h2 : i ≤ n - 1 := by
        apply Classical.byContradiction
        intro z
        exact hi fun _ h => absurd h z
      have h3 : dn i l ≠ 0 := fun z => hi fun _ _ => z
      have dk : DeedN n (-i) := ⟨by omega, by omega, by omega⟩
      cases e : doneL (-i) l with
      | none =>
        rw [none_iff, if_neg (by omega), Int.neg_neg] at e
        exact absurd e h3
      | some r =>
        have e1 := doneL_sum e
        rw [if_neg (by omega)] at e1
        have br := doneL_bd b dk.1 dk.2.1 dk.2.2 e
        have q := sum_bd b
        obtain ⟨row, t, f1, f2, f3⟩ := top_ex s r br (by omega)
        refine ⟨-i :: row, t, by rw [runL_cons e]; exact f1, f2, fun d hd => ?_⟩
        rcases List.mem_cons.mp hd with y | y
        · rw [y]
          exact dk
        · exact f3 d y
theorem run_bd {n : Int} : ∀ {row l r : List Int}, Bd n l → (∀ d ∈ row, DeedN n d) → runL row l = some r → Bd n r
  | [], l, r, b, _, e => by
    cases e
    exact b
  | d :: row, l, r, b, h, e => by
    obtain ⟨a, e1, e2⟩ := runL_split e
    have dk := h d (List.mem_cons_self ..)
    exact run_bd (doneL_bd b dk.1 dk.2.1 dk.2.2 e1) (fun x hx => h x (List.mem_cons_of_mem _ hx)) e2
def shp (l : List Int) : List Nat := (tabL l).map List.length
theorem shp_done {n d : Int} {w w' : List Int} (b : Bd n w) (dk : DeedN n d) (e : doneL d w = some w') : shp w' = shp w := by
  have b' := doneL_bd b dk.1 dk.2.1 dk.2.2 e
  obtain ⟨kw, _⟩ := tab_kn w
  obtain ⟨kw', _⟩ := tab_kn w'
  obtain ⟨u', e2, k2⟩ := kw.done e
  obtain ⟨T', rfl, t', l', _⟩ := done_tab (tab_tab w) e2
  obtain ⟨row, t, f1, f2, f3⟩ := top_ex (n := n) _ w' b' (Nat.le_refl _)
  obtain ⟨t1, g1, h1⟩ := k2.run f1
  obtain ⟨t2, g2, h2⟩ := kw'.run f1
  obtain ⟨T1, rfl, tt1, ll1⟩ := run_tab t' g1
  obtain ⟨T2, rfl, tt2, ll2⟩ := run_tab (tab_tab w') g2
  have bt := run_bd b' f3 f1
  have y1 := yam_top tt1 (bt.perm h1.perm) (f2.nn h1.nn)
  have y2 := yam_top tt2 (bt.perm h2.perm) (f2.nn h2.nn)
  have e3 : T1.map List.length = T2.map List.length := pos_eq (tab_pos tt1) (tab_pos tt2) fun j => by
    rw [← yam_count y1 j, ← yam_count y2 j, ← h1.perm.count_eq, ← h2.perm.count_eq]
  unfold shp
  rw [← ll2, ← e3, ll1, l']
theorem done_take {d : Int} {w w' : List Int} (e : doneL d w = some w') (k : Nat) : w'.take k = w.take k ∨ doneL d (w.take k) = some (w'.take k) := by
  have hl := doneL_len e
  by_cases hk : w.length < k
  · right
    rw [List.take_of_length_le (by omega), List.take_of_length_le (by omega)]
    exact e
  · have ew := List.take_append_drop k w
    have lk : (w.take k).length = k := by
      rw [List.length_take]
      omega
    rw [← ew, done_app] at e
    by_cases c : Lft d (w.take k) (w.drop k)
    · rw [if_pos c] at e
      cases q : doneL d (w.take k) with
      | none =>
        rw [q] at e
        cases e
      | some a =>
        rw [q] at e
        have e2 : w' = a ++ w.drop k := (Option.some.inj e).symm
        right
        have la := doneL_len q
        rw [e2, List.take_append_of_le_length (by omega), List.take_of_length_le (by omega)]
    · rw [if_neg c] at e
      cases q : doneL d (w.drop k) with
      | none =>
        rw [q] at e
        cases e
      | some a =>
        rw [q] at e
        have e2 : w' = w.take k ++ a := (Option.some.inj e).symm
        left
        rw [e2, List.take_append_of_le_length (by omega), List.take_of_length_le (by omega)]
theorem shs_done {n d : Int} {w w' : List Int} (b : Bd n w) (dk : DeedN n d) (e : doneL d w = some w') (k : Nat) : shp (w'.take k) = shp (w.take k) := by
  rcases done_take e k with q | q
  · rw [q]
  · exact shp_done (fun x hx => b x (List.mem_of_mem_take hx)) dk q
theorem shs_run {n : Int} : ∀ {row w t : List Int}, Bd n w → (∀ d ∈ row, DeedN n d) → runL row w = some t → t.length = w.length ∧ ∀ k, shp (t.take k) = shp (w.take k)
  | [], w, t, b, _, e => by
    cases e
    exact ⟨rfl, fun k => rfl⟩
  | d :: row, w, t, b, h, e => by
    obtain ⟨a, e1, e2⟩ := runL_split e
    have dk := h d (List.mem_cons_self ..)
    obtain ⟨h1, h2⟩ := shs_run (doneL_bd b dk.1 dk.2.1 dk.2.2 e1) (fun x hx => h x (List.mem_cons_of_mem _ hx)) e2
    exact ⟨h1.trans (doneL_len e1), fun k => (h2 k).trans (shs_done b dk e1 k)⟩
theorem row_inj : ∀ {R R' : List Int} {x x' y : Int}, Srt R → Srt R' → (rowIns x R).1 = some y → (rowIns x' R').1 = some y → (rowIns x R).2 = (rowIns x' R').2 → R = R' ∧ x = x'
  | [], _, x, x', y, _, _, h, _, _ => by cases h
  | _ :: _, [], x, x', y, _, _, _, h, _ => by cases h
  | a :: R, b :: R', x, x', y, s, s', h, h', e => by
    by_cases c : x < a
    · rw [rowIns_lt c] at h e
      by_cases c' : x' < b
      · rw [rowIns_lt c'] at h' e
        cases h
        cases h'
        injection e with e1 e2
        exact ⟨by rw [e2], e1⟩
      · rw [rowIns_ge c'] at h' e
        injection e with e1 e2
        obtain ⟨_, _, xy, _, _, _, q, Q, eq, hq⟩ := row_some s'.2 h'
        have h2 : a = y := Option.some.inj h
        have h3 := s.1 q (by rw [show R = (rowIns x' R').2 from e2, eq]; exact List.mem_cons_self ..)
        omega
    · rw [rowIns_ge c] at h e
      by_cases c' : x' < b
      · rw [rowIns_lt c'] at h' e
        injection e with e1 e2
        obtain ⟨_, _, xy, _, _, _, q, Q, eq, hq⟩ := row_some s.2 h
        have h2 : b = y := Option.some.inj h'
        have h3 := s'.1 q (by rw [← show (rowIns x R).2 = R' from e2, eq]; exact List.mem_cons_self ..)
        omega
      · rw [rowIns_ge c'] at h' e
        injection e with e1 e2
        obtain ⟨q1, q2⟩ := row_inj s.2 s'.2 h h' e2
        exact ⟨by rw [e1, q1], q2⟩
theorem ins_inj : ∀ {T T' : List (List Int)} {x x' : Int}, (∀ R ∈ T, Srt R) → (∀ R ∈ T', Srt R) → T.map List.length = T'.map List.length → insT x T = insT x' T' → T = T' ∧ x = x'
  | [], [], x, x', _, _, _, e => by
    have q : [[x]] = [[x']] := e
    simpa using q
  | [], _ :: _, x, x', _, _, e, _ => by simp at e
  | _ :: _, [], x, x', _, _, e, _ => by simp at e
  | R :: T, R' :: T', x, x', s, s', e, h => by
    rw [List.map_cons, List.map_cons] at e
    injection e with e1 e2
    have sR := s R (List.mem_cons_self ..)
    have sR' := s' R' (List.mem_cons_self ..)
    have sT : ∀ Q ∈ T, Srt Q := fun Q hQ => s Q (List.mem_cons_of_mem _ hQ)
    have sT' : ∀ Q ∈ T', Srt Q := fun Q hQ => s' Q (List.mem_cons_of_mem _ hQ)
    rw [insT_cons, insT_cons] at h
    cases q : (rowIns x R).1 with
    | none =>
      have r1 := (row_none q).1
      cases q' : (rowIns x' R').1 with
      | none =>
        have r1' := (row_none q').1
        rw [q, q'] at h
        injection h with h1 h2
        rw [r1, r1'] at h1
        obtain ⟨g1, g2⟩ := List.append_inj h1 e1
        exact ⟨by rw [g1, h2], by simpa using g2⟩
      | some y' =>
        have r1' := row_some sR' q'
        rw [q, q'] at h
        injection h with h1 h2
        have := congrArg List.length h1
        rw [r1, r1'.2.2.2.2.1] at this
        simp at this
        omega
    | some y =>
      have r1 := row_some sR q
      cases q' : (rowIns x' R').1 with
      | none =>
        have r1' := (row_none q').1
        rw [q, q'] at h
        injection h with h1 h2
        have := congrArg List.length h1
        rw [r1', r1.2.2.2.2.1] at this
        simp at this
        omega
      | some y' =>
        rw [q, q'] at h
        injection h with h1 h2
        obtain ⟨g1, g2⟩ := ins_inj sT sT' e2 h2
        subst g2
        obtain ⟨f1, f2⟩ := row_inj sR sR' q q' h1
        exact ⟨by rw [f1, g1], f2⟩
theorem tab_inj : ∀ (n : Nat) (w w' : List Int), w.length = n → w'.length = n → (∀ k, shp (w.take k) = shp (w'.take k)) → tabL w = tabL w' → w = w'
  | 0, w, w', h, h', _, _ => by rw [List.length_eq_zero_iff.mp h, List.length_eq_zero_iff.mp h']
  | n + 1, w, w', h, h', e, t => by
    have snoc : ∀ {l : List Int}, l.length = n + 1 → ∃ v x, l = v ++ [x] ∧ v.length = n := fun {l} hl => by
      have hne : l ≠ [] := by
        intro z
        rw [z] at hl
        simp at hl
      exact ⟨l.dropLast, l.getLast hne, (List.dropLast_concat_getLast hne).symm, by rw [List.length_dropLast]; omega⟩
    obtain ⟨v, x, rfl, lv⟩ := snoc h
    obtain ⟨v', x', rfl, lv'⟩ := snoc h'
    have pre : ∀ (v : List Int) (x : Int) (k : Nat), v.length = n → v.take k = (v ++ [x]).take (min k n) := fun v x k lv => by
      rw [List.take_append_of_le_length (by omega)]
      rcases Nat.le_total k n with z | z
      · rw [Nat.min_eq_left z]
      · rw [Nat.min_eq_right z, List.take_of_length_le (by omega), List.take_of_length_le (by omega)]
    rw [tabL_snoc, tabL_snoc] at t
    have e1 : shp v = shp v' := by
      have q := e n
      rw [List.take_append_of_le_length (by omega), List.take_append_of_le_length (by omega), List.take_of_length_le (by omega), List.take_of_length_le (by omega)] at q
      exact q
    obtain ⟨g1, g2⟩ := ins_inj (tab_kn v).2 (tab_kn v').2 e1 t
    have g3 := tab_inj n v v' lv lv' (fun k => by rw [pre v x k lv, pre v' x' k lv']; exact e _) g1
    rw [g3, g2]
/-- all tops that deeds lead to are one -/
theorem top_one {n : Int} {w r1 r2 t1 t2 : List Int} (b : Bd n w) (d1 : ∀ d ∈ r1, DeedN n d) (d2 : ∀ d ∈ r2, DeedN n d) (e1 : runL r1 w = some t1) (e2 : runL r2 w = some t2) (h1 : TopW n t1) (h2 : TopW n t2) : t1 = t2 := by
  obtain ⟨l1, s1⟩ := shs_run b d1 e1
  obtain ⟨l2, s2⟩ := shs_run b d2 e2
  have y : ∀ {r t : List Int}, (∀ d ∈ r, DeedN n d) → runL r w = some t → TopW n t → Yam 1 (tabL t) := fun {r t} d e h => by
    obtain ⟨k, _⟩ := tab_kn t
    exact yam_top (tab_tab t) ((run_bd b d e).perm k.perm) (h.nn k.nn)
  refine tab_inj w.length t1 t2 l1 l2 (fun k => (s1 k).trans (s2 k).symm) (yam_eq (y d1 e1 h1) (y d2 e2 h2) ?_)
  have q1 := s1 w.length
  have q2 := s2 w.length
  rw [List.take_of_length_le (by omega), List.take_of_length_le (by omega)] at q1 q2
  exact q1.trans q2.symm
end LwM
/-! Rv. Bottoms: how often they have each letter. -/
namespace LwM
def cle (R : List Int) (v : Int) : Nat := R.countP fun z => decide (z ≤ v)
theorem cle_cons (a : Int) (R : List Int) (v : Int) : cle (a :: R) v = cle R v + if a ≤ v then 1 else 0 := by
  unfold cle
  rw [List.countP_cons]
  by_cases h : a ≤ v
  · simp [h]
  · simp [h]
theorem cle_step (v : Int) : ∀ R : List Int, cle R (v + 1) = cle R v + R.count (v + 1)
  | [] => rfl
  | a :: R => by
    rw [cle_cons, cle_cons, cnt_cons, cle_step v R]
    by_cases h : a ≤ v
    · rw [if_pos h, if_pos (by omega), if_neg (by omega)]
      omega
    · rw [if_neg h]
      by_cases h2 : a = v + 1
      · rw [if_pos h2, if_pos (by omega)]
        omega
      · rw [if_neg h2, if_neg (by omega)]
        omega
theorem cle_all {v : Int} : ∀ {R : List Int}, (∀ z ∈ R, z ≤ v) → cle R v = R.length
  | [], _ => rfl
  | a :: R, h => by
    rw [cle_cons, if_pos (h a (List.mem_cons_self ..)), cle_all fun z hz => h z (List.mem_cons_of_mem _ hz)]
    rfl
theorem cle_none {v : Int} : ∀ {R : List Int}, (∀ z ∈ R, v < z) → cle R v = 0
  | [], _ => rfl
  | a :: R, h => by
    have := h a (List.mem_cons_self ..)
    rw [cle_cons, if_neg (by omega), cle_none fun z hz => h z (List.mem_cons_of_mem _ hz)]
theorem abv_cle {v : Int} : ∀ {R S : List Int}, Abv R S → cle S (v + 1) ≤ cle R v
  | R, [], _ => Nat.zero_le _
  | [], _ :: _, h => h.elim
  | a :: R, b :: S, h => by
    rw [cle_cons, cle_cons]
    have ih := abv_cle (v := v) h.2
    have h1 := h.1
    by_cases c : b ≤ v + 1
    · rw [if_pos c, if_pos (by omega)]
      omega
    · rw [if_neg c]
      omega
def lenAt (T : List (List Int)) (j : Nat) : Nat := (T.map List.length).getD j 0
theorem lenAt_zero (R : List Int) (T : List (List Int)) : lenAt (R :: T) 0 = R.length := rfl
theorem lenAt_succ (R : List Int) (T : List (List Int)) (j : Nat) : lenAt (R :: T) (j + 1) = lenAt T j := rfl
theorem low_count (N : Nat) : ∀ {T : List (List Int)}, Tab T → (∀ z ∈ rd T, 1 ≤ z ∧ z ≤ (N : Int)) → BotW N (rd T) →
    (∀ v : Nat, v ≤ N → cle (hdT T) v = lenAt T (N - v)) ∧ ∀ v : Nat, 1 ≤ v → v ≤ N → (rd T).count (v : Int) = lenAt T (N - v)
  | [], _, _, _ => ⟨fun v _ => rfl, fun v _ _ => rfl⟩
  | R :: T, ⟨r1, r2, r3, r4⟩, bd, bt => by
    have bR : ∀ z ∈ R, 1 ≤ z ∧ z ≤ (N : Int) := fun z hz => bd z (List.mem_append_right _ hz)
    have bT : ∀ z ∈ rd T, 1 ≤ z ∧ z ≤ (N : Int) := fun z hz => bd z (List.mem_append_left _ hz)
    have upA : ∀ i, 1 ≤ i → i ≤ (N : Int) - 1 → up i (rd T) = 0 ∧ up i R ≤ dn i (rd T) := fun i h1 h2 => by
      have q := bt i h1 h2
      rw [show rd (R :: T) = rd T ++ R from rfl, up_app] at q
      omega
    obtain ⟨ih1, ih2⟩ := low_count N r4 bT fun i h1 h2 => (upA i h1 h2).1
    have low : ∀ v : Nat, v < N → lenAt T (N - v - 1) ≤ cle R v := fun v hv => by
      have q := abv_cle (v := (v : Int)) r3
      have q2 := ih1 (v + 1) (by omega)
      rw [show ((v + 1 : Nat) : Int) = (v : Int) + 1 by omega] at q2
      rw [show N - v - 1 = N - (v + 1) by omega, ← q2]
      exact q
    have step : ∀ v : Nat, v + 1 < N → R.count ((v : Int) + 1) + lenAt T (N - v - 1) ≤ lenAt T (N - v - 2) := fun v hv => by
      have q := upA ((v : Int) + 1) (by omega) (by omega)
      rw [(srt_row _ r2).1] at q
      have m := more ((v : Int) + 1) (rd T)
      have c1 := ih2 (v + 1) (by omega) (by omega)
      have c2 := ih2 (v + 2) (by omega) (by omega)
      rw [show ((v + 1 : Nat) : Int) = (v : Int) + 1 by omega] at c1
      rw [show ((v + 2 : Nat) : Int) = (v : Int) + 1 + 1 by omega] at c2
      rw [show N - v - 1 = N - (v + 1) by omega, show N - v - 2 = N - (v + 2) by omega, ← c1, ← c2]
      omega
    have head : ∀ v : Nat, v ≤ N → cle R v = lenAt (R :: T) (N - v) := by
      intro v
      induction v with
      | zero =>
        intro _
        rw [cle_none fun z hz => by have := bR z hz; omega]
        cases N with
        | zero =>
          have e : R = [] := by
            cases R with
            | nil => rfl
            | cons a R =>
              have := bR a (List.mem_cons_self ..)
              omega
          exact absurd e r1
        | succ N =>
          have q := low 0 (by omega)
          rw [cle_none fun z hz => by have := bR z hz; omega] at q
          rw [show N + 1 - 0 = N + 1 by omega, lenAt_succ]
          rw [show N + 1 - 0 - 1 = N by omega] at q
          omega
      | succ v ih =>
        intro hv
        by_cases c : v + 1 = N
        · rw [show N - (v + 1) = 0 by omega, lenAt_zero]
          exact cle_all fun z hz => by have := bR z hz; omega
        · have e1 := ih (by omega)
          have e2 := cle_step (v : Int) R
          have e3 := low (v + 1) (by omega)
          have e4 := step v (by omega)
          rw [show N - v = (N - v - 1) + 1 by omega, lenAt_succ] at e1
          rw [show ((v + 1 : Nat) : Int) = (v : Int) + 1 by omega] at e3 ⊢
          rw [show N - (v + 1) = (N - v - 2) + 1 by omega, lenAt_succ]
          rw [show N - (v + 1) - 1 = N - v - 2 by omega] at e3
          omega
    refine ⟨head, fun v h1 h2 => ?_⟩
    rw [show rd (R :: T) = rd T ++ R from rfl, List.count_append, ih2 v h1 h2]
    obtain ⟨u, rfl⟩ : ∃ u, v = u + 1 := ⟨v - 1, by omega⟩
    have e1 := head u (by omega)
    have e2 := head (u + 1) h2
    have e3 := cle_step (u : Int) R
    rw [show ((u + 1 : Nat) : Int) = (u : Int) + 1 by omega] at e2 ⊢
    rw [show N - u = (N - (u + 1)) + 1 by omega, lenAt_succ] at e1
    omega
/-- the counts of a bottom are those of the top turned round -/
theorem counts_turned {n : Int} {w r1 r2 t b : List Int} (bd : Bd n w) (d1 : ∀ d ∈ r1, DeedN n d) (d2 : ∀ d ∈ r2, DeedN n d) (e1 : runL r1 w = some t) (e2 : runL r2 w = some b) (h1 : TopW n t) (h2 : BotW n b) (n0 : 0 ≤ n) :
    ∀ j : Nat, (j : Int) < n → t.count ((j : Int) + 1) = b.count (n - (j : Int)) := by
  obtain ⟨N, rfl⟩ : ∃ N : Nat, n = (N : Int) := ⟨n.toNat, by omega⟩
  intro j hj
  obtain ⟨l1, s1⟩ := shs_run bd d1 e1
  obtain ⟨l2, s2⟩ := shs_run bd d2 e2
  obtain ⟨k1, _⟩ := tab_kn t
  obtain ⟨k2, _⟩ := tab_kn b
  have y := yam_top (tab_tab t) ((run_bd bd d1 e1).perm k1.perm) (h1.nn k1.nn)
  have c := yam_count y j
  have lo := (low_count N (tab_tab b) (fun z hz => ((run_bd bd d2 e2).perm k2.perm) z hz) (h2.nn k2.nn)).2 (N - j) (by omega) (by omega)
  have q1 := s1 w.length
  have q2 := s2 w.length
  rw [List.take_of_length_le (by omega), List.take_of_length_le (by omega)] at q1 q2
  have q : (tabL t).map List.length = (tabL b).map List.length := q1.trans q2.symm
  rw [show (j : Int) + 1 = 1 + (j : Int) by omega, k1.perm.count_eq, c, k2.perm.count_eq, show (N : Int) - (j : Int) = ((N - j : Nat) : Int) by omega, lo]
  unfold lenAt
  rw [q, show N - (N - j) = j by omega]
end LwM
/-! Ld. The first deed that can be done, until none can; all ways to an end. -/
namespace LwM
/-- can d be done -/
def canD (l : List Int) (d : Int) : Bool := (doneL d l).isSome
theorem canD_none {l : List Int} {d : Int} : canD l d = false ↔ doneL d l = none := by
  unfold canD
  cases doneL d l <;> simp
theorem canD_some {l : List Int} {d : Int} : canD l d = true ↔ ∃ r, doneL d l = some r := by
  unfold canD
  cases doneL d l <;> simp
/-- always the first of ds: the row, from l, to e -/
inductive Led (ds : List Int) : List Int → List Int → List Int → Prop
  | stop {l : List Int} : ds.find? (canD l) = none → Led ds [] l l
  | step {d : Int} {l r row e : List Int} : ds.find? (canD l) = some d → doneL d l = some r → Led ds row r e → Led ds (d :: row) l e
theorem Led.run {ds row l e : List Int} (h : Led ds row l e) : runL row l = some e ∧ (∀ d ∈ row, d ∈ ds) ∧ ∀ d ∈ ds, doneL d e = none := by
  induction h with
  | stop h =>
    refine ⟨rfl, fun d hd => by simp at hd, fun d hd => ?_⟩
    have q := List.find?_eq_none.mp h d hd
    exact canD_none.mp (by simpa using q)
  | step h1 h2 _ ih =>
    refine ⟨by rw [runL_cons h2]; exact ih.1, fun x hx => ?_, ih.2.2⟩
    rcases List.mem_cons.mp hx with q | q
    · rw [q]
      exact List.mem_of_find?_eq_some h1
    · exact ih.2.1 x q
theorem Led.det {ds row l e : List Int} (h : Led ds row l e) : ∀ {row' e' : List Int}, Led ds row' l e' → row = row' ∧ e = e' := by
  induction h with
  | stop h =>
    intro row' e' k
    cases k with
    | stop _ => exact ⟨rfl, rfl⟩
    | step k1 _ _ =>
      rw [h] at k1
      cases k1
  | step h1 h2 _ ih =>
    intro row' e' k
    cases k with
    | stop k =>
      rw [h1] at k
      cases k
    | step k1 k2 k3 =>
      rw [h1] at k1
      cases k1
      rw [h2] at k2
      cases k2
      obtain ⟨a, b⟩ := ih k3
      exact ⟨by rw [a], b⟩
theorem find_at {p : Int → Bool} : ∀ {ds : List Int} {j : Nat} {d : Int}, (∀ x ∈ ds.take j, p x = false) → ds[j]? = some d → p d = true → ds.find? p = some d
  | [], j, d, _, h, _ => by simp at h
  | a :: ds, 0, d, _, h, hp => by
    have e : a = d := by simpa using h
    subst e
    exact List.find?_cons_of_pos hp
  | a :: ds, j + 1, d, g, h, hp => by
    rw [List.find?_cons_of_neg (by rw [g a (List.mem_cons_self ..)]; decide)]
    exact find_at (fun x hx => g x (List.mem_cons_of_mem _ hx)) (by simpa using h) hp
/-! ### bottoms are one -/
theorem srt_perm : ∀ {R R' : List Int}, Srt R → Srt R' → R.Perm R' → R = R'
  | [], R', _, _, p => (List.nil_perm.mp p).symm
  | a :: R, [], _, _, p => by
    have := p.length_eq
    simp at this
  | a :: R, b :: R', s, s', p => by
    have h1 : b ≤ a := by
      rcases List.mem_cons.mp (p.mem_iff.mp (List.mem_cons_self ..)) with q | q
      · omega
      · exact s'.1 a q
    have h2 : a ≤ b := by
      rcases List.mem_cons.mp (p.mem_iff.mpr (List.mem_cons_self ..)) with q | q
      · omega
      · exact s.1 b q
    have e : a = b := by omega
    subst e
    rw [srt_perm s.2 s'.2 (List.Perm.cons_inv p)]
theorem cle_eq {N : Nat} {R R' : List Int} (s : Srt R) (s' : Srt R') (b : ∀ z ∈ R, 1 ≤ z ∧ z ≤ (N : Int)) (b' : ∀ z ∈ R', 1 ≤ z ∧ z ≤ (N : Int)) (h : ∀ v : Nat, v ≤ N → cle R v = cle R' v) : R = R' := by
  refine srt_perm s s' (List.perm_iff_count.mpr fun z => ?_)
  by_cases c : 1 ≤ z ∧ z ≤ (N : Int)
  · obtain ⟨u, rfl⟩ : ∃ u : Nat, z = (u : Int) + 1 := ⟨(z - 1).toNat, by omega⟩
    have e1 := cle_step (u : Int) R
    have e2 := cle_step (u : Int) R'
    have e3 := h u (by omega)
    have e4 := h (u + 1) (by omega)
    rw [show ((u + 1 : Nat) : Int) = (u : Int) + 1 by omega] at e4
    omega
  · rw [cnt_zero fun y hy => by have := b y hy; intro q; subst q; exact c this, cnt_zero fun y hy => by have := b' y hy; intro q; subst q; exact c this]
theorem low_eq {N : Nat} : ∀ {T T' : List (List Int)}, Tab T → Tab T' → (∀ z ∈ rd T, 1 ≤ z ∧ z ≤ (N : Int)) → (∀ z ∈ rd T', 1 ≤ z ∧ z ≤ (N : Int)) → BotW N (rd T) → BotW N (rd T') → T.map List.length = T'.map List.length → T = T'
  | [], [], _, _, _, _, _, _, _ => rfl
  | [], _ :: _, _, _, _, _, _, _, e => by simp at e
  | _ :: _, [], _, _, _, _, _, _, e => by simp at e
  | R :: T, R' :: T', t, t', b, b', h, h', e => by
    have l1 := (low_count N t b h).1
    have l2 := (low_count N t' b' h').1
    have e0 := e
    rw [List.map_cons, List.map_cons] at e
    injection e with e1 e2
    have up0 : ∀ {T : List (List Int)} {R : List Int}, BotW N (rd (R :: T)) → BotW N (rd T) := fun {T R} h i h1 h2 => by
      have q := h i h1 h2
      rw [show rd (R :: T) = rd T ++ R from rfl, up_app] at q
      omega
    have g1 : R = R' := cle_eq t.2.1 t'.2.1 (fun z hz => b z (List.mem_append_right _ hz)) (fun z hz => b' z (List.mem_append_right _ hz)) fun v hv => by
      have q1 := l1 v hv
      have q2 := l2 v hv
      unfold lenAt at q1 q2
      rw [e0] at q1
      exact q1.trans q2.symm
    rw [g1, low_eq t.2.2.2 t'.2.2.2 (fun z hz => b z (List.mem_append_left _ hz)) (fun z hz => b' z (List.mem_append_left _ hz)) (up0 h) (up0 h') e2]
theorem bot_one {n : Int} {w r1 r2 t1 t2 : List Int} (n0 : 0 ≤ n) (b : Bd n w) (d1 : ∀ d ∈ r1, DeedN n d) (d2 : ∀ d ∈ r2, DeedN n d) (e1 : runL r1 w = some t1) (e2 : runL r2 w = some t2) (h1 : BotW n t1) (h2 : BotW n t2) : t1 = t2 := by
  obtain ⟨N, rfl⟩ : ∃ N : Nat, n = (N : Int) := ⟨n.toNat, by omega⟩
  obtain ⟨l1, s1⟩ := shs_run b d1 e1
  obtain ⟨l2, s2⟩ := shs_run b d2 e2
  obtain ⟨k1, _⟩ := tab_kn t1
  obtain ⟨k2, _⟩ := tab_kn t2
  refine tab_inj w.length t1 t2 l1 l2 (fun k => (s1 k).trans (s2 k).symm) (low_eq (N := N) (tab_tab t1) (tab_tab t2) ((run_bd b d1 e1).perm k1.perm) ((run_bd b d2 e2).perm k2.perm) (h1.nn k1.nn) (h2.nn k2.nn) ?_)
  have q1 := s1 w.length
  have q2 := s2 w.length
  rw [List.take_of_length_le (by omega), List.take_of_length_le (by omega)] at q1 q2
  exact q1.trans q2.symm
/-! ### how often each deed is done -/
theorem cle_set (i : Int) : ∀ {l : List Int} {p : Nat} {x y : Int}, l[p]? = some x → (cle (l.set p y) i : Int) = (cle l i : Int) - (if x ≤ i then 1 else 0) + (if y ≤ i then 1 else 0)
  | [], p, x, y, h => by simp at h
  | a :: l, 0, x, y, h => by
    have e : a = x := by simpa using h
    subst e
    rw [List.set_cons_zero, cle_cons, cle_cons]
    split <;> split <;> omega
  | a :: l, p + 1, x, y, h => by
    rw [List.set_cons_succ, cle_cons, cle_cons]
    have ih := cle_set i (l := l) (p := p) (x := x) (y := y) (by simpa using h)
    omega
theorem cle_done {d : Int} {l r : List Int} (h : doneL d l = some r) (d0 : d ≠ 0) (i : Int) : (cle r i : Int) = (cle l i : Int) - (if d = i ∧ 0 < d then 1 else 0) + (if d = -i ∧ d < 0 then 1 else 0) := by
  unfold doneL at h
  by_cases c : 0 < d
  · rw [if_pos c] at h
    split at h
    · cases h
    · rename_i z
      cases h
      have hm := lst_mem z
      have b := br_bd (i := d) (l := l) (.inl hm)
      have v := val_some b.1 b.2
      rw [low_val hm] at v
      unfold upL
      rw [cle_set i v]
      (repeat' split) <;> omega
  · rw [if_neg c] at h
    split at h
    · cases h
    · rename_i z
      cases h
      have hm := fst_mem z
      have b := br_bd (i := -d) (l := l) (.inr hm)
      have v := val_some b.1 b.2
      rw [high_val hm] at v
      unfold dnL
      rw [cle_set i v]
      (repeat' split) <;> omega
theorem cle_run {i : Int} (i0 : 0 < i) : ∀ {row l e : List Int}, (∀ d ∈ row, d ≠ 0) → runL row l = some e → (cle e i : Int) = (cle l i : Int) - (row.count i : Int) + (row.count (-i) : Int)
  | [], l, e, _, h => by
    cases h
    simp
  | d :: row, l, e, g, h => by
    obtain ⟨a, e1, e2⟩ := runL_split h
    have q1 := cle_done e1 (g d (List.mem_cons_self ..)) i
    have q2 := cle_run i0 (row := row) (fun x hx => g x (List.mem_cons_of_mem _ hx)) e2
    rw [cnt_cons, cnt_cons]
    (repeat' split at q1) <;> (repeat' split) <;> omega
/-- two rows of one sign to the same end hold the same deeds -/
theorem row_perm {s : Int} {r1 r2 l e : List Int} (h1 : ∀ d ∈ r1, d ≠ 0 ∧ (0 < d ↔ 0 < s)) (h2 : ∀ d ∈ r2, d ≠ 0 ∧ (0 < d ↔ 0 < s)) (e1 : runL r1 l = some e) (e2 : runL r2 l = some e) : r1.Perm r2 := by
  refine List.perm_iff_count.mpr fun z => ?_
  have no : ∀ {r : List Int}, (∀ d ∈ r, d ≠ 0 ∧ (0 < d ↔ 0 < s)) → ∀ y : Int, (y = 0 ∨ ¬ (0 < y ↔ 0 < s)) → r.count y = 0 := fun {r} h y hy => cnt_zero fun x hx q => by
    subst q
    have := h x hx
    rcases hy with c | c
    · exact this.1 c
    · exact c this.2
  by_cases c : z = 0 ∨ ¬ (0 < z ↔ 0 < s)
  · rw [no h1 z c, no h2 z c]
  · have z0 : z ≠ 0 := fun q => c (.inl q)
    have zs : 0 < z ↔ 0 < s := Classical.byContradiction fun q => c (.inr q)
    by_cases zp : 0 < z
    · have q1 := cle_run zp (fun d hd => (h1 d hd).1) e1
      have q2 := cle_run zp (fun d hd => (h2 d hd).1) e2
      rw [no h1 (-z) (.inr (by omega))] at q1
      rw [no h2 (-z) (.inr (by omega))] at q2
      omega
    · have q1 := cle_run (i := -z) (by omega) (fun d hd => (h1 d hd).1) e1
      have q2 := cle_run (i := -z) (by omega) (fun d hd => (h2 d hd).1) e2
      rw [no h1 (-z) (.inr (by omega)), Int.neg_neg] at q1
      rw [no h2 (-z) (.inr (by omega)), Int.neg_neg] at q2
      omega
end LwM
/-! Cl. Always the first deed that can be done. -/
namespace LwM
def ixs (n : Nat) : List Int := (List.range n).map fun q => 1 + ((q : Nat) : Int)
theorem ixs_succ (n : Nat) : ixs (n + 1) = ixs n ++ [1 + ((n : Nat) : Int)] := by
  unfold ixs
  rw [List.range_succ, List.map_append]
  rfl
theorem ixs_mem {n : Nat} {i : Int} : i ∈ ixs n ↔ 1 ≤ i ∧ i ≤ n := by
  unfold ixs
  constructor
  · intro h
    obtain ⟨q, hq, rfl⟩ := List.mem_map.mp h
    have := List.mem_range.mp hq
    omega
  · rintro ⟨h1, h2⟩
    exact List.mem_map.mpr ⟨(i - 1).toNat, List.mem_range.mpr (by omega), by omega⟩
theorem ixs_len (n : Nat) : (ixs n).length = n := by
  unfold ixs
  rw [List.length_map, List.length_range]
/-- the deeds of one sign -/
def dds (sign : Int) (n : Nat) : List Int := (ixs n).map fun i => sign * i
theorem dds_succ (sign : Int) (n : Nat) : dds sign (n + 1) = dds sign n ++ [sign * (1 + ((n : Nat) : Int))] := by
  unfold dds
  rw [ixs_succ, List.map_append]
  rfl
theorem dds_len (sign : Int) (n : Nat) : (dds sign n).length = n := by
  unfold dds
  rw [List.length_map, ixs_len]
theorem dds_mem {sign : Int} {n : Nat} {d : Int} (hs : sign = 1 ∨ sign = -1) (h : d ∈ dds sign n) : d ≠ 0 ∧ -(n : Int) ≤ d ∧ d ≤ n ∧ (0 < d ↔ 0 < sign) := by
  obtain ⟨i, hi, rfl⟩ := List.mem_map.mp h
  have := ixs_mem.mp hi
  rcases hs with e | e <;> subst e <;> omega
/-- how far letters may still be led -/
def far (sign : Int) (l : List Int) : Int := if 0 < sign then 6 * (l.length : Int) - l.sum else l.sum - l.length
theorem far_done {sign d : Int} {l r : List Int} (hd : 0 < d ↔ 0 < sign) (h : doneL d l = some r) : far sign r = far sign l - 1 := by
  have e1 := doneL_len h
  have e2 := doneL_sum h
  unfold far
  by_cases c : 0 < sign
  · rw [if_pos (hd.mpr c)] at e2
    rw [if_pos c, if_pos c, e1, e2]
    omega
  · rw [if_neg (fun z => c (hd.mp z))] at e2
    rw [if_neg c, if_neg c, e1, e2]
    omega
theorem far_bd {sign n : Int} {l : List Int} (h : ∀ x ∈ l, 1 ≤ x ∧ x ≤ n) (hn : n ≤ 6) : 0 ≤ far sign l ∧ far sign l ≤ 5 * l.length := by
  have b := sum_bd (l := l) (n := 6) fun x hx => ⟨(h x hx).1, by have := (h x hx).2; omega⟩
  unfold far
  split <;> omega
end LwM
namespace Lw
open PySem L2 LwE LwM
/-- how long a list is -/
def lenA (r : Addr) (H : Hp) : Nat := match H r with
  | some (HO.lst xs) => xs.length
  | _ => 0
theorem lenA_of {r : Addr} {H : Hp} {xs : List V} (h : H r = some (.lst xs)) : lenA r H = xs.length := by
  unfold lenA
  rw [h]
/-- the number in the fifth slot -/
def slot4 (σ : List (Option V)) : Nat := match σ with
  | [_, _, _, _, some (V.int z)] => z.toNat
  | _ => 0
section
variable {P : Program} {w : World} {K : PySem.W.Frag} {mg : Str → Option Value} {base : Heap}
def spClimbed (C D : Addr) : Sp := fun vs H Q _ => ∃ (a b : Addr) (size sign : Int) (l ds : List Int), vs = [.ref a, .ref b] ∧ WAt C H a size l ∧ H b = some (.lst (nums ds)) ∧ ds.length ≤ 6 ∧ (∀ d ∈ ds, Deed size d ∧ (0 < d ↔ 0 < sign)) ∧
  ∀ q r x row e H', Same H H' → Led ds row l e → (row.length : Int) + far sign e = far sign l → H' q = some (.tup [.ref r, .ref x]) → H' r = some (.tup (nums row)) → WAt C H' x size e → Q (.ref q) H'
theorem scClimbed : FnScope ["word", "deeds", "walk", "row", "at"] ["word", "deeds"] (defScope sClimbed) := ⟨rfl, rfl, rfl, by decide +kernel, rfl, by decide +kernel, by decide +kernel⟩
theorem ok_climbed {f fW fG fR C D : Addr} {fd fdW fdG fdR : FuncData} (B : Bare mg) (T2 : Cwk K mg D) (F : Df K mg "climbed" sClimbed f fd) (I : Wi_ P w K mg base C D fW fdW) (G : Go_ P w K mg base D fG fdG) (R : Re_ P w K mg base C D fR fdR) :
    FnOk P w K mg base CX0 7 f fd ["word", "deeds"] (spClimbed C D) := by
  refine F.fn.ok scClimbed (fun vs H Q E h => ?_) (fun cdv A outer s H vs Q E hr h => ?_)
  · obtain ⟨a, b, size, sign, l, ds, rfl, _⟩ := h
    rfl
  · obtain ⟨a, b, size, sign, l, ds, rfl, W, hb, hlen, hds, k⟩ := h
    have hr2 : Room 2 _ := hr.mono (by decide)
    have hr3 : Room 3 _ := hr.mono (by decide)
    refine ⟨_, pss_cons (ps_set (i := 2) scClimbed.nd rfl (Or.inl rfl) (pe_make I.m I.ok hr2 (by rfl) T2.mgC I.b .nil pass0 (pa_cons (pv 0) pa_nil)))
      (pss_cons (ps_set (i := 3) scClimbed.nd rfl (Or.inl rfl) (pe_lst pa_nil))
      (pss_cons (ps_set (i := 4) scClimbed.nd rfl (Or.inl rfl) pe_int)
      (pss_cons (ps_while PassesOwn.never (pt_cmpR op_lt (pv 4) (pe_callB call_len_seq (by rfl) B.len PySem.boot_len (pa_cons (pv 1) pa_nil)) (nomark _))
        (pss_one (ps_if (pt_val (pe_meth (pv 2) T2.cl G.m G.ok hr3 G.b .nil pass0 (pa_cons (pe_ix ix_list (pv 1) (pv 4) (fun _ _ => rfl)) pa_nil)))
          (pss_cons (ps_expr (pe_bm PySem.F.plainAttrs_list PySem.F.slot_list_append PySem.F.type_list_append mt_append (pv 3) (pa_cons (pe_ix ix_list (pv 1) (pv 4) (fun _ _ => rfl)) pa_nil)))
            (pss_one (ps_set (i := 4) scClimbed.nd rfl (Or.inl rfl) pe_int)))
          (pss_one (ps_aug (i := 4) scClimbed.nd rfl (Or.inl rfl) pe_int ip_add)))))
      (pss_one (ps_ret (pe_tup (pa_cons (pe_callTy call_tuple_of (by rfl) B.tuple (by decide +kernel) (pa_cons (pv 3) pa_nil)) (pa_cons (pe_meth0 (pv 2) T2.cl R.m R.ok hr R.b .nil pass0) pa_nil)))))))), ?_⟩
    refine ⟨_, rfl, ?_⟩
    intro x dx nx ndx ne
    have s0 := made_same (C := D) nx ndx
    refine ⟨x, dx, a, size, l, rfl, upd_same, W.same s0, fun H1 hd fr lw fs los kp nhd nfr nlw Z => ⟨rfl, ?_⟩⟩
    have s1 : Same H H1 := Same.made nx ndx kp
    replace nhd := s0.free nhd
    replace nfr := s0.free nfr
    replace nlw := s0.free nlw
    refine ⟨Nat.zero_le _, fun rr hrr => ?_⟩
    have r1 : rr ≠ hd := (ne_of_none Z.hh hrr).symm
    have r2 : rr ≠ fr := (ne_of_none Z.hf hrr).symm
    have r3 : rr ≠ lw := (ne_of_none Z.hl hrr).symm
    have nrr : H rr = none := s1.free hrr
    have sz0 := far_bd (sign := sign) W.ls.bd W.ls.s1
    have ll := W.ls.len
    have Z1 := Z.same (same_new (o := .lst []) hrr)
    refine while_by (fun σ H' => ∃ (row c : List Int) (j : Nat) (fs : List V) (los : List Int), σ = [some (.ref a), some (.ref b), some (.ref x), some (.ref rr), some (.int (j : Nat))] ∧ j ≤ ds.length ∧ Same H H' ∧ H' rr = some (.lst (nums row)) ∧ Wk D H' x hd fr lw size c fs los ∧
        (∀ (i : Nat) f, fs[i]? = some (V.ref f) → f ≠ rr) ∧ (∀ y ∈ ds.take j, canD c y = false) ∧ (row.length : Int) + far sign c = far sign l ∧ ∀ row2 e, Led ds row2 c e → Led ds (row ++ row2) l e)
      (fun σ H' => ((far sign l).toNat - lenA rr H') * (ds.length + 1) + (ds.length - slot4 σ))
      ⟨[], l, 0, fs, los, rfl, Nat.zero_le _, s1.trans (same_new hrr), upd_same, Z1, fun i f e => (ne_of_none (Z.inv i f e).2.2.2.1 hrr), fun y hy => by simp at hy, by simp, fun row2 e h => h⟩ ?_ ?_
    · rintro σ H' ⟨row, c, j, fs2, los2, rfl, hj, s2, err, Z2, hrf, hno, hfar, cont⟩
      have hb2 := s2 _ _ hb
      refine ⟨_, rfl, _, rfl, b, _, rfl, .inl (SqL.of hb2), _, _, rfl, rfl, _, rfl, ?_⟩
      rw [List.length_map]
      by_cases c1 : j < ds.length
      · rw [decide_eq_true (by omega)]
        have hx : ds[j]? = some ds[j] := List.getElem?_eq_getElem c1
        have hmem : ds[j] ∈ ds := List.getElem_mem _
        generalize ds[j] = dd at hx hmem
        obtain ⟨⟨d0, d1, d2⟩, hsg⟩ := hds dd hmem
        have ex : (nums ds)[j]? = some (.int dd) := by
          rw [List.getElem?_map, hx]
          rfl
        obtain ⟨dz, hp⟩ := Z2.hp
        have bx : ∀ {H3 : Hp}, K3 hd fr lw H' H3 → H3 b = some (.lst (nums ds)) := fun {H3} k3 => k3 _ _ hb2 (ne_of_none hb nhd) (ne_of_none hb nfr) (ne_of_none hb nlw)
        refine iteT ⟨_, rfl, x, dz, _, rfl, hp, kf_no _ _ _ _ (by decide +kernel) (by decide +kernel) (by decide +kernel) (by decide +kernel), _, rfl, _, rfl, b, _, _, _, rfl, rfl, SqL.of hb2, atI_nat ex,
          x, hd, fr, lw, dd, size, c, fs2, los2, rfl, Z2, d0, d1, d2, fun en H3 fs3 los3 ff k3 Z3 => ?_, fun c2 en H3 fs3 los3 ff k3 Z3 => ?_⟩
        all_goals have hrf3 : ∀ (i : Nat) f, fs3[i]? = some (V.ref f) → f ≠ rr := fun i f e => (ff i f e).elim (hrf i f) fun z => (ne_of_none err z).symm
        · refine ⟨false, rfl, iteF ⟨_, rfl, _, _, rfl, rfl, ⟨row, c, j + 1, fs3, los3, rfl, by omega, K3.same s2 k3 nhd nfr nlw, k3 _ _ err r1 r2 r3, Z3, hrf3, fun y hy => ?_, hfar, cont⟩, ?_⟩⟩
          · rw [List.take_succ, hx] at hy
            rcases List.mem_append.mp hy with q | q
            · exact hno y q
            · rw [show y = dd by simpa using q]
              exact canD_none.mpr en
          · rw [lenA_of (k3 _ _ err r1 r2 r3), lenA_of err]
            show _ + (ds.length - ((j : Int) + 1).toNat) < _ + (ds.length - ((j : Nat) : Int).toNat)
            omega
        · have fd2 := far_done hsg en
          have f2 := far_bd (sign := sign) Z3.L.bd Z3.L.s1
          have err3 := k3 _ _ err r1 r2 r3
          refine ⟨true, rfl, iteT ⟨_, rfl, .inl ⟨rfl, _, SqL.of err3⟩, _, rfl, _, rfl, b, _, _, _, rfl, rfl, SqL.of (bx k3), atI_nat ex, rr, _, _, rfl, rfl, err3, ?_, ?_⟩⟩
          · rw [List.length_map]
            exact small1000 (by omega)
          · have nr : nums row ++ [V.int dd] = nums (row ++ [dd]) := by simp [nums]
            rw [nr]
            have s3 := K3.same s2 k3 nhd nfr nlw
            have keep : ∀ b o, H3 b = some o → b ≠ rr → (upd H3 rr (.lst (nums (row ++ [dd])))) b = some o := fun b o e h => by
              rw [upd_ne h]
              exact e
            refine ⟨⟨row ++ [dd], c2, 0, fs3, los3, rfl, Nat.zero_le _, fun b o e => keep _ _ (s3 _ _ e) (ne_of_none e nrr), upd_same, ?_, hrf3, fun y hy => by simp at hy, ?_, fun row2 e h => ?_⟩, ?_⟩
            · obtain ⟨dz3, hp3⟩ := Z3.hp
              exact ⟨⟨dz3, keep _ _ hp3 (ne_of hp3 err3 (by intro z; cases z))⟩, keep _ _ Z3.hh r1.symm, keep _ _ Z3.hf r2.symm, keep _ _ Z3.hl r3.symm, Z3.n1, Z3.n2, Z3.n3, Z3.lf, Z3.ll, Z3.ki,
                fun j f e => let ⟨g1, g2, g3, g4, g5⟩ := Z3.inv j f e; ⟨g1, g2, g3, keep _ _ g4 (hrf3 j f e), g5⟩, Z3.L⟩
            · rw [List.length_append, List.length_singleton]
              omega
            · rw [List.append_assoc]
              exact cont _ _ (.step (find_at hno hx (canD_some.mpr ⟨c2, en⟩)) en h)
            · rw [lenA_of upd_same, lenA_of err, List.length_map, List.length_map, List.length_append, List.length_singleton]
              show _ + (ds.length - (0 : Int).toNat) < _ + (ds.length - ((j : Nat) : Int).toNat)
              have e5 : (far sign l).toNat - row.length = ((far sign l).toNat - (row.length + 1)) + 1 := by omega
              rw [e5, Nat.add_mul, Nat.one_mul]
              omega
      · rw [decide_eq_false (by omega)]
        refine iteF ?_
        have ej : j = ds.length := by omega
        rw [ej, List.take_length] at hno
        have led := cont [] c (.stop (List.find?_eq_none.mpr fun y hy => by rw [hno y hy]; decide))
        rw [List.append_nil] at led
        refine ⟨_, rfl, rr, _, rfl, .inl ⟨SqL.of err, fun t ht => ?_⟩⟩
        have s5 := same_new (o := .tup (nums row)) ht
        have Z5 := Z2.same s5
        obtain ⟨dz5, hp5⟩ := Z5.hp
        refine ⟨_, rfl, x, dz5, _, rfl, hp5, kf_no _ _ _ _ (by decide +kernel) (by decide +kernel) (by decide +kernel) (by decide +kernel), x, hd, fr, lw, size, c, fs2, los2, rfl, Z5, fun y H6 s6 ny Wy => ⟨(by show 2 ≤ sizeLine; decide), fun q hq => ?_⟩⟩
        have s7 := same_new (o := .tup [.ref t, .ref y]) hq
        exact k q t y row c _ (((s2.trans s5).trans s6).trans s7) led hfar upd_same (s7 _ _ (s6 _ _ upd_same)) (Wy.same s7)
    · intro σ H Q Q' hQ hh
      obtain ⟨v, e, v2, e2, b, ys, e3, hsq, i, j, e4, e5, k, e6, q⟩ := hh
      exact ⟨v, e, v2, e2, b, ys, e3, hsq, i, j, e4, e5, k, e6, hQ _ _ q⟩
end
end Lw
/-! To. The ways to the top and to the bottom. -/
namespace LwM
open LwE
theorem upV_dds (n : Nat) : upV 1 ((n : Int) + 1) = dds 1 n := by
  unfold upV dds ixs
  rw [List.map_map]
  rw [show (((n : Int) + 1) - 1).toNat = n by omega]
  apply List.map_congr_left
  intro q _
  show _ = (1 : Int) * (1 + (q : Int))
  omega
end LwM
namespace Lw
open PySem L2 LwE LwM
section
variable {P : Program} {w : World} {K : PySem.W.Frag} {mg : Str → Option Value} {base : Heap}
def spAll (sign : Int) : Sp := fun vs H Q _ => ∃ size : Int, vs = [.int size] ∧ 2 ≤ size ∧ size ≤ 6 ∧ ∀ b H', Same H H' → H' b = some (.lst (nums (dds sign (size - 1).toNat))) → Q (.ref b) H'
theorem scAllDowns : FnScope ["size", "i"] ["size"] (defScope sAllDowns) := ⟨rfl, rfl, rfl, by decide +kernel, rfl, by decide +kernel, by decide +kernel⟩
theorem ok_alldowns {f : Addr} {fd : FuncData} (B : Bare mg) (F : Df K mg "all_downs" sAllDowns f fd) : FnOk P w K mg base CX0 1 f fd ["size"] (spAll (-1)) := by
  refine F.fn.ok scAllDowns (fun vs H Q E h => ?_) (fun cdv A outer s H vs Q E hr h => ?_)
  · obtain ⟨size, rfl, _⟩ := h
    rfl
  · obtain ⟨size, rfl, z0, z1, k⟩ := h
    refine ⟨_, pss_one (ps_ret (pe_lc (own := [("i", 1)]) (g := gName 1) (tt := tYes) rfl scAllDowns.nd (pi_range2 (by rfl) B.range (pa_cons pe_int (pa_cons (pv 0) pa_nil)))
      (blkOk_by (N := ["size", "i"]) (sc := defScope sAllDowns) (by decide +kernel)) (fun _ _ _ _ _ => pg_name (i := 1) scAllDowns.nd rfl (Or.inl rfl)) (fun _ _ _ _ _ => pts_nil) (fun _ _ _ _ _ => pe_un un_neg (pv 1)))), ?_⟩
    refine ⟨_, rfl, 1, size, rfl, ⟨by decide, by decide, by omega, by omega⟩, fun D hD => ?_⟩
    refine lc_range (lo := 1) (n := (size - 1).toNat) (fun j H' => Same H H' ∧ H' D = some (.lst (nums (dds (-1) j)))) ⟨same_new hD, upd_same⟩ ?_ ?_
    · rintro j H' hj ⟨s1, e1⟩
      refine ⟨rfl, ?_⟩
      unfold tYes
      refine iteT ⟨_, rfl, _, rfl, _, e1, ?_, fun b o e => ?_, ?_⟩
      · rw [List.length_map, dds_len]
        exact small1000 (by omega)
      · rw [upd_ne (ne_of_none e hD)]
        exact s1 _ _ e
      · rw [upd_same, dds_succ, show (-1 : Int) * (1 + ((j : Nat) : Int)) = -(1 + ((j : Nat) : Int)) by omega]
        simp [nums]
    · rintro H1 ⟨s1, e1⟩
      exact k D H1 s1 e1
theorem scAllUps : FnScope ["size"] ["size"] (defScope sAllUps) := ⟨rfl, rfl, rfl, by decide +kernel, rfl, by decide +kernel, by decide +kernel⟩
theorem ok_allups {f : Addr} {fd : FuncData} (B : Bare mg) (F : Df K mg "all_ups" sAllUps f fd) : FnOk P w K mg base CX0 1 f fd ["size"] (spAll 1) := by
  refine F.fn.ok scAllUps (fun vs H Q E h => ?_) (fun cdv A outer s H vs Q E hr h => ?_)
  · obtain ⟨size, rfl, _⟩ := h
    rfl
  · obtain ⟨size, rfl, z0, z1, k⟩ := h
    refine ⟨_, pss_one (ps_ret (pe_listRg rfl (by rfl) B.list (prg_2 (by rfl) B.range pe_int (pv 0)))), ?_⟩
    refine ⟨_, rfl, _, _, rfl, rfl, RgOk.of_le (by omega) (by omega) (by omega) (by omega), fun D hD => ?_⟩
    rw [upV_eq]
    have e : upV 1 size = dds 1 (size - 1).toNat := by
      have q := upV_dds (size - 1).toNat
      rw [show (((size - 1).toNat : Nat) : Int) + 1 = size by omega] at q
      exact q
    rw [e]
    exact k D _ (same_new hD) upd_same
def spWay (C : Addr) (sign : Int) : Sp := fun vs H Q _ => ∃ (a : Addr) (size : Int) (l : List Int), vs = [.ref a] ∧ WAt C H a size l ∧
  ∀ r row e H', Same H H' → Led (dds sign (size - 1).toNat) row l e → (row.length : Int) + far sign e = far sign l → H' r = some (.tup (nums row)) → Q (.ref r) H'
def spEndOf (C : Addr) (sign : Int) : Sp := fun vs H Q _ => ∃ (a : Addr) (size : Int) (l : List Int), vs = [.ref a] ∧ WAt C H a size l ∧
  ∀ x row e H', Same H H' → Led (dds sign (size - 1).toNat) row l e → WAt C H' x size e → Q (.ref x) H'
theorem dds_deed {sign size : Int} (hs : sign = 1 ∨ sign = -1) (z0 : 2 ≤ size) : ∀ d ∈ dds sign (size - 1).toNat, Deed size d ∧ (0 < d ↔ 0 < sign) := fun d hd => by
  obtain ⟨a, b, c, e⟩ := dds_mem hs hd
  exact ⟨⟨a, by omega, by omega⟩, e⟩
theorem sc_totop : FnScope ["word"] ["word"] (defScope sToTop) := ⟨rfl, rfl, rfl, by decide +kernel, rfl, by decide +kernel, by decide +kernel⟩
theorem ok_totop {f f1 f2 C D : Addr} {fd fd1 fd2 : FuncData} (T : Cw K mg C) (F : Df K mg "to_top" sToTop f fd) (F1 : Df K mg "climbed" sClimbed f1 fd1) (b1 : Binds K fd1 ["word", "deeds"] []) (G1 : FnOk P w K mg base CX0 7 f1 fd1 ["word", "deeds"] (spClimbed C D))
    (F2 : Df K mg "all_downs" sAllDowns f2 fd2) (b2 : Binds K fd2 ["size"] []) (G2 : FnOk P w K mg base CX0 1 f2 fd2 ["size"] (spAll (-1))) : FnOk P w K mg base CX0 8 f fd ["word"] (spWay C (-1)) := by
  refine F.fn.ok sc_totop (fun vs H Q E h => ?_) (fun cdv A outer s H vs Q E hr h => ?_)
  · obtain ⟨a, size, l, rfl, _⟩ := h
    rfl
  · obtain ⟨a, size, l, rfl, W, k⟩ := h
    have hr1 : Room 1 _ := hr.mono (by decide)
    refine ⟨_, pss_one (ps_ret (pe_ix ix_tup (pe_call G1 hr (by rfl) F1.g F1.fn.kp b1 .nil pass0 (pa_cons (pv 0) (pa_cons (pe_call G2 hr1 (by rfl) F2.g F2.fn.kp b2 .nil pass0 (pa_cons (pe_fld (pv 0) rfl) pa_nil)) pa_nil))) pe_int (fun _ _ => rfl))), ?_⟩
    obtain ⟨dx, t, h1, h2⟩ := W.ob
    refine ⟨_, rfl, _, rfl, a, C, dx, _, _, rfl, h1, T.cl, T.nS, wf_size _ _, size, rfl, W.ls.s0, W.ls.s1, fun b H1 s1 eb => ?_⟩
    refine ⟨a, b, size, (-1), l, _, rfl, W.same s1, eb, by rw [dds_len]; have := W.ls.s1; omega, dds_deed (.inr rfl) W.ls.s0, fun q r x row e H2 s2 led hfar e1 e2 Wx => ?_⟩
    refine ⟨q, _, _, _, rfl, rfl, SqT.of e1, at_of (j := 0) rfl rfl, ?_⟩
    exact k r row e _ (s1.trans s2) led hfar e2
theorem sc_tobottom : FnScope ["word"] ["word"] (defScope sToBottom) := ⟨rfl, rfl, rfl, by decide +kernel, rfl, by decide +kernel, by decide +kernel⟩
theorem ok_tobottom {f f1 f2 C D : Addr} {fd fd1 fd2 : FuncData} (T : Cw K mg C) (F : Df K mg "to_bottom" sToBottom f fd) (F1 : Df K mg "climbed" sClimbed f1 fd1) (b1 : Binds K fd1 ["word", "deeds"] []) (G1 : FnOk P w K mg base CX0 7 f1 fd1 ["word", "deeds"] (spClimbed C D))
    (F2 : Df K mg "all_ups" sAllUps f2 fd2) (b2 : Binds K fd2 ["size"] []) (G2 : FnOk P w K mg base CX0 1 f2 fd2 ["size"] (spAll 1)) : FnOk P w K mg base CX0 8 f fd ["word"] (spWay C 1) := by
  refine F.fn.ok sc_tobottom (fun vs H Q E h => ?_) (fun cdv A outer s H vs Q E hr h => ?_)
  · obtain ⟨a, size, l, rfl, _⟩ := h
    rfl
  · obtain ⟨a, size, l, rfl, W, k⟩ := h
    have hr1 : Room 1 _ := hr.mono (by decide)
    refine ⟨_, pss_one (ps_ret (pe_ix ix_tup (pe_call G1 hr (by rfl) F1.g F1.fn.kp b1 .nil pass0 (pa_cons (pv 0) (pa_cons (pe_call G2 hr1 (by rfl) F2.g F2.fn.kp b2 .nil pass0 (pa_cons (pe_fld (pv 0) rfl) pa_nil)) pa_nil))) pe_int (fun _ _ => rfl))), ?_⟩
    obtain ⟨dx, t, h1, h2⟩ := W.ob
    refine ⟨_, rfl, _, rfl, a, C, dx, _, _, rfl, h1, T.cl, T.nS, wf_size _ _, size, rfl, W.ls.s0, W.ls.s1, fun b H1 s1 eb => ?_⟩
    refine ⟨a, b, size, 1, l, _, rfl, W.same s1, eb, by rw [dds_len]; have := W.ls.s1; omega, dds_deed (.inl rfl) W.ls.s0, fun q r x row e H2 s2 led hfar e1 e2 Wx => ?_⟩
    refine ⟨q, _, _, _, rfl, rfl, SqT.of e1, at_of (j := 0) rfl rfl, ?_⟩
    exact k r row e _ (s1.trans s2) led hfar e2
theorem sc_topof : FnScope ["word"] ["word"] (defScope sTopOf) := ⟨rfl, rfl, rfl, by decide +kernel, rfl, by decide +kernel, by decide +kernel⟩
theorem ok_topof {f f1 f2 C D : Addr} {fd fd1 fd2 : FuncData} (T : Cw K mg C) (F : Df K mg "top_of" sTopOf f fd) (F1 : Df K mg "climbed" sClimbed f1 fd1) (b1 : Binds K fd1 ["word", "deeds"] []) (G1 : FnOk P w K mg base CX0 7 f1 fd1 ["word", "deeds"] (spClimbed C D))
    (F2 : Df K mg "all_downs" sAllDowns f2 fd2) (b2 : Binds K fd2 ["size"] []) (G2 : FnOk P w K mg base CX0 1 f2 fd2 ["size"] (spAll (-1))) : FnOk P w K mg base CX0 8 f fd ["word"] (spEndOf C (-1)) := by
  refine F.fn.ok sc_topof (fun vs H Q E h => ?_) (fun cdv A outer s H vs Q E hr h => ?_)
  · obtain ⟨a, size, l, rfl, _⟩ := h
    rfl
  · obtain ⟨a, size, l, rfl, W, k⟩ := h
    have hr1 : Room 1 _ := hr.mono (by decide)
    refine ⟨_, pss_one (ps_ret (pe_ix ix_tup (pe_call G1 hr (by rfl) F1.g F1.fn.kp b1 .nil pass0 (pa_cons (pv 0) (pa_cons (pe_call G2 hr1 (by rfl) F2.g F2.fn.kp b2 .nil pass0 (pa_cons (pe_fld (pv 0) rfl) pa_nil)) pa_nil))) pe_int (fun _ _ => rfl))), ?_⟩
    obtain ⟨dx, t, h1, h2⟩ := W.ob
    refine ⟨_, rfl, _, rfl, a, C, dx, _, _, rfl, h1, T.cl, T.nS, wf_size _ _, size, rfl, W.ls.s0, W.ls.s1, fun b H1 s1 eb => ?_⟩
    refine ⟨a, b, size, (-1), l, _, rfl, W.same s1, eb, by rw [dds_len]; have := W.ls.s1; omega, dds_deed (.inr rfl) W.ls.s0, fun q r x row e H2 s2 led hfar e1 e2 Wx => ?_⟩
    refine ⟨q, _, _, _, rfl, rfl, SqT.of e1, at_of (j := 1) rfl rfl, ?_⟩
    exact k x row e _ (s1.trans s2) led Wx
theorem sc_bottomof : FnScope ["word"] ["word"] (defScope sBottomOf) := ⟨rfl, rfl, rfl, by decide +kernel, rfl, by decide +kernel, by decide +kernel⟩
theorem ok_bottomof {f f1 f2 C D : Addr} {fd fd1 fd2 : FuncData} (T : Cw K mg C) (F : Df K mg "bottom_of" sBottomOf f fd) (F1 : Df K mg "climbed" sClimbed f1 fd1) (b1 : Binds K fd1 ["word", "deeds"] []) (G1 : FnOk P w K mg base CX0 7 f1 fd1 ["word", "deeds"] (spClimbed C D))
    (F2 : Df K mg "all_ups" sAllUps f2 fd2) (b2 : Binds K fd2 ["size"] []) (G2 : FnOk P w K mg base CX0 1 f2 fd2 ["size"] (spAll 1)) : FnOk P w K mg base CX0 8 f fd ["word"] (spEndOf C 1) := by
  refine F.fn.ok sc_bottomof (fun vs H Q E h => ?_) (fun cdv A outer s H vs Q E hr h => ?_)
  · obtain ⟨a, size, l, rfl, _⟩ := h
    rfl
  · obtain ⟨a, size, l, rfl, W, k⟩ := h
    have hr1 : Room 1 _ := hr.mono (by decide)
    refine ⟨_, pss_one (ps_ret (pe_ix ix_tup (pe_call G1 hr (by rfl) F1.g F1.fn.kp b1 .nil pass0 (pa_cons (pv 0) (pa_cons (pe_call G2 hr1 (by rfl) F2.g F2.fn.kp b2 .nil pass0 (pa_cons (pe_fld (pv 0) rfl) pa_nil)) pa_nil))) pe_int (fun _ _ => rfl))), ?_⟩
    obtain ⟨dx, t, h1, h2⟩ := W.ob
    refine ⟨_, rfl, _, rfl, a, C, dx, _, _, rfl, h1, T.cl, T.nS, wf_size _ _, size, rfl, W.ls.s0, W.ls.s1, fun b H1 s1 eb => ?_⟩
    refine ⟨a, b, size, 1, l, _, rfl, W.same s1, eb, by rw [dds_len]; have := W.ls.s1; omega, dds_deed (.inl rfl) W.ls.s0, fun q r x row e H2 s2 led hfar e1 e2 Wx => ?_⟩
    refine ⟨q, _, _, _, rfl, rfl, SqT.of e1, at_of (j := 1) rfl rfl, ?_⟩
    exact k x row e _ (s1.trans s2) led Wx
end
end Lw
/-! Le. The law's own ways to an end. -/
namespace LwM
theorem filt_find {p : Int → Bool} : ∀ {l ff : List Int} {d : Int}, l.filter p = d :: ff → l.find? p = some d
  | [], ff, d, h => by simp at h
  | a :: l, ff, d, h => by
    cases c : p a with
    | true =>
      rw [List.filter_cons_of_pos c] at h
      rw [List.find?_cons_of_pos c]
      exact congrArg some (List.cons.inj h).1
    | false =>
      rw [List.filter_cons_of_neg (by rw [c]; decide)] at h
      rw [List.find?_cons_of_neg (by rw [c]; decide)]
      exact filt_find h
theorem filt_none {p : Int → Bool} {l : List Int} (h : l.filter p = []) : l.find? p = none :=
  List.find?_eq_none.mpr fun x hx => by
    have := List.filter_eq_nil_iff.mp h x hx
    exact this
end LwM
namespace Lw
open PySem L2 LwE LwM
section
variable {P : Program} {w : World} {K : PySem.W.Frag} {mg : Str → Option Value} {base : Heap}
def spLed : Sp := fun vs H Q _ => ∃ (a : Addr) (size sign : Int) (l : List Int), vs = [.int size, .ref a, .int sign] ∧ 2 ≤ size ∧ size ≤ 6 ∧ (sign = 1 ∨ sign = -1) ∧ H a = some (.lst (nums l)) ∧ l.length ≤ 40 ∧ (∀ x ∈ l, 1 ≤ x ∧ x ≤ size) ∧
  ∀ q r x row e H', Same H H' → Led (dds sign (size - 1).toNat) row l e → row.length ≤ 200 → H' q = some (.lst [.ref r, .ref x]) → H' r = some (.lst (nums row)) → H' x = some (.lst (nums e)) → H r = none → (x = a ∨ H x = none) → H q = none → Q (.ref q) H'
theorem scLed : FnScope ["size", "letters", "sign", "row", "deeds", "some", "i", "deed"] ["size", "letters", "sign"] (defScope sLed) := ⟨rfl, rfl, rfl, by decide +kernel, rfl, by decide +kernel, by decide +kernel⟩
structure LdW (H H' : Hp) (a : Addr) (size sign : Int) (l : List Int) (R D x : Addr) (row c : List Int) : Prop where
  s : Same H H'
  hR : H' R = some (.lst (nums row))
  hD : H' D = some (.lst (nums (dds sign (size - 1).toNat)))
  hx : H' x = some (.lst (nums c))
  xR : x ≠ R
  xo : x = a ∨ H x = none
  len : c.length = l.length
  bd : ∀ y ∈ c, 1 ≤ y ∧ y ≤ size
  hf : (row.length : Int) + far sign c = far sign l
  ct : ∀ row2 e, Led (dds sign (size - 1).toNat) row2 c e → Led (dds sign (size - 1).toNat) (row ++ row2) l e
theorem LdW.same {H H' H2 : Hp} {a : Addr} {size sign : Int} {l : List Int} {R D x : Addr} {row c : List Int} (W : LdW H H' a size sign l R D x row c) (s : Same H' H2) : LdW H H2 a size sign l R D x row c :=
  ⟨W.s.trans s, s _ _ W.hR, s _ _ W.hD, s _ _ W.hx, W.xR, W.xo, W.len, W.bd, W.hf, W.ct⟩
theorem ok_led {f f2 : Addr} {fd fd2 : FuncData} (B : Bare mg) (F : Df K mg "_law_led" sLed f fd) (F2 : Df K mg "_law_done" sDone f2 fd2) (b2 : Binds K fd2 ["letters", "deed"] []) (G2 : FnOk P w K mg base CX0 2 f2 fd2 ["letters", "deed"] spDone) :
    FnOk P w K mg base CX0 3 f fd ["size", "letters", "sign"] spLed := by
  refine F.fn.ok scLed (fun vs H Q E h => ?_) (fun cdv A outer s H vs Q E hr h => ?_)
  · obtain ⟨a, size, sign, l, rfl, _⟩ := h
    rfl
  · obtain ⟨a, size, sign, l, rfl, z0, z1, hsg, ha, hlen, hbd, k⟩ := h
    have fb := far_bd (sign := sign) hbd z1
    have cm : ∀ j : Int, CMul sign j := fun j => .inl (by rcases hsg with e | e <;> rw [e] <;> decide)
    refine ⟨_, pss_cons (ps_par (i := 3) (j := 4) (by rfl) scLed.nd rfl rfl (by decide) rfl rfl (pa_cons (pe_lst pa_nil) (pa_cons (pe_lc (own := [("i", 6)]) (g := gName 6) (tt := tYes) rfl scLed.nd (pi_range2 (by rfl) B.range (pa_cons pe_int (pa_cons (pv 0) pa_nil)))
        (blkOk_by (N := ["size", "letters", "sign", "row", "deeds", "some", "i", "deed"]) (sc := defScope sLed) (by decide +kernel)) (fun _ _ _ _ _ => pg_name (i := 6) scLed.nd rfl (Or.inl rfl)) (fun _ _ _ _ _ => pts_nil) (fun _ _ _ _ _ => pe_op op_mul (pv 2) (pv 6))) pa_nil)) (by rfl))
      (pss_one (ps_while PassesOwn.never (pt_val pe_bl)
        (pss_cons (ps_setLc (i := 5) (own := [("deed", 7)]) (g := gName 7) rfl scLed.nd rfl rfl (sw_true rfl rfl rfl (by decide +kernel)) (pi_list (pv 4))
          (blkOk_by (N := ["size", "letters", "sign", "row", "deeds", "some", "i", "deed"]) (sc := defScope sLed) (by decide +kernel))
          (fun _ _ _ _ _ => pg_name (i := 7) scLed.nd rfl (Or.inl rfl))
          (fun _ _ _ _ _ => pts_one (pt_cmpR op_notN (pe_call G2 hr (by rfl) F2.g F2.fn.kp b2 .nil pass0 (pa_cons (pv 1) (pa_cons (pv 7) pa_nil))) pe_non (nomark _))) (fun _ _ _ _ _ => pv 7))
        (pss_cons (ps_if (pt_cmpR (op_eqD hr.units) (pv 5) (pe_lst pa_nil) (nomark _)) (pss_one (ps_ret (pe_lst (pa_cons (pv 3) (pa_cons (pv 1) pa_nil))))) pss_nil)
        (pss_cons (ps_expr (pe_bm PySem.F.plainAttrs_list PySem.F.slot_list_append PySem.F.type_list_append mt_append (pv 3) (pa_cons (pe_ix ix_list (pv 5) pe_int (fun _ _ => rfl)) pa_nil)))
        (pss_one (ps_set (i := 1) scLed.nd rfl (Or.inr rfl) (pe_call G2 hr (by rfl) F2.g F2.fn.kp b2 .nil pass0 (pa_cons (pv 1) (pa_cons (pe_ix ix_list (pv 5) pe_int (fun _ _ => rfl)) pa_nil)))))))))), ?_⟩
    refine ⟨Nat.zero_le _, fun R hR => ?_⟩
    have s0 : Same H (upd H R (.lst [])) := same_new hR
    have eR0 : (upd H R (.lst [])) R = some (.lst []) := upd_same
    generalize upd H R (.lst []) = H0 at s0 eR0 ⊢
    refine ⟨_, rfl, 1, size, rfl, ⟨by decide, by decide, by omega, by omega⟩, fun D hD => ?_⟩
    refine lc_range (lo := 1) (n := (size - 1).toNat) (fun j H' => Same H0 H' ∧ H' D = some (.lst (nums (dds sign j)))) ⟨same_new hD, upd_same⟩ ?_ ?_
    · rintro j H' hj ⟨s1, e1⟩
      refine ⟨rfl, ?_⟩
      unfold tYes
      refine iteT ⟨_, rfl, _, rfl, _, _, rfl, rfl, cm _, _, e1, ?_, fun b o e => ?_, ?_⟩
      · rw [List.length_map, dds_len]
        exact small1000 (by omega)
      · rw [upd_ne (ne_of_none e hD)]
        exact s1 _ _ e
      · rw [upd_same, dds_succ]
        simp [nums]
    · rintro H1 ⟨s1, e1⟩
      refine ⟨_, _, rfl, ?_⟩
      have s01 := s0.trans s1
      refine while_by (fun σ H' => ∃ (x : Addr) (row c : List Int) (v5 : Option V), σ = [some (.int size), some (.ref x), some (.int sign), some (.ref R), some (.ref D), v5, none, none] ∧ LdW H H' a size sign l R D x row c)
        (fun _ H' => (far sign l).toNat - lenA R H')
        ⟨a, [], l, none, rfl, ⟨s01, s1 _ _ eR0, e1, s01 _ _ ha, ne_of_none ha hR, .inl rfl, rfl, hbd, by simp, fun row2 e h => h⟩⟩ ?_ ?_
      · rintro σ H' ⟨x, row, c, v5, rfl, W⟩
        have wl := W.len
        have wf := W.hf
        have fc := far_bd (sign := sign) W.bd z1
        refine ⟨true, rfl, iteT ?_⟩
        refine ⟨_, rfl, D, rfl, ⟨_, SqL.of W.hD⟩, fun D2 hD2 => lc_list (K := K) (a := D) (xs := nums (dds sign (size - 1).toNat)) (fun i H5 => Same H' H5 ∧ H5 D2 = some (.lst (nums (((dds sign (size - 1).toNat).take i).filter (canD c))))) ⟨same_new hD2, by rw [upd_same]; rfl⟩
          (fun i H5 _ ⟨s, _⟩ => SqL.of (s _ _ W.hD)) ?_ ?_⟩
        · rintro i y H5 hy ⟨s5, e5⟩
          obtain ⟨z, rfl, hz, hzm⟩ := nums_get hy
          have ef := filt_snoc hz (canD c)
          obtain ⟨dd0, dd1, dd2, dd3⟩ := dds_mem hsg hzm
          refine ⟨rfl, _, rfl, _, rfl, x, z, c, rfl, s5 _ _ W.hx, by omega, dd0, fun ed H6 s6 => ⟨rfl, _, rfl, ?_⟩, fun rr ed p H6 s6 np ep => ⟨rfl, _, rfl, ?_⟩⟩
          · rw [decide_eq_true (rfl : V.non = V.non)]
            rw [canD_none.mpr ed, if_neg (by simp), List.append_nil] at ef
            exact iteF ⟨s5.trans s6, by rw [ef]; exact s6 _ _ e5⟩
          · rw [decide_eq_false (by intro z; cases z)]
            rw [canD_some.mpr ⟨_, ed⟩, if_pos (by rfl)] at ef
            refine iteT ⟨_, rfl, _, s6 _ _ e5, ?_, fun b o e => ?_, by rw [upd_same, ef]; simp [nums]⟩
            · rw [List.length_map]
              have := List.length_filter_le (canD c) ((dds sign (size - 1).toNat).take i)
              rw [List.length_take, dds_len] at this
              exact small1000 (by omega)
            · rw [upd_ne (ne_of_none e hD2)]
              exact s6 _ _ (s5 _ _ e)
        · rintro H5 ⟨s5, e5⟩
          rw [List.length_map, List.take_length] at e5
          have W5 := W.same s5
          refine ⟨_, rfl, Nat.zero_le _, fun z hz => ?_⟩
          have t6 : Same H5 (upd H5 z (.lst [])) := same_new hz
          have ez : (upd H5 z (.lst [])) z = some (.lst []) := upd_same
          generalize upd H5 z (.lst []) = H6 at t6 ez ⊢
          have W6 := W5.same t6
          have e6 := t6 _ _ e5
          refine ⟨.list (((dds sign (size - 1).toNat).filter (canD c)).map PyData.int), .list [], .lst (SqL.of e6) (dp_nums _), .lst (SqL.of ez) .nil, shaped_nums _, by decide, _, rfl, ?_⟩
          rw [eqv_empty]
          have nD2 : H D2 = none := (W.s.free hD2)
          cases hff : (dds sign (size - 1).toNat).filter (canD c) with
          | nil =>
            rw [decide_eq_true rfl]
            refine iteT ⟨_, rfl, _, rfl, (by show 2 ≤ sizeLine; decide), fun q hq => ?_⟩
            have s7 := same_new (o := .lst [.ref R, .ref x]) hq
            have led := W.ct [] c (.stop (filt_none hff))
            rw [List.append_nil] at led
            have W7 := W6.same s7
            exact k q R x row c _ W7.s led (by omega) upd_same W7.hR W7.hx hR W.xo (W6.s.free hq)
          | cons dd ff =>
            rw [hff] at e6
            rw [decide_eq_false (by simp)]
            have hmem : dd ∈ (dds sign (size - 1).toNat).filter (canD c) := by rw [hff]; exact List.mem_cons_self ..
            obtain ⟨hm1, hm2⟩ := List.mem_filter.mp hmem
            obtain ⟨dd0, dd1, dd2, dd3⟩ := dds_mem hsg hm1
            obtain ⟨c2, ec2⟩ := canD_some.mp hm2
            have fd2 := far_done dd3 ec2
            have bd2 := doneL_bd W.bd dd0 (by omega) (by omega) ec2
            have eL := doneL_len ec2
            have f2 := far_bd (sign := sign) bd2 z1
            have RD2 : R ≠ D2 := ne_of_none W.hR hD2
            have RD : R ≠ D := ne_of_none eR0 hD
            refine iteF ⟨_, rfl, .inl ⟨rfl, _, SqL.of W6.hR⟩, _, rfl, D2, _, _, _, rfl, rfl, SqL.of e6, at_of (j := 0) rfl rfl, R, _, _, rfl, rfl, W6.hR, by rw [List.length_map]; exact small1000 (by omega), ?_⟩
            have eR8 : (upd H6 R (.lst (nums row ++ [.int dd]))) R = some (.lst (nums (row ++ [dd]))) := by
              rw [upd_same]
              simp [nums]
            have ko : ∀ b o, b ≠ R → H6 b = some o → (upd H6 R (.lst (nums row ++ [.int dd]))) b = some o := fun b o h e => by
              rw [upd_ne h]
              exact e
            have s8 : Same H (upd H6 R (.lst (nums row ++ [.int dd]))) := fun b o e => ko _ _ (ne_of_none e hR) (W6.s _ _ e)
            have ex8 := ko _ _ W.xR W6.hx
            have eD8 := ko _ _ RD.symm W6.hD
            have e28 := ko _ _ RD2.symm e6
            generalize upd H6 R (.lst (nums row ++ [.int dd])) = H8 at eR8 s8 ex8 eD8 e28 ⊢
            refine ⟨_, rfl, _, rfl, D2, _, _, _, rfl, rfl, SqL.of e28, at_of (j := 0) rfl rfl, x, dd, c, rfl, ex8, by omega, dd0, fun ed => ?_, fun rr ed p H9 s9 np ep => ?_⟩
            · rw [ed] at ec2
              cases ec2
            · rw [ec2] at ed
              cases ed
              refine ⟨⟨p, row ++ [dd], c2, _, rfl, ⟨s8.trans s9, s9 _ _ eR8, s9 _ _ eD8, ep, (ne_of_none eR8 np).symm, .inr (s8.free np), by omega, bd2, ?_, fun row2 e h => ?_⟩⟩, ?_⟩
              · rw [List.length_append, List.length_singleton]
                omega
              · rw [List.append_assoc]
                exact W.ct _ _ (.step (filt_find hff) ec2 h)
              · rw [lenA_of (s9 _ _ eR8), lenA_of W.hR, List.length_map, List.length_map, List.length_append, List.length_singleton]
                omega
      · intro σ H Q Q' hQ hh
        obtain ⟨b, e, q⟩ := hh
        exact ⟨b, e, hQ _ _ q⟩
end
end Lw
/-! Ot. Drawn ways to an end. -/
namespace LwM
theorem runL_snoc {row l r z : List Int} {d : Int} (h : runL row l = some r) (q : doneL d r = some z) : runL (row ++ [d]) l = some z := by
  rw [runL_app, h]
  show runL [d] r = some z
  rw [runL_cons q]
  rfl
end LwM
namespace Lw
open PySem L2 LwE LwM
section
variable {P : Program} {w : World} {K : PySem.W.Frag} {mg : Str → Option Value} {base : Heap}
def spOther : Sp := fun vs H Q _ => ∃ (m g c a : Addr) (n size sign : Int) (l : List Int), vs = [.ref m, .int size, .ref a, .int sign] ∧ Dr H m g c n ∧ n ≤ 90000 ∧ 2 ≤ size ∧ size ≤ 6 ∧ (sign = 1 ∨ sign = -1) ∧ H a = some (.lst (nums l)) ∧ a ≠ g ∧ l.length ≤ 40 ∧ (∀ x ∈ l, 1 ≤ x ∧ x ≤ size) ∧
  ∀ q r x row e n' H', Keep m g H H' → Dr H' m g c n' → n ≤ n' → n' ≤ n + 200 → runL row l = some e → (∀ d ∈ row, d ∈ dds sign (size - 1).toNat) → (∀ d ∈ dds sign (size - 1).toNat, doneL d e = none) → row.length ≤ 5 * l.length →
    H' q = some (.lst [.ref r, .ref x]) → H' r = some (.lst (nums row)) → H' x = some (.lst (nums e)) → Q (.ref q) H'
theorem scOther : FnScope ["m", "size", "letters", "sign", "row", "some", "i"] ["m", "size", "letters", "sign"] (defScope sOther) := ⟨rfl, rfl, rfl, by decide +kernel, rfl, by decide +kernel, by decide +kernel⟩
structure OtW (H H' : Hp) (m g c : Addr) (n size sign : Int) (l : List Int) (R x : Addr) (row cur : List Int) : Prop where
  dr : Dr H' m g c (n + row.length)
  kp : Keep m g H H'
  hR : H' R = some (.lst (nums row))
  hx : H' x = some (.lst (nums cur))
  xR : x ≠ R
  xg : x ≠ g
  len : cur.length = l.length
  bd : ∀ y ∈ cur, 1 ≤ y ∧ y ≤ size
  hf : (row.length : Int) + far sign cur = far sign l
  run : runL row l = some cur
  sub : ∀ d ∈ row, d ∈ dds sign (size - 1).toNat
theorem OtW.same {H H' H2 : Hp} {m g c : Addr} {n size sign : Int} {l : List Int} {R x : Addr} {row cur : List Int} (W : OtW H H' m g c n size sign l R x row cur) (s : Same H' H2) : OtW H H2 m g c n size sign l R x row cur :=
  ⟨W.dr.same s, W.kp.trans (.of s), s _ _ W.hR, s _ _ W.hx, W.xR, W.xg, W.len, W.bd, W.hf, W.run, W.sub⟩
theorem dds_nth {sign : Int} {n i : Nat} (h : i < n) : (dds sign n)[i]? = some (sign * (1 + (i : Int))) := by
  unfold dds ixs
  simp [h]
theorem ok_other {f f1 f2 : Addr} {fd fd1 fd2 : FuncData} (B : Bare mg) (F : Df K mg "_law_other_way" sOther f fd) (F1 : Df K mg "_law_draw" sDraw f1 fd1) (b1 : Binds K fd1 ["m", "limit"] []) (G1 : FnOk P w K mg base CX0 2 f1 fd1 ["m", "limit"] spDraw)
    (F2 : Df K mg "_law_done" sDone f2 fd2) (b2 : Binds K fd2 ["letters", "deed"] []) (G2 : FnOk P w K mg base CX0 2 f2 fd2 ["letters", "deed"] spDone) : FnOk P w K mg base CX0 3 f fd ["m", "size", "letters", "sign"] spOther := by
  refine F.fn.ok scOther (fun vs H Q E h => ?_) (fun cdv A outer s H vs Q E hr h => ?_)
  · obtain ⟨m, g, c, a, n, size, sign, l, rfl, _⟩ := h
    rfl
  · obtain ⟨m, g, c, a, n, size, sign, l, rfl, d0, hn, z0, z1, hsg, ha, nag, hlen, hbd, k⟩ := h
    have fb := far_bd (sign := sign) hbd z1
    have cm : ∀ j : Int, CMul sign j := fun j => .inl (by rcases hsg with e | e <;> rw [e] <;> decide)
    refine ⟨_, pss_cons (ps_set (i := 4) scOther.nd rfl (Or.inl rfl) (pe_lst pa_nil))
      (pss_one (ps_while PassesOwn.never (pt_val pe_bl)
        (pss_cons (ps_setLc (i := 5) (own := [("i", 6)]) (g := gName 6) rfl scOther.nd rfl rfl (sw_true rfl rfl rfl (by decide +kernel)) (pi_range2 (by rfl) B.range (pa_cons pe_int (pa_cons (pv 1) pa_nil)))
          (blkOk_by (N := ["m", "size", "letters", "sign", "row", "some", "i"]) (sc := defScope sOther) (by decide +kernel))
          (fun _ _ _ _ _ => pg_name (i := 6) scOther.nd rfl (Or.inl rfl))
          (fun _ _ _ _ _ => pts_one (pt_cmpR op_notN (pe_call G2 hr (by rfl) F2.g F2.fn.kp b2 .nil pass0 (pa_cons (pv 2) (pa_cons (pe_op op_mul (pv 3) (pv 6)) pa_nil))) pe_non (nomark _))) (fun _ _ _ _ _ => pe_op op_mul (pv 3) (pv 6)))
        (pss_cons (ps_if (pt_cmpR (op_eqD hr.units) (pv 5) (pe_lst pa_nil) (nomark _)) (pss_one (ps_ret (pe_lst (pa_cons (pv 4) (pa_cons (pv 2) pa_nil))))) pss_nil)
        (pss_cons (ps_expr (pe_bm PySem.F.plainAttrs_list PySem.F.slot_list_append PySem.F.type_list_append mt_append (pv 4)
          (pa_cons (pe_ix ix_list (pv 5) (pe_call G1 hr (by rfl) F1.g F1.fn.kp b1 .nil pass0 (pa_cons (pv 0) (pa_cons (pe_callB call_len_seq (by rfl) B.len PySem.boot_len (pa_cons (pv 5) pa_nil)) pa_nil))) (fun _ _ => rfl)) pa_nil)))
        (pss_one (ps_set (i := 2) scOther.nd rfl (Or.inr rfl) (pe_call G2 hr (by rfl) F2.g F2.fn.kp b2 .nil pass0 (pa_cons (pv 2) (pa_cons (pe_ix ix_list (pv 4) (pe_un un_neg pe_int) (fun _ _ => rfl)) pa_nil)))))))))), ?_⟩
    refine ⟨Nat.zero_le _, fun R hR => ?_⟩
    have s0 : Same H (upd H R (.lst [])) := same_new hR
    have eR0 : (upd H R (.lst [])) R = some (.lst []) := upd_same
    have offR := d0.off hR
    generalize upd H R (.lst []) = H0 at s0 eR0 ⊢
    refine while_by (fun σ H' => ∃ (x : Addr) (row cur : List Int) (v5 : Option V), σ = [some (.ref m), some (.int size), some (.ref x), some (.int sign), some (.ref R), v5, none] ∧ OtW H H' m g c n size sign l R x row cur)
      (fun _ H' => (far sign l).toNat - lenA R H')
      ⟨a, [], l, none, rfl, ⟨by have := d0.same s0; simpa using this, .of s0, eR0, s0 _ _ ha, ne_of_none ha hR, nag, rfl, hbd, by simp, rfl, fun d hd => by simp at hd⟩⟩ ?_ ?_
    · rintro σ H' ⟨x, row, cur, v5, rfl, W⟩
      have wl := W.len
      have wf := W.hf
      have fc := far_bd (sign := sign) W.bd z1
      refine ⟨true, rfl, iteT ?_⟩
      refine ⟨_, rfl, 1, size, rfl, ⟨by decide, by decide, by omega, by omega⟩, fun D hD => ?_⟩
      refine lc_range (lo := 1) (n := (size - 1).toNat) (fun i H5 => Same H' H5 ∧ H5 D = some (.lst (nums (((dds sign (size - 1).toNat).take i).filter (canD cur))))) ⟨same_new hD, by rw [upd_same]; rfl⟩ ?_ ?_
      · rintro i H5 hi ⟨s5, e5⟩
        have hz : (dds sign (size - 1).toNat)[i]? = some (sign * (1 + (i : Int))) := dds_nth hi
        have hzm := List.mem_of_getElem? hz
        have ef := filt_snoc hz (canD cur)
        obtain ⟨dd0, dd1, dd2, dd3⟩ := dds_mem hsg hzm
        refine ⟨rfl, _, rfl, _, rfl, _, rfl, _, _, rfl, rfl, cm _, x, sign * (1 + (i : Int)), cur, rfl, s5 _ _ W.hx, by omega, dd0, fun ed H6 s6 => ⟨rfl, _, rfl, ?_⟩, fun rr ed p H6 s6 np ep => ⟨rfl, _, rfl, ?_⟩⟩
        · rw [decide_eq_true (rfl : V.non = V.non)]
          rw [canD_none.mpr ed, if_neg (by simp), List.append_nil] at ef
          exact iteF ⟨s5.trans s6, by rw [ef]; exact s6 _ _ e5⟩
        · rw [decide_eq_false (by intro z; cases z)]
          rw [canD_some.mpr ⟨_, ed⟩, if_pos (by rfl)] at ef
          refine iteT ⟨_, rfl, _, rfl, _, _, rfl, rfl, cm _, _, s6 _ _ e5, ?_, fun b o e => ?_, by rw [upd_same, ef]; simp [nums]⟩
          · rw [List.length_map]
            have := List.length_filter_le (canD cur) ((dds sign (size - 1).toNat).take i)
            rw [List.length_take, dds_len] at this
            exact small1000 (by omega)
          · rw [upd_ne (ne_of_none e hD)]
            exact s6 _ _ (s5 _ _ e)
      · rintro H5 ⟨s5, e5⟩
        rw [show (dds sign (size - 1).toNat).take (size - 1).toNat = dds sign (size - 1).toNat by rw [List.take_of_length_le]; rw [dds_len]; exact Nat.le_refl _] at e5
        have W5 := W.same s5
        refine ⟨_, rfl, Nat.zero_le _, fun z hz => ?_⟩
        have t6 : Same H5 (upd H5 z (.lst [])) := same_new hz
        have ez : (upd H5 z (.lst [])) z = some (.lst []) := upd_same
        generalize upd H5 z (.lst []) = H6 at t6 ez ⊢
        have W6 := W5.same t6
        have e6 := t6 _ _ e5
        have fm : ∀ d ∈ (dds sign (size - 1).toNat).filter (canD cur), d ∈ dds sign (size - 1).toNat ∧ canD cur d = true := fun d hd => List.mem_filter.mp hd
        have fl : ((dds sign (size - 1).toNat).filter (canD cur)).length ≤ 5 := Nat.le_trans (List.length_filter_le ..) (by rw [dds_len]; omega)
        have fn : (dds sign (size - 1).toNat).filter (canD cur) = [] → ∀ d ∈ dds sign (size - 1).toNat, doneL d cur = none := fun h d hd => by
          have := List.filter_eq_nil_iff.mp h d hd
          exact canD_none.mp (by simpa using this)
        generalize (dds sign (size - 1).toNat).filter (canD cur) = ff at e6 fm fl fn ⊢
        refine ⟨.list (ff.map PyData.int), .list [], .lst (SqL.of e6) (dp_nums _), .lst (SqL.of ez) .nil, shaped_nums _, by decide, _, rfl, ?_⟩
        rw [eqv_empty]
        by_cases hff : ff = []
        · rw [decide_eq_true hff]
          refine iteT ⟨_, rfl, _, rfl, (by show 2 ≤ sizeLine; decide), fun q hq => ?_⟩
          have s7 := same_new (o := .lst [.ref R, .ref x]) hq
          have W7 := W6.same s7
          exact k q R x row cur _ _ W7.kp W7.dr (by omega) (by omega) W.run W.sub (fn hff) (by omega) upd_same W7.hR W7.hx
        · rw [decide_eq_false hff]
          have hpos : 0 < ff.length := List.length_pos_iff.mpr hff
          have mD : D ≠ m := ne_of e6 W6.dr.hm (by intro z; cases z)
          have gD : D ≠ g := by
            obtain ⟨gs, _, eg⟩ := W.dr.hg
            exact (ne_of_none eg hD).symm
          have RD : R ≠ D := ne_of_none W.hR hD
          have qm : x ≠ m := ne_of W6.hx W6.dr.hm (by intro z; cases z)
          refine iteF ⟨_, rfl, .inl ⟨rfl, _, SqL.of W6.hR⟩, _, rfl, _, rfl, _, rfl, D, _, rfl, .inl (SqL.of e6), m, g, c, _, _, rfl, W6.dr, by omega, by rw [List.length_map]; omega, by rw [List.length_map]; omega, fun y H7 y0 y1 d7 k7 => ?_⟩
          rw [List.length_map] at y1
          have e7 := k7 _ _ e6 mD gD
          have eR7 := k7 _ _ W6.hR offR.m offR.g
          have eq7 := k7 _ _ W6.hx qm W.xg
          have kk7 := W6.kp.trans k7
          have hx : ff[y.toNat]? = some ff[y.toNat] := List.getElem?_eq_getElem (by omega)
          have hmem : ff[y.toNat] ∈ ff := List.getElem_mem _
          have nx : (nums ff)[y.toNat]? = some (.int ff[y.toNat]) := by
            rw [List.getElem?_map, hx]
            rfl
          generalize ff[y.toNat] = dd at hmem nx
          clear hx
          obtain ⟨dal, dso⟩ := fm dd hmem
          obtain ⟨dd0, dd1, dd2, dd3⟩ := dds_mem hsg dal
          obtain ⟨c2, ec2⟩ := canD_some.mp dso
          have fd2 := far_done dd3 ec2
          have bd2 := doneL_bd W.bd dd0 (by omega) (by omega) ec2
          have eL := doneL_len ec2
          have f2 := far_bd (sign := sign) bd2 z1
          refine ⟨D, _, _, _, rfl, rfl, SqL.of e7, at_of (j := y.toNat) (by omega) nx, R, _, _, rfl, rfl, eR7, by rw [List.length_map]; exact small1000 (by omega), ?_⟩
          have d8 := d7.upd_at (o := .lst (nums row ++ [.int dd])) offR.m offR.g offR.c
          have eR8 : (upd H7 R (.lst (nums row ++ [.int dd]))) R = some (.lst (nums row ++ [.int dd])) := upd_same
          have eq8 : (upd H7 R (.lst (nums row ++ [.int dd]))) x = some (.lst (nums cur)) := by
            rw [upd_ne W.xR]
            exact eq7
          have kk8 : Keep m g H (upd H7 R (.lst (nums row ++ [.int dd]))) := kk7.put hR
          generalize upd H7 R (.lst (nums row ++ [.int dd])) = H8 at d8 eR8 eq8 kk8 ⊢
          refine ⟨_, rfl, _, rfl, 1, rfl, R, _, _, _, rfl, rfl, SqL.of eR8, atI_last _ _, x, dd, cur, rfl, eq8, by omega, dd0, fun ed => ?_, fun rr ed p H9 s9 np ep => ?_⟩
          · rw [ed] at ec2
            cases ec2
          · rw [ec2] at ed
            cases ed
            have eR9 : H9 R = some (.lst (nums (row ++ [dd]))) := by
              rw [s9 _ _ eR8]
              simp [nums]
            refine ⟨⟨p, row ++ [dd], c2, _, rfl, ⟨?_, kk8.trans (.of s9), eR9, ep, (ne_of_none eR8 np).symm, (d8.off np).g, by omega, bd2, ?_, runL_snoc W.run ec2, fun d hd => ?_⟩⟩, ?_⟩
            · have := d8.same s9
              rw [List.length_append, List.length_singleton]
              rw [show n + ((row.length + 1 : Nat) : Int) = n + (row.length : Int) + 1 by omega]
              exact this
            · rw [List.length_append, List.length_singleton]
              omega
            · rcases List.mem_append.mp hd with z | z
              · exact W.sub d z
              · rw [List.mem_singleton.mp z]
                exact dal
            · rw [lenA_of eR9, lenA_of W.hR, List.length_map, List.length_map, List.length_append, List.length_singleton]
              omega
    · intro σ H Q Q' hQ hh
      obtain ⟨b, e, q⟩ := hh
      exact ⟨b, e, hQ _ _ q⟩
end
end Lw
/-! Tx. Texts of small data. -/
namespace LwE
open PySem PySem.Spec PyProof.Rows L2
mutual
def smD : PyData → Bool
  | .none | .bool _ => true
  | .int i => decide (i.natAbs ≤ 100000)
  | .str _ => false
  | .list xs | .tuple xs => smA xs
  | .dict _ => false
def smA : List PyData → Bool
  | [] => true
  | x :: xs => smD x && smA xs
end
mutual
def wtD : PyData → Nat
  | .none => 4
  | .bool _ => 5
  | .int _ => 18
  | .str _ => 0
  | .list xs | .tuple xs => wtA xs + 3
  | .dict _ => 0
def wtA : List PyData → Nat
  | [] => 0
  | x :: xs => wtD x + 2 + wtA xs
end
theorem textFrom_le : ∀ (ts : List Str) (k : Nat) (acc : Str), (textFrom k acc ts).length ≤ acc.length + piled ts
  | [], k, acc => by simp [textFrom]
  | t :: ts, k, acc => by
    have ih := textFrom_le ts (k + 1) (acc ++ (if k > 0 then ", " else "" : String) ++ t)
    have e : (acc ++ (if k > 0 then ", " else "" : String) ++ t).length ≤ acc.length + 2 + t.length := by
      rw [strLen_append, strLen_append]
      split
      · have : ((", " : String) : Str).length = 2 := rfl
        omega
      · have : (("" : String) : Str).length = 0 := rfl
        omega
    rw [piled_cons]
    show (textFrom (k + 1) _ ts).length ≤ _
    omega
theorem listText_le (ts : List Str) : (listText ts).length ≤ piled ts + 2 := by
  unfold listText
  rw [strLen_append]
  have h := textFrom_le ts 0 "["
  have e1 : (("[" : String) : Str).length = 1 := rfl
  have e2 : (("]" : String) : Str).length = 1 := rfl
  omega
theorem tupleText_le (ts : List Str) : (tupleText ts).length ≤ piled ts + 3 := by
  unfold tupleText
  rw [strLen_append, strLen_append]
  have e1 : ((("(" : String) : Str)).length = 1 := rfl
  have e3 : (((if ts.length == 1 then ",)" else ")" : String) : Str)).length ≤ 2 := by split <;> decide
  by_cases h : ts = []
  · subst h
    have : (Str.join ", " []).length = 0 := rfl
    omega
  · have := join_length_add ts h
    omega
theorem log_small (i : Int) (h : i.natAbs ≤ 100000) : i.natAbs.log2 < 17 := by
  rcases Nat.eq_zero_or_pos i.natAbs with z | z
  · rw [z]
    decide
  · exact (Nat.log2_lt (by omega)).mpr (by omega)
mutual
theorem sm_all : ∀ d : PyData, smD d = true → d.showable = true ∧ d.hasDict = false ∧ d.shown.length ≤ wtD d
  | .none, _ => ⟨rfl, rfl, by simp only [PyData.shown, wtD]; decide⟩
  | .bool b, _ => ⟨rfl, rfl, by simp only [PyData.shown, wtD]; cases b <;> decide⟩
  | .int i, h => by
    have hi : i.natAbs ≤ 100000 := by simpa [smD] using h
    have h1 := log_small i hi
    have h2 := int_text_length_le (by decide : 0 < 17) h1
    refine ⟨?_, rfl, ?_⟩
    · simp only [PyData.showable, decide_eq_true_eq]
      omega
    · simp only [PyData.shown, wtD]
      show (Str.ofString (toString i)).length ≤ 18
      rw [PySem.ofString_length]
      omega
  | .str x, h => by simp [smD] at h
  | .list xs, h => by
    obtain ⟨a, b, c⟩ := sm_allA xs (by simpa [smD] using h)
    refine ⟨by simpa [PyData.showable] using a, by simpa [PyData.hasDict] using b, ?_⟩
    simp only [PyData.shown, wtD]
    have := listText_le (PyData.shownAll xs)
    omega
  | .tuple xs, h => by
    obtain ⟨a, b, c⟩ := sm_allA xs (by simpa [smD] using h)
    refine ⟨by simpa [PyData.showable] using a, by simpa [PyData.hasDict] using b, ?_⟩
    simp only [PyData.shown, wtD]
    have := tupleText_le (PyData.shownAll xs)
    omega
  | .dict _, h => by simp [smD] at h
theorem sm_allA : ∀ xs : List PyData, smA xs = true → PyData.showableAll xs = true ∧ PyData.hasDictAll xs = false ∧ piled (PyData.shownAll xs) ≤ wtA xs
  | [], _ => ⟨rfl, rfl, by simp [PyData.shownAll, piled, wtA]⟩
  | x :: xs, h => by
    have h' : smD x = true ∧ smA xs = true := by simpa [smA] using h
    obtain ⟨a, b, c⟩ := sm_all x h'.1
    obtain ⟨a2, b2, c2⟩ := sm_allA xs h'.2
    refine ⟨by simp [PyData.showableAll, a, a2], by simp [PyData.hasDictAll, b, b2], ?_⟩
    simp only [PyData.shownAll, wtA, piled_cons]
    omega
end
theorem sm_ints : ∀ l : List Int, (∀ x ∈ l, x.natAbs ≤ 100000) → smA (l.map PyData.int) = true
  | [], _ => rfl
  | x :: l, h => by
    have ih := sm_ints l fun y hy => h y (List.mem_cons_of_mem _ hy)
    have hx := h x (List.mem_cons_self ..)
    simp [smA, smD, ih, hx]
theorem wt_ints : ∀ l : List Int, wtA (l.map PyData.int) = 20 * l.length
  | [] => rfl
  | x :: l => by
    have ih := wt_ints l
    simp only [List.map_cons, wtA, wtD, List.length_cons, ih]
    omega
/-- repr of small data -/
def rReprS (K : PySem.W.Frag) : List V → Hp → VK → Prop := fun xs H Q => ∃ (a : Addr) (d : PyData), xs = [V.ref a] ∧ Dp K H (.ref a) d ∧ smD d = true ∧ d.depth ≤ 8 ∧ wtD d ≤ 1000000 ∧ Q (.str d.shown) H
theorem call_reprS {X : Cx} (hg : X.A.guards = some []) (hu : X.A.units + 64 < cLine) : CallR X (.builtin "repr") (rReprS X.K) := by
  intro pins s σ H xs us Q I r h
  obtain ⟨a, d, rfl, hd, h1, h2, h3, q⟩ := h
  obtain ⟨g1, g2, g3⟩ := sm_all d h1
  refine call_reprD hg hu pins s σ H _ us Q I r ⟨a, d, rfl, hd, g1, g2, h2, ?_, q⟩
  rw [sizeLine_eq]
  omega
end LwE
/-! Iw. Is it the word; are two tuples alike. -/
namespace Lw
open PySem L2 LwE LwM
section
variable {P : Program} {w : World} {K : PySem.W.Frag} {mg : Str → Option Value} {base : Heap}
theorem dep_ints (l : List Int) : PyData.depthAll (l.map PyData.int) = 0 := (lay_nums l).2
def spIsWord (C : Addr) : Sp := fun vs H Q _ => ∃ (a b : Addr) (size : Int) (l : List Int), vs = [.ref a, .int size, .ref b] ∧ WAt C H a size l ∧ H b = some (.lst (nums l)) ∧ ∀ H', Same H H' → Q (.bl true) H'
theorem scIsWord : FnScope ["told", "size", "letters"] ["told", "size", "letters"] (defScope sIsWord) := ⟨rfl, rfl, rfl, by decide +kernel, rfl, by decide +kernel, by decide +kernel⟩
theorem ok_isword {f C : Addr} {fd : FuncData} (B : Bare mg) (T : Cw K mg C) (F : Df K mg "_law_is_word" sIsWord f fd) : FnG P w K mg base 1 f fd ["told", "size", "letters"] (spIsWord C) := by
  refine okG F.fn scIsWord (fun vs H Q E h => ?_) (fun cdv A outer s H vs Q E hg hr h => ?_)
  · obtain ⟨a, b, size, l, rfl, _⟩ := h
    rfl
  · obtain ⟨a, b, size, l, rfl, W, hb, k⟩ := h
    obtain ⟨dx, t, h1, h2⟩ := W.ob
    refine ⟨_, pss_one (ps_ret (pe_and (pe_callB call_isi (by rfl) B.isinstance (by decide +kernel) (pa_cons (pv 0) (pa_cons (pe_glob (v := .ref C) (by rfl) T.mgC rfl) pa_nil)))
      (pe_one (pe_cmpR op_eq (pe_callB (call_reprS (by exact hg) hr.units) (by rfl) B.repr (by decide +kernel) (pa_cons (pe_tup (pa_cons (pe_fld (pv 0) rfl) (pa_cons (pe_fld (pv 0) rfl) pa_nil))) pa_nil))
        (pe_callB (call_reprS (by exact hg) hr.units) (by rfl) B.repr (by decide +kernel) (pa_cons (pe_tup (pa_cons (pv 1) (pa_cons (pe_callTy call_tuple_of (by rfl) B.tuple (by decide +kernel) (pa_cons (pv 2) pa_nil)) pa_nil))) pa_nil)) (nomark _))))), ?_⟩
    have ls := W.ls
    have s0 := ls.s0
    have s1 := ls.s1
    have sm : smD (.tuple [.int size, .tuple (l.map PyData.int)]) = true := by
      have := sm_ints l fun x hx => by have := ls.bd x hx; omega
      have h2 : size.natAbs ≤ 100000 := by omega
      simp [smD, smA, this, h2]
    have wt : wtD (.tuple [.int size, .tuple (l.map PyData.int)]) ≤ 1000000 := by
      have := wt_ints l
      have := ls.len
      simp only [wtD, wtA]
      omega
    have dp : (PyData.tuple [.int size, .tuple (l.map PyData.int)]).depth ≤ 8 := by
      have := dep_ints l
      simp [PyData.depth, PyData.depthAll, this]
    refine ⟨_, rfl, _, _, .ref C, .ref C, true, rfl, ClsV.own C, ty_word T W, kit_word, true, rfl, iteT ?_⟩
    refine ⟨_, rfl, a, C, dx, _, _, rfl, h1, T.cl, T.nS, wf_size _ _, _, rfl, a, C, dx, _, _, rfl, h1, T.cl, T.nL, wf_letters _ _, (by show 2 ≤ sizeLine; decide), fun p hp => ?_⟩
    have s1 : Same H (upd H p (.tup [.int size, .ref t])) := same_new hp
    have ep : (upd H p (.tup [.int size, .ref t])) p = some (.tup [.int size, .ref t]) := upd_same
    generalize upd H p (.tup [.int size, .ref t]) = H1 at s1 ep ⊢
    refine ⟨p, _, rfl, .tup (SqT.of ep) (.cons (.int size) (.cons (.tup (SqT.of (s1 _ _ h2)) (dp_nums l)) .nil)), sm, dp, wt, ?_⟩
    refine ⟨_, rfl, _, rfl, b, _, rfl, .inl ⟨SqL.of (s1 _ _ hb), fun u hu => ⟨(by show 2 ≤ sizeLine; decide), fun q hq => ?_⟩⟩⟩
    have s2 : Same H1 (upd H1 u (.tup (nums l))) := same_new hu
    have eu : (upd H1 u (.tup (nums l))) u = some (.tup (nums l)) := upd_same
    generalize upd H1 u (.tup (nums l)) = H2 at s2 eu hq ⊢
    have s3 : Same H2 (upd H2 q (.tup [.int size, .ref u])) := same_new hq
    have eq : (upd H2 q (.tup [.int size, .ref u])) q = some (.tup [.int size, .ref u]) := upd_same
    generalize upd H2 q (.tup [.int size, .ref u]) = H3 at s3 eq ⊢
    refine ⟨q, _, rfl, .tup (SqT.of eq) (.cons (.int size) (.cons (.tup (SqT.of (s3 _ _ eu)) (dp_nums l)) .nil)), sm, dp, wt, rfl, ?_⟩
    rw [decide_eq_true rfl]
    exact k H3 ((s1.trans s2).trans s3)
def spLike : Sp := fun vs H Q _ => ∃ (a b : Addr) (l : List Int), vs = [.ref a, .ref b] ∧ H a = some (.tup (nums l)) ∧ H b = some (.tup (nums l)) ∧ l.length ≤ 1000 ∧ (∀ x ∈ l, x.natAbs ≤ 1000) ∧ Q (.bl true) H
theorem scLike : FnScope ["told", "due"] ["told", "due"] (defScope sLike) := ⟨rfl, rfl, rfl, by decide +kernel, rfl, by decide +kernel, by decide +kernel⟩
theorem ok_like {f : Addr} {fd : FuncData} (B : Bare mg) (F : Df K mg "_law_like" sLike f fd) : FnG P w K mg base 1 f fd ["told", "due"] spLike := by
  refine okG F.fn scLike (fun vs H Q E h => ?_) (fun cdv A outer s H vs Q E hg hr h => ?_)
  · obtain ⟨a, b, l, rfl, _⟩ := h
    rfl
  · obtain ⟨a, b, l, rfl, ha, hb, hl, hs, k⟩ := h
    refine ⟨_, pss_one (ps_ret (pe_cmpR op_eq (pe_callB (call_reprS (by exact hg) hr.units) (by rfl) B.repr (by decide +kernel) (pa_cons (pv 0) pa_nil))
      (pe_callB (call_reprS (by exact hg) hr.units) (by rfl) B.repr (by decide +kernel) (pa_cons (pv 1) pa_nil)) (nomark _))), ?_⟩
    have sm : smD (.tuple (l.map PyData.int)) = true := by
      have := sm_ints l fun x hx => by have := hs x hx; omega
      simpa [smD] using this
    have wt : wtD (.tuple (l.map PyData.int)) ≤ 1000000 := by
      have := wt_ints l
      simp only [wtD]
      omega
    have dp : (PyData.tuple (l.map PyData.int)).depth ≤ 8 := by
      have := dep_ints l
      simp [PyData.depth, this]
    refine ⟨_, rfl, a, _, rfl, .tup (SqT.of ha) (dp_nums l), sm, dp, wt, ?_⟩
    refine ⟨_, rfl, b, _, rfl, .tup (SqT.of hb) (dp_nums l), sm, dp, wt, ?_⟩
    refine ⟨rfl, ?_⟩
    rw [decide_eq_true rfl]
    exact k
end
end Lw
/-! Rows. The law's own insertion. -/
namespace LwM
/-- the first place of a greater letter, among the first i -/
def Fst (x : Int) (R : List Int) (i : Nat) (ps : List Int) : Prop := ps.length ≤ i ∧ (ps = [] → ∀ (q : Nat) z, q < i → R[q]? = some z → ¬ x < z) ∧
  ∀ p rest, ps = p :: rest → ∃ (j : Nat) (y : Int), p = (j : Int) ∧ j < i ∧ R[j]? = some y ∧ x < y ∧ ∀ (q : Nat) z, q < j → R[q]? = some z → ¬ x < z
theorem Fst.zero (x : Int) (R : List Int) : Fst x R 0 [] := ⟨Nat.le_refl _, fun _ q z h => absurd h (Nat.not_lt_zero _), fun p rest h => by cases h⟩
theorem Fst.yes {x y : Int} {R : List Int} {i : Nat} {ps : List Int} (h : Fst x R i ps) (e : R[i]? = some y) (l : x < y) : Fst x R (i + 1) (ps ++ [(i : Int)]) := by
  obtain ⟨h1, h2, h3⟩ := h
  refine ⟨by rw [List.length_append, List.length_singleton]; omega, fun z => by simp at z, fun p rest hp => ?_⟩
  cases ps with
  | nil =>
    have e1 : ((i : Int)) = p := (List.cons.inj hp).1
    exact ⟨i, y, e1.symm, Nat.lt_succ_self i, e, l, h2 rfl⟩
  | cons a ps =>
    have e1 : a = p := (List.cons.inj hp).1
    obtain ⟨j, y2, f1, f2, f3, f4, f5⟩ := h3 a ps rfl
    exact ⟨j, y2, by rw [← e1]; exact f1, by omega, f3, f4, f5⟩
theorem Fst.no {x y : Int} {R : List Int} {i : Nat} {ps : List Int} (h : Fst x R i ps) (e : R[i]? = some y) (l : ¬ x < y) : Fst x R (i + 1) ps := by
  obtain ⟨h1, h2, h3⟩ := h
  refine ⟨by omega, fun z q u hq hu => ?_, fun p rest hp => ?_⟩
  · rcases Nat.lt_or_ge q i with c | c
    · exact h2 z q u c hu
    · have : q = i := by omega
      subst this
      rw [e] at hu
      cases hu
      exact l
  · obtain ⟨j, y2, f1, f2, f3⟩ := h3 p rest hp
    exact ⟨j, y2, f1, by omega, f3⟩
theorem rowIns_none {x : Int} : ∀ {R : List Int}, (∀ (q : Nat) z, q < R.length → R[q]? = some z → ¬ x < z) → rowIns x R = (none, R ++ [x])
  | [], _ => rfl
  | a :: R, h => by
    have h0 := h 0 a (Nat.succ_pos _) rfl
    have ih := rowIns_none (R := R) (x := x) fun q z hq hz => h (q + 1) z (Nat.succ_lt_succ hq) hz
    rw [rowIns_ge h0, ih]
    rfl
theorem rowIns_some {x y : Int} : ∀ {R : List Int} {j : Nat}, R[j]? = some y → x < y → (∀ (q : Nat) z, q < j → R[q]? = some z → ¬ x < z) → rowIns x R = (some y, R.set j x)
  | [], j, e, _, _ => by simp at e
  | a :: R, 0, e, l, _ => by
    have ea : a = y := by simpa using e
    subst ea
    exact rowIns_lt l
  | a :: R, j + 1, e, l, h => by
    have h0 := h 0 a (Nat.succ_pos _) rfl
    have ih := rowIns_some (R := R) (j := j) (by simpa using e) l fun q z hq hz => h (q + 1) z (Nat.succ_lt_succ hq) hz
    rw [rowIns_ge h0, ih]
    rfl
theorem ins_stop {x : Int} {R : List Int} (T : List (List Int)) (h : rowIns x R = (none, R ++ [x])) : insT x (R :: T) = (R ++ [x]) :: T := by
  rw [insT_cons, h]
theorem ins_go {x y : Int} {R R2 : List Int} (T : List (List Int)) (h : rowIns x R = (some y, R2)) : insT x (R :: T) = R2 :: insT y T := by
  rw [insT_cons, h]
theorem rd_len : ∀ {T : List (List Int)}, Tab T → T.length ≤ (rd T).length ∧ ∀ l ∈ T, l.length ≤ (rd T).length
  | [], _ => ⟨Nat.le_refl _, fun l hl => by simp at hl⟩
  | R :: T, ⟨h1, _, _, h4⟩ => by
    obtain ⟨a, b⟩ := rd_len h4
    have p := List.length_pos_iff.mpr h1
    have e : (rd (R :: T)).length = (rd T).length + R.length := by
      show (rd T ++ R).length = _
      rw [List.length_append]
    refine ⟨by rw [e, List.length_cons]; omega, fun l hl => ?_⟩
    rcases List.mem_cons.mp hl with q | q
    · rw [q, e]
      omega
    · have := b l q
      omega
theorem tab_len (w : List Int) : (tabL w).length ≤ w.length ∧ ∀ l ∈ tabL w, l.length ≤ w.length := by
  have h := (tab_kn w).1.perm.length_eq
  rw [h]
  exact rd_len (tab_tab w)
end LwM
namespace Lw
open PySem L2 LwE LwM
theorem ite_tail {c : Bool} {X : Prop} {H' : Hp} {P : Hp → Prop} (G : Hp → Prop) (tail : ∀ H2, G H2 → P H2) (yes : c = true → (∀ H2, G H2 → P H2) → X) (no : c = false → G H') : if c = true then X else P H' := by
  cases c with
  | true => exact yes rfl tail
  | false => exact tail H' (no rfl)
/-- a list of lists of numbers at R, all of it new -/
structure RA (H0 H : Hp) (R : Addr) (T : List (List Int)) (as : List Addr) : Prop where
  s : Same H0 H
  hR : H R = some (.lst (as.map V.ref))
  fR : H0 R = none
  ln : as.length = T.length
  nd : ∀ (i j : Nat) b, as[i]? = some b → as[j]? = some b → i = j
  at_ : ∀ (q : Nat) b l, as[q]? = some b → T[q]? = some l → H b = some (.lst (nums l))
  fr : ∀ b ∈ as, H0 b = none ∧ b ≠ R
theorem RA.same {H0 H H2 : Hp} {R : Addr} {T : List (List Int)} {as : List Addr} (A : RA H0 H R T as) (s : Same H H2) : RA H0 H2 R T as :=
  ⟨A.s.trans s, s _ _ A.hR, A.fR, A.ln, A.nd, fun q b l h1 h2 => s _ _ (A.at_ q b l h1 h2), A.fr⟩
theorem RA.push {H0 H : Hp} {R e : Addr} {T : List (List Int)} {as : List Addr} (A : RA H0 H R T as) (he : H e = none) : RA H0 (upd (upd H e (.lst [])) R (.lst (as.map V.ref ++ [.ref e]))) R (T ++ [[]]) (as ++ [e]) := by
  have eR : R ≠ e := ne_of_none A.hR he
  have fe : H0 e = none := A.s.free he
  have ne : e ∉ as := fun h => by
    obtain ⟨q, hq⟩ := List.mem_iff_getElem?.mp h
    have hl : q < T.length := by
      have := (List.getElem?_eq_some_iff.mp hq).1
      rw [A.ln] at this
      exact this
    have := A.at_ q e _ hq (List.getElem?_eq_getElem hl)
    rw [he] at this
    cases this
  refine ⟨fun b o h => ?_, ?_, A.fR, by simp [A.ln], fun i j b h1 h2 => ?_, fun q b l h1 h2 => ?_, fun b hb => ?_⟩
  · rw [upd_ne (ne_of_none h A.fR), upd_ne (ne_of_none h fe)]
    exact A.s _ _ h
  · rw [upd_same, List.map_append]
    rfl
  · have key : ∀ (i : Nat), (as ++ [e])[i]? = some b → (i < as.length ∧ as[i]? = some b) ∨ (i = as.length ∧ b = e) := fun i h => by
      rcases Nat.lt_or_ge i as.length with c | c
      · rw [List.getElem?_append_left c] at h
        exact .inl ⟨c, h⟩
      · have c2 : i = as.length := by
          have := (List.getElem?_eq_some_iff.mp h).1
          rw [List.length_append, List.length_singleton] at this
          omega
        subst c2
        rw [List.getElem?_append_right (Nat.le_refl _), Nat.sub_self] at h
        exact .inr ⟨rfl, by simpa using h.symm⟩
    rcases key i h1 with ⟨c1, d1⟩ | ⟨c1, d1⟩ <;> rcases key j h2 with ⟨c2, d2⟩ | ⟨c2, d2⟩
    · exact A.nd i j b d1 d2
    · subst d2
      exact absurd (List.mem_of_getElem? d1) ne
    · subst d1
      exact absurd (List.mem_of_getElem? d2) ne
    · omega
  · rcases Nat.lt_or_ge q as.length with c | c
    · rw [List.getElem?_append_left c] at h1
      rw [List.getElem?_append_left (by rw [← A.ln]; exact c)] at h2
      have z := A.at_ q b l h1 h2
      rw [upd_ne (A.fr b (List.mem_of_getElem? h1)).2, upd_ne (ne_of_none z he)]
      exact z
    · have c2 : q = as.length := by
        have := (List.getElem?_eq_some_iff.mp h1).1
        rw [List.length_append, List.length_singleton] at this
        omega
      rw [c2, List.getElem?_append_right (Nat.le_refl _), Nat.sub_self] at h1
      rw [c2, A.ln, List.getElem?_append_right (Nat.le_refl _), Nat.sub_self] at h2
      cases h1
      cases h2
      rw [upd_ne eR.symm, upd_same]
      rfl
  · rcases List.mem_append.mp hb with c | c
    · exact A.fr b c
    · rw [List.mem_singleton.mp c]
      exact ⟨fe, eR.symm⟩
theorem RA.put {H0 H : Hp} {R b : Addr} {T : List (List Int)} {as : List Addr} {j : Nat} {l' : List Int} (A : RA H0 H R T as) (hb : as[j]? = some b) : RA H0 (upd H b (.lst (nums l'))) R (T.set j l') as := by
  obtain ⟨f1, f2⟩ := A.fr b (List.mem_of_getElem? hb)
  refine ⟨fun b2 o h => ?_, ?_, A.fR, by rw [List.length_set]; exact A.ln, A.nd, fun q b2 l h1 h2 => ?_, A.fr⟩
  · rw [upd_ne (ne_of_none h f1)]
    exact A.s _ _ h
  · rw [upd_ne f2.symm]
    exact A.hR
  · by_cases c : q = j
    · subst c
      rw [hb] at h1
      cases h1
      have hl : q < T.length := by
        have := (List.getElem?_eq_some_iff.mp hb).1
        rw [A.ln] at this
        exact this
      rw [List.getElem?_set_self hl] at h2
      cases h2
      exact upd_same
    · rw [List.getElem?_set_ne (Ne.symm c)] at h2
      have nb : b2 ≠ b := fun z => by
        subst z
        exact c (A.nd q j _ h1 hb)
      rw [upd_ne nb]
      exact A.at_ q b2 l h1 h2
theorem refs_at {as : List Addr} {j : Nat} {b : Addr} (h : as[j]? = some b) : (as.map V.ref)[j]? = some (.ref b) := by
  rw [List.getElem?_map, h]
  rfl
/-- the number in the fourth slot -/
def slot3 (σ : List (Option V)) : Nat := match (σ[3]? : Option (Option V)) with
  | some (some (V.int z)) => z.toNat
  | _ => 0
def slot2 (σ : List (Option V)) : Nat := match (σ[2]? : Option (Option V)) with
  | some (some (V.int z)) => z.toNat
  | _ => 0
section
variable {P : Program} {w : World} {K : PySem.W.Frag} {mg : Str → Option Value} {base : Heap}
def spRows : Sp := fun vs H Q _ => ∃ (a : Addr) (l : List Int), vs = [.ref a] ∧ H a = some (.lst (nums l)) ∧ l.length ≤ 40 ∧ (∀ x ∈ l, 1 ≤ x ∧ x ≤ 6) ∧ ∀ R as H', RA H H' R (tabL l) as → Q (.ref R) H'
theorem scRows : FnScope ["letters", "rows", "letter", "at", "here", "old", "place", "one"] ["letters"] (defScope sRows) := ⟨rfl, rfl, rfl, by decide +kernel, rfl, by decide +kernel, by decide +kernel⟩
theorem ok_rows {f : Addr} {fd : FuncData} (B : Bare mg) (F : Df K mg "_law_rows" sRows f fd) : FnOk P w K mg base CX0 1 f fd ["letters"] spRows := by
  refine F.fn.ok scRows (fun vs H Q E h => ?_) (fun cdv A outer s H vs Q E hr h => ?_)
  · obtain ⟨a, l, rfl, _⟩ := h
    rfl
  · obtain ⟨a, l, rfl, ha, hlen, hbd, k⟩ := h
    refine ⟨_, pss_cons (ps_set (i := 1) scRows.nd rfl (Or.inl rfl) (pe_lst pa_nil))
      (pss_cons (ps_for PassesOwn.never rfl (pi_list (pv 0)) (pg_name (i := 2) scRows.nd rfl (Or.inr rfl))
        (pss_cons (ps_set (i := 3) scRows.nd rfl (Or.inl rfl) pe_int)
        (pss_one (ps_while PassesOwn.never (pt_cmpR op_gt (pv 2) pe_int (nomark _))
          (pss_cons (ps_if (pt_cmpR op_eq (pv 3) (pe_callB call_len_seq (by rfl) B.len PySem.boot_len (pa_cons (pv 1) pa_nil)) (nomark _))
            (pss_one (ps_expr (pe_bm PySem.F.plainAttrs_list PySem.F.slot_list_append PySem.F.type_list_append mt_append (pv 1) (pa_cons (pe_lst pa_nil) pa_nil)))) pss_nil)
          (pss_cons (ps_setLc (i := 4) (own := [("place", 6), ("one", 7)]) (g := gTup K 2 (gCons (gName 6) (gCons (gName 7) gNil))) rfl scRows.nd rfl rfl (sw_true rfl rfl rfl (by decide +kernel)) (pi_enum (by rfl) B.enumerate (pa_cons (pe_ix ix_list (pv 1) (pv 3) (fun _ _ => rfl)) pa_nil))
            (blkOk_by (N := ["letters", "rows", "letter", "at", "here", "old", "place", "one"]) (sc := defScope sRows) (by decide +kernel))
            (fun _ _ _ _ _ => pg_tup rfl (pgs_cons (pg_name (i := 6) scRows.nd rfl (Or.inl rfl)) (pgs_cons (pg_name (i := 7) scRows.nd rfl (Or.inl rfl)) pgs_nil)))
            (fun _ _ _ _ _ => pts_one (pt_cmpR op_gt (pv 7) (pv 2) (nomark _))) (fun _ _ _ _ _ => pv 6))
          (pss_one (ps_if (pt_cmpR (op_eqD hr.units) (pv 4) (pe_lst pa_nil) (nomark _))
            (pss_cons (ps_expr (pe_bm PySem.F.plainAttrs_list PySem.F.slot_list_append PySem.F.type_list_append mt_append (pe_ix ix_list (pv 1) (pv 3) (fun _ _ => rfl)) (pa_cons (pv 2) pa_nil)))
            (pss_one (ps_set (i := 2) scRows.nd rfl (Or.inr rfl) pe_int)))
            (pss_cons (ps_set (i := 5) scRows.nd rfl (Or.inl rfl) (pe_ix ix_list (pe_ix ix_list (pv 1) (pv 3) (fun _ _ => rfl)) (pe_ix ix_list (pv 4) pe_int (fun _ _ => rfl)) (fun _ _ => rfl)))
            (pss_cons (ps_asg (pv 2) (pg_sub (pe_ix ix_list (pv 1) (pv 3) (fun _ _ => rfl)) (pe_ix ix_list (pv 4) pe_int (fun _ _ => rfl)) set_list))
            (pss_one (ps_asg (pe_tup (pa_cons (pv 5) (pa_cons (pe_op op_add (pv 3) pe_int) pa_nil))) (pg_tup rfl (pgs_cons (pg_name (i := 2) scRows.nd rfl (Or.inr rfl)) (pgs_cons (pg_name (i := 3) scRows.nd rfl (Or.inl rfl)) pgs_nil)))))))))))))))
      (pss_one (ps_ret (pv 1)))), ?_⟩
    refine ⟨Nat.zero_le _, fun R hR => ?_⟩
    have s0 : Same H (upd H R (.lst [])) := same_new hR
    have eR0 : (upd H R (.lst [])) R = some (.lst []) := upd_same
    generalize upd H R (.lst []) = H0 at s0 eR0 ⊢
    refine ⟨_, rfl, a, rfl, ⟨_, SqL.of (s0 _ _ ha)⟩, for_list (K := K) (a := a) (xs := nums l) (fun i σ H' => ∃ (v2 v3 v4 v5 : Option V) (as : List Addr), σ = [some (.ref a), some (.ref R), v2, v3, v4, v5, none, none] ∧ RA H H' R (tabL (l.take i)) as)
      ⟨_, _, _, _, [], rfl, ⟨s0, eR0, hR, rfl, fun i j b h => by simp at h, fun q b l h => by simp at h, fun b hb => by simp at hb⟩⟩ (fun i σ H' _ ⟨_, _, _, _, _, _, A⟩ => SqL.of (A.s _ _ ha)) ?_ ?_⟩
    · rintro i x σ H' hx ⟨v2, v3, v4, v5, as, rfl, A0⟩
      obtain ⟨z, rfl, hz, hzm⟩ := nums_get hx
      have hil : i < l.length := (List.getElem?_eq_some_iff.mp hz).1
      have hz1 := hbd z hzm
      have hT : tabL (l.take (i + 1)) = insT z (tabL (l.take i)) := by
        rw [List.take_succ, hz]
        exact tabL_snoc _ _
      obtain ⟨tl1, tl2⟩ := tab_len (l.take i)
      have tk : (l.take i).length ≤ 40 := by rw [List.length_take]; omega
      refine while_by (fun σ H' => ∃ (v4 v5 : Option V) (x : Int) (j : Nat) (T : List (List Int)) (as : List Addr), σ = [some (.ref a), some (.ref R), some (.int x), some (.int (j : Nat)), v4, v5, none, none] ∧ RA H H' R T as ∧
          ((x = 0 ∧ T = tabL (l.take (i + 1)) ∧ j ≤ 41) ∨ (1 ≤ x ∧ T.length ≤ 40 ∧ (∀ r ∈ T, r.length ≤ 40) ∧ ∃ done rest, T = done ++ rest ∧ done.length = j ∧ tabL (l.take (i + 1)) = done ++ insT x rest)))
        (fun σ _ => if slot2 σ = 0 then 0 else 50 - slot3 σ)
        ⟨_, _, z, 0, _, as, rfl, A0,   .inr ⟨hz1.1, by omega, fun r hr => by have := tl2 r hr; omega, [], _, rfl, rfl, hT⟩⟩ ?_ ?_
      · rintro σ H2 ⟨v4, v5, x, j, T, as, rfl, A, inv⟩
        refine ⟨_, rfl, _, _, rfl, rfl, _, rfl, ?_⟩
        rcases inv with ⟨x0, hT0, _⟩ | ⟨x1, hT1, hT2, done, rest, rfl, hj, hfin⟩
        · subst x0
          subst hT0
          rw [decide_eq_false (by omega)]
          exact iteF ⟨_, _, _, _, _, rfl, A⟩
        · rw [decide_eq_true (show (0 : Int) < x by omega)]
          refine iteT ?_
          rw [List.length_append] at hT1
          refine ⟨_, rfl, _, rfl, R, _, rfl, .inl (SqL.of A.hR), rfl, _, rfl, ?_⟩
          refine ite_tail (H' := H2) (fun H3 => ∃ (R1 : List Int) (rest2 : List (List Int)) (as2 : List Addr), RA H H3 R (done ++ R1 :: rest2) as2 ∧ tabL (l.take (i + 1)) = done ++ insT x (R1 :: rest2) ∧ R1.length ≤ 40 ∧ done.length + 1 + rest2.length ≤ 41 ∧ (∀ r ∈ done, r.length ≤ 40) ∧ (∀ r ∈ rest2, r.length ≤ 40) ∧ (done.length + 1 + rest2.length ≤ 40 ∨ R1 = [])) ?_ ?_ ?_
          · rintro H3 ⟨R1, rest2, as2, A3, hfin3, l1, l2, l3, l4, l5⟩
            have hb : ∃ b, as2[j]? = some b := by
              have : j < as2.length := by
                rw [A3.ln, List.length_append, List.length_cons]
                omega
              exact ⟨_, List.getElem?_eq_getElem this⟩
            obtain ⟨b, hb⟩ := hb
            have hTj : (done ++ R1 :: rest2)[j]? = some R1 := by
              rw [List.getElem?_append_right (by omega), hj, Nat.sub_self]
              rfl
            have eb := A3.at_ j b R1 hb hTj
            refine ⟨_, rfl, _, rfl, R, _, _, _, rfl, rfl, SqL.of A3.hR, at_of (j := j) rfl (refs_at hb), b, _, rfl, SqL.of eb, fun D hD => ?_⟩
            have s3 : Same H3 (upd H3 D (.lst [])) := same_new hD
            refine lc_enL (K := K) (a := b) (xs := nums R1) (fun q H' => Same H3 H' ∧ ∃ ps, Fst x R1 q ps ∧ H' D = some (.lst (nums ps))) ⟨s3, [], Fst.zero _ _, by rw [upd_same]; rfl⟩ (fun q H' _ ⟨s1, _⟩ => SqL.of (s1 _ _ eb)) ?_ ?_
            · rintro q y T2 H' hy ⟨s1, ps, hF, e1⟩ hT2
              obtain ⟨y, rfl, hy, _⟩ := nums_get hy
              have hq : q < R1.length := (List.getElem?_eq_some_iff.mp hy).1
              have s2 : Same H' (upd H' T2 (.tup [.int (q : Nat), .int y])) := same_new hT2
              have eT : (upd H' T2 (.tup [.int (q : Nat), .int y])) T2 = some (.tup [.int (q : Nat), .int y]) := upd_same
              generalize upd H' T2 (.tup [.int (q : Nat), .int y]) = H5 at s2 eT ⊢
              have e2 := s2 _ _ e1
              refine ⟨T2, _, rfl, SqT.of eT, rfl, _, _, rfl, _, _, rfl, rfl, rfl, ?_⟩
              refine ⟨_, rfl, _, rfl, _, _, rfl, rfl, _, rfl, ?_⟩
              refine ite2 (fun hc => ?_) (fun hc => ?_)
              · have c : x < y := of_decide_eq_true hc
                refine ⟨_, rfl, _, e2, ?_, fun b o e => ?_, _, hF.yes hy c, ?_⟩
                · rw [List.length_map]
                  have := hF.1
                  exact small1000 (by omega)
                · rw [upd_ne (ne_of_none e hD)]
                  exact s2 _ _ (s1 _ _ e)
                · rw [upd_same]
                  simp [nums]
              · exact ⟨s1.trans s2, ps, hF.no hy fun z => hc (decide_eq_true z), e2⟩
            · rintro H4 ⟨s4, ps, hF, e4⟩
              rw [List.length_map] at hF
              have A4 := A3.same s4
              have eb4 := s4 _ _ eb
              refine ⟨_, rfl, Nat.zero_le _, fun z0 hz0 => ?_⟩
              have t6 : Same H4 (upd H4 z0 (.lst [])) := same_new hz0
              have ez : (upd H4 z0 (.lst [])) z0 = some (.lst []) := upd_same
              generalize upd H4 z0 (.lst []) = H5 at t6 ez ⊢
              have A5 := A4.same t6
              have eb5 := t6 _ _ eb4
              have e5 := t6 _ _ e4
              refine ⟨.list (ps.map PyData.int), .list [], .lst (SqL.of e5) (dp_nums _), .lst (SqL.of ez) .nil, shaped_nums _, by decide, _, rfl, ?_⟩
              have eqe : PyData.eqv (.list (ps.map PyData.int)) (.list []) = decide (ps = []) := eqv_nums ps []
              rw [eqe]
              have hset : ∀ l' : List Int, (done ++ R1 :: rest2).set j l' = done ++ l' :: rest2 := fun l' => by
                rw [List.set_append_right (h := by omega), hj, Nat.sub_self]
                rfl
              cases ps with
              | nil =>
                rw [decide_eq_true rfl]
                have hn := rowIns_none (x := x) (R := R1) fun q z hq hz => hF.2.1 rfl q z hq hz
                have A6 := A5.put (l' := R1 ++ [x]) hb
                rw [hset] at A6
                rw [ins_stop rest2 hn] at hfin3
                refine iteT ⟨_, rfl, _, rfl, R, _, _, _, rfl, rfl, SqL.of A5.hR, at_of (j := j) rfl (refs_at hb), .inl ⟨rfl, _, SqL.of eb5⟩, _, rfl, b, _, _, rfl, rfl, eb5, by rw [List.length_map]; exact small1000 (by omega), ?_⟩
                rw [show nums R1 ++ [V.int x] = nums (R1 ++ [x]) by simp [nums]]
                refine ⟨⟨_, _, 0, j, _, as2, rfl, A6, .inl ⟨rfl, hfin3.symm, by omega⟩⟩, ?_⟩
                show 0 < (if x.toNat = 0 then 0 else 50 - ((j : Nat) : Int).toNat)
                rw [if_neg (by omega)]
                omega
              | cons p ps =>
                rw [decide_eq_false (by simp)]
                obtain ⟨q, y, rfl, hq, hy, hxy, hbf⟩ := hF.2.2 p ps rfl
                have hn := rowIns_some hy hxy hbf
                have hyn : (nums R1)[q]? = some (.int y) := by
                  rw [List.getElem?_map, hy]
                  rfl
                have A6 := A5.put (l' := R1.set q x) hb
                rw [hset] at A6
                rw [ins_go rest2 hn] at hfin3
                have bD : b ≠ D := ne_of_none eb hD
                refine iteF ⟨_, rfl, _, rfl, R, _, _, _, rfl, rfl, SqL.of A5.hR, at_of (j := j) rfl (refs_at hb), _, rfl, D, _, _, _, rfl, rfl, SqL.of e5, at_of (j := 0) rfl rfl, b, _, _, _, rfl, rfl, SqL.of eb5, at_of (j := q) rfl hyn, ?_⟩
                refine ⟨_, rfl, _, rfl, _, rfl, R, _, _, _, rfl, rfl, SqL.of A5.hR, at_of (j := j) rfl (refs_at hb), _, rfl, D, _, _, _, rfl, rfl, SqL.of e5, at_of (j := 0) rfl rfl, b, _, _, q, rfl, rfl, eb5, ixN_lt (by rw [List.length_map]; exact hq), ?_⟩
                rw [set_nums]
                generalize upd H5 b (.lst (nums (R1.set q x))) = H6 at A6 ⊢
                refine ⟨_, rfl, _, rfl, _, _, rfl, rfl, (by show 2 ≤ sizeLine; decide), fun t ht => ?_⟩
                have A7 := A6.same (same_new (o := .tup [.int y, .int ((j : Nat) + 1)]) ht)
                refine ⟨t, _, rfl, SqT.of upd_same, rfl, _, _, rfl, _, _, rfl, rfl, ⟨_, _, y, j + 1, _, as2, rfl, A7, .inr ⟨by omega, ?_, ?_, done ++ [R1.set q x], rest2, by simp, by simp [hj], by rw [hfin3]; simp⟩⟩, ?_⟩
                · have : R1 ≠ [] := fun z => by
                    rw [z] at hy
                    simp at hy
                  rcases l5 with l5 | l5
                  · rw [List.length_append, List.length_cons]
                    omega
                  · exact absurd l5 this
                · intro r hr
                  rcases List.mem_append.mp hr with c | c
                  · exact l3 r c
                  · rcases List.mem_cons.mp c with c | c
                    · rw [c, List.length_set]
                      exact l1
                    · exact l4 r c
                · show (if y.toNat = 0 then 0 else 50 - (((j : Nat) : Int) + 1).toNat) < (if x.toNat = 0 then 0 else 50 - ((j : Nat) : Int).toNat)
                  rw [if_neg (by omega), if_neg (by omega)]
                  omega
          · intro hc tl
            have c : ((j : Nat) : Int) = (((as.map V.ref).length : Nat) : Int) := by simpa using hc
            rw [List.length_map] at c
            have hl := A.ln
            rw [List.length_append] at hl
            have hrest : rest = [] := List.length_eq_zero_iff.mp (by omega)
            subst hrest
            refine ⟨_, rfl, .inl ⟨rfl, _, SqL.of A.hR⟩, Nat.zero_le _, fun e he => ⟨R, _, _, rfl, rfl, by rw [upd_ne (ne_of_none A.hR he)]; exact A.hR, by rw [List.length_map]; exact small1000 (by omega), ?_⟩⟩
            have A2 := A.push he
            rw [List.append_nil] at A2
            exact tl _ ⟨[], [], _, A2, hfin, Nat.zero_le _, by simp at hT1 ⊢; omega, fun r hr => hT2 r (List.mem_append_left _ hr), fun r hr => by simp at hr, .inr rfl⟩
          · intro hc
            have c : ¬ ((j : Nat) : Int) = (((as.map V.ref).length : Nat) : Int) := by simpa using hc
            rw [List.length_map] at c
            have hl := A.ln
            rw [List.length_append] at hl
            cases rest with
            | nil =>
              exfalso
              apply c
              simp at hl
              omega
            | cons R1 rest2 =>
              rw [List.length_cons] at hT1
              exact ⟨R1, rest2, as, A, hfin, hT2 R1 (List.mem_append_right _ (List.mem_cons_self ..)), by omega, fun r hr => hT2 r (List.mem_append_left _ hr), fun r hr => hT2 r (List.mem_append_right _ (List.mem_cons_of_mem _ hr)), .inl (by omega)⟩
      · intro σ H Q Q' hQ hh
        obtain ⟨v, e1, y, z, e2, e3, b, e4, q⟩ := hh
        exact ⟨v, e1, y, z, e2, e3, b, e4, hQ _ _ q⟩
    · rintro σ H' ⟨v2, v3, v4, v5, as, rfl, A⟩
      rw [List.length_map, List.take_length] at A
      exact ⟨_, rfl, k R as H' A⟩
end
end Lw
/-! Sl. t[::-1] of a tuple; xs[i] += e of a list. -/
namespace LwE
open PySem PySem.Spec PyProof.Rows L2 HT
theorem fm_congr {α β : Type} {f g : α → Option β} : ∀ {l : List α}, (∀ x ∈ l, f x = g x) → l.filterMap f = l.filterMap g
  | [], _ => rfl
  | a :: l, h => by
    rw [List.filterMap_cons, List.filterMap_cons, h a (List.mem_cons_self ..), fm_congr fun x hx => h x (List.mem_cons_of_mem _ hx)]
theorem adjust_rev (n : Nat) : Builtin.Slice.sliceAdjust none none (-1) (n : Int) = ((n : Int) - 1, -1) := by
  unfold Builtin.Slice.sliceAdjust
  simp
theorem places_rev (n : Nat) : Builtin.Slice.slicePlaces ((n : Int) - 1) (-1) (-1) = n := by
  unfold Builtin.Slice.slicePlaces
  have h1 : ¬ ((-1 : Int) > 0) := by omega
  simp only [h1, if_false]
  split
  · rw [show (- -1 : Int) = 1 by omega, Int.ediv_one]
    omega
  · simp
    omega
theorem pick_rev (xs : Array Value) : ((List.range xs.size).filterMap fun (m : Nat) => xs[((xs.size : Int) - 1 + (m : Int) * (-1)).toNat]?).toArray = xs.toList.reverse.toArray := by
  have e : ((List.range xs.size).filterMap fun (m : Nat) => xs[((xs.size : Int) - 1 + (m : Int) * (-1)).toNat]?) = (((List.range xs.size).map fun k => xs.size - 1 - k).filterMap fun (m : Nat) => xs[m]?) := by
    rw [List.filterMap_map]
    refine fm_congr fun m hm => ?_
    have := List.mem_range.mp hm
    show _ = xs[xs.size - 1 - m]?
    rw [show ((xs.size : Int) - 1 + (m : Int) * (-1)).toNat = xs.size - 1 - m by omega]
  rw [e, PySem.W.krv_range, List.filterMap_reverse, PySem.W.krv_all]
section
variable {prog : Program} {w : World} {A : Around} {E : Value → Shared → Prop} {s : Shared}
theorem sliceApplied_rev {sl : Addr} {vl vu vs : Value} {n : Nat} {Q : Int × Int × Nat → Shared → Prop} (hs : s.heap.IsSliceOf sl vl vu vs) (pl : IsPart vl none) (pu : IsPart vu none) (ps : IsPart vs (some (-1)))
    (h : Q ((n : Int) - 1, -1, n) s) : wpAny (model prog w) A (Builtin.Slice.sliceApplied (.ref sl) (pure (n : Int))) Q E s := by
  obtain ⟨os, hos, hcs, hds⟩ := id hs
  unfold Builtin.Slice.sliceApplied Builtin.Slice.sliceFields
  refine wpAny_bind (wpAny_bind (wpAny_field hos hds (x := vl) rfl (wpAny_bind (wpAny_field hos hds (x := vu) rfl (wpAny_bind (wpAny_field hos hds (x := vs) rfl (wpAny_pure ?_)))))))
  refine wpAny_bind (slicePart_ ps ?_)
  show wpAny _ _ (if ((-1 : Int) == 0) = true then _ else _) _ _ s
  rw [if_neg (by decide)]
  refine wpAny_bind (slicePart_ pl (wpAny_bind (slicePart_ pu (wpAny_bind (wpAny_pure ?_)))))
  show wpAny _ _ (match Builtin.Slice.sliceAdjust none none (-1) (n : Int) with | (lo, hi) => pure (lo, (-1 : Int), Builtin.Slice.slicePlaces lo hi (-1))) _ _ s
  rw [adjust_rev]
  show wpAny _ _ (pure ((n : Int) - 1, (-1 : Int), Builtin.Slice.slicePlaces ((n : Int) - 1) (-1) (-1))) _ _ s
  rw [places_rev]
  exact wpAny_pure h
theorem getItem_tuple_rev {t sl : Addr} {items : Array Value} {vl vu vs : Value} {Q : Value → Shared → Prop} (ht : IsTup s.heap t items) (hs : s.heap.IsSliceOf sl vl vu vs) (pl : IsPart vl none) (pu : IsPart vu none) (ps : IsPart vs (some (-1)))
    (h : Q (.ref s.heap.objs.size) { s with heap := s.heap.push { cls := .type "tuple", data := .seq items.toList.reverse.toArray } })
    (hsz : items.size ≤ sizeLine) : wpAny (model prog w) A (getItem (.ref t) (.ref sl)) Q E s := by
  have htake : sizeOk (.seq items.toList.reverse.toArray) := by
    show (items.toList.reverse.toArray).size ≤ sizeLine
    rw [List.size_toArray, List.length_reverse, Array.length_toList]
    omega
  obtain ⟨os, hos, hcs, hds⟩ := id hs
  have hTs : s.TypeIs (.ref sl) "slice" := ⟨os, hos, hcs⟩
  unfold getItem
  try with_reducible refine wpAny_holding ?_
  first | refine wpAny_bind (wpAny_pure ?_) | skip
  refine wpAny_bind (wpAny_sequenceKey ht.typeIs (by decide) ?_)
  refine wpAny_bind (wpAny_callSpecial?_slot (name := Str.ofString "__getitem__") ht.typeIs PyProof.Rows.slot_tuple_getitem
    (wpAny_call_entry PyProof.Rows.slot_tuple_getitem ht.typeIs entry_tuple_getitem ?_ (args_tuple_getitem _ _)))
  show wpAny _ _ (Builtin.Tuple.tupleItemsOf (.ref t) >>= _) _ _ s
  refine wpAny_bind (tupleItemsOf_ ht ?_)
  refine wpAny_bind (wpAny_typeOf hTs ?_)
  rw [if_pos (by decide)]
  refine wpAny_bind (sliceApplied_rev hs pl pu ps ?_)
  have hno : ¬ ((((items.size : Int) - 1) == 0 && (-1 : Int) == 1 && items.size == items.size) = true) := by
    rw [show ((-1 : Int) == 1) = false by decide, Bool.and_false, Bool.false_and]
    exact Bool.false_ne_true
  show wpAny _ _ (if (((items.size : Int) - 1) == 0 && (-1 : Int) == 1 && items.size == items.size) = true then _ else _) _ _ s
  rw [if_neg hno, pick_rev]
  first
    | exact wpAny_bind (m := Builtin.Tuple.tupleExact _) (wpAny_newObj_type (wpAny_pure ⟨_, rfl, wpAny_pure h⟩) htake)
    | exact wpAny_bind (m := Builtin.Tuple.tupleExact _) (wpAny_newObj_type (wpAny_bind (wpAny_pure (wpAny_pure ⟨_, rfl, wpAny_pure h⟩))) htake)
    | exact wpAny_bind (wpAny_bind (m := Builtin.Tuple.tupleExact _) (wpAny_newObj_type (wpAny_pure (wpAny_pure ⟨_, rfl, wpAny_pure h⟩)) htake))
    | exact wpAny_bind (wpAny_bind (m := Builtin.Tuple.tupleExact _) (wpAny_newObj_type (wpAny_pure ⟨_, rfl, wpAny_pure h⟩) htake))
end
section
variable {X : Cx}
def tRevT (K : PySem.W.Frag) (te : TE) : TE := fun σ H Q => te σ H fun x H1 => ∃ a xs, x = .ref a ∧ SqT K H1 a xs ∧ ∀ p, H1 p = none → Q (.ref p) (upd H1 p (.tup xs.reverse))
theorem pe_revT {e : Expr} {te : TE} {k : Nat} {p1 p2 p3 pos : Pos} (he : PE X e te) : PE X (.Subscript e (.Slice none none (some (.UnaryOp .USub (.Constant (.int 1) k p1) p2)) p3) pos) (tRevT X.K te) := by
  refine ⟨fun pins s σ H Q I h => ?_⟩
  refine Subscript_ (thn (he.run pins s σ H _ I h) fun v s1 ⟨x, H1, I1, r1, q1⟩ => ?_)
  obtain ⟨a, xs, ex, hx, q⟩ := q1
  subst ex
  cases r1
  have hst : PO X (some (.UnaryOp .USub (.Constant (.int 1) k p1) p2)) (tPart (tUn (rU fun i => .int (-i)) (tC (.int 1)))) := po_some (pe_un un_neg pe_int)
  refine wpAny_Slice (thn (po_none.run pins s1 σ H1 (fun o H2 => o = none ∧ H2 = H1) I1 ⟨rfl, rfl⟩) fun vl s2 ⟨l, H2, I2, pl, el, e2⟩ => ?_)
  subst el e2
  refine thn (po_none.run pins s2 σ H2 (fun o H3 => o = none ∧ H3 = H2) I2 ⟨rfl, rfl⟩) fun vu s3 ⟨u, H3, I3, pu, eu, e3⟩ => ?_
  subst eu e3
  refine thn (hst.run pins s3 σ H3 (fun o H4 => o = some (-1) ∧ H4 = H3) I3 ⟨1, rfl, -1, rfl, rfl, rfl⟩) fun vs s4 ⟨o, H4, I4, ps, eo, e4⟩ => ?_
  subst eo e4
  have I5 : Inv X pins σ H4 { s4 with heap := s4.heap.push { cls := .type "slice", data := .fields #[vl, vu, vs] } } := I4.kept (t' := s4.toks) fun b ob q => Heap.get?_push_of_some _ q
  obtain ⟨its, r, ht, hz⟩ := I5.tuple hx
  have hlen := r.length
  show wpAny (model X.prog X.w) X.A (subscriptTail e (.Slice none none (some (.UnaryOp .USub (.Constant (.int 1) k p1) p2)) p3) (.ref a) (.ref s4.heap.objs.size)) (EP X pins σ Q) X.xe { s4 with heap := s4.heap.push { cls := .type "slice", data := .fields #[vl, vu, vs] } }
  refine tail_any (ops := [.ref a, .ref s4.heap.objs.size]) ht.typeIs (PyProof.Rows.slot_tuple_getitem.lookup) ?_ (by with_unfolding_all rfl)
  refine getItem_tuple_rev ht (Heap.IsSliceOf.new _ vl vu vs) pl pu ps ?_ (by rw [List.size_toArray]; omega)
  refine ⟨.ref _, _, I5.laid (t' := s4.toks) (o := .tup xs.reverse) (fun b ob q => Heap.get?_push_of_some _ q) (Nat.le_refl _) ?_, rfl, q _ (I5.hok.fresh (Nat.le_refl _))⟩
  exact ⟨by rw [List.length_reverse]; exact hz, _, r.reverse, IsTup.new _ _⟩
/-- xs[i], i a place of it -/
def rGetL (K : PySem.W.Frag) : V → V → Hp → VK → Prop := fun x y H Q => ∃ p xs i v, x = .ref p ∧ y = .int i ∧ 0 ≤ i ∧ SqL K H p xs ∧ xs[i.toNat]? = some v ∧ Q v H
theorem get_list : PGet X (rGetL X.K) := by
  intro pins s σ H o i ov iv Q I ro ri h
  obtain ⟨p, xs, k, z, rfl, rfl, h0, hq, he, q⟩ := h
  cases ro
  obtain ⟨t, rfl⟩ := ri
  obtain ⟨its, r, pl, hz⟩ := I.list hq
  obtain ⟨w, ew, rw'⟩ := r.get he
  have hl := r.length
  have hn := line63
  have hk : k.toNat < xs.length := (List.getElem?_eq_some_iff.mp he).1
  exact wpAny_getItem_list pl.isList h0 (by omega) (by simpa using ew) ⟨z, H, I, rw', q⟩
end
end LwE
/-! Co. How often a word has each letter. -/
namespace LwM
theorem yam_nth : ∀ {T : List (List Int)} {k : Int}, Yam k T → ∀ (q : Nat) R, T[q]? = some R → R = List.replicate R.length (k + (q : Int))
  | [], k, _, q, R, e => by simp at e
  | A :: T, k, h, 0, R, e => by
    have e1 : A = R := by simpa using e
    subst e1
    rw [show k + ((0 : Nat) : Int) = k by omega]
    exact List.eq_replicate_iff.mpr ⟨rfl, h.1⟩
  | A :: T, k, h, q + 1, R, e => by
    have := yam_nth h.2 q R (by simpa using e)
    rw [show k + ((q + 1 : Nat) : Int) = k + 1 + (q : Int) by omega]
    exact this
/-- how often each letter -/
def cnts (n : Nat) (l : List Int) : List Int := (List.range n).map fun (j : Nat) => ((l.count ((j : Int) + 1) : Nat) : Int)
theorem cnts_len (n : Nat) (l : List Int) : (cnts n l).length = n := by
  unfold cnts
  rw [List.length_map, List.length_range]
theorem cnts_nil (n : Nat) : cnts n [] = List.replicate n 0 := by
  refine List.eq_replicate_iff.mpr ⟨cnts_len _ _, fun x hx => ?_⟩
  obtain ⟨j, _, e⟩ := List.mem_map.mp hx
  rw [← e]
  simp
theorem cnts_at {n j : Nat} (l : List Int) (h : j < n) : (cnts n l)[j]? = some ((l.count ((j : Int) + 1) : Nat) : Int) := by
  unfold cnts
  simp [h]
theorem cnts_snoc {n j : Nat} (l : List Int) (h : j < n) : cnts n (l ++ [(j : Int) + 1]) = (cnts n l).set j (((l.count ((j : Int) + 1) : Nat) : Int) + 1) := by
  apply List.ext_getElem?
  intro q
  rcases Nat.lt_or_ge q n with c | c
  · rw [cnts_at _ c]
    by_cases e : q = j
    · subst e
      rw [List.getElem?_set_self (by rw [cnts_len]; exact h), List.count_append, List.count_singleton]
      simp
    · rw [List.getElem?_set_ne (Ne.symm e), cnts_at _ c, List.count_append, List.count_singleton]
      rw [if_neg (by simp; omega)]
      simp
  · rw [List.getElem?_eq_none (by rw [cnts_len]; exact c), List.getElem?_eq_none (by rw [List.length_set, cnts_len]; exact c)]
/-- turned round -/
theorem cnts_rev {n : Int} {t b : List Int} (n0 : 0 ≤ n) (h : ∀ j : Nat, (j : Int) < n → t.count ((j : Int) + 1) = b.count (n - (j : Int))) : cnts n.toNat t = (cnts n.toNat b).reverse := by
  apply List.ext_getElem?
  intro q
  rcases Nat.lt_or_ge q n.toNat with c | c
  · rw [cnts_at _ c, List.getElem?_reverse (by rw [cnts_len]; exact c), cnts_len, cnts_at _ (by omega), h q (by omega)]
    rw [show ((n.toNat - 1 - q : Nat) : Int) + 1 = n - (q : Int) by omega]
  · rw [List.getElem?_eq_none (by rw [cnts_len]; exact c), List.getElem?_eq_none (by rw [List.length_reverse, cnts_len]; exact c)]
end LwM
namespace Lw
open PySem L2 LwE LwM
section
variable {P : Program} {w : World} {K : PySem.W.Frag} {mg : Str → Option Value} {base : Heap}
def spCounts (C : Addr) : Sp := fun vs H Q _ => ∃ (a : Addr) (size : Int) (l : List Int), vs = [.ref a] ∧ WAt C H a size l ∧ ∀ p H', Same H H' → H p = none → H' p = some (.tup (nums (cnts size.toNat l))) → Q (.ref p) H'
theorem scCounts : FnScope ["self", "numbers", "letter"] ["self"] (defScope sCounts) := ⟨rfl, rfl, rfl, by decide +kernel, rfl, by decide +kernel, by decide +kernel⟩
theorem ok_counts {f C : Addr} {fd : FuncData} (B : Bare mg) (T : Cw K mg C) (F : Fun K "counts" "Word.counts" sCounts f fd) : FnOk P w K mg base CX0 1 f fd ["self"] (spCounts C) := by
  refine F.ok scCounts (fun vs H Q E h => ?_) (fun cdv A outer s H vs Q E hr h => ?_)
  · obtain ⟨a, size, l, rfl, _⟩ := h
    rfl
  · obtain ⟨a, size, l, rfl, W, k⟩ := h
    obtain ⟨dx, t, h1, h2⟩ := W.ob
    have z0 := W.ls.s0
    have z1 := W.ls.s1
    have ll := W.ls.len
    refine ⟨_, pss_cons (ps_set (i := 1) scCounts.nd rfl (Or.inl rfl) (pe_op op_rep (pe_lst (pa_cons pe_int pa_nil)) (pe_fld (pv 0) rfl)))
      (pss_cons (ps_for PassesOwn.never rfl (pi_tup (pe_fld (pv 0) rfl)) (pg_name (i := 2) scCounts.nd rfl (Or.inl rfl))
        (pss_one (ps_augS (pv 1) (pe_op op_sub (pv 2) pe_int) get_list pe_int ip_add set_list)))
      (pss_one (ps_ret (pe_callTy call_tuple_of (by rfl) B.tuple (by decide +kernel) (pa_cons (pv 1) pa_nil))))), ?_⟩
    refine ⟨(by show 1 ≤ sizeLine; decide), fun p hp => ?_⟩
    have s0 : Same H (upd H p (.lst [.int 0])) := same_new hp
    have ep : (upd H p (.lst [.int 0])) p = some (.lst [.int 0]) := upd_same
    generalize upd H p (.lst [.int 0]) = H0 at s0 ep ⊢
    refine ⟨_, rfl, a, C, dx, _, _, rfl, s0 _ _ h1, T.cl, T.nS, wf_size _ _, p, size, _, rfl, rfl, ep, by omega, by omega, ?_, fun D hD => ?_⟩
    · rw [sizeLine_eq]
      simp
      omega
    have e0 : (List.replicate size.toNat [V.int 0]).flatten = nums (cnts size.toNat []) := by
      rw [cnts_nil]
      simp [nums, List.flatten_replicate_singleton]
    rw [e0]
    have s1 : Same H0 (upd H0 D (.lst (nums (cnts size.toNat [])))) := same_new hD
    have eD : (upd H0 D (.lst (nums (cnts size.toNat [])))) D = some (.lst (nums (cnts size.toNat []))) := upd_same
    have s01 := s0.trans s1
    have fD : H D = none := s0.free hD
    generalize upd H0 D (.lst (nums (cnts size.toNat []))) = H1 at s1 eD s01 ⊢
    refine ⟨_, rfl, a, C, dx, _, _, rfl, s01 _ _ h1, T.cl, T.nL, wf_letters _ _, t, rfl, ⟨_, SqT.of (s01 _ _ h2)⟩, for_tup (K := K) (a := t) (xs := nums l) (fun i σ H' => ∃ v2 : Option V, σ = [some (.ref a), some (.ref D), v2] ∧ Same H H' ∧ H' D = some (.lst (nums (cnts size.toNat (l.take i)))))
      ⟨_, rfl, s01, eD⟩ (fun i σ H' _ ⟨_, _, s, _⟩ => SqT.of (s _ _ h2)) ?_ ?_⟩
    · rintro i x σ H' hx ⟨v2, rfl, s2, e2⟩
      obtain ⟨z, rfl, hz, hzm⟩ := nums_get hx
      obtain ⟨b0, b1⟩ := W.ls.bd z hzm
      have hj : (z - 1).toNat < size.toNat := by omega
      have ezj : (((z - 1).toNat : Nat) : Int) + 1 = z := by omega
      have hat := cnts_at (l.take i) hj
      rw [ezj] at hat
      have hatn : (nums (cnts size.toNat (l.take i)))[(z - 1).toNat]? = some (.int (((l.take i).count z : Nat) : Int)) := by
        rw [List.getElem?_map, hat]
        rfl
      have esn := cnts_snoc (l.take i) hj
      rw [ezj] at esn
      refine ⟨_, rfl, _, rfl, _, _, rfl, rfl, D, _, _, _, rfl, rfl, by omega, SqL.of e2, hatn, _, _, rfl, rfl, D, _, _, (z - 1).toNat, rfl, rfl, e2, ?_, ⟨_, rfl, fun b o e => ?_, ?_⟩⟩
      · have := ixN_lt (n := (nums (cnts size.toNat (l.take i))).length) (j := (z - 1).toNat) (by rw [List.length_map, cnts_len]; exact hj)
        rw [show (((z - 1).toNat : Nat) : Int) = z - 1 by omega] at this
        exact this
      · rw [upd_ne (ne_of_none e fD)]
        exact s2 _ _ e
      · rw [upd_same, set_nums, List.take_succ, hz]
        show some (HO.lst _) = some (HO.lst (nums (cnts size.toNat (l.take i ++ [z]))))
        rw [esn]
    · rintro σ H' ⟨v2, rfl, s2, e2⟩
      rw [List.length_map, List.take_length] at e2
      refine ⟨_, rfl, D, _, rfl, .inl ⟨SqL.of e2, fun q hq => ?_⟩⟩
      exact k q _ (s2.trans (same_new hq)) (s2.free hq) upd_same
end
end Lw
/-! T. The law. -/
namespace LwM
theorem ends_top {size : Int} {l r1 r2 e1 e2 : List Int} (z0 : 2 ≤ size) (b : Bd size l) (d1 : ∀ d ∈ r1, d ∈ dds (-1) (size - 1).toNat) (d2 : ∀ d ∈ r2, d ∈ dds (-1) (size - 1).toNat) (q1 : runL r1 l = some e1) (q2 : runL r2 l = some e2)
    (h1 : ∀ d ∈ dds (-1) (size - 1).toNat, doneL d e1 = none) (h2 : ∀ d ∈ dds (-1) (size - 1).toNat, doneL d e2 = none) : TopW size e1 ∧ e1 = e2 := by
  have dn : ∀ {r : List Int}, (∀ d ∈ r, d ∈ dds (-1) (size - 1).toNat) → ∀ d ∈ r, DeedN size d := fun {r} h d hd => by
    obtain ⟨a, b, c, _⟩ := dds_mem (.inr rfl) (h d hd)
    exact ⟨a, by omega, by omega⟩
  have tp : ∀ {e : List Int}, (∀ d ∈ dds (-1) (size - 1).toNat, doneL d e = none) → TopW size e := fun {e} h i i1 i2 => by
    have hm : -i ∈ dds (-1) (size - 1).toNat := List.mem_map.mpr ⟨i, ixs_mem.mpr ⟨i1, by omega⟩, by omega⟩
    have := (none_iff (-i) e).mp (h _ hm)
    rw [if_neg (by omega)] at this
    simpa using this
  exact ⟨tp h1, top_one b (dn d1) (dn d2) q1 q2 (tp h1) (tp h2)⟩
theorem ends_bot {size : Int} {l r1 r2 e1 e2 : List Int} (z0 : 2 ≤ size) (b : Bd size l) (d1 : ∀ d ∈ r1, d ∈ dds 1 (size - 1).toNat) (d2 : ∀ d ∈ r2, d ∈ dds 1 (size - 1).toNat) (q1 : runL r1 l = some e1) (q2 : runL r2 l = some e2)
    (h1 : ∀ d ∈ dds 1 (size - 1).toNat, doneL d e1 = none) (h2 : ∀ d ∈ dds 1 (size - 1).toNat, doneL d e2 = none) : BotW size e1 ∧ e1 = e2 := by
  have dn : ∀ {r : List Int}, (∀ d ∈ r, d ∈ dds 1 (size - 1).toNat) → ∀ d ∈ r, DeedN size d := fun {r} h d hd => by
    obtain ⟨a, b, c, _⟩ := dds_mem (.inl rfl) (h d hd)
    exact ⟨a, by omega, by omega⟩
  have bt : ∀ {e : List Int}, (∀ d ∈ dds 1 (size - 1).toNat, doneL d e = none) → BotW size e := fun {e} h i i1 i2 => by
    have hm : i ∈ dds 1 (size - 1).toNat := List.mem_map.mpr ⟨i, ixs_mem.mpr ⟨i1, by omega⟩, by omega⟩
    have := (none_iff i e).mp (h _ hm)
    rw [if_pos (by omega)] at this
    exact this
  exact ⟨bt h1, bot_one (by omega) b (dn d1) (dn d2) q1 q2 (bt h1) (bt h2)⟩
theorem ends_one {sign size : Int} {l r1 r2 e1 e2 : List Int} (hs : sign = 1 ∨ sign = -1) (z0 : 2 ≤ size) (b : Bd size l) (d1 : ∀ d ∈ r1, d ∈ dds sign (size - 1).toNat) (d2 : ∀ d ∈ r2, d ∈ dds sign (size - 1).toNat) (q1 : runL r1 l = some e1) (q2 : runL r2 l = some e2)
    (h1 : ∀ d ∈ dds sign (size - 1).toNat, doneL d e1 = none) (h2 : ∀ d ∈ dds sign (size - 1).toNat, doneL d e2 = none) : e1 = e2 ∧ r1.Perm r2 := by
  have e : e1 = e2 := by
    rcases hs with c | c <;> subst c
    · exact (ends_bot z0 b d1 d2 q1 q2 h1 h2).2
    · exact (ends_top z0 b d1 d2 q1 q2 h1 h2).2
  subst e
  refine ⟨rfl, row_perm (s := sign) (fun d hd => ?_) (fun d hd => ?_) q1 q2⟩
  · obtain ⟨a, _, _, c⟩ := dds_mem hs (d1 d hd)
    exact ⟨a, c⟩
  · obtain ⟨a, _, _, c⟩ := dds_mem hs (d2 d hd)
    exact ⟨a, c⟩
theorem srt_pw : ∀ {l : List Int}, l.Pairwise (· ≤ ·) → Srt l
  | [], _ => trivial
  | a :: l, h => ⟨(List.pairwise_cons.mp h).1, srt_pw (List.pairwise_cons.mp h).2⟩
theorem sort_eq {a b c d : List Int} (h : a.Perm b) (p : c.Perm a) (q : d.Perm b) (s : c.Pairwise (· ≤ ·)) (t : d.Pairwise (· ≤ ·)) : c = d :=
  srt_perm (srt_pw s) (srt_pw t) ((p.trans h).trans q.symm)
theorem top_rows {size : Int} {l r e : List Int} (z0 : 2 ≤ size) (b : Bd size l) (d1 : ∀ d ∈ r, d ∈ dds (-1) (size - 1).toNat) (q1 : runL r l = some e) (h1 : ∀ d ∈ dds (-1) (size - 1).toNat, doneL d e = none) : Yam 1 (tabL e) := by
  obtain ⟨k, _⟩ := tab_kn e
  have h := (ends_top z0 b d1 d1 q1 q1 h1 h1).1
  refine yam_top (tab_tab e) ((run_bd b (fun d hd => ?_) q1).perm k.perm) (h.nn k.nn)
  obtain ⟨a, b, c, _⟩ := dds_mem (.inr rfl) (d1 d hd)
  exact ⟨a, by omega, by omega⟩
theorem top_bot {size : Int} {l r1 r2 t b : List Int} (z0 : 2 ≤ size) (bd : Bd size l) (d1 : ∀ d ∈ r1, d ∈ dds (-1) (size - 1).toNat) (d2 : ∀ d ∈ r2, d ∈ dds 1 (size - 1).toNat) (q1 : runL r1 l = some t) (q2 : runL r2 l = some b)
    (h1 : ∀ d ∈ dds (-1) (size - 1).toNat, doneL d t = none) (h2 : ∀ d ∈ dds 1 (size - 1).toNat, doneL d b = none) : cnts size.toNat t = (cnts size.toNat b).reverse := by
  refine cnts_rev (by omega) (counts_turned bd (fun d hd => ?_) (fun d hd => ?_) q1 q2 (ends_top z0 bd d1 d1 q1 q1 h1 h1).1 (ends_bot z0 bd d2 d2 q2 q2 h2 h2).1 (by omega))
  · obtain ⟨a, b, c, _⟩ := dds_mem (.inr rfl) (d1 d hd)
    exact ⟨a, by omega, by omega⟩
  · obtain ⟨a, b, c, _⟩ := dds_mem (.inl rfl) (d2 d hd)
    exact ⟨a, by omega, by omega⟩
theorem led_bd {sign size : Int} {row l e : List Int} (hs : sign = 1 ∨ sign = -1) (z0 : 2 ≤ size) (b : Bd size l) (h : Led (dds sign (size - 1).toNat) row l e) : e.length = l.length ∧ Bd size e := by
  obtain ⟨q, s, _⟩ := h.run
  have dn : ∀ d ∈ row, DeedN size d := fun d hd => by
    obtain ⟨a, b, c, _⟩ := dds_mem hs (s d hd)
    exact ⟨a, by omega, by omega⟩
  exact ⟨(shs_run b dn q).1, run_bd b dn q⟩
theorem led1 : Led (dds (-1) 3) [] [] [] := .stop (by decide +kernel)
theorem led2 : Led (dds 1 2) [1, 2] [1] [3] := .step (d := 1) (r := [2]) (by decide +kernel) (by decide +kernel) (.step (d := 2) (r := [3]) (by decide +kernel) (by decide +kernel) (.stop (by decide +kernel)))
theorem led3 : Led (dds (-1) 2) [-2, -1, -2, -1] [3, 3] [1, 1] := .step (d := -2) (r := [2, 3]) (by decide +kernel) (by decide +kernel) (.step (d := -1) (r := [1, 3]) (by decide +kernel) (by decide +kernel)
  (.step (d := -2) (r := [1, 2]) (by decide +kernel) (by decide +kernel) (.step (d := -1) (r := [1, 1]) (by decide +kernel) (by decide +kernel) (.stop (by decide +kernel)))))
end LwM
namespace Lw
open PySem L2 LwE LwM
/-- a way to an end, told -/
def Way (C : Addr) (H : Hp) (t : Addr) (size sign : Int) (l : List Int) : Prop := ∃ (r x : Addr) (row e : List Int), H t = some (.tup [.int sign, .ref r, .ref x]) ∧ H r = some (.tup (nums row)) ∧ WAt C H x size e ∧ Led (dds sign (size - 1).toNat) row l e ∧ row.length ≤ 200
theorem Way.same {C : Addr} {H H' : Hp} {t : Addr} {size sign : Int} {l : List Int} (W : Way C H t size sign l) (s : Same H H') : Way C H' t size sign l := by
  obtain ⟨r, x, row, e, a, b, c, d⟩ := W
  exact ⟨r, x, row, e, s _ _ a, s _ _ b, c.same s, d⟩
theorem Way.keep {C : Addr} {H H' : Hp} {t m g c : Addr} {n size sign : Int} {l : List Int} (W : Way C H t size sign l) (d : Dr H m g c n) (k : Keep m g H H') : Way C H' t size sign l := by
  obtain ⟨r, x, row, e, a, b, f, h⟩ := W
  obtain ⟨gs, _, eg⟩ := d.hg
  exact ⟨r, x, row, e, k _ _ a (ne_of a d.hm (by intro z; cases z)) (ne_of a eg (by intro z; cases z)), k _ _ b (ne_of b d.hm (by intro z; cases z)) (ne_of b eg (by intro z; cases z)), f.keep d k, h⟩
/-- an end that is due -/
def DueAt (H : Hp) (g E : Addr) (size sign : Int) (l : List Int) (y : Addr) (e : List Int) : Prop := H y = some (.lst (nums e)) ∧ y ≠ g ∧ y ≠ E ∧ ∃ row, Led (dds sign (size - 1).toNat) row l e
def EndsAt (H : Hp) (g E : Addr) (size : Int) (l : List Int) : Nat → Prop
  | 0 => H E = some (.lst [])
  | 1 => ∃ y e, H E = some (.lst [.ref y]) ∧ DueAt H g E size (-1) l y e
  | _ => ∃ y e y2 e2, H E = some (.lst [.ref y, .ref y2]) ∧ DueAt H g E size (-1) l y e ∧ DueAt H g E size 1 l y2 e2
def sgn (i : Nat) : Int := if i = 0 then -1 else 1
theorem ends_keep {H H' : Hp} {m g c E : Addr} {n size : Int} {l : List Int} {i : Nat} (d : Dr H m g c n) (k : Keep m g H H') (o : Off E m g c) (h : EndsAt H g E size l i) : EndsAt H' g E size l i := by
  have dk : ∀ {sign y e}, DueAt H g E size sign l y e → DueAt H' g E size sign l y e := fun {sign y e} ⟨a, b, c2, f⟩ => ⟨k _ _ a (ne_of a d.hm (by intro z; cases z)) b, b, c2, f⟩
  match i, h with
  | 0, h => exact k _ _ h o.m o.g
  | 1, ⟨y, e, h1, h2⟩ => exact ⟨y, e, k _ _ h1 o.m o.g, dk h2⟩
  | (i + 2), ⟨y, e, y2, e2, h1, h2, h3⟩ => exact ⟨y, e, y2, e2, k _ _ h1 o.m o.g, dk h2, dk h3⟩
theorem ends_same {H H' : Hp} {g E : Addr} {size : Int} {l : List Int} {i : Nat} (s : Same H H') (h : EndsAt H g E size l i) : EndsAt H' g E size l i := by
  have dk : ∀ {sign y e}, DueAt H g E size sign l y e → DueAt H' g E size sign l y e := fun {sign y e} ⟨a, b, c2, f⟩ => ⟨s _ _ a, b, c2, f⟩
  match i, h with
  | 0, h => exact s _ _ h
  | 1, ⟨y, e, h1, h2⟩ => exact ⟨y, e, s _ _ h1, dk h2⟩
  | (i + 2), ⟨y, e, y2, e2, h1, h2, h3⟩ => exact ⟨y, e, y2, e2, s _ _ h1, dk h2, dk h3⟩
theorem ends_add {H : Hp} {g E y : Addr} {size : Int} {l e : List Int} {i : Nat} (hi : i < 2) (h : EndsAt H g E size l i) (a : DueAt H g E size (sgn i) l y e) : ∃ es, H E = some (.lst es) ∧ es.length ≤ 1 ∧ EndsAt (upd H E (.lst (es ++ [.ref y]))) g E size l (i + 1) := by
  have dk : ∀ {sign y e es}, DueAt H g E size sign l y e → DueAt (upd H E (.lst es)) g E size sign l y e := fun {sign y e es} ⟨a, b, c2, f⟩ => ⟨by rw [upd_ne c2]; exact a, b, c2, f⟩
  match i, h with
  | 0, h => exact ⟨[], h, Nat.zero_le _, y, e, upd_same, dk a⟩
  | 1, ⟨y1, e1, h1, h2⟩ => exact ⟨_, h1, Nat.le_refl _, y1, e1, y, e, upd_same, dk h2, dk a⟩
/-- all but the dict, its great cells and the list at E stands -/
def KE (m g E : Addr) (H H' : Hp) : Prop := ∀ b o, H b = some o → b ≠ m → b ≠ g → b ≠ E → H' b = some o
theorem KE.refl (m g E : Addr) (H : Hp) : KE m g E H H := fun _ _ e _ _ _ => e
theorem KE.keep {m g E : Addr} {H H1 H2 : Hp} (a : KE m g E H H1) (k : Keep m g H1 H2) : KE m g E H H2 := fun b o e h1 h2 h3 => k b o (a b o e h1 h2 h3) h1 h2
theorem KE.put {m g E : Addr} {H H1 : Hp} {o : HO} (a : KE m g E H H1) : KE m g E H (upd H1 E o) := fun b u e h1 h2 h3 => by
  rw [upd_ne h3]
  exact a b u e h1 h2 h3
theorem WAt.ke {C : Addr} {H H' : Hp} {p m g c E : Addr} {n size : Int} {ls : List Int} {xs : List V} (W : WAt C H p size ls) (d : Dr H m g c n) (hE : H E = some (.lst xs)) (k : KE m g E H H') : WAt C H' p size ls := by
  obtain ⟨dx, t, a, b⟩ := W.ob
  obtain ⟨gs, _, e⟩ := d.hg
  exact ⟨⟨dx, t, k _ _ a (ne_of a d.hm (by intro z; cases z)) (ne_of a e (by intro z; cases z)) (ne_of a hE (by intro z; cases z)), k _ _ b (ne_of b d.hm (by intro z; cases z)) (ne_of b e (by intro z; cases z)) (ne_of b hE (by intro z; cases z))⟩, W.ls⟩
theorem Way.ke {C : Addr} {H H' : Hp} {t m g c E : Addr} {n size sign : Int} {l : List Int} {xs : List V} (W : Way C H t size sign l) (d : Dr H m g c n) (hE : H E = some (.lst xs)) (k : KE m g E H H') : Way C H' t size sign l := by
  obtain ⟨r, x, row, e, a, b, f, h⟩ := W
  obtain ⟨gs, _, eg⟩ := d.hg
  exact ⟨r, x, row, e, k _ _ a (ne_of a d.hm (by intro z; cases z)) (ne_of a eg (by intro z; cases z)) (ne_of a hE (by intro z; cases z)), k _ _ b (ne_of b d.hm (by intro z; cases z)) (ne_of b eg (by intro z; cases z)) (ne_of b hE (by intro z; cases z)), f.ke d hE k, h⟩
theorem eqvL (l r : List Int) : PyData.eqv (.list (l.map PyData.int)) (.list (r.map PyData.int)) = decide (l = r) := eqv_nums l r
theorem eqvT (l r : List Int) : PyData.eqv (.tuple (l.map PyData.int)) (.tuple (r.map PyData.int)) = decide (l = r) := eqv_nums l r
/-- the law's own defs -/
structure Ow (P : Program) (w : World) (K : PySem.W.Frag) (mg : Str → Option Value) (base : Heap) (C : Addr) (fB fZ fL fD fK fW fN fT fR fE fC g1 g2 g3 g4 : Addr) (dB dZ dL dD dK dW dN dT dR dE dC d1 d2 d3 d4 : FuncData) : Prop where
  gB : Df K mg "_law_begun" sBegun fB dB
  B : FnOk P w K mg base CX0 2 fB dB ["script"] (spBegun K)
  bB : Binds K dB ["script"] []
  gZ : Df K mg "_law_size" sSize fZ dZ
  Z : FnOk P w K mg base CX0 3 fZ dZ ["m"] spSize
  bZ : Binds K dZ ["m"] []
  gL : Df K mg "_law_letters" sLetters fL dL
  L : FnOk P w K mg base CX0 3 fL dL ["m", "size", "most"] spLetters
  bL : Binds K dL ["m", "size", "most"] []
  gD : Df K mg "_law_led" sLed fD dD
  D : FnOk P w K mg base CX0 3 fD dD ["size", "letters", "sign"] spLed
  bD : Binds K dD ["size", "letters", "sign"] []
  gK : Df K mg "_law_like" sLike fK dK
  K_ : FnG P w K mg base 1 fK dK ["told", "due"] spLike
  bK : Binds K dK ["told", "due"] []
  gW : Df K mg "_law_is_word" sIsWord fW dW
  W_ : FnG P w K mg base 1 fW dW ["told", "size", "letters"] (spIsWord C)
  bW : Binds K dW ["told", "size", "letters"] []
  gN : Df K mg "_law_other_way" sOther fN dN
  N : FnOk P w K mg base CX0 3 fN dN ["m", "size", "letters", "sign"] spOther
  bN : Binds K dN ["m", "size", "letters", "sign"] []
  gT : Df K mg "_law_rows" sRows fT dT
  T : FnOk P w K mg base CX0 1 fT dT ["letters"] spRows
  bT : Binds K dT ["letters"] []
  gR : Df K mg "run" sRun fR dR
  R : FnOk P w K mg base CX0 9 fR dR ["word", "row"] (spRun C)
  bR : Binds K dR ["word", "row"] []
  mE : Meth K C "__eq__" fE
  E : FnOk P w K mg base CX0 1 fE dE ["self", "other"] (spEq C)
  bE : Binds K dE ["self", "other"] []
  ne : PySem.W.findIn K (.ref C) "__ne__" = some (some (.builtin "object.__ne__"))
  mC : Meth K C "counts" fC
  Co : FnOk P w K mg base CX0 1 fC dC ["self"] (spCounts C)
  bC : Binds K dC ["self"] []
  q1 : Df K mg "to_top" sToTop g1 d1
  T1 : FnOk P w K mg base CX0 8 g1 d1 ["word"] (spWay C (-1))
  b1 : Binds K d1 ["word"] []
  q2 : Df K mg "to_bottom" sToBottom g2 d2
  T2 : FnOk P w K mg base CX0 8 g2 d2 ["word"] (spWay C 1)
  b2 : Binds K d2 ["word"] []
  q3 : Df K mg "top_of" sTopOf g3 d3
  T3 : FnOk P w K mg base CX0 8 g3 d3 ["word"] (spEndOf C (-1))
  b3 : Binds K d3 ["word"] []
  q4 : Df K mg "bottom_of" sBottomOf g4 d4
  T4 : FnOk P w K mg base CX0 8 g4 d4 ["word"] (spEndOf C 1)
  b4 : Binds K d4 ["word"] []
section
variable {P : Program} {w : World} {K : PySem.W.Frag} {mg : Str → Option Value} {base : Heap} {C fI fB fZ fL fD fK fW fN fT fR fE fC g1 g2 g3 g4 : Addr} {dI dB dZ dL dD dK dW dN dT dR dE dC d1 d2 d3 d4 : FuncData}
def spLaw (K : PySem.W.Frag) : Sp := fun vs H Q _ => ∃ (a : Addr) (ns : List Int), vs = [.ref a] ∧ SqL K H a (nums ns) ∧ ns.length ≤ 63 ∧ ∀ H', Q (.bl true) H'
theorem no_counts (t : Addr) (z : Int) : (wf t z).lookup ("counts" : Str) = none := wf_no t z (by decide +kernel) (by decide +kernel)
theorem scLaw : FnScope ["script", "m", "turn", "size", "letters", "word", "ends", "sign", "told", "end", "row", "due", "again", "other", "last", "rows", "number"] ["script"] (defScope sLaw) := ⟨rfl, rfl, rfl, by decide +kernel, rfl, by decide +kernel, by decide +kernel⟩
set_option maxHeartbeats 4000000 in
theorem ok_law {f : Addr} {fd : FuncData} (B : Bare mg) (T : Cw K mg C) (F : Df K mg "law" sLaw f fd) (I : In_ P w K mg base C fI dI)
    (O : Ow P w K mg base C fB fZ fL fD fK fW fN fT fR fE fC g1 g2 g3 g4 dB dZ dL dD dK dW dN dT dR dE dC d1 d2 d3 d4) : FnG P w K mg base 10 f fd ["script"] (spLaw K) := by
  refine okG F.fn scLaw (fun vs H Q E h => ?_) (fun cdv A outer s H vs Q E hg hr h => ?_)
  · obtain ⟨a, ns, rfl, _⟩ := h
    rfl
  · obtain ⟨a, ns, rfl, hS, hlen, k⟩ := h
    have hr1 : Room 1 _ := hr.mono (by decide)
    have hr2 : Room 2 _ := hr.mono (by decide)
    have hr3 : Room 3 _ := hr.mono (by decide)
    have hr5 : Room 5 _ := hr.mono (by decide)
    have hr8 : Room 8 _ := hr.mono (by decide)
    refine ⟨_, pss_cons (ps_set (i := 1) scLaw.nd rfl (Or.inl rfl) (pe_call O.B hr2 (by rfl) O.gB.g O.gB.fn.kp O.bB .nil pass0 (pa_cons (pv 0) pa_nil)))
      (pss_cons (ps_for PassesOwn.never rfl (pi_range1 (by rfl) B.range (pa_cons pe_int pa_nil)) (pg_name (i := 2) scLaw.nd rfl (Or.inl rfl))
        (pss_cons (ps_set (i := 3) scLaw.nd rfl (Or.inl rfl) (pe_call O.Z hr3 (by rfl) O.gZ.g O.gZ.fn.kp O.bZ .nil pass0 (pa_cons (pv 1) pa_nil)))
        (pss_cons (ps_set (i := 4) scLaw.nd rfl (Or.inl rfl) (pe_call O.L hr3 (by rfl) O.gL.g O.gL.fn.kp O.bL .nil pass0 (pa_cons (pv 1) (pa_cons (pv 3) (pa_cons pe_int pa_nil)))))
        (pss_cons (ps_set (i := 5) scLaw.nd rfl (Or.inl rfl) (pe_make I.m I.ok hr5 (by rfl) T.mgC I.b .nil pass0 (pa_cons (pv 3) (pa_cons (pv 4) pa_nil))))
        (pss_cons (ps_set (i := 6) scLaw.nd rfl (Or.inl rfl) (pe_lst pa_nil))
        (pss_cons (ps_for PassesOwn.never rfl (pi_tup (pe_tup (pa_cons (pe_tup (pa_cons (pe_un un_neg pe_int) (pa_cons (pe_call O.T1 hr8 (by rfl) O.q1.g O.q1.fn.kp O.b1 .nil pass0 (pa_cons (pv 5) pa_nil)) (pa_cons (pe_call O.T3 hr8 (by rfl) O.q3.g O.q3.fn.kp O.b3 .nil pass0 (pa_cons (pv 5) pa_nil)) pa_nil))))
            (pa_cons (pe_tup (pa_cons pe_int (pa_cons (pe_call O.T2 hr8 (by rfl) O.q2.g O.q2.fn.kp O.b2 .nil pass0 (pa_cons (pv 5) pa_nil)) (pa_cons (pe_call O.T4 hr8 (by rfl) O.q4.g O.q4.fn.kp O.b4 .nil pass0 (pa_cons (pv 5) pa_nil)) pa_nil)))) pa_nil))))
            (pg_tup rfl (pgs_cons (pg_name (i := 7) scLaw.nd rfl (Or.inl rfl)) (pgs_cons (pg_name (i := 8) scLaw.nd rfl (Or.inl rfl)) (pgs_cons (pg_name (i := 9) scLaw.nd rfl (Or.inl rfl)) pgs_nil))))
          (pss_cons (ps_asg (pe_call O.D hr3 (by rfl) O.gD.g O.gD.fn.kp O.bD .nil pass0 (pa_cons (pv 3) (pa_cons (pv 4) (pa_cons (pv 7) pa_nil)))) (pg_unl rfl (pgs_cons (pg_name (i := 10) scLaw.nd rfl (Or.inl rfl)) (pgs_cons (pg_name (i := 11) scLaw.nd rfl (Or.inl rfl)) pgs_nil))))
          (pss_cons (ps_if (PW.pt (pw_or (pt_not (pt_val (pe_callG (by exact hg) O.K_ hr1 (by rfl) O.gK.g O.gK.fn.kp O.bK (pa_cons (pv 8) (pa_cons (pe_callTy call_tuple_of (by rfl) B.tuple (by decide +kernel) (pa_cons (pv 10) pa_nil)) pa_nil)))))
              (pw_or1 (pt_not (pt_val (pe_callG (by exact hg) O.W_ hr1 (by rfl) O.gW.g O.gW.fn.kp O.bW (pa_cons (pv 9) (pa_cons (pv 3) (pa_cons (pv 11) pa_nil)))))))))
            pss_never pss_nil)
          (pss_cons (ps_for PassesOwn.never rfl (pi_range1 (by rfl) B.range (pa_cons pe_int pa_nil)) (pg_name (i := 12) scLaw.nd rfl (Or.inl rfl))
            (pss_cons (ps_asg (pe_call O.N hr3 (by rfl) O.gN.g O.gN.fn.kp O.bN .nil pass0 (pa_cons (pv 1) (pa_cons (pv 3) (pa_cons (pv 4) (pa_cons (pv 7) pa_nil))))) (pg_unl rfl (pgs_cons (pg_name (i := 13) scLaw.nd rfl (Or.inl rfl)) (pgs_cons (pg_name (i := 14) scLaw.nd rfl (Or.inl rfl)) pgs_nil))))
            (pss_one (ps_if (PW.pt (pw_or (pt_cmpR (op_neD hr.units) (pv 14) (pv 11) (nomark _))
              (pw_or (pt_cmpR (op_neD hr.units) (pe_callB cr_sortedI (by rfl) B.sorted (by decide +kernel) (pa_cons (pv 13) pa_nil)) (pe_callB cr_sortedI (by rfl) B.sorted (by decide +kernel) (pa_cons (pv 10) pa_nil)) (nomark _))
              (pw_or1 (pt_cmpR (op_neO O.mE.at_ O.mE.fn O.ne T.cm O.E O.bE hr2) (pe_call O.R hr (by rfl) O.gR.g O.gR.fn.kp O.bR .nil pass0 (pa_cons (pv 5) (pa_cons (pv 13) pa_nil))) (pv 9) (nomark _))))))
              pss_never pss_nil))))
          (pss_one (ps_expr (pe_bm PySem.F.plainAttrs_list PySem.F.slot_list_append PySem.F.type_list_append mt_append (pv 6) (pa_cons (pv 11) pa_nil))))))))
        (pss_cons (ps_set (i := 15) scLaw.nd rfl (Or.inl rfl) (pe_call O.T hr1 (by rfl) O.gT.g O.gT.fn.kp O.bT .nil pass0 (pa_cons (pe_ix ix_list (pv 6) pe_int (fun _ _ => rfl)) pa_nil)))
        (pss_cons (ps_if (pt_cmpR (op_neD hr.units) (pe_lc (own := [("number", 16), ("row", 10)]) (g := gTup K 2 (gCons (gName 16) (gCons (gName 10) gNil)))
            (tt := tTest (tOp (rNeD K) (tVar 10) (tOp rRep (tLst (tCons (tOp (rI0 fun i j => .int (i + j)) (tVar 16) (tC (.int 1))) tNil)) (tCB (fun xs H Q => ∃ p ys, xs = [V.ref p] ∧ (SqL K H p ys ∨ SqT K H p ys) ∧ Q (.int ys.length) H) (tCons (tVar 10) tNil)))))
            rfl scLaw.nd (pi_enum (by rfl) B.enumerate (pa_cons (pv 15) pa_nil))
            (blkOk_by (N := ["script", "m", "turn", "size", "letters", "word", "ends", "sign", "told", "end", "row", "due", "again", "other", "last", "rows", "number"]) (sc := defScope sLaw) (by decide +kernel))
            (fun _ _ _ _ _ => pg_tup rfl (pgs_cons (pg_name (i := 16) scLaw.nd rfl (Or.inl rfl)) (pgs_cons (pg_name (i := 10) scLaw.nd rfl (Or.inl rfl)) pgs_nil)))
            (fun _ _ _ _ _ => pts_one (pt_cmpR (op_neD hr.units) (pv 10) (pe_op op_rep (pe_lst (pa_cons (pe_op op_add (pv 16) pe_int) pa_nil)) (pe_callB call_len_seq (by rfl) B.len PySem.boot_len (pa_cons (pv 10) pa_nil))) (nomark _))) (fun _ _ _ _ _ => pv 16)) (pe_lst pa_nil) (nomark _)) pss_never pss_nil)
        (pss_cons (ps_if (pt_cmpR (op_neD hr.units) (pe_meth0 (pe_make I.m I.ok hr5 (by rfl) T.mgC I.b .nil pass0 (pa_cons (pv 3) (pa_cons (pe_ix ix_list (pv 6) pe_int (fun _ _ => rfl)) pa_nil))) T.cl O.mC O.Co hr1 O.bC .nil pass0)
            (pe_revT (pe_meth0 (pe_make I.m I.ok hr5 (by rfl) T.mgC I.b .nil pass0 (pa_cons (pv 3) (pa_cons (pe_ix ix_list (pv 6) pe_int (fun _ _ => rfl)) pa_nil))) T.cl O.mC O.Co hr1 O.bC .nil pass0)) (nomark _)) pss_never pss_nil)
        (pss_one (ps_if (pt_not (pt_val (pe_callG (by exact hg) O.W_ hr1 (by rfl) O.gW.g O.gW.fn.kp O.bW (pa_cons (pv 5) (pa_cons (pv 3) (pa_cons (pv 4) pa_nil)))))) pss_never pss_nil)))))))))))
      (pss_cons (ps_if (PW.pt (pw_or (pt_cmpR (op_neD hr.units) (pe_call O.T1 hr8 (by rfl) O.q1.g O.q1.fn.kp O.b1 .nil pass0 (pa_cons (pe_make I.m I.ok hr5 (by rfl) T.mgC I.b .nil pass0 (pa_cons pe_int (pa_cons (pe_tup pa_nil) pa_nil))) pa_nil)) (pe_tup pa_nil) (nomark _))
          (pw_or1 (pt_cmpR (op_neD hr.units) (pe_call O.T2 hr8 (by rfl) O.q2.g O.q2.fn.kp O.b2 .nil pass0 (pa_cons (pe_make I.m I.ok hr5 (by rfl) T.mgC I.b .nil pass0 (pa_cons pe_int (pa_cons (pe_lst (pa_cons pe_int pa_nil)) pa_nil))) pa_nil)) (pe_tup (pa_cons pe_int (pa_cons pe_int pa_nil))) (nomark _))))) pss_never pss_nil)
      (pss_one (ps_ret (pe_cmpR (op_eqD hr.units) (pe_fld (pe_call O.T3 hr8 (by rfl) O.q3.g O.q3.fn.kp O.b3 .nil pass0 (pa_cons (pe_make I.m I.ok hr5 (by rfl) T.mgC I.b .nil pass0 (pa_cons pe_int (pa_cons (pe_lst (pa_cons pe_int (pa_cons pe_int pa_nil))) pa_nil))) pa_nil)) rfl) (pe_tup (pa_cons pe_int (pa_cons pe_int pa_nil))) (nomark _)))))), ?_⟩
    refine ⟨_, rfl, a, ns, rfl, hS, hlen, fun m g c H0 s0 d0 => ?_⟩
    refine ⟨4, rfl, by decide, by decide, for_range (lo := 0) (n := 4) (fun j σ H' => ∃ (v2 v3 v4 v5 v6 v7 v8 v9 v10 v11 v12 v13 v14 v15 : Option V) (n : Int),
      σ = [some (.ref a), some (.ref m), v2, v3, v4, v5, v6, v7, v8, v9, v10, v11, v12, v13, v14, v15, none] ∧ Dr H' m g c n ∧ n ≤ 2000 * (j : Int))
      ⟨_, _, _, _, _, _, _, _, _, _, _, _, _, _, 0, rfl, d0, by omega⟩ ?_ ?_⟩
    · rintro j σ H' hj ⟨v2, v3, v4, v5, v6, v7, v8, v9, v10, v11, v12, v13, v14, v15, n, rfl, d, hn⟩
      refine ⟨_, rfl, m, g, c, n, rfl, d, by omega, fun size H1 z0 z1 d1 k1 => ?_⟩
      refine ⟨_, rfl, _, rfl, m, g, c, n + 1, size, 14, rfl, d1, by omega, z0, z1, by decide, by decide, fun p ls n2 H2 l1 bd l3 l4 d2 k2 nf ep => ?_⟩
      have op := d1.off nf
      have L0 : Ls size ls := ⟨z0, z1, by omega, bd⟩
      refine ⟨_, rfl, _, rfl, fun w0 dx nw ndx ne => ⟨w0, dx, size, p, ls, rfl, upd_same, .inl (made_same nw ndx _ _ ep), L0, fun H3 kp W3 => ⟨rfl, ?_⟩⟩⟩
      have s3 : Same H2 H3 := Same.made nw ndx kp
      have d3 := d2.same s3
      have ep3 := s3 _ _ ep
      refine ⟨Nat.zero_le _, fun E0 hE => ?_⟩
      have pE : p ≠ E0 := ne_of_none ep3 hE
      have oE := d3.off hE
      have s4 : Same H3 (upd H3 E0 (.lst [])) := same_new hE
      have eE4 : (upd H3 E0 (.lst [])) E0 = some (.lst []) := upd_same
      generalize upd H3 E0 (.lst []) = H4 at s4 eE4 ⊢
      have W4 := W3.same s4
      have fb := far_bd (sign := -1) bd z1
      have fb2 := far_bd (sign := 1) bd z1
      refine ⟨1, rfl, _, rfl, w0, size, ls, rfl, W4, fun r1 row1 e1 H5 s5 led1 hf1 er1 => ⟨_, rfl, w0, size, ls, rfl, W4.same s5, fun x1 row1b e1b H6 s6 led1b Wx1 => ⟨(by show 3 ≤ sizeLine; decide), fun t1 ht1 => ?_⟩⟩⟩
      obtain ⟨q1, q2⟩ := led1.det led1b
      subst q1 q2
      have s7 : Same H6 (upd H6 t1 (.tup [.int (-1), .ref r1, .ref x1])) := same_new ht1
      have et1 : (upd H6 t1 (.tup [.int (-1), .ref r1, .ref x1])) t1 = some (.tup [.int (-1), .ref r1, .ref x1]) := upd_same
      generalize upd H6 t1 (.tup [.int (-1), .ref r1, .ref x1]) = H7 at s7 et1 ⊢
      have g1 := far_bd (sign := -1) Wx1.ls.bd z1
      have Way1 : Way C H7 t1 size (-1) ls := ⟨r1, x1, row1, e1, et1, s7 _ _ (s6 _ _ er1), Wx1.same s7, led1, by omega⟩
      have s47 := (s5.trans s6).trans s7
      refine ⟨_, rfl, w0, size, ls, rfl, W4.same s47, fun r2 row2 e2 H8 s8 led2 hf2 er2 => ⟨_, rfl, w0, size, ls, rfl, (W4.same s47).same s8, fun x2 row2b e2b H9 s9 led2b Wx2 => ⟨(by show 3 ≤ sizeLine; decide), fun t2 ht2 => ?_⟩⟩⟩
      obtain ⟨q1, q2⟩ := led2.det led2b
      subst q1 q2
      have s10 : Same H9 (upd H9 t2 (.tup [.int 1, .ref r2, .ref x2])) := same_new ht2
      have et2 : (upd H9 t2 (.tup [.int 1, .ref r2, .ref x2])) t2 = some (.tup [.int 1, .ref r2, .ref x2]) := upd_same
      generalize upd H9 t2 (.tup [.int 1, .ref r2, .ref x2]) = H10 at s10 et2 ⊢
      have g2 := far_bd (sign := 1) Wx2.ls.bd z1
      have Way2 : Way C H10 t2 size 1 ls := ⟨r2, x2, row2, e2, et2, s10 _ _ (s9 _ _ er2), Wx2.same s10, led2, by omega⟩
      have s7_10 := (s8.trans s9).trans s10
      refine ⟨(by show 2 ≤ sizeLine; decide), fun tt htt => ?_⟩
      have s11 : Same H10 (upd H10 tt (.tup [.ref t1, .ref t2])) := same_new htt
      have ett : (upd H10 tt (.tup [.ref t1, .ref t2])) tt = some (.tup [.ref t1, .ref t2]) := upd_same
      generalize upd H10 tt (.tup [.ref t1, .ref t2]) = H11 at s11 ett ⊢
      have s4_11 := (s47.trans s7_10).trans s11
      have d11 := (d3.same s4).same s4_11
      have W11 := W4.same s4_11
      have Wa11 := (Way1.same s7_10).same s11
      have Wb11 := Way2.same s11
      have eE11 := s4_11 _ _ eE4
      have ep11 := s4_11 _ _ (s4 _ _ ep3)
      have ls14 : ls.length ≤ 14 := by omega
      refine ⟨tt, rfl, ⟨_, SqT.of ett⟩, for_tup (K := K) (a := tt) (xs := [.ref t1, .ref t2]) (fun i σ H' => ∃ (v7 v8 v9 v10 v11 v12 v13 v14 : Option V) (n' : Int),
        σ = [some (.ref a), some (.ref m), some (.int (0 + (j : Int))), some (.int size), some (.ref p), some (.ref w0), some (.ref E0), v7, v8, v9, v10, v11, v12, v13, v14, v15, none] ∧ Dr H' m g c n' ∧ n' ≤ n2 + 700 * (i : Int) ∧ KE m g E0 H11 H' ∧ EndsAt H' g E0 size ls i)
        ⟨_, _, _, _, _, _, _, _, n2, rfl, d11, by omega, KE.refl _ _ _ _, eE11⟩ (fun i σ H' _ ⟨_, _, _, _, _, _, _, _, _, _, _, _, k, _⟩ => SqT.of (k _ _ ett (ne_of ett d11.hm (by intro z; cases z)) (by obtain ⟨gs, _, eg⟩ := d11.hg; exact ne_of ett eg (by intro z; cases z)) (ne_of ett eE11 (by intro z; cases z)))) ?_ ?_⟩
      · rintro i x σ H12 hx ⟨v7, v8, v9, v10, v11, v12, v13, v14, n', rfl, d12, hn', k12, en12⟩
        have W12 := W11.ke d11 eE11 k12
        have ep12 := k12 _ _ ep11 op.m op.g pE
        obtain ⟨hi, t, rfl, Wt⟩ : i < 2 ∧ ∃ t, x = V.ref t ∧ Way C H12 t size (sgn i) ls := by
          match i, hx with
          | 0, hx => exact ⟨by decide, t1, (Option.some.inj hx).symm, Wa11.ke d11 eE11 k12⟩
          | 1, hx => exact ⟨by decide, t2, (Option.some.inj hx).symm, Wb11.ke d11 eE11 k12⟩
          | (i + 2), hx => simp at hx
        have hsg : sgn i = 1 ∨ sgn i = -1 := by
          unfold sgn
          split
          · exact .inr rfl
          · exact .inl rfl
        obtain ⟨r, x, row, e, et, er, Wx, led, hrl⟩ := Wt
        refine ⟨t, _, rfl, SqT.of et, rfl, _, _, rfl, _, _, rfl, _, _, rfl, rfl, ?_⟩
        refine ⟨_, rfl, _, rfl, _, rfl, p, size, sgn i, ls, rfl, z0, z1, hsg, ep12, by omega, bd, fun q r3 y row3 e3 H13 s13 led3 hl3 eq3 er3 ey3 fr3 fy3 fq3 => ?_⟩
        obtain ⟨h1, h2⟩ := led.det led3
        subst h1 h2
        have d13 := d12.same s13
        have or3 := d12.off fr3
        have yg : y ≠ g := by
          rcases fy3 with z | z
          · rw [z]
            exact op.g
          · exact (d12.off z).g
        have yE : y ≠ E0 := by
          rcases fy3 with z | z
          · rw [z]
            exact pE
          · intro q
            rw [q] at z
            have : ∃ o, H12 E0 = some o := by
              match i, en12 with
              | 0, h => exact ⟨_, h⟩
              | 1, ⟨_, _, h, _⟩ => exact ⟨_, h⟩
            obtain ⟨o, ho⟩ := this
            rw [ho] at z
            cases z
        obtain ⟨run0, sub0, non0⟩ := led.run
        have smr : ∀ d ∈ row, d.natAbs ≤ 1000 := fun d hd => by
          obtain ⟨_, b1, b2, _⟩ := dds_mem hsg (sub0 d hd)
          omega
        refine ⟨q, _, rfl, SqL.of eq3, rfl, _, _, rfl, _, _, rfl, rfl, ?_⟩
        refine ⟨_, rfl, _, rfl, r3, _, rfl, .inl ⟨SqL.of er3, fun u hu => ?_⟩⟩
        have s14 : Same H13 (upd H13 u (.tup (nums row))) := same_new hu
        have eu : (upd H13 u (.tup (nums row))) u = some (.tup (nums row)) := upd_same
        generalize upd H13 u (.tup (nums row)) = H14 at s14 eu ⊢
        refine ⟨r, u, row, rfl, s14 _ _ (s13 _ _ er), eu, by omega, smr, _, rfl, iteF ?_⟩
        refine ⟨_, rfl, _, rfl, _, rfl, x, y, size, e, rfl, (Wx.same s13).same s14, s14 _ _ ey3, fun H15 s15 => ⟨_, rfl, iteF ?_⟩⟩
        have s1315 := s14.trans s15
        have s1215 := s13.trans s1315
        have d15 := d12.same s1215
        have en15 := ends_same s1215 en12
        have W15 := W12.same s1215
        have Wx15 := Wx.same s1215
        have ey15 := s1315 _ _ ey3
        have er15 := s1315 _ _ er3
        have ep15 := s1215 _ _ ep12
        have ym : y ≠ m := ne_of ey15 d15.hm (by intro z; cases z)
        refine ⟨3, rfl, by decide, by decide, for_range (lo := 0) (n := 3) (fun q σ H' => ∃ (v12 v13 v14 : Option V) (n'' : Int), σ = [some (.ref a), some (.ref m), some (.int (0 + (j : Int))), some (.int size), some (.ref p), some (.ref w0), some (.ref E0), some (.int (sgn i)), some (.ref r), some (.ref x), some (.ref r3), some (.ref y), v12, v13, v14, v15, none] ∧
          Dr H' m g c n'' ∧ n'' ≤ n' + 200 * (q : Int) ∧ Keep m g H15 H') ⟨_, _, _, n', rfl, d15, by omega, .refl _ _ _⟩ ?_ ?_⟩
        · rintro q σ H16 hq ⟨v12, v13, v14, n'', rfl, d16, hn'', k16⟩
          have W16 := W15.keep d15 k16
          have ep16 := k16 _ _ ep15 op.m op.g
          refine ⟨_, rfl, _, rfl, _, rfl, _, rfl, m, g, c, p, n'', size, sgn i, ls, rfl, d16, by omega, z0, z1, hsg, ep16, op.g, by omega, bd, fun q2 ro xo rowo eo n17 H17 k17 d17 g1 g2 runo subo nono leno eq17 er17 ex17 => ?_⟩
          obtain ⟨ee, pp⟩ := ends_one hsg z0 bd sub0 subo run0 runo non0 nono
          subst ee
          refine ⟨q2, _, rfl, SqL.of eq17, rfl, _, _, rfl, _, _, rfl, rfl, ?_⟩
          have ey17 := k17 _ _ (k16 _ _ ey15 ym yg) ym yg
          have er317 := k17 _ _ (k16 _ _ er15 or3.m or3.g) or3.m or3.g
          have W17 := W16.keep d16 k17
          have Wx17 := (Wx15.keep d15 k16).keep d16 k17
          refine ⟨_, rfl, _, rfl, .list (e.map PyData.int), .list (e.map PyData.int), .lst (SqL.of ex17) (dp_nums _), .lst (SqL.of ey17) (dp_nums _), shaped_nums _, shaped_nums _, _, rfl, ?_⟩
          rw [eqvL, decide_eq_true rfl]
          refine iteF ?_
          refine ⟨_, rfl, ro, rowo, rfl, SqL.of er17, fun so po pmo pwo hpo => ?_⟩
          have s18 : Same H17 (upd H17 po (.lst (so.map V.int))) := same_new hpo
          have epo : (upd H17 po (.lst (so.map V.int))) po = some (.lst (nums so)) := upd_same
          generalize upd H17 po (.lst (so.map V.int)) = H18 at s18 epo ⊢
          refine ⟨_, rfl, r3, row, rfl, SqL.of (s18 _ _ er317), fun sr pr pmr pwr hpr => ?_⟩
          have s19 : Same H18 (upd H18 pr (.lst (sr.map V.int))) := same_new hpr
          have epr : (upd H18 pr (.lst (sr.map V.int))) pr = some (.lst (nums sr)) := upd_same
          generalize upd H18 pr (.lst (sr.map V.int)) = H19 at s19 epr ⊢
          have es : so = sr := sort_eq pp.symm pmo pmr pwo pwr
          subst es
          refine ⟨.list (so.map PyData.int), .list (so.map PyData.int), .lst (SqL.of (s19 _ _ epo)) (dp_nums _), .lst (SqL.of epr) (dp_nums _), shaped_nums _, shaped_nums _, _, rfl, ?_⟩
          rw [eqvL, decide_eq_true rfl]
          refine iteF ?_
          have s1719 := s18.trans s19
          have dok : ∀ d ∈ rowo, d ≠ 0 ∧ -(size - 1) ≤ d ∧ d ≤ size - 1 := fun d hd => by
            obtain ⟨b0, b1, b2, _⟩ := dds_mem hsg (subo d hd)
            exact ⟨b0, by omega, by omega⟩
          refine ⟨_, rfl, _, rfl, w0, ro, size, ls, rowo, e, rfl, W17.same s1719, s1719 _ _ er17, by omega, dok, runo, fun b H20 s20 Wb => ?_⟩
          have Wx20 := (Wx17.same s1719).same s20
          obtain ⟨dx1, tx1, f1, f2⟩ := Wb.ob
          obtain ⟨dx2, tx2, f3, f4⟩ := Wx20.ob
          refine ⟨_, rfl, b, dx1, _, x, dx2, _, rfl, rfl, f1, f3, b, x, size, size, e, e, rfl, Wb, Wx20, _, rfl, _, rfl, ?_⟩
          rw [decide_eq_true (show size = size ∧ e = e from ⟨rfl, rfl⟩)]
          exact iteF ⟨_, _, _, n17, rfl, d17.same (s1719.trans s20), by omega, ((k16.trans k17).trans (.of s1719)).trans (.of s20)⟩
        · rintro σ H16 ⟨v12, v13, v14, n'', rfl, d16, hn'', k16⟩
          have en16 := ends_keep d15 k16 oE en15
          have ey16 := k16 _ _ ey15 ym yg
          obtain ⟨es, hE16, les, en17⟩ := ends_add hi en16 (⟨ey16, yg, yE, row, led⟩ : DueAt H16 g E0 size (sgn i) ls y e)
          refine ⟨_, rfl, .inl ⟨rfl, _, SqL.of hE16⟩, _, rfl, E0, _, _, rfl, rfl, hE16, small1000 (by omega), ?_⟩
          exact ⟨_, _, _, _, _, _, _, _, n'', rfl, d16.upd_at oE.m oE.g oE.c, by omega, ((k12.keep (.of s1215)).keep k16).put, en17⟩
      · rintro σ H12 ⟨v7, v8, v9, v10, v11, v12, v13, v14, n', rfl, d12, hn', k12, y, e, y2, e2', hE12, ⟨ey, yg, yE, rowA, ledA⟩, ⟨ey2, yg2, yE2, rowB, ledB⟩⟩
        have hn2 : n' ≤ n2 + 700 * 2 := hn'
        have W12 := W11.ke d11 eE11 k12
        have ep12 := k12 _ _ ep11 op.m op.g pE
        obtain ⟨runA, subA, nonA⟩ := ledA.run
        obtain ⟨runB, subB, nonB⟩ := ledB.run
        obtain ⟨lenA, bdA⟩ := led_bd (.inr rfl) z0 bd ledA
        obtain ⟨lenB, bdB⟩ := led_bd (.inl rfl) z0 bd ledB
        have LA : Ls size e := ⟨z0, z1, by omega, bdA⟩
        have LB : Ls size e2' := ⟨z0, z1, by omega, bdB⟩
        refine ⟨_, rfl, E0, _, _, _, rfl, rfl, SqL.of hE12, at_of (j := 0) rfl rfl, y, e, rfl, ey, by omega, fun x hx => ?_, fun R as H13 A => ?_⟩
        · have := bdA x hx
          omega
        have ym := top_rows z0 bd subA runA nonA
        refine ⟨_, rfl, R, _, rfl, SqL.of A.hR, fun D hD => lc_enL (K := K) (a := R) (xs := as.map V.ref) (fun q H' => Same H13 H' ∧ H' D = some (.lst (nums []))) ⟨same_new hD, upd_same⟩ (fun q H' _ ⟨s1, _⟩ => SqL.of (s1 _ _ A.hR)) ?_ ?_⟩
        · rintro q x T2 H14 hx ⟨s14, eD⟩ hT2
          rw [List.getElem?_map] at hx
          obtain ⟨b, hb, rfl⟩ : ∃ b, as[q]? = some b ∧ x = V.ref b := by
            cases e : as[q]? with
            | none =>
              rw [e] at hx
              cases hx
            | some b =>
              rw [e] at hx
              exact ⟨b, rfl, (Option.some.inj hx).symm⟩
          have hq : q < (tabL e).length := by
            have := (List.getElem?_eq_some_iff.mp hb).1
            rw [A.ln] at this
            exact this
          have hRq : (tabL e)[q]? = some (tabL e)[q] := List.getElem?_eq_getElem hq
          have eb := s14 _ _ (A.at_ q b _ hb hRq)
          have er := yam_nth ym q _ hRq
          have lr := (tab_len e).2 _ (List.getElem_mem hq)
          generalize (tabL e)[q] = Rq at eb er lr
          have s15 : Same H14 (upd H14 T2 (.tup [.int (q : Nat), .ref b])) := same_new hT2
          have eT : (upd H14 T2 (.tup [.int (q : Nat), .ref b])) T2 = some (.tup [.int (q : Nat), .ref b]) := upd_same
          generalize upd H14 T2 (.tup [.int (q : Nat), .ref b]) = H15 at s15 eT ⊢
          refine ⟨T2, _, rfl, SqT.of eT, rfl, _, _, rfl, _, _, rfl, rfl, rfl, ?_⟩
          refine ⟨_, rfl, _, rfl, _, _, rfl, rfl, (by show 1 ≤ sizeLine; decide), fun l1 hl1 => ?_⟩
          have s16 : Same H15 (upd H15 l1 (.lst [.int ((q : Nat) + 1)])) := same_new hl1
          have el1 : (upd H15 l1 (.lst [.int ((q : Nat) + 1)])) l1 = some (.lst [.int ((q : Nat) + 1)]) := upd_same
          generalize upd H15 l1 (.lst [.int ((q : Nat) + 1)]) = H16 at s16 el1 ⊢
          have eb16 := s16 _ _ (s15 _ _ eb)
          refine ⟨_, rfl, b, _, rfl, .inl (SqL.of eb16), l1, _, _, rfl, rfl, el1, ?_, ?_, ?_, fun l2 hl2 => ?_⟩
          · omega
          · rw [List.length_map]
            omega
          · rw [sizeLine_eq, List.length_map, Int.toNat_natCast, List.length_singleton]
            omega
          have e0 : (List.replicate ((((nums Rq).length : Nat) : Int)).toNat [V.int ((q : Nat) + 1)]).flatten = nums Rq := by
            rw [List.length_map, Int.toNat_natCast]
            conv => rhs; rw [er]
            rw [show (1 : Int) + (q : Int) = (q : Int) + 1 by omega]
            simp [nums, List.flatten_replicate_singleton]
          rw [e0]
          have s17 : Same H16 (upd H16 l2 (.lst (nums Rq))) := same_new hl2
          have el2 : (upd H16 l2 (.lst (nums Rq))) l2 = some (.lst (nums Rq)) := upd_same
          generalize upd H16 l2 (.lst (nums Rq)) = H17 at s17 el2 ⊢
          refine ⟨.list (Rq.map PyData.int), .list (Rq.map PyData.int), .lst (SqL.of (s17 _ _ eb16)) (dp_nums _), .lst (SqL.of el2) (dp_nums _), shaped_nums _, shaped_nums _, _, rfl, ?_⟩
          rw [eqvL, decide_eq_true rfl]
          have s1417 := (s15.trans s16).trans s17
          exact iteF ⟨s14.trans s1417, s1417 _ _ eD⟩
        · rintro H14 ⟨s14, eD⟩
          refine ⟨Nat.zero_le _, fun z hz => ?_⟩
          have s15 : Same H14 (upd H14 z (.lst [])) := same_new hz
          refine ⟨.list [], .list [], .lst (SqL.of (s15 _ _ eD)) .nil, .lst (SqL.of upd_same) .nil, by decide, by decide, _, rfl, iteF ?_⟩
          have s1215 := (A.s.trans s14).trans s15
          generalize upd H14 z (.lst []) = H15 at s1215 ⊢
          have hE15 := s1215 _ _ hE12
          have ey15 := s1215 _ _ ey
          refine ⟨_, rfl, _, rfl, E0, _, _, _, rfl, rfl, SqL.of hE15, at_of (j := 0) rfl rfl, fun w1 dx1 nw1 ndx1 ne1 => ⟨w1, dx1, size, y, e, rfl, upd_same, .inl (made_same nw1 ndx1 _ _ ey15), LA, fun H16 kp1 Wy => ⟨rfl, ?_⟩⟩⟩
          have s16 : Same H15 H16 := Same.made nw1 ndx1 kp1
          obtain ⟨dy, ty, f1, f2⟩ := Wy.ob
          refine ⟨w1, dy, _, rfl, f1, no_counts _ _, w1, size, e, rfl, Wy, fun p1 H17 s17 np1 ep1 => ?_⟩
          have s1517 := s16.trans s17
          have ey217 := s1517 _ _ (s1215 _ _ ey2)
          refine ⟨_, rfl, _, rfl, E0, _, _, _, rfl, rfl, SqL.of (s1517 _ _ hE15), at_of (j := 1) rfl rfl, fun w2 dx2 nw2 ndx2 ne2 => ⟨w2, dx2, size, y2, e2', rfl, upd_same, .inl (made_same nw2 ndx2 _ _ ey217), LB, fun H18 kp2 Wz => ⟨rfl, ?_⟩⟩⟩
          have s18 : Same H17 H18 := Same.made nw2 ndx2 kp2
          obtain ⟨dz, tz, f3, f4⟩ := Wz.ob
          refine ⟨w2, dz, _, rfl, f3, no_counts _ _, w2, size, e2', rfl, Wz, fun p2 H19 s19 np2 ep2 => ⟨p2, _, rfl, SqT.of ep2, fun p3 hp3 => ?_⟩⟩
          have er : (nums (cnts size.toNat e2')).reverse = nums (cnts size.toNat e) := by
            rw [top_bot z0 bd subA subB runA runB nonA nonB]
            exact List.map_reverse.symm
          rw [er]
          have s20 : Same H19 (upd H19 p3 (.tup (nums (cnts size.toNat e)))) := same_new hp3
          have ep3' : (upd H19 p3 (.tup (nums (cnts size.toNat e)))) p3 = some (.tup (nums (cnts size.toNat e))) := upd_same
          generalize upd H19 p3 (.tup (nums (cnts size.toNat e))) = H20 at s20 ep3' ⊢
          have s1720 := (s18.trans s19).trans s20
          refine ⟨.tuple ((cnts size.toNat e).map PyData.int), .tuple ((cnts size.toNat e).map PyData.int), .tup (SqT.of (s1720 _ _ ep1)) (dp_nums _), .tup (SqT.of ep3') (dp_nums _), shaped_tup _, shaped_tup _, _, rfl, ?_⟩
          rw [eqvT, decide_eq_true rfl]
          refine iteF ?_
          have s1220 := (s1215.trans s1517).trans s1720
          refine ⟨_, rfl, _, rfl, _, rfl, w0, p, size, ls, rfl, W12.same s1220, s1220 _ _ ep12, fun H21 s21 => ⟨_, rfl, iteF ?_⟩⟩
          exact ⟨_, _, _, _, _, _, _, _, _, _, _, _, _, _, n', rfl, d12.same (s1220.trans s21), by omega⟩
    · rintro σ H' ⟨v2, v3, v4, v5, v6, v7, v8, v9, v10, v11, v12, v13, v14, v15, n, rfl, d, hn⟩
      refine ⟨Nat.zero_le _, fun e1 he1 => fun w1 dx1 nw1 ndx1 ne1 => ⟨w1, dx1, 4, e1, [], rfl, upd_same, .inr (made_same nw1 ndx1 _ _ upd_same), ⟨by decide, by decide, Nat.zero_le _, fun x hx => by simp at hx⟩, fun H1 kp1 W1 => ⟨rfl, w1, 4, [], rfl, W1, fun r1 row1 f1 H2 s2 led hf er => ?_⟩⟩⟩
      obtain ⟨h1, h2⟩ := Led.det (show Led (dds (-1) 3) row1 [] f1 from led) led1
      subst h1
      refine ⟨Nat.zero_le _, fun z hz => ?_⟩
      have s3 : Same H2 (upd H2 z (.tup [])) := same_new hz
      refine ⟨.tuple [], .tuple [], .tup (SqT.of (s3 _ _ er)) .nil, .tup (SqT.of upd_same) .nil, by decide, by decide, _, rfl, iteF ?_⟩
      generalize upd H2 z (.tup []) = H3 at s3 ⊢
      refine ⟨(by show 1 ≤ sizeLine; decide), fun e2 he2 => fun w2 dx2 nw2 ndx2 ne2 => ⟨w2, dx2, 3, e2, [1], rfl, upd_same, .inl (made_same nw2 ndx2 _ _ upd_same), ⟨by decide, by decide, by decide, fun x hx => by have := List.mem_singleton.mp hx; omega⟩, fun H4 kp2 W2 => ⟨rfl, w2, 3, [1], rfl, W2, fun r2 row2 f2 H5 s5 ledb hfb erb => ?_⟩⟩⟩
      obtain ⟨h1, h2⟩ := Led.det (show Led (dds 1 2) row2 [1] f2 from ledb) led2
      subst h1
      refine ⟨(by show 2 ≤ sizeLine; decide), fun z2 hz2 => ?_⟩
      have s6 : Same H5 (upd H5 z2 (.tup [.int 1, .int 2])) := same_new hz2
      refine ⟨.tuple [.int 1, .int 2], .tuple [.int 1, .int 2], .tup (SqT.of (s6 _ _ erb)) (dp_nums [1, 2]), .tup (SqT.of upd_same) (dp_nums [1, 2]), by decide, by decide, _, rfl, ?_⟩
      refine iteF ?_
      generalize upd H5 z2 (.tup [.int 1, .int 2]) = H6 at s6 ⊢
      refine ⟨(by show 2 ≤ sizeLine; decide), fun e3 he3 => fun w3 dx3 nw3 ndx3 ne3 => ⟨w3, dx3, 3, e3, [3, 3], rfl, upd_same, .inl (made_same nw3 ndx3 _ _ upd_same), ⟨by decide, by decide, by decide, fun x hx => by simp at hx; omega⟩, fun H7 kp3 W3 => ⟨rfl, w3, 3, [3, 3], rfl, W3, fun x3 row3 f3 H8 s8 ledc Wc => ?_⟩⟩⟩
      obtain ⟨h1, h2⟩ := Led.det (show Led (dds (-1) 2) row3 [3, 3] f3 from ledc) led3
      subst h2
      obtain ⟨dx, t, g1, g2⟩ := Wc.ob
      refine ⟨x3, C, dx, _, _, rfl, g1, T.cl, T.nL, wf_letters _ _, (by show 2 ≤ sizeLine; decide), fun z3 hz3 => ?_⟩
      have s9 : Same H8 (upd H8 z3 (.tup [.int 1, .int 1])) := same_new hz3
      refine ⟨.tuple [.int 1, .int 1], .tuple [.int 1, .int 1], .tup (SqT.of (s9 _ _ g2)) (dp_nums [1, 1]), .tup (SqT.of upd_same) (dp_nums [1, 1]), by decide, by decide, ?_⟩
      exact k _
end
end Lw
/-! Z. What the top has written; the end. -/
namespace Lw
open PySem L2 LwE LwM
set_option maxHeartbeats 8000000 in
theorem all_mk {l : PySem.W.OpenLaw} {w : World} {K : PySem.W.Frag} {h : Heap} {mg : Str → Option Value} {fa C D f0 f1 f2 f3 f4 f5 f6 f7 f8 f9 f10 f11 f12 f13 f14 f15 f16 f17 f18 f19 f20 f21 f22 f23 f24 f25 f26 f27 f28 f29 f30 f31 f32 f33 f34 f35 f36 : Addr} {t2 t6 t40 t1000 : Tok} (X : K.In h) (G : h.Ns mainGlobals mg) (hfa : mg "law" = some (.ref fa))
    {od0 an0 : Option Addr} {sl0 : Array (Option Value)} {oc0 kV0 dc0 pm0 cd0 ct0 : Value}
    {od1 an1 : Option Addr} {sl1 : Array (Option Value)} {oc1 kV1 dc1 pm1 cd1 ct1 : Value}
    {od2 an2 : Option Addr} {sl2 : Array (Option Value)} {oc2 kV2 dc2 pm2 cd2 ct2 : Value}
    {od3 an3 : Option Addr} {sl3 : Array (Option Value)} {oc3 kV3 dc3 pm3 cd3 ct3 : Value}
    {od4 an4 : Option Addr} {sl4 : Array (Option Value)} {oc4 kV4 dc4 pm4 cd4 ct4 : Value}
    {od5 an5 : Option Addr} {sl5 : Array (Option Value)} {oc5 kV5 dc5 pm5 cd5 ct5 : Value}
    {od6 an6 : Option Addr} {sl6 : Array (Option Value)} {oc6 kV6 dc6 pm6 cd6 ct6 : Value}
    {od7 an7 : Option Addr} {sl7 : Array (Option Value)} {oc7 kV7 dc7 pm7 cd7 ct7 : Value}
    {od8 an8 : Option Addr} {sl8 : Array (Option Value)} {oc8 kV8 dc8 pm8 cd8 ct8 : Value}
    {od9 an9 : Option Addr} {sl9 : Array (Option Value)} {oc9 kV9 dc9 pm9 cd9 ct9 : Value}
    {od10 an10 : Option Addr} {sl10 : Array (Option Value)} {oc10 kV10 dc10 pm10 cd10 ct10 : Value}
    {od11 an11 : Option Addr} {sl11 : Array (Option Value)} {oc11 kV11 dc11 pm11 cd11 ct11 : Value}
    {od12 an12 : Option Addr} {sl12 : Array (Option Value)} {oc12 kV12 dc12 pm12 cd12 ct12 : Value}
    {od13 an13 : Option Addr} {sl13 : Array (Option Value)} {oc13 kV13 dc13 pm13 cd13 ct13 : Value}
    {od14 an14 : Option Addr} {sl14 : Array (Option Value)} {oc14 kV14 dc14 pm14 cd14 ct14 : Value}
    {od15 an15 : Option Addr} {sl15 : Array (Option Value)} {oc15 kV15 dc15 pm15 cd15 ct15 : Value}
    {od16 an16 : Option Addr} {sl16 : Array (Option Value)} {oc16 kV16 dc16 pm16 cd16 ct16 : Value}
    {od17 an17 : Option Addr} {sl17 : Array (Option Value)} {oc17 kV17 dc17 pm17 cd17 ct17 : Value}
    {od18 an18 : Option Addr} {sl18 : Array (Option Value)} {oc18 kV18 dc18 pm18 cd18 ct18 : Value}
    {od19 an19 : Option Addr} {sl19 : Array (Option Value)} {oc19 kV19 dc19 pm19 cd19 ct19 : Value}
    {od20 an20 : Option Addr} {sl20 : Array (Option Value)} {oc20 kV20 dc20 pm20 cd20 ct20 : Value}
    {od21 an21 : Option Addr} {sl21 : Array (Option Value)} {oc21 kV21 dc21 pm21 cd21 ct21 : Value}
    {od22 an22 : Option Addr} {sl22 : Array (Option Value)} {oc22 kV22 dc22 pm22 cd22 ct22 : Value}
    {od23 an23 : Option Addr} {sl23 : Array (Option Value)} {oc23 kV23 dc23 pm23 cd23 ct23 : Value}
    {od24 an24 : Option Addr} {sl24 : Array (Option Value)} {oc24 kV24 dc24 pm24 cd24 ct24 : Value}
    {od25 an25 : Option Addr} {sl25 : Array (Option Value)} {oc25 kV25 dc25 pm25 cd25 ct25 : Value}
    {od26 an26 : Option Addr} {sl26 : Array (Option Value)} {oc26 kV26 dc26 pm26 cd26 ct26 : Value}
    {od27 an27 : Option Addr} {sl27 : Array (Option Value)} {oc27 kV27 dc27 pm27 cd27 ct27 : Value}
    {od28 an28 : Option Addr} {sl28 : Array (Option Value)} {oc28 kV28 dc28 pm28 cd28 ct28 : Value}
    {od29 an29 : Option Addr} {sl29 : Array (Option Value)} {oc29 kV29 dc29 pm29 cd29 ct29 : Value}
    {od30 an30 : Option Addr} {sl30 : Array (Option Value)} {oc30 kV30 dc30 pm30 cd30 ct30 : Value}
    {od31 an31 : Option Addr} {sl31 : Array (Option Value)} {oc31 kV31 dc31 pm31 cd31 ct31 : Value}
    {od32 an32 : Option Addr} {sl32 : Array (Option Value)} {oc32 kV32 dc32 pm32 cd32 ct32 : Value}
    {od33 an33 : Option Addr} {sl33 : Array (Option Value)} {oc33 kV33 dc33 pm33 cd33 ct33 : Value}
    {od34 an34 : Option Addr} {sl34 : Array (Option Value)} {oc34 kV34 dc34 pm34 cd34 ct34 : Value}
    {od35 an35 : Option Addr} {sl35 : Array (Option Value)} {oc35 kV35 dc35 pm35 cd35 ct35 : Value}
    {od36 an36 : Option Addr} {sl36 : Array (Option Value)} {oc36 kV36 dc36 pm36 cd36 ct36 : Value}
    (aC : PySem.W.nsIn K mainGlobals "Word" = some (some (.ref C)))
    (aD : PySem.W.nsIn K mainGlobals "Walk" = some (some (.ref D)))
    (a0 : PySem.W.nsIn K mainGlobals "is_between" = some (some (.ref f0)))
    (l0 : K.lookup f0 = some ⟨oc0, od0, .func (PySem.W.fnOf "is_between" "is_between" (defArgs sBetween) (defBody sBetween) (defScope sBetween) .none kV0 dc0 pm0 an0 cd0 ct0), sl0⟩)
    (c0 : PySem.W.codeIn K cd0 "is_between" = true) (k0 : PySem.W.keepIn K (.ref f0) = true)
    (a1 : PySem.W.nsIn K mainGlobals "is_listing" = some (some (.ref f1)))
    (l1 : K.lookup f1 = some ⟨oc1, od1, .func (PySem.W.fnOf "is_listing" "is_listing" (defArgs sListing) (defBody sListing) (defScope sListing) .none kV1 dc1 pm1 an1 cd1 ct1), sl1⟩)
    (c1 : PySem.W.codeIn K cd1 "is_listing" = true) (k1 : PySem.W.keepIn K (.ref f1) = true)
    (a2 : PySem.W.nsIn K mainGlobals "check_size" = some (some (.ref f2)))
    (l2 : K.lookup f2 = some ⟨oc2, od2, .func (PySem.W.fnOf "check_size" "check_size" (defArgs sCkSize) (defBody sCkSize) (defScope sCkSize) .none kV2 dc2 pm2 an2 cd2 ct2), sl2⟩)
    (c2 : PySem.W.codeIn K cd2 "check_size" = true) (k2 : PySem.W.keepIn K (.ref f2) = true)
    (a3 : PySem.W.nsIn K mainGlobals "check_letters" = some (some (.ref f3)))
    (l3 : K.lookup f3 = some ⟨oc3, od3, .func (PySem.W.fnOf "check_letters" "check_letters" (defArgs sCkLetters) (defBody sCkLetters) (defScope sCkLetters) .none kV3 dc3 pm3 an3 cd3 ct3), sl3⟩)
    (c3 : PySem.W.codeIn K cd3 "check_letters" = true) (k3 : PySem.W.keepIn K (.ref f3) = true)
    (a4 : PySem.W.nsIn K mainGlobals "bracketed" = some (some (.ref f4)))
    (l4 : K.lookup f4 = some ⟨oc4, od4, .func (PySem.W.fnOf "bracketed" "bracketed" (defArgs sBrack) (defBody sBrack) (defScope sBrack) .none kV4 dc4 pm4 an4 cd4 ct4), sl4⟩)
    (c4 : PySem.W.codeIn K cd4 "bracketed" = true) (k4 : PySem.W.keepIn K (.ref f4) = true)
    (a5 : PySem.W.nsIn K mainGlobals "is_deed" = some (some (.ref f5)))
    (l5 : K.lookup f5 = some ⟨oc5, od5, .func (PySem.W.fnOf "is_deed" "is_deed" (defArgs sIsDeed) (defBody sIsDeed) (defScope sIsDeed) .none kV5 dc5 pm5 an5 cd5 ct5), sl5⟩)
    (c5 : PySem.W.codeIn K cd5 "is_deed" = true) (k5 : PySem.W.keepIn K (.ref f5) = true)
    (a6 : PySem.W.nsIn K mainGlobals "check_row" = some (some (.ref f6)))
    (l6 : K.lookup f6 = some ⟨oc6, od6, .func (PySem.W.fnOf "check_row" "check_row" (defArgs sCkRow) (defBody sCkRow) (defScope sCkRow) .none kV6 dc6 pm6 an6 cd6 ct6), sl6⟩)
    (c6 : PySem.W.codeIn K cd6 "check_row" = true) (k6 : PySem.W.keepIn K (.ref f6) = true)
    (a7 : PySem.W.nsIn K mainGlobals "followed" = some (some (.ref f7)))
    (l7 : K.lookup f7 = some ⟨oc7, od7, .func (PySem.W.fnOf "followed" "followed" (defArgs sFollowed) (defBody sFollowed) (defScope sFollowed) .none kV7 dc7 pm7 an7 cd7 ct7), sl7⟩)
    (c7 : PySem.W.codeIn K cd7 "followed" = true) (k7 : PySem.W.keepIn K (.ref f7) = true)
    (a8 : PySem.W.nsIn K mainGlobals "climbed" = some (some (.ref f8)))
    (l8 : K.lookup f8 = some ⟨oc8, od8, .func (PySem.W.fnOf "climbed" "climbed" (defArgs sClimbed) (defBody sClimbed) (defScope sClimbed) .none kV8 dc8 pm8 an8 cd8 ct8), sl8⟩)
    (c8 : PySem.W.codeIn K cd8 "climbed" = true) (k8 : PySem.W.keepIn K (.ref f8) = true)
    (a9 : PySem.W.nsIn K mainGlobals "all_downs" = some (some (.ref f9)))
    (l9 : K.lookup f9 = some ⟨oc9, od9, .func (PySem.W.fnOf "all_downs" "all_downs" (defArgs sAllDowns) (defBody sAllDowns) (defScope sAllDowns) .none kV9 dc9 pm9 an9 cd9 ct9), sl9⟩)
    (c9 : PySem.W.codeIn K cd9 "all_downs" = true) (k9 : PySem.W.keepIn K (.ref f9) = true)
    (a10 : PySem.W.nsIn K mainGlobals "all_ups" = some (some (.ref f10)))
    (l10 : K.lookup f10 = some ⟨oc10, od10, .func (PySem.W.fnOf "all_ups" "all_ups" (defArgs sAllUps) (defBody sAllUps) (defScope sAllUps) .none kV10 dc10 pm10 an10 cd10 ct10), sl10⟩)
    (c10 : PySem.W.codeIn K cd10 "all_ups" = true) (k10 : PySem.W.keepIn K (.ref f10) = true)
    (a11 : PySem.W.nsIn K mainGlobals "run" = some (some (.ref f11)))
    (l11 : K.lookup f11 = some ⟨oc11, od11, .func (PySem.W.fnOf "run" "run" (defArgs sRun) (defBody sRun) (defScope sRun) .none kV11 dc11 pm11 an11 cd11 ct11), sl11⟩)
    (c11 : PySem.W.codeIn K cd11 "run" = true) (k11 : PySem.W.keepIn K (.ref f11) = true)
    (a12 : PySem.W.nsIn K mainGlobals "to_top" = some (some (.ref f12)))
    (l12 : K.lookup f12 = some ⟨oc12, od12, .func (PySem.W.fnOf "to_top" "to_top" (defArgs sToTop) (defBody sToTop) (defScope sToTop) .none kV12 dc12 pm12 an12 cd12 ct12), sl12⟩)
    (c12 : PySem.W.codeIn K cd12 "to_top" = true) (k12 : PySem.W.keepIn K (.ref f12) = true)
    (a13 : PySem.W.nsIn K mainGlobals "to_bottom" = some (some (.ref f13)))
    (l13 : K.lookup f13 = some ⟨oc13, od13, .func (PySem.W.fnOf "to_bottom" "to_bottom" (defArgs sToBottom) (defBody sToBottom) (defScope sToBottom) .none kV13 dc13 pm13 an13 cd13 ct13), sl13⟩)
    (c13 : PySem.W.codeIn K cd13 "to_bottom" = true) (k13 : PySem.W.keepIn K (.ref f13) = true)
    (a14 : PySem.W.nsIn K mainGlobals "top_of" = some (some (.ref f14)))
    (l14 : K.lookup f14 = some ⟨oc14, od14, .func (PySem.W.fnOf "top_of" "top_of" (defArgs sTopOf) (defBody sTopOf) (defScope sTopOf) .none kV14 dc14 pm14 an14 cd14 ct14), sl14⟩)
    (c14 : PySem.W.codeIn K cd14 "top_of" = true) (k14 : PySem.W.keepIn K (.ref f14) = true)
    (a15 : PySem.W.nsIn K mainGlobals "bottom_of" = some (some (.ref f15)))
    (l15 : K.lookup f15 = some ⟨oc15, od15, .func (PySem.W.fnOf "bottom_of" "bottom_of" (defArgs sBottomOf) (defBody sBottomOf) (defScope sBottomOf) .none kV15 dc15 pm15 an15 cd15 ct15), sl15⟩)
    (c15 : PySem.W.codeIn K cd15 "bottom_of" = true) (k15 : PySem.W.keepIn K (.ref f15) = true)
    (a16 : PySem.W.nsIn K mainGlobals "_law_mixed" = some (some (.ref f16)))
    (l16 : K.lookup f16 = some ⟨oc16, od16, .func (PySem.W.fnOf "_law_mixed" "_law_mixed" (defArgs sMixed) (defBody sMixed) (defScope sMixed) .none kV16 dc16 pm16 an16 cd16 ct16), sl16⟩)
    (c16 : PySem.W.codeIn K cd16 "_law_mixed" = true) (k16 : PySem.W.keepIn K (.ref f16) = true)
    (a17 : PySem.W.nsIn K mainGlobals "_law_folded" = some (some (.ref f17)))
    (l17 : K.lookup f17 = some ⟨oc17, od17, .func (PySem.W.fnOf "_law_folded" "_law_folded" (defArgs sFolded) (defBody sFolded) (defScope sFolded) .none kV17 dc17 pm17 an17 cd17 ct17), sl17⟩)
    (c17 : PySem.W.codeIn K cd17 "_law_folded" = true) (k17 : PySem.W.keepIn K (.ref f17) = true)
    (a18 : PySem.W.nsIn K mainGlobals "_law_draw" = some (some (.ref f18)))
    (l18 : K.lookup f18 = some ⟨oc18, od18, .func (PySem.W.fnOf "_law_draw" "_law_draw" (defArgs sDraw) (defBody sDraw) (defScope sDraw) .none kV18 dc18 pm18 an18 cd18 ct18), sl18⟩)
    (c18 : PySem.W.codeIn K cd18 "_law_draw" = true) (k18 : PySem.W.keepIn K (.ref f18) = true)
    (a19 : PySem.W.nsIn K mainGlobals "_law_begun" = some (some (.ref f19)))
    (l19 : K.lookup f19 = some ⟨oc19, od19, .func (PySem.W.fnOf "_law_begun" "_law_begun" (defArgs sBegun) (defBody sBegun) (defScope sBegun) .none kV19 dc19 pm19 an19 cd19 ct19), sl19⟩)
    (c19 : PySem.W.codeIn K cd19 "_law_begun" = true) (k19 : PySem.W.keepIn K (.ref f19) = true)
    (a20 : PySem.W.nsIn K mainGlobals "_law_left" = some (some (.ref f20)))
    (l20 : K.lookup f20 = some ⟨oc20, od20, .func (PySem.W.fnOf "_law_left" "_law_left" (defArgs sLeft) (defBody sLeft) (defScope sLeft) .none kV20 dc20 pm20 an20 cd20 ct20), sl20⟩)
    (c20 : PySem.W.codeIn K cd20 "_law_left" = true) (k20 : PySem.W.keepIn K (.ref f20) = true)
    (a21 : PySem.W.nsIn K mainGlobals "_law_done" = some (some (.ref f21)))
    (l21 : K.lookup f21 = some ⟨oc21, od21, .func (PySem.W.fnOf "_law_done" "_law_done" (defArgs sDone) (defBody sDone) (defScope sDone) .none kV21 dc21 pm21 an21 cd21 ct21), sl21⟩)
    (c21 : PySem.W.codeIn K cd21 "_law_done" = true) (k21 : PySem.W.keepIn K (.ref f21) = true)
    (a22 : PySem.W.nsIn K mainGlobals "_law_rows" = some (some (.ref f22)))
    (l22 : K.lookup f22 = some ⟨oc22, od22, .func (PySem.W.fnOf "_law_rows" "_law_rows" (defArgs sRows) (defBody sRows) (defScope sRows) .none kV22 dc22 pm22 an22 cd22 ct22), sl22⟩)
    (c22 : PySem.W.codeIn K cd22 "_law_rows" = true) (k22 : PySem.W.keepIn K (.ref f22) = true)
    (a23 : PySem.W.nsIn K mainGlobals "_law_size" = some (some (.ref f23)))
    (l23 : K.lookup f23 = some ⟨oc23, od23, .func (PySem.W.fnOf "_law_size" "_law_size" (defArgs sSize) (defBody sSize) (defScope sSize) .none kV23 dc23 pm23 an23 cd23 ct23), sl23⟩)
    (c23 : PySem.W.codeIn K cd23 "_law_size" = true) (k23 : PySem.W.keepIn K (.ref f23) = true)
    (a24 : PySem.W.nsIn K mainGlobals "_law_letters" = some (some (.ref f24)))
    (l24 : K.lookup f24 = some ⟨oc24, od24, .func (PySem.W.fnOf "_law_letters" "_law_letters" (defArgs sLetters) (defBody sLetters) (defScope sLetters) .none kV24 dc24 pm24 an24 cd24 ct24), sl24⟩)
    (c24 : PySem.W.codeIn K cd24 "_law_letters" = true) (k24 : PySem.W.keepIn K (.ref f24) = true)
    (a25 : PySem.W.nsIn K mainGlobals "_law_is_word" = some (some (.ref f25)))
    (l25 : K.lookup f25 = some ⟨oc25, od25, .func (PySem.W.fnOf "_law_is_word" "_law_is_word" (defArgs sIsWord) (defBody sIsWord) (defScope sIsWord) .none kV25 dc25 pm25 an25 cd25 ct25), sl25⟩)
    (c25 : PySem.W.codeIn K cd25 "_law_is_word" = true) (k25 : PySem.W.keepIn K (.ref f25) = true)
    (a26 : PySem.W.nsIn K mainGlobals "_law_like" = some (some (.ref f26)))
    (l26 : K.lookup f26 = some ⟨oc26, od26, .func (PySem.W.fnOf "_law_like" "_law_like" (defArgs sLike) (defBody sLike) (defScope sLike) .none kV26 dc26 pm26 an26 cd26 ct26), sl26⟩)
    (c26 : PySem.W.codeIn K cd26 "_law_like" = true) (k26 : PySem.W.keepIn K (.ref f26) = true)
    (a27 : PySem.W.nsIn K mainGlobals "_law_led" = some (some (.ref f27)))
    (l27 : K.lookup f27 = some ⟨oc27, od27, .func (PySem.W.fnOf "_law_led" "_law_led" (defArgs sLed) (defBody sLed) (defScope sLed) .none kV27 dc27 pm27 an27 cd27 ct27), sl27⟩)
    (c27 : PySem.W.codeIn K cd27 "_law_led" = true) (k27 : PySem.W.keepIn K (.ref f27) = true)
    (a28 : PySem.W.nsIn K mainGlobals "_law_other_way" = some (some (.ref f28)))
    (l28 : K.lookup f28 = some ⟨oc28, od28, .func (PySem.W.fnOf "_law_other_way" "_law_other_way" (defArgs sOther) (defBody sOther) (defScope sOther) .none kV28 dc28 pm28 an28 cd28 ct28), sl28⟩)
    (c28 : PySem.W.codeIn K cd28 "_law_other_way" = true) (k28 : PySem.W.keepIn K (.ref f28) = true)
    (a29 : PySem.W.nsIn K mainGlobals "law" = some (some (.ref f29)))
    (l29 : K.lookup f29 = some ⟨oc29, od29, .func (PySem.W.fnOf "law" "law" (defArgs sLaw) (defBody sLaw) (defScope sLaw) .none kV29 dc29 pm29 an29 cd29 ct29), sl29⟩)
    (c29 : PySem.W.codeIn K cd29 "law" = true) (k29 : PySem.W.keepIn K (.ref f29) = true)
    (a30 : PySem.W.findIn K (.ref C) "__init__" = some (some (.ref f30))) (i30 : PySem.W.isFn K (.ref f30) = true)
    (l30 : K.lookup f30 = some ⟨oc30, od30, .func (PySem.W.fnOf "__init__" "Word.__init__" (defArgs sInit) (defBody sInit) (defScope sInit) .none kV30 dc30 pm30 an30 cd30 ct30), sl30⟩)
    (c30 : PySem.W.codeIn K cd30 "Word.__init__" = true) (k30 : PySem.W.keepIn K (.ref f30) = true)
    (a31 : PySem.W.findIn K (.ref C) "__eq__" = some (some (.ref f31))) (i31 : PySem.W.isFn K (.ref f31) = true)
    (l31 : K.lookup f31 = some ⟨oc31, od31, .func (PySem.W.fnOf "__eq__" "Word.__eq__" (defArgs sEq) (defBody sEq) (defScope sEq) .none kV31 dc31 pm31 an31 cd31 ct31), sl31⟩)
    (c31 : PySem.W.codeIn K cd31 "Word.__eq__" = true) (k31 : PySem.W.keepIn K (.ref f31) = true)
    (a32 : PySem.W.findIn K (.ref C) "counts" = some (some (.ref f32))) (i32 : PySem.W.isFn K (.ref f32) = true)
    (l32 : K.lookup f32 = some ⟨oc32, od32, .func (PySem.W.fnOf "counts" "Word.counts" (defArgs sCounts) (defBody sCounts) (defScope sCounts) .none kV32 dc32 pm32 an32 cd32 ct32), sl32⟩)
    (c32 : PySem.W.codeIn K cd32 "Word.counts" = true) (k32 : PySem.W.keepIn K (.ref f32) = true)
    (a33 : PySem.W.findIn K (.ref D) "__init__" = some (some (.ref f33))) (i33 : PySem.W.isFn K (.ref f33) = true)
    (l33 : K.lookup f33 = some ⟨oc33, od33, .func (PySem.W.fnOf "__init__" "Walk.__init__" (defArgs sWInit) (defBody sWInit) (defScope sWInit) .none kV33 dc33 pm33 an33 cd33 ct33), sl33⟩)
    (c33 : PySem.W.codeIn K cd33 "Walk.__init__" = true) (k33 : PySem.W.keepIn K (.ref f33) = true)
    (a34 : PySem.W.findIn K (.ref D) "look" = some (some (.ref f34))) (i34 : PySem.W.isFn K (.ref f34) = true)
    (l34 : K.lookup f34 = some ⟨oc34, od34, .func (PySem.W.fnOf "look" "Walk.look" (defArgs sLook) (defBody sLook) (defScope sLook) .none kV34 dc34 pm34 an34 cd34 ct34), sl34⟩)
    (c34 : PySem.W.codeIn K cd34 "Walk.look" = true) (k34 : PySem.W.keepIn K (.ref f34) = true)
    (a35 : PySem.W.findIn K (.ref D) "go" = some (some (.ref f35))) (i35 : PySem.W.isFn K (.ref f35) = true)
    (l35 : K.lookup f35 = some ⟨oc35, od35, .func (PySem.W.fnOf "go" "Walk.go" (defArgs sGo) (defBody sGo) (defScope sGo) .none kV35 dc35 pm35 an35 cd35 ct35), sl35⟩)
    (c35 : PySem.W.codeIn K cd35 "Walk.go" = true) (k35 : PySem.W.keepIn K (.ref f35) = true)
    (a36 : PySem.W.findIn K (.ref D) "reached" = some (some (.ref f36))) (i36 : PySem.W.isFn K (.ref f36) = true)
    (l36 : K.lookup f36 = some ⟨oc36, od36, .func (PySem.W.fnOf "reached" "Walk.reached" (defArgs sReached) (defBody sReached) (defScope sReached) .none kV36 dc36 pm36 an36 cd36 ct36), sl36⟩)
    (c36 : PySem.W.codeIn K cd36 "Walk.reached" = true) (k36 : PySem.W.keepIn K (.ref f36) = true)
    (pgC : PySem.W.plainGet K C Str.empty = true)
    (hdC : PySem.W.hasDictIn K C = true)
    (poC : PySem.W.plainOver K C = true)
    (saC : PySem.W.findIn K (.ref C) "__setattr__" = some (some (.builtin "object.__setattr__")))
    (mkC : PySem.W.makesIn K C = true)
    (kcC : PySem.W.keepIn K (.ref C) = true)
    (nC_size : PySem.W.findIn K (.ref C) "size" = some none)
    (nC_letters : PySem.W.findIn K (.ref C) "letters" = some none)
    (pgD : PySem.W.plainGet K D Str.empty = true)
    (hdD : PySem.W.hasDictIn K D = true)
    (poD : PySem.W.plainOver K D = true)
    (saD : PySem.W.findIn K (.ref D) "__setattr__" = some (some (.builtin "object.__setattr__")))
    (mkD : PySem.W.makesIn K D = true)
    (kcD : PySem.W.keepIn K (.ref D) = true)
    (nD_size : PySem.W.findIn K (.ref D) "size" = some none)
    (nD_held : PySem.W.findIn K (.ref D) "held" = some none)
    (nD_free : PySem.W.findIn K (.ref D) "free" = some none)
    (nD_low : PySem.W.findIn K (.ref D) "low" = some none)
    (ca : PySem.W.findIn K (.ref C) "__class__" = some (some (.builtin "object.__class__")))
    (cn : PySem.W.specialIn K (.builtin "object.__class__") "__get__" = some (some (.builtin "getset_descriptor.__get__")))
    (ct : PySem.W.takesIn K (.builtin "object.__class__") = some true)
    (cm : PySem.W.mroIn K C (.type "object") = some true)
    (ne : PySem.W.findIn K (.ref C) "__ne__" = some (some (.builtin "object.__ne__")))
    (n2 : PySem.W.nsIn K mainGlobals "LEAST_SIZE" = some (some (.int 2 t2)))
    (n6 : PySem.W.nsIn K mainGlobals "MOST_SIZE" = some (some (.int 6 t6)))
    (n40 : PySem.W.nsIn K mainGlobals "MOST_LETTERS" = some (some (.int 40 t40)))
    (n1000 : PySem.W.nsIn K mainGlobals "MOST_DEEDS" = some (some (.int 1000 t1000)))
    (z_isinstance : PySem.W.nsIn K mainGlobals "isinstance" = some none)
    (z_int : PySem.W.nsIn K mainGlobals "int" = some none)
    (z_bool : PySem.W.nsIn K mainGlobals "bool" = some none)
    (z_list : PySem.W.nsIn K mainGlobals "list" = some none)
    (z_tuple : PySem.W.nsIn K mainGlobals "tuple" = some none)
    (z_len : PySem.W.nsIn K mainGlobals "len" = some none)
    (z_range : PySem.W.nsIn K mainGlobals "range" = some none)
    (z_enumerate : PySem.W.nsIn K mainGlobals "enumerate" = some none)
    (z_sorted : PySem.W.nsIn K mainGlobals "sorted" = some none)
    (z_min : PySem.W.nsIn K mainGlobals "min" = some none)
    (z_repr : PySem.W.nsIn K mainGlobals "repr" = some none)
    (z_any : PySem.W.nsIn K mainGlobals "any" = some none)
    (z_max : PySem.W.nsIn K mainGlobals "max" = some none)
    (z_abs : PySem.W.nsIn K mainGlobals "abs" = some none) :
    ∃ fd : FuncData, (∀ (s : Shared) (v : Value), BindsTo s fd ⟨[v], []⟩ [("script", v)]) ∧ ∀ base : Heap, K.In base → base.Ns mainGlobals mg → FnG l.prog w K mg base 10 fa fd ["script"] (spLaw K) := by
  have e := hfa.symm.trans (PySem.W.mg_of X G a29)
  cases e
  have B : Bare mg := ⟨PySem.W.mg_none_of X G z_isinstance, PySem.W.mg_none_of X G z_int, PySem.W.mg_none_of X G z_bool, PySem.W.mg_none_of X G z_list, PySem.W.mg_none_of X G z_tuple, PySem.W.mg_none_of X G z_len, PySem.W.mg_none_of X G z_range, PySem.W.mg_none_of X G z_enumerate, PySem.W.mg_none_of X G z_sorted, PySem.W.mg_none_of X G z_min, PySem.W.mg_none_of X G z_repr, PySem.W.mg_none_of X G z_any, PySem.W.mg_none_of X G z_max, PySem.W.mg_none_of X G z_abs⟩
  have N : Nums mg := ⟨⟨_, PySem.W.mg_of X G n2⟩, ⟨_, PySem.W.mg_of X G n6⟩, ⟨_, PySem.W.mg_of X G n40⟩⟩
  have N2 : Nums2 mg := ⟨⟨_, PySem.W.mg_of X G n1000⟩⟩
  have T : Cw K mg C := ⟨⟨pgC, hdC, poC, saC⟩, nC_size, nC_letters, PySem.W.mg_of X G aC, ca, cn, ct, cm⟩
  have T2 : Cwk K mg D := ⟨⟨pgD, hdD, poD, saD⟩, nD_size, nD_held, nD_free, nD_low, PySem.W.mg_of X G aD⟩
  have F0 := fun_mk (st := sBetween) l0 c0 k0
  have b0 := F0.binds (ps := ["value", "least", "most"]) fun _ _ _ _ _ _ us hl => match us, hl with | [_, _, _], _ => rfl
  have D0 : Df K mg "is_between" sBetween f0 _ := ⟨F0, PySem.W.mg_of X G a0⟩
  have F1 := fun_mk (st := sListing) l1 c1 k1
  have b1 := F1.binds (ps := ["value"]) fun _ _ _ _ _ _ us hl => match us, hl with | [_], _ => rfl
  have D1 : Df K mg "is_listing" sListing f1 _ := ⟨F1, PySem.W.mg_of X G a1⟩
  have F2 := fun_mk (st := sCkSize) l2 c2 k2
  have b2 := F2.binds (ps := ["size"]) fun _ _ _ _ _ _ us hl => match us, hl with | [_], _ => rfl
  have D2 : Df K mg "check_size" sCkSize f2 _ := ⟨F2, PySem.W.mg_of X G a2⟩
  have F3 := fun_mk (st := sCkLetters) l3 c3 k3
  have b3 := F3.binds (ps := ["size", "letters"]) fun _ _ _ _ _ _ us hl => match us, hl with | [_, _], _ => rfl
  have D3 : Df K mg "check_letters" sCkLetters f3 _ := ⟨F3, PySem.W.mg_of X G a3⟩
  have F4 := fun_mk (st := sBrack) l4 c4 k4
  have b4 := F4.binds (ps := ["letters", "i"]) fun _ _ _ _ _ _ us hl => match us, hl with | [_, _], _ => rfl
  have D4 : Df K mg "bracketed" sBrack f4 _ := ⟨F4, PySem.W.mg_of X G a4⟩
  have F5 := fun_mk (st := sIsDeed) l5 c5 k5
  have b5 := F5.binds (ps := ["size", "value"]) fun _ _ _ _ _ _ us hl => match us, hl with | [_, _], _ => rfl
  have D5 : Df K mg "is_deed" sIsDeed f5 _ := ⟨F5, PySem.W.mg_of X G a5⟩
  have F6 := fun_mk (st := sCkRow) l6 c6 k6
  have b6 := F6.binds (ps := ["size", "row"]) fun _ _ _ _ _ _ us hl => match us, hl with | [_, _], _ => rfl
  have D6 : Df K mg "check_row" sCkRow f6 _ := ⟨F6, PySem.W.mg_of X G a6⟩
  have F7 := fun_mk (st := sFollowed) l7 c7 k7
  have b7 := F7.binds (ps := ["word", "row"]) fun _ _ _ _ _ _ us hl => match us, hl with | [_, _], _ => rfl
  have D7 : Df K mg "followed" sFollowed f7 _ := ⟨F7, PySem.W.mg_of X G a7⟩
  have F8 := fun_mk (st := sClimbed) l8 c8 k8
  have b8 := F8.binds (ps := ["word", "deeds"]) fun _ _ _ _ _ _ us hl => match us, hl with | [_, _], _ => rfl
  have D8 : Df K mg "climbed" sClimbed f8 _ := ⟨F8, PySem.W.mg_of X G a8⟩
  have F9 := fun_mk (st := sAllDowns) l9 c9 k9
  have b9 := F9.binds (ps := ["size"]) fun _ _ _ _ _ _ us hl => match us, hl with | [_], _ => rfl
  have D9 : Df K mg "all_downs" sAllDowns f9 _ := ⟨F9, PySem.W.mg_of X G a9⟩
  have F10 := fun_mk (st := sAllUps) l10 c10 k10
  have b10 := F10.binds (ps := ["size"]) fun _ _ _ _ _ _ us hl => match us, hl with | [_], _ => rfl
  have D10 : Df K mg "all_ups" sAllUps f10 _ := ⟨F10, PySem.W.mg_of X G a10⟩
  have F11 := fun_mk (st := sRun) l11 c11 k11
  have b11 := F11.binds (ps := ["word", "row"]) fun _ _ _ _ _ _ us hl => match us, hl with | [_, _], _ => rfl
  have D11 : Df K mg "run" sRun f11 _ := ⟨F11, PySem.W.mg_of X G a11⟩
  have F12 := fun_mk (st := sToTop) l12 c12 k12
  have b12 := F12.binds (ps := ["word"]) fun _ _ _ _ _ _ us hl => match us, hl with | [_], _ => rfl
  have D12 : Df K mg "to_top" sToTop f12 _ := ⟨F12, PySem.W.mg_of X G a12⟩
  have F13 := fun_mk (st := sToBottom) l13 c13 k13
  have b13 := F13.binds (ps := ["word"]) fun _ _ _ _ _ _ us hl => match us, hl with | [_], _ => rfl
  have D13 : Df K mg "to_bottom" sToBottom f13 _ := ⟨F13, PySem.W.mg_of X G a13⟩
  have F14 := fun_mk (st := sTopOf) l14 c14 k14
  have b14 := F14.binds (ps := ["word"]) fun _ _ _ _ _ _ us hl => match us, hl with | [_], _ => rfl
  have D14 : Df K mg "top_of" sTopOf f14 _ := ⟨F14, PySem.W.mg_of X G a14⟩
  have F15 := fun_mk (st := sBottomOf) l15 c15 k15
  have b15 := F15.binds (ps := ["word"]) fun _ _ _ _ _ _ us hl => match us, hl with | [_], _ => rfl
  have D15 : Df K mg "bottom_of" sBottomOf f15 _ := ⟨F15, PySem.W.mg_of X G a15⟩
  have F16 := fun_mk (st := sMixed) l16 c16 k16
  have b16 := F16.binds (ps := ["cell", "n"]) fun _ _ _ _ _ _ us hl => match us, hl with | [_, _], _ => rfl
  have D16 : Df K mg "_law_mixed" sMixed f16 _ := ⟨F16, PySem.W.mg_of X G a16⟩
  have F17 := fun_mk (st := sFolded) l17 c17 k17
  have b17 := F17.binds (ps := ["script"]) fun _ _ _ _ _ _ us hl => match us, hl with | [_], _ => rfl
  have D17 : Df K mg "_law_folded" sFolded f17 _ := ⟨F17, PySem.W.mg_of X G a17⟩
  have F18 := fun_mk (st := sDraw) l18 c18 k18
  have b18 := F18.binds (ps := ["m", "limit"]) fun _ _ _ _ _ _ us hl => match us, hl with | [_, _], _ => rfl
  have D18 : Df K mg "_law_draw" sDraw f18 _ := ⟨F18, PySem.W.mg_of X G a18⟩
  have F19 := fun_mk (st := sBegun) l19 c19 k19
  have b19 := F19.binds (ps := ["script"]) fun _ _ _ _ _ _ us hl => match us, hl with | [_], _ => rfl
  have D19 : Df K mg "_law_begun" sBegun f19 _ := ⟨F19, PySem.W.mg_of X G a19⟩
  have F20 := fun_mk (st := sLeft) l20 c20 k20
  have b20 := F20.binds (ps := ["letters", "i"]) fun _ _ _ _ _ _ us hl => match us, hl with | [_, _], _ => rfl
  have D20 : Df K mg "_law_left" sLeft f20 _ := ⟨F20, PySem.W.mg_of X G a20⟩
  have F21 := fun_mk (st := sDone) l21 c21 k21
  have b21 := F21.binds (ps := ["letters", "deed"]) fun _ _ _ _ _ _ us hl => match us, hl with | [_, _], _ => rfl
  have D21 : Df K mg "_law_done" sDone f21 _ := ⟨F21, PySem.W.mg_of X G a21⟩
  have F22 := fun_mk (st := sRows) l22 c22 k22
  have b22 := F22.binds (ps := ["letters"]) fun _ _ _ _ _ _ us hl => match us, hl with | [_], _ => rfl
  have D22 : Df K mg "_law_rows" sRows f22 _ := ⟨F22, PySem.W.mg_of X G a22⟩
  have F23 := fun_mk (st := sSize) l23 c23 k23
  have b23 := F23.binds (ps := ["m"]) fun _ _ _ _ _ _ us hl => match us, hl with | [_], _ => rfl
  have D23 : Df K mg "_law_size" sSize f23 _ := ⟨F23, PySem.W.mg_of X G a23⟩
  have F24 := fun_mk (st := sLetters) l24 c24 k24
  have b24 := F24.binds (ps := ["m", "size", "most"]) fun _ _ _ _ _ _ us hl => match us, hl with | [_, _, _], _ => rfl
  have D24 : Df K mg "_law_letters" sLetters f24 _ := ⟨F24, PySem.W.mg_of X G a24⟩
  have F25 := fun_mk (st := sIsWord) l25 c25 k25
  have b25 := F25.binds (ps := ["told", "size", "letters"]) fun _ _ _ _ _ _ us hl => match us, hl with | [_, _, _], _ => rfl
  have D25 : Df K mg "_law_is_word" sIsWord f25 _ := ⟨F25, PySem.W.mg_of X G a25⟩
  have F26 := fun_mk (st := sLike) l26 c26 k26
  have b26 := F26.binds (ps := ["told", "due"]) fun _ _ _ _ _ _ us hl => match us, hl with | [_, _], _ => rfl
  have D26 : Df K mg "_law_like" sLike f26 _ := ⟨F26, PySem.W.mg_of X G a26⟩
  have F27 := fun_mk (st := sLed) l27 c27 k27
  have b27 := F27.binds (ps := ["size", "letters", "sign"]) fun _ _ _ _ _ _ us hl => match us, hl with | [_, _, _], _ => rfl
  have D27 : Df K mg "_law_led" sLed f27 _ := ⟨F27, PySem.W.mg_of X G a27⟩
  have F28 := fun_mk (st := sOther) l28 c28 k28
  have b28 := F28.binds (ps := ["m", "size", "letters", "sign"]) fun _ _ _ _ _ _ us hl => match us, hl with | [_, _, _, _], _ => rfl
  have D28 : Df K mg "_law_other_way" sOther f28 _ := ⟨F28, PySem.W.mg_of X G a28⟩
  have F29 := fun_mk (st := sLaw) l29 c29 k29
  have b29 := F29.binds (ps := ["script"]) fun _ _ _ _ _ _ us hl => match us, hl with | [_], _ => rfl
  have D29 : Df K mg "law" sLaw fa _ := ⟨F29, PySem.W.mg_of X G a29⟩
  have F30 := fun_mk (st := sInit) l30 c30 k30
  have b30 := F30.binds (ps := ["self", "size", "letters"]) fun _ _ _ _ _ _ us hl => match us, hl with | [_, _, _], _ => rfl
  have M30 : Meth K C "__init__" f30 := ⟨a30, i30, k30⟩
  have F31 := fun_mk (st := sEq) l31 c31 k31
  have b31 := F31.binds (ps := ["self", "other"]) fun _ _ _ _ _ _ us hl => match us, hl with | [_, _], _ => rfl
  have M31 : Meth K C "__eq__" f31 := ⟨a31, i31, k31⟩
  have F32 := fun_mk (st := sCounts) l32 c32 k32
  have b32 := F32.binds (ps := ["self"]) fun _ _ _ _ _ _ us hl => match us, hl with | [_], _ => rfl
  have M32 : Meth K C "counts" f32 := ⟨a32, i32, k32⟩
  have F33 := fun_mk (st := sWInit) l33 c33 k33
  have b33 := F33.binds (ps := ["self", "word"]) fun _ _ _ _ _ _ us hl => match us, hl with | [_, _], _ => rfl
  have M33 : Meth K D "__init__" f33 := ⟨a33, i33, k33⟩
  have F34 := fun_mk (st := sLook) l34 c34 k34
  have b34 := F34.binds (ps := ["self", "i"]) fun _ _ _ _ _ _ us hl => match us, hl with | [_, _], _ => rfl
  have M34 : Meth K D "look" f34 := ⟨a34, i34, k34⟩
  have F35 := fun_mk (st := sGo) l35 c35 k35
  have b35 := F35.binds (ps := ["self", "deed"]) fun _ _ _ _ _ _ us hl => match us, hl with | [_, _], _ => rfl
  have M35 : Meth K D "go" f35 := ⟨a35, i35, k35⟩
  have F36 := fun_mk (st := sReached) l36 c36 k36
  have b36 := F36.binds (ps := ["self"]) fun _ _ _ _ _ _ us hl => match us, hl with | [_], _ => rfl
  have M36 : Meth K D "reached" f36 := ⟨a36, i36, k36⟩
  refine ⟨PySem.W.fnOf "law" "law" (defArgs sLaw) (defBody sLaw) (defScope sLaw) .none kV29 dc29 pm29 an29 cd29 ct29, fun s v => .of_eq rfl, fun base _ _ => ?_⟩
  have Gbet := ok_between (P := l.prog) (w := w) (base := base) B D0
  have Glist := ok_listing (P := l.prog) (w := w) (base := base) B D1
  have Gcs := ok_cksize (P := l.prog) (w := w) (base := base) N D2 D0 b0 Gbet
  have Gcl := ok_ckletters (P := l.prog) (w := w) (base := base) B N D3 D0 b0 Gbet D1 b1 Glist
  have Gbr := ok_brack (P := l.prog) (w := w) (base := base) B D4
  have Gin := ok_init (P := l.prog) (w := w) (base := base) B T F30 D2 b2 Gcs D3 b3 Gcl
  have I : In_ l.prog w K mg base C f30 _ := ⟨⟨mkC, a30, i30, kcC⟩, Gin, b30⟩
  have Geq := ok_eq (P := l.prog) (w := w) (base := base) B T F31
  have Gco := ok_counts (P := l.prog) (w := w) (base := base) B T F32
  have Gisd := ok_isdeed (P := l.prog) (w := w) (base := base) D5 D0 b0 Gbet
  have Gckr := ok_ckrow (P := l.prog) (w := w) (base := base) B N2 D6 D1 b1 Glist D5 b5 Gisd
  have Gwk := ok_walk (P := l.prog) (w := w) (base := base) B T T2 F33
  have Wi : Wi_ l.prog w K mg base C D f33 _ := ⟨⟨mkD, a33, i33, kcD⟩, Gwk, b33⟩
  have Glk := ok_look (P := l.prog) (w := w) (base := base) B T2 F34 D4 b4 Gbr
  have Lk : Lk_ l.prog w K mg base D f34 _ := ⟨M34, Glk, b34⟩
  have Ggo := ok_go (P := l.prog) (w := w) (base := base) B T2 F35 Lk
  have Go : Go_ l.prog w K mg base D f35 _ := ⟨M35, Ggo, b35⟩
  have Gfl := ok_followed (P := l.prog) (w := w) (base := base) B T2 D7 Wi Go
  have Gre := ok_reached (P := l.prog) (w := w) (base := base) T T2 F36 I
  have Re : Re_ l.prog w K mg base C D f36 _ := ⟨M36, Gre, b36⟩
  have Grun := ok_run (P := l.prog) (w := w) (base := base) T T2 D11 D6 b6 Gckr D7 b7 Gfl Re
  have Gcb := ok_climbed (P := l.prog) (w := w) (base := base) B T2 D8 Wi Go Re
  have Gad := ok_alldowns (P := l.prog) (w := w) (base := base) B D9
  have Gau := ok_allups (P := l.prog) (w := w) (base := base) B D10
  have Gt1 := ok_totop T D12 D8 b8 Gcb D9 b9 Gad
  have Gt2 := ok_tobottom T D13 D8 b8 Gcb D10 b10 Gau
  have Gt3 := ok_topof T D14 D8 b8 Gcb D9 b9 Gad
  have Gt4 := ok_bottomof T D15 D8 b8 Gcb D10 b10 Gau
  have Gmix := ok_mixed (P := l.prog) (w := w) (base := base) B D16
  have Gfol := ok_folded (P := l.prog) (w := w) (base := base) B D17
  have Gdr := ok_draw (P := l.prog) (w := w) (base := base) B D18 D16 b16 Gmix
  have Gbe := ok_begun (P := l.prog) (w := w) (base := base) D19 D17 b17 Gfol
  have Gsz := ok_size (P := l.prog) (w := w) (base := base) D23 D18 b18 Gdr
  have Gle := ok_letters (P := l.prog) (w := w) (base := base) B D24 D18 b18 Gdr
  have Glf := ok_left (P := l.prog) (w := w) (base := base) B D20
  have Gdo := ok_done (P := l.prog) (w := w) (base := base) D21 D20 b20 Glf
  have Gro := ok_rows (P := l.prog) (w := w) (base := base) B D22
  have Giw := ok_isword (P := l.prog) (w := w) (base := base) B T D25
  have Glk2 := ok_like (P := l.prog) (w := w) (base := base) B D26
  have Gld := ok_led (P := l.prog) (w := w) (base := base) B D27 D21 b21 Gdo
  have Got := ok_other (P := l.prog) (w := w) (base := base) B D28 D18 b18 Gdr D21 b21 Gdo
  have O : Ow l.prog w K mg base C f19 f23 f24 f27 f26 f25 f28 f22 f11 f31 f32 f12 f13 f14 f15 _ _ _ _ _ _ _ _ _ _ _ _ _ _ _ := ⟨D19, Gbe, b19, D23, Gsz, b23, D24, Gle, b24, D27, Gld, b27, D26, Glk2, b26, D25, Giw, b25, D28, Got, b28, D22, Gro, b22, D11, Grun, b11, M31, Geq, b31, ne, M32, Gco, b32, D12, Gt1, b12, D13, Gt2, b13, D14, Gt3, b14, D15, Gt4, b15⟩
  have Glaw := ok_law B T D29 I O
  exact Glaw
theorem walk {l : PySem.W.OpenLaw} {q : Program} {loose : List Str} {XP : (Str → Option Value) → Heap → Prop} {YP : World → Heap → Prop} {d : DefRec} {K : Params → PySem.W.Frag} (hn : l.most = some 63) (hdf : d.params.defaults = [])
    (hY : ∀ (w : World) (h : Heap), YP w h → (K w.params).In h)
    (F : ∀ (w : World) (mg : Str → Option Value) (fa : Addr) (h : Heap), (K w.params).In h → h.Ns mainGlobals mg → mg d.name = some (.ref fa) →
      ∃ fd : FuncData, (∀ (s : Shared) (u : Value), BindsTo s fd ⟨[u], []⟩ [("script", u)]) ∧ ∀ base : Heap, (K w.params).In base → base.Ns mainGlobals mg → FnG l.prog w (K w.params) mg base 10 fa fd ["script"] (spLaw (K w.params))) :
    PySem.W.WalkO q loose XP YP l.row.toRowW d [] (fun f vs => PySem.call f vs) :=
  LwE.walkG (n := 63) (k := 10) (x := "script") (sp := fun w => spLaw (K w.params)) hn (by decide) hdf ⟨rfl, by decide, by decide⟩ hY F fun _ _ a ns hl _ hS => ⟨a, ns, rfl, hS, hl, fun _ => rfl⟩
end Lw
open PySem PySem.W PyProof.Rows
set_option maxRecDepth 100000 in
set_option maxHeartbeats 0 in
theorem PySem.Challenge.cw_liftwords_k09_whole_ways_to_the_top_holds : PySem.Challenge.rw_liftwords_k09_whole_ways_to_the_top.Holds := by
  w_on; o_law; k_head; (case hw => w_witness2)
  k_fill
  refine Lw.walk (l := PySem.Challenge.rw_liftwords_k09_whole_ways_to_the_top) rfl rfl (fun w h Y => PySem.W.kIn_of Y) ?F
  case F =>
    intro w mg fa h KX G hmg
    refine' Lw.all_mk KX G hmg ?aC ?aD ?a0 ?l0 ?c0 ?k0 ?a1 ?l1 ?c1 ?k1 ?a2 ?l2 ?c2 ?k2 ?a3 ?l3 ?c3 ?k3 ?a4 ?l4 ?c4 ?k4 ?a5 ?l5 ?c5 ?k5 ?a6 ?l6 ?c6 ?k6 ?a7 ?l7 ?c7 ?k7 ?a8 ?l8 ?c8 ?k8 ?a9 ?l9 ?c9 ?k9 ?a10 ?l10 ?c10 ?k10 ?a11 ?l11 ?c11 ?k11 ?a12 ?l12 ?c12 ?k12 ?a13 ?l13 ?c13 ?k13 ?a14 ?l14 ?c14 ?k14 ?a15 ?l15 ?c15 ?k15 ?a16 ?l16 ?c16 ?k16 ?a17 ?l17 ?c17 ?k17 ?a18 ?l18 ?c18 ?k18 ?a19 ?l19 ?c19 ?k19 ?a20 ?l20 ?c20 ?k20 ?a21 ?l21 ?c21 ?k21 ?a22 ?l22 ?c22 ?k22 ?a23 ?l23 ?c23 ?k23 ?a24 ?l24 ?c24 ?k24 ?a25 ?l25 ?c25 ?k25 ?a26 ?l26 ?c26 ?k26 ?a27 ?l27 ?c27 ?k27 ?a28 ?l28 ?c28 ?k28 ?a29 ?l29 ?c29 ?k29 ?a30 ?i30 ?l30 ?c30 ?k30 ?a31 ?i31 ?l31 ?c31 ?k31 ?a32 ?i32 ?l32 ?c32 ?k32 ?a33 ?i33 ?l33 ?c33 ?k33 ?a34 ?i34 ?l34 ?c34 ?k34 ?a35 ?i35 ?l35 ?c35 ?k35 ?a36 ?i36 ?l36 ?c36 ?k36 ?pgC ?hdC ?poC ?saC ?mkC ?kcC ?nC_size ?nC_letters ?pgD ?hdD ?poD ?saD ?mkD ?kcD ?nD_size ?nD_held ?nD_free ?nD_low ?ca ?cn ?ct ?cm ?ne ?n2 ?n6 ?n40 ?n1000 ?z_isinstance ?z_int ?z_bool ?z_list ?z_tuple ?z_len ?z_range ?z_enumerate ?z_sorted ?z_min ?z_repr ?z_any ?z_max ?z_abs
    (case aC => k_is)
    (case aD => k_is)
    (case a0 => k_is)
    (case l0 => k_is)
    (case c0 => k_is)
    (case k0 => k_is)
    (case a1 => k_is)
    (case l1 => k_is)
    (case c1 => k_is)
    (case k1 => k_is)
    (case a2 => k_is)
    (case l2 => k_is)
    (case c2 => k_is)
    (case k2 => k_is)
    (case a3 => k_is)
    (case l3 => k_is)
    (case c3 => k_is)
    (case k3 => k_is)
    (case a4 => k_is)
    (case l4 => k_is)
    (case c4 => k_is)
    (case k4 => k_is)
    (case a5 => k_is)
    (case l5 => k_is)
    (case c5 => k_is)
    (case k5 => k_is)
    (case a6 => k_is)
    (case l6 => k_is)
    (case c6 => k_is)
    (case k6 => k_is)
    (case a7 => k_is)
    (case l7 => k_is)
    (case c7 => k_is)
    (case k7 => k_is)
    (case a8 => k_is)
    (case l8 => k_is)
    (case c8 => k_is)
    (case k8 => k_is)
    (case a9 => k_is)
    (case l9 => k_is)
    (case c9 => k_is)
    (case k9 => k_is)
    (case a10 => k_is)
    (case l10 => k_is)
    (case c10 => k_is)
    (case k10 => k_is)
    (case a11 => k_is)
    (case l11 => k_is)
    (case c11 => k_is)
    (case k11 => k_is)
    (case a12 => k_is)
    (case l12 => k_is)
    (case c12 => k_is)
    (case k12 => k_is)
    (case a13 => k_is)
    (case l13 => k_is)
    (case c13 => k_is)
    (case k13 => k_is)
    (case a14 => k_is)
    (case l14 => k_is)
    (case c14 => k_is)
    (case k14 => k_is)
    (case a15 => k_is)
    (case l15 => k_is)
    (case c15 => k_is)
    (case k15 => k_is)
    (case a16 => k_is)
    (case l16 => k_is)
    (case c16 => k_is)
    (case k16 => k_is)
    (case a17 => k_is)
    (case l17 => k_is)
    (case c17 => k_is)
    (case k17 => k_is)
    (case a18 => k_is)
    (case l18 => k_is)
    (case c18 => k_is)
    (case k18 => k_is)
    (case a19 => k_is)
    (case l19 => k_is)
    (case c19 => k_is)
    (case k19 => k_is)
    (case a20 => k_is)
    (case l20 => k_is)
    (case c20 => k_is)
    (case k20 => k_is)
    (case a21 => k_is)
    (case l21 => k_is)
    (case c21 => k_is)
    (case k21 => k_is)
    (case a22 => k_is)
    (case l22 => k_is)
    (case c22 => k_is)
    (case k22 => k_is)
    (case a23 => k_is)
    (case l23 => k_is)
    (case c23 => k_is)
    (case k23 => k_is)
    (case a24 => k_is)
    (case l24 => k_is)
    (case c24 => k_is)
    (case k24 => k_is)
    (case a25 => k_is)
    (case l25 => k_is)
    (case c25 => k_is)
    (case k25 => k_is)
    (case a26 => k_is)
    (case l26 => k_is)
    (case c26 => k_is)
    (case k26 => k_is)
    (case a27 => k_is)
    (case l27 => k_is)
    (case c27 => k_is)
    (case k27 => k_is)
    (case a28 => k_is)
    (case l28 => k_is)
    (case c28 => k_is)
    (case k28 => k_is)
    (case a29 => k_is)
    (case l29 => k_is)
    (case c29 => k_is)
    (case k29 => k_is)
    (case a30 => k_is)
    (case i30 => k_is)
    (case l30 => k_is)
    (case c30 => k_is)
    (case k30 => k_is)
    (case a31 => k_is)
    (case i31 => k_is)
    (case l31 => k_is)
    (case c31 => k_is)
    (case k31 => k_is)
    (case a32 => k_is)
    (case i32 => k_is)
    (case l32 => k_is)
    (case c32 => k_is)
    (case k32 => k_is)
    (case a33 => k_is)
    (case i33 => k_is)
    (case l33 => k_is)
    (case c33 => k_is)
    (case k33 => k_is)
    (case a34 => k_is)
    (case i34 => k_is)
    (case l34 => k_is)
    (case c34 => k_is)
    (case k34 => k_is)
    (case a35 => k_is)
    (case i35 => k_is)
    (case l35 => k_is)
    (case c35 => k_is)
    (case k35 => k_is)
    (case a36 => k_is)
    (case i36 => k_is)
    (case l36 => k_is)
    (case c36 => k_is)
    (case k36 => k_is)
    (case pgC => k_is)
    (case hdC => k_is)
    (case poC => k_is)
    (case saC => k_is)
    (case mkC => k_is)
    (case kcC => k_is)
    (case nC_size => k_is)
    (case nC_letters => k_is)
    (case pgD => k_is)
    (case hdD => k_is)
    (case poD => k_is)
    (case saD => k_is)
    (case mkD => k_is)
    (case kcD => k_is)
    (case nD_size => k_is)
    (case nD_held => k_is)
    (case nD_free => k_is)
    (case nD_low => k_is)
    (case ca => k_is)
    (case cn => k_is)
    (case ct => k_is)
    (case cm => k_is)
    (case ne => k_is)
    (case n2 => k_is)
    (case n6 => k_is)
    (case n40 => k_is)
    (case n1000 => k_is)
    (case z_isinstance => k_is)
    (case z_int => k_is)
    (case z_bool => k_is)
    (case z_list => k_is)
    (case z_tuple => k_is)
    (case z_len => k_is)
    (case z_range => k_is)
    (case z_enumerate => k_is)
    (case z_sorted => k_is)
    (case z_min => k_is)
    (case z_repr => k_is)
    (case z_any => k_is)
    (case z_max => k_is)
    (case z_abs => k_is)
