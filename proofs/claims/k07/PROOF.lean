import PyProof.Rows.All
import Wide.All
import OpenK.AllK
import Wide.FinOn
import HandS.ForMost
import HandS.IsInst
import HandS.Conv
import HandS.Sort
import HandS.Style
import HandS.Flow
import KE.GoesEnum
import HandS.SlotsOwn
import PyProof.InstNe
import PyProof.ReprRoads
import HandS.ForExc
import HandS.ExcField
import KE.KExcIs
import KE.KTryMore
import HandS.ExcInit
import KE.KExcInit
import PyProof.ExcBaseAll.OverflowError
import PyProof.ExcBaseAll.RuntimeError
import HandS.Wide
import HandS.TupAny
import HandS.Codes
import HandS.NoneIn
import HandS.SetFor
import HandS.Lambda
import HandS.Zip
import HandS.SortInts
import HandS.EndTab
import PySem.Challenge.RW_liftwords_k07_rows_of_deeds_done
set_option Elab.async false
set_option linter.all false
set_option maxRecDepth 100000
/-! A. The text by places; numbers judged; sizes, indexes and letters checked. -/
namespace Lw
open PySem L2
def top (i : Nat) : Stmt := PySem.Challenge.pw_liftwords_k07_rows_of_deeds_done.main.body.getD i (.Pass ⟨0, 0, 0, 0⟩)
abbrev sWhole : Stmt := top 17
abbrev sBetween : Stmt := top 18
abbrev sListing : Stmt := top 19
abbrev sCkSize : Stmt := top 24
abbrev sCkIndex : Stmt := top 25
abbrev sCkLetters : Stmt := top 26
abbrev sBrack : Stmt := top 27
abbrev sIsDeed : Stmt := top 31
abbrev sCkRow : Stmt := top 32
abbrev sFollowed : Stmt := top 35
abbrev sRun : Stmt := top 36
abbrev sMixed : Stmt := top 41
abbrev sFolded : Stmt := top 42
abbrev sDraw : Stmt := top 43
abbrev sBegun : Stmt := top 44
abbrev sLeft : Stmt := top 45
abbrev sDone : Stmt := top 46
abbrev sSize : Stmt := top 48
abbrev sLetters : Stmt := top 49
abbrev sIsWord : Stmt := top 50
abbrev sLike : Stmt := top 52
abbrev sLaw : Stmt := top 56
abbrev sSteps : Stmt := top 33
abbrev sCan : Stmt := top 37
abbrev sFirst : Stmt := top 38
abbrev sDeedsOf : Stmt := top 39
abbrev sLawRun : Stmt := top 47
abbrev sHeard : Stmt := top 51
abbrev sDeeds : Stmt := top 53
abbrev sWay : Stmt := top 54
abbrev sRight : Stmt := top 55
abbrev sEStuck : Stmt := inClass (top 14) 0
abbrev sInit : Stmt := inClass (top 28) 0
abbrev sLen : Stmt := inClass (top 28) 1
abbrev sEq : Stmt := inClass (top 28) 4
abbrev sAdd : Stmt := inClass (top 28) 5
abbrev sCounts : Stmt := inClass (top 28) 7
abbrev sSpare : Stmt := inClass (top 28) 9
abbrev sUps : Stmt := inClass (top 28) 10
abbrev sDowns : Stmt := inClass (top 28) 11
abbrev sUp : Stmt := inClass (top 28) 12
abbrev sDown : Stmt := inClass (top 28) 13
abbrev sWInit : Stmt := inClass (top 34) 0
abbrev sLook : Stmt := inClass (top 34) 1
abbrev sGo : Stmt := inClass (top 34) 2
abbrev sReached : Stmt := inClass (top 34) 3
/-- the built-in names that the text doesn't cover -/
structure Bare (mg : Str → Option Value) : Prop where
  isinstance : mg "isinstance" = none
  int : mg "int" = none
  bool : mg "bool" = none
  list : mg "list" = none
  tuple : mg "tuple" = none
  len : mg "len" = none
  range : mg "range" = none
  enumerate : mg "enumerate" = none
  sorted : mg "sorted" = none
  min : mg "min" = none
  repr : mg "repr" = none
  any : mg "any" = none
  max : mg "max" = none
  abs : mg "abs" = none
  zip : mg "zip" = none
  ve : mg "ValueError" = none
/-- a def of the top -/
structure Df (K : PySem.W.Frag) (mg : Str → Option Value) (x : Str) (st : Stmt) (f : Addr) (fd : FuncData) : Prop where
  fn : Fun K x x st f fd
  g : mg x = some (.ref f)
section
variable {P : Program} {w : World} {K : PySem.W.Frag} {mg : Str → Option Value} {base : Heap}
/-! is_whole -/
def spWhole : Sp := fun vs H Q _ => ∃ i : Int, vs = [.int i] ∧ Q (.bl true) H
theorem scWhole : FnScope ["value"] ["value"] (defScope sWhole) := ⟨rfl, rfl, rfl, by decide +kernel, rfl, by decide +kernel, by decide +kernel⟩
theorem ok_whole {f : Addr} {fd : FuncData} (B : Bare mg) (F : Df K mg "is_whole" sWhole f fd) : FnOk P w K mg base CX0 1 f fd ["value"] spWhole := by
  refine F.fn.ok scWhole (fun vs H Q E h => ?_) (fun cdv A outer s H vs Q E hr h => ?_)
  · obtain ⟨i, rfl, _⟩ := h
    rfl
  · obtain ⟨i, rfl, k⟩ := h
    refine ⟨_, pss_one (ps_ret (pe_and (pe_callB call_isi (by rfl) B.isinstance (by decide +kernel) (pa_cons (pv 0) (pa_cons (pe_bltn (v := .ty "int") (by rfl) B.int (by decide +kernel) rfl) pa_nil)))
      (pe_one (pe_not (pe_callB call_isi (by rfl) B.isinstance (by decide +kernel) (pa_cons (pv 0) (pa_cons (pe_bltn (v := .ty "bool") (by rfl) B.bool (by decide +kernel) rfl) pa_nil))))))), ?_⟩
    refine ⟨_, rfl, _, _, _, _, true, rfl, ClsV.ty _, TyX.base (TyOf.int _), kit_ty (by decide +kernel), _, rfl, ?_⟩
    refine iteT ?_
    refine ⟨_, rfl, _, _, _, _, false, rfl, ClsV.ty _, TyX.base (TyOf.int _), kit_ty (by decide +kernel), _, rfl, ?_⟩
    exact k
end
end Lw
/-! enumerate over a tuple. -/
namespace LwE
open PySem PySem.Spec PyProof.Rows L2
set_option maxHeartbeats 1000000 in
theorem enum_new1 {v : Value} {o : Obj} {H : Heap → Prop} (B : Begins v o H) :
    Meets (Builtin.«enumerate.__new__» ⟨[.type "enumerate", v], []⟩) (fun _ R s => H s.heap ∧
      R (.ok (.ret (.ref (s.heap.push o).objs.size)))
        { s with heap := (s.heap.push o).push { cls := .type "enumerate", data := .fields #[.none, .bool false, .ref s.heap.objs.size, rawInt 0, .none, .none] } }) :=
  .of_wp fun prog w A R s z => by
    obtain ⟨hp, gn, dr, tk, os⟩ := s
    obtain ⟨z1, z2⟩ := z
    have hsub := sub_enumerate
    have start : ∀ {A' : Around} {E : Value → Shared → Prop} {Q : Value → Shared → Prop}, Q (.ref hp.objs.size) ⟨hp.push o, gn, dr, tk, os⟩ →
        wpAny (model prog w) A' (pyIter v) Q E ⟨hp, gn, dr, tk, os⟩ := fun q => B.iter prog w _ _ ⟨hp, gn, dr, tk, os⟩ _ z1 q
    wp_walk using start
    refine wpAny_stack_any fun st => wpAny_pure ?_
    split
    next c _ _ _ _ _ =>
      cases (c == Value.type "enumerate") <;> (wp_walk using start; exact ⟨_, rfl, z2⟩)
    next =>
      wp_walk using start
      exact ⟨_, rfl, z2⟩
section
variable {prog : Program} {w : World} {A : Around} {E : Value → Shared → Prop} {s : Shared}
theorem enum_begins1 {v : Value} {o : Obj} {H : Heap → Prop} {Q : Value → Shared → Prop} (B : Begins v o H) (z : H s.heap)
    (q : ∀ h', IsEnum h' (s.heap.objs.size + 1) s.heap.objs.size 0 .none → h'.get? s.heap.objs.size = some o →
      (∀ b u, s.heap.get? b = some u → h'.get? b = some u) → Q (.ref (s.heap.objs.size + 1)) { s with heap := h' }) :
    wpAny (model prog w) A (call (.type "enumerate") [v]) Q E s := by
  refine callType_new F.called_enumerate (by decide) (F.typeCall_enumerate_1 _) (F.newCall_enumerate_1 _) (fun obj => F.args_object_init_2 obj _) F.entry_enumerate_new (enum_new1 B) ⟨z, ?_⟩
  have ez : (s.heap.push o).objs.size = s.heap.objs.size + 1 := by rw [Heap.size_push]
  show _ ∧ _
  rw [ez]
  have ee : IsEnum ((s.heap.push o).push { cls := .type "enumerate", data := .fields #[.none, .bool false, .ref s.heap.objs.size, rawInt 0, .none, .none] })
      (s.heap.objs.size + 1) s.heap.objs.size 0 .none := by
    have u := Heap.get?_push_size (s.heap.push o) (o := { cls := .type "enumerate", data := .fields #[.none, .bool false, .ref s.heap.objs.size, rawInt 0, .none, .none] }) rfl
    rw [ez] at u
    exact u
  exact ⟨⟨_, ee, rfl⟩, q _ ee (Heap.get?_push_of_some _ (Heap.get?_push_size _ B.free)) fun b u x => Heap.get?_push_of_some _ (Heap.get?_push_of_some _ x)⟩
end
/-- the tuple at a, each item with its place in a new pair -/
def Ien (K : PySem.W.Frag) (a : Addr) : It where
  go := fun i H => ∃ (xs : List V) (x : V), SqT K H a xs ∧ xs[i]? = some x
  yld := fun i H v H' => ∃ T x, v = .ref T ∧ H T = none ∧ H' = upd H T (.tup [.int (i : Nat), x]) ∧ ∀ xs, SqT K H a xs → xs[i]? = some x
  stop := fun i H => ∃ xs : List V, SqT K H a xs ∧ xs.length ≤ i
theorem apart_it {h : Heap} {it a : Addr} {i : Nat} {its : Array Value} (st : h.IsTupleIter it a i) (p : h.IsTuple a its) : a ≠ it := fun z => by
  obtain ⟨o, e1, c1, _⟩ := st
  obtain ⟨o2, e2, c2, _⟩ := p
  rw [z, e1] at e2
  cases e2
  rw [c1] at c2
  exact absurd c2 (by decide)
theorem turn_ien {P : Program} {w : World} {K : PySem.W.Frag} {elts : List Expr} {kk : Nat} {tpos : Pos} (a e it : Addr) :
    Turn P w K (.Tuple elts kk tpos) (Ien K a) [e, it] e (fun i h => (∃ old, IsEnum h e it ((i : Nat) : Int) old) ∧ h.IsTupleIter it a i ∧ e ≠ it ∧ e ≠ a) where
  mem := by simp
  obj := fun i h st b hb => by
    obtain ⟨⟨old, he⟩, ⟨o, ho, hc, hd⟩, _⟩ := st
    rcases (show b = e ∨ b = it by simpa using hb) with z | z <;> subst z
    · exact ⟨_, he, fun v q => nomatch q⟩
    · exact ⟨o, ho, fun v q => by rw [hd] at q; cases q⟩
  keep := fun i h h' st k => by
    obtain ⟨⟨old, he⟩, hi, n1, n2⟩ := st
    exact ⟨⟨old, k e (by simp) _ he⟩, hi.at fun o q => k it (by simp) o q, n1, n2⟩
  item := by
    intro X hP hw hK hc i pins s σ H E I hf st hg
    subst hP hw hK
    obtain ⟨⟨old, he⟩, hit, n1, n2⟩ := st
    obtain ⟨xs, x, hq, hx⟩ := hg
    obtain ⟨its, rv, p, hz⟩ := I.tuple hq
    obtain ⟨u, hu, ru⟩ := rv.get hx
    have lt1 : e < s.heap.objs.size := Heap.lt_size he
    have lt2 : it < s.heap.objs.size := by
      obtain ⟨_, q, _⟩ := hit
      exact Heap.lt_size q
    have pT : s.heap.IsTuple a its.toArray := p
    have hlt : i < its.toArray.size := by
      have q := (List.getElem?_eq_some_iff.mp hu).1
      simpa using q
    have D := Draws.tuple (prog := X.prog) (w := X.w) (A := X.A.in1) (I.ok.hd hc) it a (apart_it hit pT) its.toArray
    refine wpAny_pyNext_enum_itemC D he ⟨hit, pT⟩ hlt n1 (by simp [n1, n2]) fun y h' tk hy ho hs' hT hsz hk => ?_
    have ey : y = u := by
      have q : its.toArray[i]? = some y := hy
      rw [show its.toArray[i]? = its[i]? from by simp, hu] at q
      exact (Option.some.inj q).symm
    subst ey
    refine ⟨_, rfl, wpAny_letOwnedTupleGo_enum (s := { s with heap := h', toks := tk + 1 }) ho fun h'' he' sb => ?_⟩
    have hT2 := (sb.2 _ (Nat.ne_of_gt lt1)).trans hT
    have made : ObjOk X.prog X.w (upd H s.heap.objs.size (.tup [.int (i : Nat), x])) h'' s.heap.objs.size (.tup [.int (i : Nat), x]) :=
      ⟨(by decide : 2 ≤ sizeLine), [.int i tk, y], .cons ⟨_, rfl⟩ (.cons ru .nil), _, hT2, rfl, _, rfl⟩
    have J : Inv X pins σ (upd H s.heap.objs.size (.tup [.int (i : Nat), x])) { s with heap := h'', toks := tk + 1 } :=
      I.turnedNew (ch := [e, it]) (fun b ob hb q => (sb.2 b (fun z => hb (by simp [z]))).trans (hk b ob (fun z => hb (by simp [z])) (fun z => hb (by simp [z])) q)) hf (Nat.le_refl _) made
    refine ⟨.ref s.heap.objs.size, _, J, rfl, ⟨_, x, rfl, I.hok.fresh (Nat.le_refl _), rfl, fun ys hy2 => by rw [I.tuple_inj hy2 hq]; exact hx⟩,
      ⟨⟨y, ?_⟩, hs'.1.at fun o q => (sb.2 it (Ne.symm n1)).trans q, n1, n2⟩, fun b hb => ?_⟩
    · rw [show ((i + 1 : Nat) : Int) = (i : Int) + 1 by omega]
      exact he'
    · have hlt3 : b < s.heap.objs.size := by
        rcases (show b = e ∨ b = it by simpa using hb) with z | z <;> (rw [z]; assumption)
      rw [upd_ne (Nat.ne_of_lt hlt3)]
      exact (hf b hb).1
  done := by
    intro X hP hw hK hc i pins s σ H E I hf st hg
    subst hP hw hK
    obtain ⟨⟨old, he⟩, hit, n1, n2⟩ := st
    obtain ⟨xs, hq, hx⟩ := hg
    obtain ⟨its, rv, p, hz⟩ := I.tuple hq
    obtain ⟨f0, f1, f2, f3, f4, f5⟩ := hf it (by simp)
    have pT : s.heap.IsTuple a its.toArray := p
    have hT : s.TypeIs (.ref e) "enumerate" := ⟨_, he, rfl⟩
    unfold pyNext
    refine wpAny_bind (wpAny_attempt (wpAny_callSpecial?_slot (name := Str.ofString "__next__") hT F.slot_enumerate_next
      (wpAny_call_entry F.slot_enumerate_next hT F.entry_enumerate_next ?_ (F.args_enumerate_next_1 _))))
    show wpAny _ _ (field (.ref e) 2 >>= _) _ _ _
    refine wpAny_bind (wpAny_field he rfl (x := .ref it) rfl ?_)
    have hl := rv.length
    refine wpAny_bind (wpAny_nextOf_tuple_end (I.ok.hd hc) hit pT (by simp; omega) fun h' x he' hx' => ?_)
    obtain ⟨o, ho, hcl⟩ := hx'
    refine wpAny_bind (wpAny_isInstance (T := "StopIteration") (b := true) ⟨o, ho, hcl⟩ isSubtype_stop ?_)
    exact wpAny_pure ⟨rfl, I.turned (t' := s.toks) (fun b o hb q => he' b o hb q) f0 f1 f3 f4 f5⟩
  self := fun A i s Q E st h => by
    obtain ⟨⟨_, he⟩, _⟩ := st
    exact wpAny_pyIter_enum he h
/-- enumerate(t), t a tuple -/
def iEnT (K : PySem.W.Frag) (ta : TA) : TI := fun σ H R => ta σ H fun vs H1 => ∃ a xs, vs = [.ref a] ∧ SqT K H1 a xs ∧ R (Ien K a) H1
theorem pi_enT {X : Cx} {e : Expr} {ta : TA} {p pos tpos : Pos} {elts : List Expr} {kk : Nat} (hg : Gl X "enumerate") (hm : X.mg "enumerate" = none) (ha : PA X [e] ta)
    (hs : starEach [e] X.env = [(false, eval e X.env)] := by rfl) : PI X (.Tuple elts kk tpos) (.Call (.Name "enumerate" p) [e] [] pos) (iEnT X.K ta) := by
  refine ⟨fun pins s σ H R I h => ?_⟩
  refine Call_ (ld_blt I hg hm boot_enumerate (PyProof.Rows.callWith_type1 (thn (ha.run pos pins s σ H _ I h) fun us s1 ⟨vs, H1, I1, r1, q1⟩ => ?_) hs rfl))
  obtain ⟨a, xs, rfl, hq, q⟩ := q1
  obtain ⟨u, rfl, ru⟩ : ∃ u, us = [u] ∧ RelV (.ref a) u := by
    cases r1 with
    | cons r rr =>
      cases rr
      exact ⟨_, rfl, r⟩
  obtain rfl : u = Value.ref a := ru
  obtain ⟨its, rv, p', hz⟩ := I1.tuple hq
  have pT : s1.heap.IsTuple a its.toArray := p'
  refine enum_begins1 (begins_tuple a its.toArray) pT fun h' he hit hk => wpAny_pyIter_enum he ?_
  have I2 : Inv X pins σ H1 { s1 with heap := h' } := I1.kept (t' := s1.toks) hk
  have lta : a < s1.heap.objs.size := by
    obtain ⟨o, e1, _⟩ := pT
    exact Heap.lt_size e1
  refine ⟨s1.heap.objs.size + 1, [s1.heap.objs.size + 1, s1.heap.objs.size], _, _, H1, rfl, I2, turn_ien a (s1.heap.objs.size + 1) s1.heap.objs.size,
    ⟨⟨.none, he⟩, ⟨_, hit, rfl, rfl⟩, Nat.succ_ne_self _, Nat.ne_of_gt (Nat.lt_succ_of_lt lta)⟩, fun b hb => ?_, q⟩
  have le1 : s1.heap.objs.size ≤ b := by
    rcases (show b = s1.heap.objs.size + 1 ∨ b = s1.heap.objs.size by simpa using hb) with z | z
    · rw [z]
      exact Nat.le_succ _
    · rw [z]
      exact Nat.le_refl _
  exact I1.fpOk le1 (I1.hok.fresh le1)
/-- the walk's word -/
theorem for_enT {K : PySem.W.Frag} {a : Addr} {xs : List V} {g : TG} {tb : TS} {D : Ends} {σ : L2.St} {H : Hp} (Pv : Nat → L2.St → Hp → Prop) (h0 : Pv 0 σ H) (hl : ∀ i σ H, i ≤ xs.length → Pv i σ H → SqT K H a xs)
    (hs : ∀ i x T σ H, xs[i]? = some x → Pv i σ H → H T = none → g (.ref T) σ (upd H T (.tup [.int (i : Nat), x])) fun σ2 H2 => tb { D with nx := Pv (i + 1), ct := Pv (i + 1), bk := D.nx } σ2 H2)
    (hd : ∀ σ H, Pv xs.length σ H → D.nx σ H) :
    ∃ W : Nat → Nat → L2.St → Hp → Prop, (∃ m, W 0 m σ H) ∧ ∀ i m σ H, W i m σ H →
      ((Ien K a).stop i H ∧ D.nx σ H) ∨ ((Ien K a).go i H ∧ ∃ N : L2.St → Hp → Prop, (∀ σ' H', N σ' H' → ∃ m', m' < m ∧ W (i + 1) m' σ' H') ∧
        ∀ x H', (Ien K a).yld i H x H' → g x σ H' fun σ2 H2 => tb { D with nx := N, ct := N, bk := D.nx } σ2 H2) := by
  refine ⟨fun i m σ H => m = xs.length - i ∧ i ≤ xs.length ∧ Pv i σ H, ⟨xs.length, by simp, Nat.zero_le _, h0⟩, ?_⟩
  intro i m σ H hW
  obtain ⟨rfl, hi, p⟩ := hW
  have q := hl i σ H hi p
  by_cases hlt : i < xs.length
  · refine .inr ⟨⟨xs, xs[i], q, by simp [hlt]⟩, Pv (i + 1), fun σ' H' p' => ⟨xs.length - (i + 1), by omega, rfl, hlt, p'⟩, fun x H' y => ?_⟩
    obtain ⟨T, v, rfl, hT, rfl, y2⟩ := y
    exact hs i v T σ H (y2 xs q) p hT
  · obtain rfl : i = xs.length := by omega
    exact .inl ⟨⟨xs, q, Nat.le_refl _⟩, hd σ H p⟩
/-- the same over a list -/
theorem for_enL {K : PySem.W.Frag} {a : Addr} {xs : List V} {g : TG} {tb : TS} {D : Ends} {σ : L2.St} {H : Hp} (Pv : Nat → L2.St → Hp → Prop) (h0 : Pv 0 σ H) (hl : ∀ i σ H, i ≤ xs.length → Pv i σ H → SqL K H a xs)
    (hs : ∀ i x T σ H, xs[i]? = some x → Pv i σ H → H T = none → g (.ref T) σ (upd H T (.tup [.int (i : Nat), x])) fun σ2 H2 => tb { D with nx := Pv (i + 1), ct := Pv (i + 1), bk := D.nx } σ2 H2)
    (hd : ∀ σ H, Pv xs.length σ H → D.nx σ H) :
    ∃ W : Nat → Nat → L2.St → Hp → Prop, (∃ m, W 0 m σ H) ∧ ∀ i m σ H, W i m σ H →
      ((Ite K a).stop i H ∧ D.nx σ H) ∨ ((Ite K a).go i H ∧ ∃ N : L2.St → Hp → Prop, (∀ σ' H', N σ' H' → ∃ m', m' < m ∧ W (i + 1) m' σ' H') ∧
        ∀ x H', (Ite K a).yld i H x H' → g x σ H' fun σ2 H2 => tb { D with nx := N, ct := N, bk := D.nx } σ2 H2) := by
  refine ⟨fun i m σ H => m = xs.length - i ∧ i ≤ xs.length ∧ Pv i σ H, ⟨xs.length, by simp, Nat.zero_le _, h0⟩, ?_⟩
  intro i m σ H hW
  obtain ⟨rfl, hi, p⟩ := hW
  have q := hl i σ H hi p
  by_cases hlt : i < xs.length
  · refine .inr ⟨⟨xs, xs[i], q, by simp [hlt]⟩, Pv (i + 1), fun σ' H' p' => ⟨xs.length - (i + 1), by omega, rfl, hlt, p'⟩, fun x H' y => ?_⟩
    obtain ⟨T, v, rfl, hT, rfl, y2⟩ := y
    exact hs i v T σ H (y2 xs q) p hT
  · obtain rfl : i = xs.length := by omega
    exact .inl ⟨⟨xs, q, Nat.le_refl _⟩, hd σ H p⟩
end LwE
/-! list(range(a, b, -1)). -/
namespace LwE
open PySem PySem.Spec PyProof.Rows L2
/-- the ints a, a - 1, .. above b -/
def dnV (a b : Int) : List Int := (List.range (a - b).toNat).map fun i => a - (i : Nat)
theorem dnV_length (a b : Int) : (dnV a b).length = (a - b).toNat := by
  unfold dnV
  rw [List.length_map, List.length_range]
theorem dnV_mem {a b x : Int} (h : x ∈ dnV a b) : b < x ∧ x ≤ a := by
  unfold dnV at h
  obtain ⟨i, hi, rfl⟩ := List.mem_map.mp h
  have := List.mem_range.mp hi
  omega
theorem vals_dn {a b : Int} {acc : Array Value} (h : ItemsOf (fun i v => ∃ t, v = .int (a + i * (-1)) t) acc (a - b).toNat) : Vals ((dnV a b).map V.int) acc.toList := by
  have e : acc.toList.length = (a - b).toNat := by
    rw [Array.length_toList]
    exact h.1
  have e2 : (dnV a b).map V.int = (List.range acc.toList.length).map fun i => V.int (a - (i : Nat)) := by
    unfold dnV
    rw [e, List.map_map]
    rfl
  rw [e2]
  refine vals_of_get acc.toList _ fun j u hj => ?_
  obtain ⟨t, rfl⟩ := h.2 j u (by rw [← hj, Array.getElem?_toList])
  exact ⟨t, by rw [Int.mul_neg, Int.mul_one, Int.sub_eq_add_neg]⟩
section
variable {X : Cx} {a b : Expr} {ta : TA}
/-- bounds of such a range -/
def DnOk (a b : Int) : Prop := -1000 ≤ a ∧ a ≤ 1000 ∧ -1000 ≤ b ∧ b ≤ 1000
def tLstDn (ta : TA) : TE := fun σ H Q => ta σ H fun vs H1 => ∃ a b : Int, vs = [.int a, .int b, .int (-1)] ∧ DnOk a b ∧ ∀ q, H1 q = none → Q (.ref q) (upd H1 q (.lst ((dnV a b).map V.int)))
theorem pe_listDn {c : Expr} {p p' pos pos' : Pos} (hc : X.calm = true) (hg : Gl X "list") (hm : X.mg "list" = none) (hgr : Gl X "range") (hmr : X.mg "range" = none) (ha : PA X [a, b, c] ta)
    (hs : starEach [a, b, c] X.env = (false, eval a X.env) :: starEach [b, c] X.env := by rfl) (hpl : (backTo pos' (starEach [b, c] X.env)).any (·.1) = false := by rfl)
    (na : starEach [.Call (.Name "range" p') [a, b, c] [] pos'] X.env = (false, eval (.Call (.Name "range" p') [a, b, c] [] pos') X.env) :: starEach [] X.env := by rfl) :
    PE X (.Call (.Name "list" p) [.Call (.Name "range" p') [a, b, c] [] pos'] [] pos) (tLstDn ta) := by
  refine ⟨fun pins s σ H Q I h => ?_⟩
  have inner : wpAny (model X.prog X.w) X.A (eval (.Call (.Name "range" p') [a, b, c] [] pos') X.env)
      (fun x s' => ∃ r i j t u v H', x = .ref r ∧ IsRange s'.heap r i j (-1) t u v ∧ Inv X pins σ H' s' ∧ DnOk i j ∧ ∀ q, H' q = none → Q (.ref q) (upd H' q (.lst ((dnV i j).map V.int)))) X.xe s := by
    refine Call_ (ld_blt I hgr hmr boot_range (PyProof.Rows.callWith_type1 (thn (ha.run pos' pins s σ H _ I h) fun us s1 ⟨vs, H1, I1, r1, q1⟩ => ?_) hs hpl))
    obtain ⟨i, j, rfl, ok, q⟩ := q1
    obtain ⟨u1, u2, u3, rfl, ⟨t1, rfl⟩, ⟨t2, rfl⟩, ⟨t3, rfl⟩⟩ : ∃ u1 u2 u3, us = [u1, u2, u3] ∧ RelV (.int i) u1 ∧ RelV (.int j) u2 ∧ RelV (.int (-1)) u3 := by
      cases r1 with
      | cons x1 r1 =>
        cases r1 with
        | cons x2 r1 =>
          cases r1 with
          | cons x3 r1 =>
            cases r1
            exact ⟨_, _, _, rfl, x1, x2, x3⟩
    exact call_range_3 (by decide) ⟨_, i, j, _, _, _, H1, rfl, IsRange.new _ _ _ _ _ _ _, I1.kept (t' := s1.toks) fun b u e => Heap.get?_push_of_some _ e, ok, q⟩
      (Or.inl (PyProof.noPylong_small (by decide)))
  refine Call_ (ld_blt I hg hm boot_list (PyProof.Rows.callWith_type1 (args_cons (thn inner fun x s1 ⟨r, i, j, t, u, v, H1, ex, hr, I1, ok, q⟩ => args_nil ?_) na) na))
  subst ex
  obtain ⟨b1, b2, b3, b4⟩ := ok
  refine call_list_range (n := (i - j).toNat) (I1.ok.hd hc) hr (PySem.W.small_down (by omega) (by omega) (by omega) (by omega)) (PySem.W.rangeSize_downNat i j) (by omega) fun h' tk acc c' hk e' hi => ?_
  refine ⟨.ref s1.heap.objs.size, upd H1 s1.heap.objs.size (.lst ((dnV i j).map V.int)), I1.laid hk (Nat.le_refl _)
    (show ObjOk X.prog X.w _ _ _ (.lst ((dnV i j).map V.int)) from ⟨?_, acc.toList, c', vals_dn hi, ?_⟩), rfl, q _ (I1.hok.fresh (Nat.le_refl _))⟩
  · rw [List.length_map, dnV_length, sizeLine_eq]
    omega
  · rw [Array.toArray_toList]
    exact e'
end
/-- the ints a .. b - 1 -/
def upV (a b : Int) : List Int := (List.range (b - a).toNat).map fun i => a + (i : Nat)
theorem upV_eq (a b : Int) : rgV a b = (upV a b).map V.int := by
  unfold rgV upV
  rw [List.map_map]
  rfl
theorem upV_length (a b : Int) : (upV a b).length = (b - a).toNat := by
  unfold upV
  rw [List.length_map, List.length_range]
theorem upV_mem {a b x : Int} (h : x ∈ upV a b) : a ≤ x ∧ x < b := by
  unfold upV at h
  obtain ⟨i, hi, rfl⟩ := List.mem_map.mp h
  have := List.mem_range.mp hi
  omega
end LwE
/-! M. Brackets, in plain lists. -/
namespace LwM
/-- one letter x at the place p: the i left over so far, the i + 1 that wait -/
def stp (i : Int) (s : List Int × List Int) (p x : Int) : List Int × List Int :=
  if x = i + 1 then (s.1, s.2 ++ [p]) else if x = i then (if s.2 = [] then (s.1 ++ [p], s.2) else (s.1, s.2.dropLast)) else s
/-- letters from the place k on -/
def go (i : Int) : List Int × List Int → Int → List Int → List Int × List Int
  | s, _, [] => s
  | s, k, x :: l => go i (stp i s k x) (k + 1) l
def br (i : Int) (l : List Int) : List Int × List Int := go i ([], []) 0 l
def lows (i : Int) (l : List Int) : List Int := (br i l).1
def highs (i : Int) (l : List Int) : List Int := (br i l).2
theorem go_app (i : Int) : ∀ (l r : List Int) (s : List Int × List Int) (k : Int), go i s k (l ++ r) = go i (go i s k l) (k + l.length) r
  | [], r, s, k => by simp [go]
  | x :: l, r, s, k => by
    show go i (stp i s k x) (k + 1) (l ++ r) = go i (go i (stp i s k x) (k + 1) l) (k + ((x :: l).length : Nat)) r
    rw [go_app i l r, List.length_cons]
    congr 1
    omega
theorem br_snoc (i : Int) (l : List Int) (x : Int) : br i (l ++ [x]) = stp i (br i l) l.length x := by
  unfold br
  rw [go_app]
  show stp i _ (0 + (l.length : Int)) x = _
  rw [Int.zero_add]
/-- the lists get no longer than the letters -/
theorem go_len (i : Int) : ∀ (l : List Int) (s : List Int × List Int) (k : Int), (go i s k l).1.length + (go i s k l).2.length ≤ s.1.length + s.2.length + l.length
  | [], s, k => by simp [go]
  | x :: l, s, k => by
    have h := go_len i l (stp i s k x) (k + 1)
    have h2 : (stp i s k x).1.length + (stp i s k x).2.length ≤ s.1.length + s.2.length + 1 := by
      unfold stp
      split
      · simp; omega
      · split
        · split
          · simp; omega
          · simp; omega
        · omega
    show (go i (stp i s k x) (k + 1) l).1.length + (go i (stp i s k x) (k + 1) l).2.length ≤ _
    rw [List.length_cons]
    omega
theorem br_len (i : Int) (l : List Int) : (lows i l).length ≤ l.length ∧ (highs i l).length ≤ l.length := by
  have h := go_len i l ([], []) 0
  unfold lows highs br
  simp at h
  omega
/-- all places lie among the letters, and hold i, or i + 1 -/
theorem go_bd (i : Int) : ∀ (l : List Int) (s : List Int × List Int) (k : Int), ∀ p, p ∈ (go i s k l).1 ∨ p ∈ (go i s k l).2 → (p ∈ s.1 ∨ p ∈ s.2) ∨ (k ≤ p ∧ p < k + l.length)
  | [], s, k, p, h => .inl h
  | x :: l, s, k, p, h => by
    have ih := go_bd i l (stp i s k x) (k + 1) p h
    rw [List.length_cons]
    rcases ih with ih | ih
    · have e : p ∈ s.1 ∨ p ∈ s.2 ∨ p = k := by
        unfold stp at ih
        split at ih
        · rcases ih with ih | ih
          · exact .inl ih
          · rcases List.mem_append.mp ih with z | z
            · exact .inr (.inl z)
            · exact .inr (.inr (List.mem_singleton.mp z))
        · split at ih
          · split at ih
            · rcases ih with ih | ih
              · rcases List.mem_append.mp ih with z | z
                · exact .inl z
                · exact .inr (.inr (List.mem_singleton.mp z))
              · exact .inr (.inl ih)
            · rcases ih with ih | ih
              · exact .inl ih
              · exact .inr (.inl ((List.dropLast_sublist _).subset ih))
          · rcases ih with ih | ih
            · exact .inl ih
            · exact .inr (.inl ih)
      rcases e with e | e | e
      · exact .inl (.inl e)
      · exact .inl (.inr e)
      · exact .inr ⟨by omega, by omega⟩
    · exact .inr ⟨by omega, by omega⟩
theorem br_bd {i : Int} {l : List Int} {p : Int} (h : p ∈ lows i l ∨ p ∈ highs i l) : 0 ≤ p ∧ p < l.length := by
  rcases go_bd i l ([], []) 0 p h with z | z
  · rcases z with z | z <;> simp at z
  · omega
/-! ### words put together -/
/-- from an empty stack, and from one with things waiting: the first i + 1 that wait are taken by the i left over, from the last -/
theorem go_from (i : Int) : ∀ (l : List Int) (L W : List Int) (k : Int) (A B : List Int),
    go i (L ++ A.drop W.length, W.take (W.length - A.length) ++ B) k l =
      (L ++ (go i (A, B) k l).1.drop W.length, W.take (W.length - (go i (A, B) k l).1.length) ++ (go i (A, B) k l).2)
  | [], L, W, k, A, B => rfl
  | x :: l, L, W, k, A, B => by
    have step : stp i (L ++ A.drop W.length, W.take (W.length - A.length) ++ B) k x =
        (L ++ (stp i (A, B) k x).1.drop W.length, W.take (W.length - (stp i (A, B) k x).1.length) ++ (stp i (A, B) k x).2) := by
      unfold stp
      by_cases h1 : x = i + 1
      · simp only [h1, if_true]
        simp [List.append_assoc]
      · rw [if_neg h1, if_neg h1]
        by_cases h2 : x = i
        · rw [if_pos h2, if_pos h2]
          by_cases hB : B = []
          · subst hB
            simp only [List.append_nil, if_true]
            by_cases hW : W.take (W.length - A.length) = []
            · have hl : W.length ≤ A.length := by
                have := congrArg List.length hW
                rw [List.length_take] at this
                simp at this
                omega
              rw [if_pos hW]
              have e1 : (A ++ [k]).drop W.length = A.drop W.length ++ [k] := List.drop_append_of_le_length hl
              have e2 : W.length - (A ++ [k]).length = 0 := by
                rw [List.length_append, List.length_singleton]
                omega
              have e3 : W.length - A.length = 0 := by omega
              simp only [e1, e2, e3, List.take_zero, List.append_assoc]
            · have hl : A.length < W.length := by
                rcases Nat.lt_or_ge A.length W.length with z | z
                · exact z
                · exact absurd (by rw [Nat.sub_eq_zero_of_le z, List.take_zero]) hW
              rw [if_neg hW]
              have e1 : (A ++ [k]).drop W.length = A.drop W.length := by
                rw [List.drop_of_length_le (by rw [List.length_append, List.length_singleton]; omega), List.drop_of_length_le (by omega)]
              have e2 : (W.take (W.length - A.length)).dropLast = W.take (W.length - (A ++ [k]).length) := by
                rw [List.dropLast_eq_take, List.take_take, List.length_take, List.length_append, List.length_singleton]
                congr 1
                omega
              rw [e1, e2]
          · rw [if_neg (by simp [hB]), if_neg hB, List.dropLast_append_of_ne_nil hB]
        · rw [if_neg h2, if_neg h2]
    show go i (stp i _ k x) (k + 1) l = _
    rw [step]
    exact go_from i l L W (k + 1) _ _
/-- places moved on -/
theorem go_shift (i d : Int) : ∀ (l : List Int) (A B : List Int) (k : Int), go i (A.map (· + d), B.map (· + d)) (k + d) l = ((go i (A, B) k l).1.map (· + d), (go i (A, B) k l).2.map (· + d))
  | [], A, B, k => rfl
  | x :: l, A, B, k => by
    have step : stp i (A.map (· + d), B.map (· + d)) (k + d) x = ((stp i (A, B) k x).1.map (· + d), (stp i (A, B) k x).2.map (· + d)) := by
      unfold stp
      split
      · simp
      · split
        · by_cases hB : B = []
          · subst hB
            simp
          · rw [if_neg (by simp [hB]), if_neg hB]
            simp [List.map_dropLast]
        · rfl
    show go i (stp i _ (k + d) x) (k + d + 1) l = _
    rw [step]
    have e : k + d + 1 = k + 1 + d := by omega
    rw [e]
    exact go_shift i d l _ _ (k + 1)
theorem br_app (i : Int) (l r : List Int) :
    br i (l ++ r) = (lows i l ++ ((lows i r).map (· + (l.length : Int))).drop (highs i l).length, (highs i l).take ((highs i l).length - (lows i r).length) ++ (highs i r).map (· + (l.length : Int))) := by
  have h1 := go_from i r (lows i l) (highs i l) (0 + (l.length : Int)) [] []
  have h2 := go_shift i (l.length : Int) r [] [] 0
  unfold br
  rw [go_app]
  have e0 : go i ([], []) 0 l = (lows i l ++ ([] : List Int).drop (highs i l).length, (highs i l).take ((highs i l).length - ([] : List Int).length) ++ []) := by
    simp [lows, highs, br]
  rw [e0, h1]
  have e1 : go i (([] : List Int), ([] : List Int)) (0 + (l.length : Int)) r = ((lows i r).map (· + (l.length : Int)), (highs i r).map (· + (l.length : Int))) := h2
  rw [e1, List.length_map]
theorem lows_app (i : Int) (l r : List Int) : lows i (l ++ r) = lows i l ++ ((lows i r).map (· + (l.length : Int))).drop (highs i l).length := by
  show (br i (l ++ r)).1 = _
  rw [br_app]
theorem highs_app (i : Int) (l r : List Int) : highs i (l ++ r) = (highs i l).take ((highs i l).length - (lows i r).length) ++ (highs i r).map (· + (l.length : Int)) := by
  show (br i (l ++ r)).2 = _
  rw [br_app]
/-- how many are left over -/
def up (i : Int) (l : List Int) : Nat := (lows i l).length
def dn (i : Int) (l : List Int) : Nat := (highs i l).length
theorem up_app (i : Int) (l r : List Int) : up i (l ++ r) = up i l + (up i r - dn i l) := by
  unfold up dn
  rw [lows_app, List.length_append, List.length_drop, List.length_map]
theorem dn_app (i : Int) (l r : List Int) : dn i (l ++ r) = (dn i l - up i r) + dn i r := by
  unfold up dn
  rw [highs_app, List.length_append, List.length_take, List.length_map]
  omega
end LwM
/-! An own class's +, !=, len; the text of a list of numbers. -/
namespace LwE
open PySem PySem.Spec PyProof.Rows L2
section
variable {X : Cx} {pins : List (Addr × Obj)} {σ : L2.St} {H : Hp} {s : Shared} {k : Nat} {f C : Addr} {fd : FuncData} {ps : List Str} {sp : Sp}
/-- a def called anywhere below the running body -/
theorem run_below {A : Around} {Q : VK} {us : List Value} {vs : List V} (F : FnOk X.prog X.w X.K X.mg X.base CX0 k f fd ps sp) (hr : Room k A) (e0 : Env0 X.prog X.w X.K X.mg X.base A X.stack s H) (hb : Binds X.K fd ps [])
    (I : Inv X pins σ H s) (r : Vals vs us) (h : sp vs H Q E0) : wpAny (model X.prog X.w) A (call (.ref f) us) (EP X pins σ Q) X.xe s := by
  have hl : (us ++ []).length = ps.length := by
    rw [List.append_nil, ← r.length]
    exact F.len _ _ _ _ h
  have b0 := hb s us I.kIn hl
  rw [List.append_nil] at b0
  refine wpAny_call (codeAny_mono (F.run A X.stack s H ⟨us, []⟩ us vs Q E0 hr e0 b0 r h) fun r s' hq => ?_)
  cases r with
  | error e => exact (show False from hq).elim
  | ok fl =>
    cases fl with
    | ret u => exact I.after hq
    | next => exact False.elim hq
    | brk => exact False.elim hq
    | cont => exact False.elim hq
theorem inst_of {dx a : Addr} {fs : List (Str × V)} (I : Inv X pins σ H s) (e : H a = some (.ins C dx fs)) : ∃ ox od, PySem.W.InstAt s.heap a ox C (some od) := by
  obtain ⟨mA, O, _⟩ := ins_get I.hok e
  obtain ⟨od, J, _⟩ := O.look
  exact ⟨_, od, J⟩
/-- len(o) -/
def rLenO (C : Addr) (sp : Sp) : List V → Hp → VK → Prop := fun xs H Q => ∃ a dx fs, xs = [V.ref a] ∧ H a = some (.ins C dx fs) ∧ sp [.ref a] H (fun z H' => ∃ i : Int, z = .int i ∧ (0 ≤ i ∧ i < 2 ^ 63) ∧ Q (.int i) H') E0
theorem call_lenO (hs : PySem.W.findIn X.K (.ref C) "__len__" = some (some (.ref f))) (hf : PySem.W.isFn X.K (.ref f) = true) (F : FnOk X.prog X.w X.K X.mg X.base CX0 k f fd ps sp) (hb : Binds X.K fd ps []) (hr : Room (k + 1) X.A) :
    CallR X (.builtin "len") (rLenO C sp) := by
  intro pins s σ H xs us Q I r h
  obtain ⟨a, dx, fs, rfl, e, q⟩ := h
  obtain ⟨u, rfl, ru⟩ := vals1 r
  obtain rfl : u = Value.ref a := ru
  obtain ⟨ox, od, J⟩ := inst_of I e
  obtain ⟨m, hF⟩ := I.fr
  refine PySem.W.len_K hF I.ok.mod.kin J hs hf (wpAny_mono (run_below (vs := [.ref a]) F hr.in1 I.env0.in1 hb I (.cons rfl .nil) q) (fun v s' z => ?_) fun _ _ x => x)
  obtain ⟨z', H', I', rz, i, rfl, hi, q'⟩ := z
  obtain ⟨t, rfl⟩ := (show ∃ t, v = Value.int i t from rz)
  exact ⟨hi, .int i, H', I'.tok _, ⟨_, rfl⟩, q'⟩
/-- a + b, two of one class -/
def rTwoO (C : Addr) (sp : Sp) : R2 := fun x y H Q => ∃ a dx fs b dy gs, x = .ref a ∧ y = .ref b ∧ H a = some (.ins C dx fs) ∧ H b = some (.ins C dy gs) ∧ sp [x, y] H Q E0
theorem op_addO (hs : PySem.W.findIn X.K (.ref C) "__add__" = some (some (.ref f))) (hf : PySem.W.isFn X.K (.ref f) = true) (hc : PySem.W.selfFirst X.K C = true) (F : FnOk X.prog X.w X.K X.mg X.base CX0 k f fd ps sp) (hb : Binds X.K fd ps [])
    (hr : Room k X.A) : OpR X (binaryOp .Add) (rTwoO C sp) := by
  intro pins s σ H x y v u Q I rx ry h
  obtain ⟨a, dx, fs, b, dy, gs, rfl, rfl, ea, eb, q⟩ := h
  obtain rfl : v = Value.ref a := rx
  obtain rfl : u = Value.ref b := ry
  obtain ⟨ox, od, J⟩ := inst_of I ea
  obtain ⟨oy, oe, J'⟩ := inst_of I eb
  obtain ⟨m, hF⟩ := I.fr
  refine PySem.W.binop_K hF I.ok.mod.kin J J'.type hc hs hf (wpAny_mono (run_below (vs := [.ref a, .ref b]) F hr I.env0 hb I (.cons rfl (.cons rfl .nil)) q) (fun w s' z => ?_) fun _ _ x => x)
  obtain ⟨z', H', I', rz, qz⟩ := z
  exact SlX.cmpback rz ⟨z', H', I', rz, qz⟩
/-- a special method that is a built-in's, bound and called -/
theorem bound_slot {M : Model} {A : Around} {E : Value → Shared → Prop} {K : PySem.W.Frag} {x : Addr} {ox : Obj} {od : Option Obj} {name : Str} {B id : String} {args : List Value} {Q : Option Value → Shared → Prop} (Xk : K.In s.heap) (I : PySem.W.InstAt s.heap x ox C od)
    (hs : PySem.W.findIn K (.ref C) name = some (some (.builtin id))) (S : Slot B name id) (h : wpAny M A (call (.builtin id) (.ref x :: args)) (fun v => Q (some v)) E s) : wpAny M A (callSpecialIfBound? (.ref x) name args) Q E s := by
  simp only [callSpecialIfBound?, bindSpecialIfBound?]
  refine wpAny_holding (wpAny_bind (wpAny_bind (wpAny_bind (I.type.here ((PySem.W.looks_findIn Xk hs).here ?_)))))
  simp only [S.bind]
  refine wpAny_bind (wpAny_askSetting (wpAny_ite ?_))
  have fin : wpAny M A (call (.builtin id) ([.ref x] ++ args) >>= fun v => pure (some v)) Q E s := wpAny_bind (wpAny_mono h (fun v s' z => wpAny_pure z) fun _ _ z => z)
  split
  · exact wpAny_bind (wpAny_pure (wpAny_pure fin))
  · exact wpAny_tryCatch (wpAny_bind (wpAny_pure (wpAny_pure fin)))
/-- a != b by the class's own == -/
def rNeO (C : Addr) (sp : Sp) : R2 := fun x y H Q => ∃ a dx fs b dy gs, x = .ref a ∧ y = .ref b ∧ H a = some (.ins C dx fs) ∧ H b = some (.ins C dy gs) ∧ sp [x, y] H (fun z H' => ∃ c : Bool, z = .bl c ∧ Q (.bl (!c)) H') E0
theorem op_neO (hs : PySem.W.findIn X.K (.ref C) "__eq__" = some (some (.ref f))) (hf : PySem.W.isFn X.K (.ref f) = true) (hn : PySem.W.findIn X.K (.ref C) "__ne__" = some (some (.builtin "object.__ne__"))) (hm : PySem.W.mroIn X.K C (.type "object") = some true)
    (F : FnOk X.prog X.w X.K X.mg X.base CX0 k f fd ps sp) (hb : Binds X.K fd ps []) (hr : Room (k + 1) X.A) : OpR X (compareOp .NotEq) (rNeO C sp) := by
  intro pins s σ H x y v u Q I rx ry h
  obtain ⟨a, dx, fs, b, dy, gs, rfl, rfl, ea, eb, q⟩ := h
  obtain rfl : v = Value.ref a := rx
  obtain rfl : u = Value.ref b := ry
  obtain ⟨ox, od, J⟩ := inst_of I ea
  obtain ⟨oy, oe, J'⟩ := inst_of I eb
  have Xk := I.kIn
  have hcall : wpAny (model X.prog X.w) X.A.in1 (call (.ref f) [.ref a, .ref b]) (fun w s' => ∃ c, w = .bool c ∧ EP X pins σ Q (.bool (!c)) s') X.xe s :=
    wpAny_mono (run_below (vs := [.ref a, .ref b]) F hr.in1 I.env0.in1 hb I (.cons rfl (.cons rfl .nil)) q) (fun w s' z => by
      obtain ⟨z', H', I', rz, c, rfl, qz⟩ := z
      obtain rfl : w = Value.bool c := rz
      exact ⟨c, rfl, .bl (!c), H', I', rfl, qz⟩) fun _ _ x => x
  have h1 : X.A.units < cLine := hr.units0
  have h2 : X.A.in1.units < cLine := by
    have := hr.units
    show X.A.units + 1 < cLine
    omega
  have sub : PySem.W.Looks (model X.prog X.w) s.heap (isInstance (.ref a) (.type "object")) true := J.type.andThen (PySem.W.looks_mroIn Xk hm)
  have body : wpAny (model X.prog X.w) X.A.in1 (Builtin.«object.__ne__» ⟨[.ref a, .ref b], []⟩) (fun fin s' => ∃ c, fin = .done (.ret (.bool (!c))) ∧ EP X pins σ Q (.bool (!c)) s') X.xe s := by
    unfold Builtin.«object.__ne__»
    repeat (first
      | with_reducible refine wpAny_cRoomFor h2 ?_
      | (refine wpAny_bind (m := callSpecialIfBound? (.ref a) (Str.ofString "__eq__") [.ref b]) (PySem.W.ifBound_K Xk J hs hf (wpAny_mono hcall (fun r s' hq => by
          obtain ⟨c, rfl, qz⟩ := hq
          repeat (first | exact ⟨c, rfl, qz⟩ | exact wpAny_pure ⟨c, rfl, qz⟩ | exact wpAny_truthy_bool ⟨c, rfl, qz⟩ | (refine wpAny_bind (m := truthy (.bool _)) (wpAny_truthy_bool ?_)) | wp_step)) fun _ _ e => e)))
      | wp_step)
  have one : wpAny (model X.prog X.w) X.A (tryCompare (.ref a) "__ne__" (.ref b)) (fun r s' => ∃ c : Bool, r = some (.bool (!c)) ∧ EP X pins σ Q (.bool (!c)) s') X.xe s := by
    simp only [tryCompare]
    refine wpAny_bind (bound_slot (B := "object") Xk J hn PySem.F.cmp_object.ne (wpAny_call (codeAny_call_builtin PySem.F.cmp_object.ne.plain PySem.F.cmpEntry_ne
      (@PySem.W.check_slot (model X.prog X.w) _ _ s "object.__ne__" "object" "__ne__" (.ref a) [.ref b] [] _ PySem.F.cmpKind_ne PySem.F.cmpSplit_ne sub (PySem.F.cmpArgs_ne _ _) ?_))))
    refine wpAny_mono body (fun fin s' z => ?_) fun _ _ e => e
    obtain ⟨c, rfl, qz⟩ := z
    first | exact ⟨c, rfl, qz⟩ | exact wpAny_pure ⟨c, rfl, qz⟩
  show wpAny _ _ (richCompare .NotEq (.ref a) (.ref b)) _ _ _
  unfold richCompare
  simp only [oneThing_ref]
  refine wpAny_holding (wpAny_bind (wpAny_cRoomFor h1 ?_))
  rw [cmpInfo_NotEq]
  dsimp only
  refine wpAny_bind (J.type.here (wpAny_bind (J'.type.here ?_)))
  rw [show (Value.ref C != Value.ref C) = false from by simp]
  simp only [Bool.false_eq_true, if_false]
  refine wpAny_bind (wpAny_pure ?_)
  simp only [Bool.false_eq_true, if_false]
  refine wpAny_bind (wpAny_mono one (fun r s' z => ?_) fun _ _ e => e)
  obtain ⟨c, rfl, qz⟩ := z
  first | exact wpAny_pure qz | exact wpAny_pure (wpAny_pure qz)
/-- repr(x), x a list or tuple of what is data -/
def rReprD (K : PySem.W.Frag) : List V → Hp → VK → Prop := fun xs H Q => ∃ (a : Addr) (d : PyData), xs = [V.ref a] ∧ Dp K H (.ref a) d ∧ d.showable = true ∧ d.hasDict = false ∧ d.depth ≤ 8 ∧ d.shown.length ≤ sizeLine ∧ Q (.str d.shown) H
theorem call_reprD (hg : X.A.guards = some []) (hu : X.A.units + 64 < cLine) : CallR X (.builtin "repr") (rReprD X.K) := by
  intro pins s σ H xs us Q I r h
  obtain ⟨a, d, rfl, hd, h1, h2, h3, h4, q⟩ := h
  obtain ⟨u, rfl, ru⟩ := vals1 r
  obtain ⟨as, rd⟩ := Dp.reads I d _ _ hd ru
  obtain rfl : u = Value.ref a := ru
  refine repr_of_reads' rd h1 (fun z => by rw [h2] at z; cases z) hg (by omega) (fun b o e => e) (fun h' t tk kp => ?_) h4
  exact ⟨.str d.shown, H, I.kept kp, ⟨_, rfl⟩, q⟩
end
end LwE
/-! Kx. An exception that was caught by one of three classes, noted under a name, and is held behind the try. -/
namespace LwE
open PySem PySem.Spec PyProof.Rows L2
/-- an exception that was caught, at a -/
def ExK (cls : Value) (d : Option Addr) (a : Addr) : HO := .ext fun h => ∃ (oe : Obj) (vs : Array Value), h.get? a = some oe ∧ Zc cls d oe ∧ oe.data = .fields vs
theorem exK_at {P : Program} {w : World} {H : Hp} {h : Heap} {a : Addr} {cls : Value} {d : Option Addr} (hok : HOk P w H h) (e : H a = some (ExK cls d a)) : ∃ (oe : Obj) (vs : Array Value), h.get? a = some oe ∧ Zc cls d oe ∧ oe.data = .fields vs :=
  (show ObjOk P w H h a (ExK cls d a) from hok a _ e).1
section
variable {X : Cx} {pins : List (Addr × Obj)} {σ : L2.St} {H : Hp} {s : Shared}
/-- an object that is new here and was not told of is told of from now on -/
theorem inv_track {a : Addr} {o : HO} (I : Inv X pins σ H s) (ok : ObjOk X.prog X.w (upd H a o) s.heap a o) (na : H a = none) (nL : a ≠ X.env.locals) (nC : ∀ x c, X.env.cells.lookup x = some c → c ≠ a)
    (new : X.s_0.heap.get? a = none) (np : ∀ p ∈ X.pn ++ pins, p.1 ≠ a) : Inv X pins σ (upd H a o) s := by
  have old : ∀ {b u}, H b = some u → upd H a o b = some u := fun {b u} e => by
    rw [upd_ne (ne_of_none e na)]
    exact e
  have out : ∀ {b}, b ≠ a → H b = none → upd H a o b = none := fun {b} n e => by
    rw [upd_ne n]
    exact e
  have U : Un X.fs X.ex X.H_0 (upd H a o) X.s_0.heap s.heap :=
    { keep := I.base.keep, slot := I.base.slot, there := I.base.there
      free := fun b u e n hx => out (fun z => by rw [z, new] at e; cases e) (I.base.free b u e n hx)
      tups := fun b xs e => old (I.base.tups b xs e)
      frzs := fun b u v e => old (I.base.frzs b u v e)
      tbls := fun b ps e => let ⟨more, q⟩ := I.base.tbls b ps e; ⟨more, old q⟩ }
  refine ⟨I.ok, I.os, I.bare, U, I.loc, I.cell, out nL.symm I.free, fun x c e => out (nC x c e) (I.freeC x c e), fun p hp => ?_, fun b u e => ?_, I.len⟩
  · obtain ⟨h1, h2, h3⟩ := I.pin p hp
    exact ⟨h1, out (np p hp) h2, h3⟩
  · by_cases hb : b = a
    · rw [hb] at e ⊢
      rw [upd_same] at e
      cases e
      exact ok
    · rw [upd_ne hb] at e
      exact (I.hok b u e).stay (fun _ _ _ q => q) (fun _ q => old q) fun _ _ q => old q
/-- what was caught is known from now on -/
theorem inv_hold {a : Addr} {oe : Obj} {vs : Array Value} {cls : Value} {d : Option Addr} (I : Inv X pins σ H s) (ha : s.heap.get? a = some oe) (hz : Zc cls d oe) (hd : oe.data = .fields vs) (na : H a = none)
    (nL : a ≠ X.env.locals) (new : X.s_0.heap.get? a = none) (np : ∀ p ∈ X.pn ++ pins, p.1 ≠ a) : Inv X pins σ (upd H a (ExK cls d a)) s := by
  refine inv_track I ⟨⟨oe, vs, ha, hz, hd⟩, ⟨oe, ha⟩, fun _ _ ⟨o, v, q, r⟩ k => ⟨o, v, k o q, r⟩⟩ na nL (fun x c e z => ?_) new np
  obtain ⟨v, o, ho, hv⟩ := I.cell x c e
  rw [z, ha] at ho
  cases ho
  rw [hd] at hv
  cases hv
/-- an exception in flight, while more is laid -/
theorem flyingZ_keeps {B h h' : Heap} {l : List Env} {a : Addr} {Z : Obj → Prop} (f : HandSPX.FlyingZ B l a Z h) (k : ∀ b o, h.get? b = some o → h'.get? b = some o) : HandSPX.FlyingZ B l a Z h' := by
  obtain ⟨f1, f2, f3, oe, vs, T, oT, ts, g1, g2, g3, g4, g5, g6, g7, g8⟩ := f
  exact ⟨fun b o q => k _ _ (f1 b o q), f2, f3.of_keeps fun b o q _ => ⟨o, k _ _ q, rfl⟩, oe, vs, T, oT, ts, k _ _ g1, g2, g3, g4, g5, g6, k _ _ g7, g8⟩
end
/-- what the clause wishes of an exception of the body: slot i is its name's, which goes behind the suite; the exception stays known -/
def wHold (K : PySem.W.Frag) (cs : List Value) (i : Nat) (ts : Addr → Value → Option Addr → TS) (D : Ends) : WX := fun cls d σ H =>
  PySem.W.exmAny K cls cs = some true ∧ ∀ a, H a = none → ts a cls d { nx := fun σ' H' => D.nx (σ'.set i none) (upd H' a (ExK cls d a)), rt := fun _ _ => False, bk := fun _ _ => False, ct := fun _ _ => False } (σ.set i (some (.ref a))) H
section
variable {X : Cx} {x1 x2 x3 n : Str} {c1 c2 c3 : Value} {i : Nat} {body suite : List Stmt} {b₀ : Stmt} {q1 q2 q3 tp pos pos' : Pos} {kk : Nat} {tb : WX → TS} {ts : Addr → Value → Option Addr → TS}
/-- three classes in a tuple, looked up while an exception is at hand -/
theorem tup3_ok {pins : List (Addr × Obj)} {σ : L2.St} {H : Hp} {s : Shared} {Q : Value → Shared → Prop} {E : Value → Shared → Prop} (I : Inv X pins σ H s) (n1 : Gl X x1 ∧ X.mg x1 = some c1) (n2 : Gl X x2 ∧ X.mg x2 = some c2) (n3 : Gl X x3 ∧ X.mg x3 = some c3)
    (d1 : (x1 == ("__debug__" : Str)) = false) (d2 : (x2 == ("__debug__" : Str)) = false) (d3 : (x3 == ("__debug__" : Str)) = false)
    (h : Q (.ref s.heap.objs.size) { s with heap := s.heap.push { cls := .type "tuple", data := .seq [c1, c2, c3].toArray } }) : wpAny (model X.prog X.w) X.A (eval (.Tuple [.Name x1 q1, .Name x2 q2, .Name x3 q3] kk tp) X.env) Q E s := by
  refine wpAny_Tuple (wpAny_items_cons (ld_glob I n1.1 n1.2 (wpAny_items_cons (ld_glob I n2.1 n2.2 (wpAny_items_cons (ld_glob I n3.1 n3.2 (wpAny_items_nil ⟨?_, h⟩) d3)) d2)) d1))
  show 3 ≤ sizeLine
  decide
theorem ps_try_hold (hs : X.stack = X.env :: X.outer) (hf : X.env.frame = some X.env.locals) (hex : X.ex = []) (hN : X.N.Nodup) (hi : X.N[i]? = some n) (hln : X.env.kindOf n = some .local)
    (n1 : Gl X x1 ∧ X.mg x1 = some c1) (n2 : Gl X x2 ∧ X.mg x2 = some c2) (n3 : Gl X x3 ∧ X.mg x3 = some c3)
    (hb : ∀ (W : WX) (pn : List (Addr × Obj)) (xe : Value → Shared → Prop), Takes (X.tr pn xe) W → PassesOwn (model X.prog X.w) X.A X.env xe → PSs (X.tr pn xe) body (tb W))
    (hsu : ∀ (a : Addr) (oe : Obj) (cls : Value) (d : Option Addr) (pn : List (Addr × Obj)), Zc cls d oe → (∃ vs, oe.data = .fields vs) → PSs (X.suite a ((a, oe) :: pn)) (b₀ :: suite) (ts a cls d))
    (d1 : (x1 == ("__debug__" : Str)) = false := by decide) (d2 : (x2 == ("__debug__" : Str)) = false := by decide) (d3 : (x3 == ("__debug__" : Str)) = false := by decide) :
    PS X (.Try body [.ExceptHandler (some (.Tuple [.Name x1 q1, .Name x2 q2, .Name x3 q3] kk tp)) (some n) (b₀ :: suite) pos'] [] [] pos) (fun D σ H => tb (wHold X.K [c1, c2, c3] i ts D) D σ H) := by
  constructor
  intro pins s σ H D I h
  have ok := I.ok
  refine wpAny_Try_except (wpAny_mono ((hb (wHold X.K [c1, c2, c3] i ts D) (X.pn ++ pins) (fun e r => wpAny (model X.prog X.w) X.A (noteFrame e X.env) (fun _ r => wpAny (model X.prog X.w) X.A (setFlight e none) (fun _ r =>
      wpAny (model X.prog X.w) X.A (handleBy e X.env [.ExceptHandler (some (.Tuple [.Name x1 q1, .Name x2 q2, .Name x3 q3] kk tp)) (some n) (b₀ :: suite) pos']) (SP X pins D) X.xe r) X.xe r) X.xe r) ?_ PassesOwn.looking).run [] s σ H D (I.toTry _) h)
      (fun f r hr => ?_) fun _ _ z => z)
  · rintro u r ⟨a, B, sI, pins', σ', H', cls, d, rfl, J', nb, up, sky, na, os, ag, hit, yes⟩
    have J : Inv X pins σ' H' sI := J'.ofTry ok
    rw [show (X.tr (X.pn ++ pins) _).stack = X.env :: X.outer from hs] at sky
    have hfr : X.A.frames = some (X.env :: X.outer) := by rw [ok.frames, hs]
    show wpAny (model X.prog X.w) X.A (noteFrame (.ref a) X.env) _ _ _
    refine Sky.land Zc.steady hfr hf sky fun h3 fl up3 => ?_
    have I3 : Inv X pins σ' H' { r with heap := h3 } := J.landed nb fl.1 (up.trans up3) os ag
    obtain ⟨oe, vs, ge, ze, de⟩ := fl.there
    -- where a stands not
    have nfr : a ∉ frs (X.env :: X.outer) := fun hm => by
      obtain ⟨_, o, e, no⟩ := fl.2.2.1.mem hm
      rw [ge] at e
      cases e
      exact no _ de
    have nL : a ≠ X.env.locals := fun z => nfr (List.mem_filterMap.mpr ⟨X.env, List.mem_cons_self, by rw [hf, z]⟩)
    have nF : a ∉ X.fs := fun hm => by
      obtain ⟨e, he, q⟩ := List.mem_filterMap.mp hm
      exact nfr (List.mem_filterMap.mpr ⟨e, List.mem_cons_of_mem _ he, q⟩)
    have gone : sI.heap.get? a = none := by
      cases e : sI.heap.get? a with
      | none => rfl
      | some o =>
        have z := nb a o e (by rw [hs]; exact nfr)
        rw [fl.2.1] at z
        cases z
    have new : X.s_0.heap.get? a = none := by
      cases e : X.s_0.heap.get? a with
      | none => rfl
      | some o =>
        obtain ⟨o', z⟩ := J.base.there a o e (by rw [hex]; simp)
        rw [gone] at z
        cases z
    have np : ∀ p ∈ X.pn ++ pins, p.1 ≠ a := fun p hp z => by
      have := (J.pin p hp).1
      rw [z, gone] at this
      cases this
    have S3 := I3.suite ge de na nL nF
    -- the test
    refine wpAny_handleBy_cons (codeAny_handlers_test ?_) (by intro q; cases q)
    refine tup3_ok (X := X.suite a ((a, oe) :: (X.pn ++ pins))) S3 n1 n2 n3 d1 d2 d3 ?_
    have kp : ∀ b o, h3.get? b = some o → (h3.push { cls := .type "tuple", data := .seq [c1, c2, c3].toArray }).get? b = some o := fun _ _ z => Heap.get?_push_of_some _ z
    have ty : PySem.W.Looks (model X.prog X.w) h3 (typeOf (.ref a)) cls := fun _ _ _ _ k q => wpAny_typeOf_ref (k _ _ ge) (by rw [ze.1]; exact q)
    refine (PySem.W.exm_tup3 (M := model X.prog X.w) (I3.kIn.keeps kp) (ty.keeps kp) (Heap.get?_push_size h3 rfl) hit).here ?_
    have fl4 := flyingZ_keeps fl kp
    have up4 : h3.UpToSlots (h3.push { cls := .type "tuple", data := .seq [c1, c2, c3].toArray }) := Heap.UpToSlots.of_keeps kp
    -- the suite
    refine codeAny_handlers_suite_as (HandSPX.lands_againZ fl4 fun h5 fl5 up5 => ?_)
    have I5 : Inv X pins σ' H' { r with heap := h5 } := J.landed nb fl5.1 (((up.trans up3).trans up4).trans up5) os ag
    obtain ⟨oe5, vs5, ge5, ze5, de5⟩ := fl5.there
    refine store_ok (X := X.suite a ((a, oe5) :: (X.pn ++ pins))) (v := .ref a) (I5.suite ge5 de5 na nL nF) hN hi (.inl hln) rfl (fun s6 S6 => ?_) (.inr hln)
    refine wpAny_mono ((hsu a oe5 cls d (X.pn ++ pins) ze5 ⟨_, de5⟩).run [] s6 _ H' _ S6 (yes a na)) (fun f s7 hr => ?_) fun _ _ z => z.elim
    cases f with
    | next =>
      obtain ⟨σ7, H7, S7, q7⟩ := hr
      obtain ⟨p1, p2, p3, p4, _⟩ := S7.pin (a, oe5) (List.mem_append_left _ List.mem_cons_self)
      exact gone_ok (inv_hold (S7.unsuite ok) p1 ze5 de5 p2 p3 new np) hN hi hln fun s8 J8 => ⟨_, _, J8, q7⟩
    | brk =>
      obtain ⟨_, _, _, z⟩ := hr
      exact z.elim
    | cont =>
      obtain ⟨_, _, _, z⟩ := hr
      exact z.elim
    | ret u =>
      obtain ⟨_, _, _, _, _, z⟩ := hr
      exact z.elim
  · cases f with
    | next =>
      obtain ⟨σ', H', J', q⟩ := hr
      exact wpAny_execs_nil ⟨σ', H', J'.ofTry ok, q⟩
    | brk =>
      obtain ⟨σ', H', J', q⟩ := hr
      exact ⟨σ', H', J'.ofTry ok, q⟩
    | cont =>
      obtain ⟨σ', H', J', q⟩ := hr
      exact ⟨σ', H', J'.ofTry ok, q⟩
    | ret u =>
      obtain ⟨v, σ', H', J', rv, q⟩ := hr
      exact ⟨v, σ', H', J'.ofTry ok, rv, q⟩
end
/-! ### isinstance of it, its field -/
/-- what the class of a held exception must say -/
structure HeldC (K : PySem.W.Frag) (C : Addr) : Prop where
  ga : PySem.W.findIn K (.ref C) "__getattribute__" = some (some (.builtin "BaseException.__getattribute__"))
  gg : PySem.W.findIn K (.ref C) "__getattr__" = some none
  exC : PySem.W.subIn K (.ref C) (.type "BaseException") = some true
  hd : PySem.W.hasDictIn K C = true
  ca : PySem.W.findIn K (.ref C) "__class__" = some (some (.builtin "object.__class__"))
  cm : PySem.W.mroIn K C (.type "object") = some true
structure HeldK (K : PySem.W.Frag) : Prop where
  cn : PySem.W.specialIn K (.builtin "object.__class__") "__get__" = some (some (.builtin "getset_descriptor.__get__"))
  ct : PySem.W.takesIn K (.builtin "object.__class__") = some true
def rIsHeld (K : PySem.W.Frag) : List V → Hp → VK → Prop := fun xs H Q => ∃ (a C : Addr) (d : Addr) (fs : List (Str × V)) (c : V) (u : Value) (b : Bool), xs = [.ref a, c] ∧ HeldC K C ∧ H a = some (ExK (.ref C) (some d) a) ∧ H d = some (.xd fs) ∧ ClsV c u ∧
  PySem.W.kitOne K (.ref C) u = some b ∧ Q (.bl b) H
section
variable {X : Cx}
theorem held_inst {pins : List (Addr × Obj)} {σ : L2.St} {H : Hp} {s : Shared} {a C d : Addr} {fs : List (Str × V)} (I : Inv X pins σ H s) (ha : H a = some (ExK (.ref C) (some d) a)) (hd : H d = some (.xd fs)) :
    ∃ (oe od : Obj) (mA : Str → Option Value), PySem.W.InstAt s.heap a oe C (some od) ∧ (∀ y, PySem.W.lookIn y od = some (mA y)) ∧ ∀ f, RelO (fs.lookup f) (mA f) := by
  obtain ⟨oe, vs, ge, ze, de⟩ := exK_at I.hok ha
  obtain ⟨mA, hns, hr⟩ := (show ObjOk X.prog X.w H s.heap d (.xd fs) from I.hok d _ hd)
  obtain ⟨od, ho, hl⟩ := lookIn_ns hns
  exact ⟨oe, od, mA, ⟨ge, ze.1, by unfold PySem.W.notCls; rw [de] <;> rfl, by rw [ze.2]; exact ho⟩, hl, hr⟩
theorem call_isHeld (T : HeldK X.K) : CallR X (.builtin "isinstance") (rIsHeld X.K) := by
  intro pins s σ H xs us Q I r h
  obtain ⟨a, C, d, fs, c, u, b, rfl, Cl, ha, hd, k, e, q⟩ := h
  obtain ⟨u1, u2, rfl, r1, r2⟩ := vals2 r
  have e2 := k.eq r2
  subst e2
  obtain rfl : u1 = Value.ref a := r1
  obtain ⟨oe, od, mA, J, _, _⟩ := held_inst I ha hd
  have hcl : (PySem.W.clsIn X.K C).isSome = true := by
    obtain ⟨cd, hc, _⟩ := PySem.W.any_some Cl.hd
    rw [hc]
    rfl
  exact PySem.W.kia_one (PySem.W.kitx_exc hcl Cl.ga Cl.gg Cl.exC Cl.ca T.cn T.ct Cl.cm) I.kIn J e (fun z => nomatch z) fun tk => ⟨.bl b, H, I.tok tk, rfl, q⟩
/-- held.f -/
def tFldHeld (K : PySem.W.Frag) (f : Str) (te : TE) : TE := fun σ H Q => te σ H fun x H1 => ∃ (a C d : Addr) (fs : List (Str × V)) (v : V), x = .ref a ∧ HeldC K C ∧ PySem.W.findIn K (.ref C) f = some none ∧ H1 a = some (ExK (.ref C) (some d) a) ∧ H1 d = some (.xd fs) ∧ fs.lookup f = some v ∧ Q v H1
theorem pe_fldHeld {e : Expr} {te : TE} {pos : Pos} {f : Str} (he : PE X e te) (hb : attributeBase e f X.env (eval e X.env) = eval e X.env := by rfl) : PE X (.Attribute e f pos) (tFldHeld X.K f te) := by
  constructor
  intro pins s σ H Q I h
  refine attr_of hb (thn (he.run pins s σ H _ I h) fun u s1 hh => ?_)
  obtain ⟨x, H1, I1, rx, a, C, d, fs, v, rfl, Cl, hno, ha, hd, l, q⟩ := hh
  obtain rfl : u = Value.ref a := rx
  obtain ⟨oe, od, mA, J, hl, hr⟩ := held_inst I1 ha hd
  obtain ⟨u, hu, ru⟩ := RelO.some_of (v := v) (o := mA f) (by rw [← l]; exact hr f)
  exact HandSPX.exc_get I1.kIn J Cl.ga Cl.gg Cl.exC (PySem.W.findObj_own Cl.hd hno rfl (by rw [hl, hu])) (handed_of ru) ⟨v, H1, I1.tok _, ru, q⟩
end
end LwE
/-! Ex. An own exception class, over any built-in one, whose __init__ notes one field. -/
namespace LwE
open PySem PySem.Spec PyProof.Rows L2
/-- what the written part says of the class; bm: what stands behind it in its order -/
structure OexG (K : PySem.W.Frag) (C : Addr) (newId : String) (bmB : List Value) : Prop where
  cls : ∃ nm q N bs bm sn sub ab col dd k0 k1 k2 k3 k5, K.lookup C = some (excClassObj nm q C N bs bm true sn sub ab col dd k0 k1 k2 k3 k5 newId) ∧
    (∀ self : Value, refuseLoop self "__setattr__" bm = pure ()) ∧ (∀ Y : String, bm.contains (.type Y) = bmB.contains (.type Y)) ∧ bm.contains (.type "object") = true
  sa : PySem.W.findIn K (.ref C) "__setattr__" = some (some (.builtin "object.__setattr__"))
  exC : PySem.W.subIn K (.ref C) (.type "BaseException") = some true
  tyC : PySem.W.typeIn K (.ref C) = some (.type "type")
  kC : PySem.W.keepIn K (.ref C) = true
abbrev bmV : List Value := [.type "ValueError", .type "Exception", .type "BaseException", .type "object"]
abbrev bmO : List Value := [.type "OverflowError", .type "ArithmeticError", .type "Exception", .type "BaseException", .type "object"]
abbrev bmR : List Value := [.type "RuntimeError", .type "Exception", .type "BaseException", .type "object"]
theorem oexG_V {K : PySem.W.Frag} {C : Addr} (T : OexC K C) : OexG K C "ValueError.__new__" bmV := by
  obtain ⟨nm, q, N, bs, bm, sn, sub, ab, col, dd, k0, k1, k2, k3, k5, h, hb⟩ := T.cls
  exact ⟨⟨nm, q, N, bs, bm, sn, sub, ab, col, dd, k0, k1, k2, k3, k5, h, fun self => PySem.HandSPX.refsVE_pass self bm hb, fun Y => PySem.HandSPX.refsVE_contains Y bm hb, (PySem.HandSPX.refsVE_contains "object" bm hb).trans (by decide +kernel)⟩, T.sa, T.exC, T.tyC, T.kC⟩
section
open Builtin Builtin.ObjectAttr PySem.W PySem.HandSPX
variable {prog : Program} {w : World} {A : Around} {R : Result → Shared → Prop} {hp : Heap} {g : Array GenState} {d : Drawn} {t : Nat} {os : OsState} {K : Frag} {name : Str} {tk : Tok} {v : Value} {x C : Addr} {fv : Array Value} {cd : ClassData}
/-- the first field of an exception that has no dict -/
theorem first_field (X : K.In hp) (hx : hp.get? x = some { cls := .ref C, data := .fields fv }) (hcd : clsIn K C = some cd) (hpass : ∀ self : Value, refuseLoop self "__setattr__" cd.mro = pure ()) (hne : cd.mro.isEmpty = false) (hob : cd.mro.contains (.type "object") = true)
    (hh : cd.hasDict = true) (ha : findIn K (.ref C) name = some none)
    (hq : ∀ h' tk' dx, (∀ b o, b ≠ x → hp.get? b = some o → h'.get? b = some o) → hp.objs.size ≤ dx → dx ≠ x → h'.get? x = some { cls := .ref C, dict := some dx, data := .fields fv } → h'.Ns1 dx (fun y => if y = name then some v else none) → R (.ok (.ret .none)) ⟨h', g, d, tk', os⟩) :
    codeAny (model prog w) A (.call (.builtin "object.__setattr__") ⟨[.ref x, .str name tk, v], []⟩) R ⟨hp, g, d, t, os⟩ := by
  have inst : InstAt hp x { cls := .ref C, data := .fields fv } C none := ⟨hx, rfl, rfl, trivial⟩
  have far : hp.objs.size ≠ x := Nat.ne_of_gt (Heap.lt_size hx)
  have mro1 : mroIn K C (.type "object") = some true := by
    unfold mroIn
    rw [hcd, Option.bind_some, hne, hob]
    rfl
  have mro2 : Looks (model prog w) hp (mroOf (.ref C)) cd.mro := (looks_clsIn X hcd).andThen .now
  have cls2 : Looks (model prog w) hp (classData C) cd := looks_clsIn X hcd
  have taker : Looks (model prog w) hp (storeTaker? none) none := .now
  have S := F.store_object
  refine codeAny_call_builtin S.slot.plain S.entry (@check_slot (model prog w) _ _ ⟨hp, g, d, t, os⟩ _ _ _ (.ref x) [.str name tk, v] [] _ S.kind S.split (inst.type.andThen (looks_mroIn X mro1)) (S.args (.ref x) (.str name tk) v) ?_)
  rw [osa_eq, refuse_eq]
  refine wpAny_bind (wpAny_bind (inst.type.at (wpAny_bind (mro2.at ?_))))
  rw [hpass]
  refine wpAny_pure (wpAny_bind (inst.type.at (wpAny_bind ((looks_findIn X ha).at (wpAny_bind (taker.at ?_))))))
  change wpAny _ _ (storeInOwnDict (.ref x) (.ref C) (.str name tk) name v false) _ _ _
  obtain ⟨_, _, _, _, _, hd, _, _, _, _, _⟩ := cd
  obtain rfl : hd = true := hh
  unfold storeInOwnDict ownDictForStores
  repeat (first | with_reducible refine store_in_new ?_ ?_ | with_reducible refine wpAny_loadPart_at hx ?_ | with_reducible refine cls2.at ?_ | wp_step)
  · exact ⟨_, #[], _, (Heap.get?_update_ne _ _ _ _ far).trans (Heap.get?_push_at rfl rfl), rfl, fun e he => absurd he (by simp), fun _ => rfl⟩
  · intro h' tk' ns sb
    have keep : ∀ {b o}, b ≠ hp.objs.size → (hp.push { cls := .type "dict", data := .dict #[] }).get? b = some o → b ≠ x → h'.get? b = some o := fun {b o} n e nx => (sb.2 b n).trans ((Heap.get?_update_ne _ _ _ _ nx).trans e)
    refine hq h' tk' hp.objs.size (fun b o nx e => keep (Nat.ne_of_lt (Heap.lt_size e)) (Heap.get?_push_of_some _ e) nx) (Nat.le_refl _) far ?_ ns
    exact (sb.2 x far.symm).trans (Heap.get?_update_self _ (Heap.get?_push_of_some _ hx) rfl)
end
section
variable {X : Cx} {pins : List (Addr × Obj)} {σ : L2.St} {H : Hp} {s : Shared} {a C : Addr} {f : Str} {y : V} {u : Value} {newId : String} {bmB : List Value}
theorem note_first {Q : Unit → Shared → Prop} {E : Value → Shared → Prop} {A : Around} (hex : X.ex = []) (T : OexG X.K C newId bmB) (I : Inv X pins σ H s) (e : H a = some (exo a C none)) (hno : PySem.W.findIn X.K (.ref C) f = some none) (ry : RelV y u)
    (h : ∀ dx s', H dx = none → dx ≠ a → Inv X pins σ (upd (upd H dx (exd dx [(f, y)])) a (exo a C (some dx))) s' → Q () s') : wpAny (model X.prog X.w) A (setAttr (.ref a) f u) Q E s := by
  obtain ⟨nm, q, N, bs, bm, sn, sub, ab, col, dd, k0, k1, k2, k3, k5, hC, hpass, hcon, hob⟩ := T.cls
  have hcl : PySem.W.clsIn X.K C = some { name := nm, bases := bs, mro := .ref C :: bm, ns := N, qualname := q, hasDict := true, slotNames := sn, subclasses := sub, abstract := ab, collection := col, hasDel := false } := by
    unfold PySem.W.clsIn
    rw [hC] <;> rfl
  obtain ⟨t1, ho⟩ := exo_at I.hok e
  obtain ⟨hp, g, d, t, os⟩ := s
  refine PySem.W.set_plain I.kIn (od := none) ⟨ho, rfl, rfl, trivial⟩ T.sa (first_field I.kIn ho hcl (fun self => by rw [refuseLoop_ref]; exact hpass self) rfl (by rw [List.contains_cons, hob, Bool.or_true]) rfl hno fun h' tk' dx k dn dne hx hn => ?_)
  have hnd : H dx = none := I.hok.fresh dn
  have I1 : Inv X pins σ (upd H a (exo a C (some dx))) ⟨h', g, d, tk', os⟩ := I.write (t' := tk') (x := a) (e := a) (by rw [e]; exact True.intro) (.inl rfl) k ⟨_, hx⟩ (exo_ok hx)
  have old : ∀ {b o}, hp.get? b = some o → b ≠ dx := fun {b o} q => Nat.ne_of_lt (Nat.lt_of_lt_of_le (Heap.lt_size q) dn)
  have I2 : Inv X pins σ (upd (upd H a (exo a C (some dx))) dx (exd dx [(f, y)])) ⟨h', g, d, tk', os⟩ := by
    refine inv_track I1 (exd_ok hn (relO_put (fs := []) ry fun _ => True.intro)) (by rw [upd_ne dne]; exact hnd) ?_ (fun x c q => ?_) ?_ fun p hp' => ?_
    · obtain ⟨m, ⟨o, _, _, z, _⟩, _⟩ := I.loc
      exact (old z).symm
    · obtain ⟨w, o, z, _⟩ := I.cell x c q
      exact old z
    · cases z : X.s_0.heap.get? dx with
      | none => rfl
      | some o =>
        obtain ⟨o', z'⟩ := I.base.there dx o z (by rw [hex]; simp)
        exact absurd rfl (old z')
    · exact old (I.pin p hp').1
  refine h dx _ hnd dne ?_
  have sw : upd (upd H a (exo a C (some dx))) dx (exd dx [(f, y)]) = upd (upd H dx (exd dx [(f, y)])) a (exo a C (some dx)) := by
    funext b
    by_cases h1 : b = a
    · rw [h1, upd_same, upd_ne dne.symm, upd_same]
    · by_cases h2 : b = dx
      · rw [h2, upd_same, upd_ne dne, upd_same]
      · rw [upd_ne h2, upd_ne h1, upd_ne h1, upd_ne h2]
  rw [sw] at I2
  exact I2
/-- self.f = e, self an exception that is being made -/
def tNote (K : PySem.W.Frag) (f : Str) (to te : TE) : TS := fun D σ H => te σ H fun y H1 => to σ H1 fun x H2 => ∃ (a C : Addr) (newId : String) (bmB : List Value), x = .ref a ∧ OexG K C newId bmB ∧ PySem.W.findIn K (.ref C) f = some none ∧ H2 a = some (exo a C none) ∧
  ∀ dx, H2 dx = none → dx ≠ a → D.nx σ (upd (upd H2 dx (exd dx [(f, y)])) a (exo a C (some dx)))
theorem ps_note {o e : Expr} {to te : TE} {p' pos : Pos} (hex : X.ex = []) (ho : PE X o to) (he : PE X e te) (hs : swapsWith e (some (.Attribute o f p')) pos.line X.env = pure false := by rfl) : PS X (.Assign [.Attribute o f p'] e pos) (tNote X.K f to te) := by
  constructor
  intro pins s σ H D I h
  refine plainObj_wpAny_Assign_Attribute (thn (he.run pins s σ H _ I h) fun v s1 ⟨y, H1, I1, r1, q1⟩ => thn (ho.run pins s1 σ H1 _ I1 q1) fun u s2 ⟨x, H2, I2, r2, a, C, newId, bmB, ex, T, hno, ea, q⟩ => ?_) hs
  subst ex
  obtain rfl : u = Value.ref a := r2
  exact note_first hex T I2 ea hno r1 fun dx s' n ne J => ⟨σ, _, J, q dx n ne⟩
/-- C(e, ..), C's __init__ keeping sp -/
theorem pmk_note {B initId : String} {CX : CXT} {x : Str} {fI : Addr} {k : Nat} {fd : FuncData} {ps : List Str} {sp : Sp} {e : Expr} {es : List Expr} {ta : TA} {p pos : Pos} (Fa : ExcBaseFacts B newId initId bmB) (T : OexG X.K C newId bmB)
    (iC : PySem.W.findIn X.K (.ref C) "__init__" = some (some (.ref fI))) (tI : PySem.W.typeIn X.K (.ref fI) = some (.type "function")) (F1 : FnOk X.prog X.w X.K X.mg X.base CX k fI fd ps sp) (hr : Room (k + 1) X.A) (hb : Binds X.K fd ps [])
    (hx : Passes CX X (fun _ _ _ => False)) (hg : Gl X x) (hm : X.mg x = some (.ref C)) (ha : PA X (e :: es) ta) (hdb : (x == ("__debug__" : Str)) = false := by decide)
    (he : starEach (e :: es) X.env = (false, eval e X.env) :: starEach es X.env := by rfl) (hpl : (backTo pos (starEach es X.env)).any (·.1) = false := by rfl) :
    PMk X (.Call (.Name x p) (e :: es) [] pos) (tMkO C sp [] ta) := by
  intro pins s σ H Q I h
  obtain ⟨nm, q, N, bs, bm, sn, sub, ab, col, dd, k0, k1, k2, k3, k5, hC, hpass, hcon, hob⟩ := T.cls
  refine wpAny_Call_Name_kw (ld_glob I hg hm (PySem.W.callWith_K (h₀ := X.base) I.ok.mod.kin T.kC (thn (ha.run pos pins s σ H _ I h) fun us s1 ⟨vs, H1, I1, r1, hz, q1⟩ => ⟨I1.kIn, ?_⟩) he hpl) hdb)
  obtain ⟨hp, g, dr, tk, os⟩ := s1
  have keep : ∀ b o, hp.get? b = some o → ((hp.push (PySem.W.kdv_tup us)).push (PySem.HandSPX.excO C hp.objs.size)).get? b = some o := fun b o e => Heap.get?_push_of_some _ (Heap.get?_push_of_some _ e)
  have here : ((hp.push (PySem.W.kdv_tup us)).push (PySem.HandSPX.excO C hp.objs.size)).get? (hp.objs.size + 1) = some (PySem.HandSPX.excO C hp.objs.size) := by heap_get
  have hn : H1 (hp.objs.size + 1) = none := I1.hok.fresh (Nat.le_succ _)
  have sp1 := q1 _ hn
  have I2 := I1.laid (t' := tk) (o := exo (hp.objs.size + 1) C none) keep (Nat.le_succ _) (exo_ok here)
  have len : us.length ≤ sizeLine := by
    rw [← Paired.length r1, sizeLine_eq]
    omega
  rw [List.append_nil] at sp1
  have r2 : Vals (V.ref (hp.objs.size + 1) :: vs) (Value.ref (hp.objs.size + 1) :: us) := .cons rfl r1
  have lp : ((Value.ref (hp.objs.size + 1) :: us) ++ ([] : List Value)).length = ps.length := by
    rw [List.append_nil, ← r2.length]
    exact F1.len _ _ _ _ sp1
  have bd := hb _ (Value.ref (hp.objs.size + 1) :: us) I2.kIn lp
  rw [List.append_nil] at bd
  show wpAny _ _ (call (.ref C) us) _ _ _
  refine wpAny_call (PySem.HandSPX.call_own Fa hcon (I1.kIn _ _ hC) (PySem.W.looks_findIn I1.kIn iC) (fun self => PySem.W.bind_fn I1.kIn self tI) len
    (codeAny_mono (F1.run _ X.stack _ _ ⟨Value.ref (hp.objs.size + 1) :: us, []⟩ _ _ _ (fun _ _ _ => False) (hr.make C us []) (I2.env0.make C us []) bd r2 sp1) fun r s' hq => ?_))
  cases r with
  | error er => exact hx pins σ _ _ er s' I2 hq
  | ok fl =>
    cases fl with
    | ret u =>
      obtain ⟨v, H2, os2, bare2, un2, hok2, rv, ev, d, fs, ea, ed, hd1, q2⟩ := hq
      subst ev
      obtain ⟨h2, g2, d2, t2, os'⟩ := s'
      exact ⟨rv, mk_end (raises_own T.exC T.tyC) I1 (Nat.le_succ _) keep un2 hok2 os2 bare2 ea ed hd1 q2⟩
    | next => exact hq.elim
    | brk => exact hq.elim
    | cont => exact hq.elim
end
end LwE
/-! B. Bounds, kinds, sizes, indexes, letters. -/
namespace Lw
open PySem L2
/-- the numbers of the module words -/
structure Nums (mg : Str → Option Value) : Prop where
  least : ∃ t, mg "LEAST_SIZE" = some (.int 2 t)
  mostS : ∃ t, mg "MOST_SIZE" = some (.int 6 t)
  mostL : ∃ t, mg "MOST_LETTERS" = some (.int 40 t)
abbrev nums (l : List Int) : List V := l.map V.int
theorem nums_get {l : List Int} {i : Nat} {x : V} (h : (nums l)[i]? = some x) : ∃ z, x = .int z ∧ l[i]? = some z ∧ z ∈ l := by
  rw [List.getElem?_map] at h
  cases e : l[i]? with
  | none =>
    rw [e] at h
    cases h
  | some z =>
    rw [e] at h
    exact ⟨z, (Option.some.inj h).symm, rfl, List.mem_of_getElem? e⟩
section
variable {P : Program} {w : World} {K : PySem.W.Frag} {mg : Str → Option Value} {base : Heap}
/-! is_between -/
def spBetween : Sp := fun vs H Q _ => ∃ v a b : Int, vs = [.int v, .int a, .int b] ∧ Q (.bl (decide (a ≤ v ∧ v ≤ b))) H
theorem scBetween : FnScope ["value", "least", "most"] ["value", "least", "most"] (defScope sBetween) := ⟨rfl, rfl, rfl, by decide +kernel, rfl, by decide +kernel, by decide +kernel⟩
theorem ok_between {f : Addr} {fd : FuncData} (B : Bare mg) (F : Df K mg "is_between" sBetween f fd) : FnOk P w K mg base CX0 2 f fd ["value", "least", "most"] spBetween := by
  refine F.fn.ok scBetween (fun vs H Q E h => ?_) (fun cdv A outer s H vs Q E hr h => ?_)
  · obtain ⟨v, a, b, rfl, _⟩ := h
    rfl
  · obtain ⟨v, a, b, rfl, k⟩ := h
    refine ⟨_, pss_one (ps_ret (pe_and (pe_callB call_isi (by rfl) B.isinstance (by decide +kernel) (pa_cons (pv 0) (pa_cons (pe_bltn (v := .ty "int") (by rfl) B.int (by decide +kernel) rfl) pa_nil)))
      (pe_and (pe_not (pe_callB call_isi (by rfl) B.isinstance (by decide +kernel) (pa_cons (pv 0) (pa_cons (pe_bltn (v := .ty "bool") (by rfl) B.bool (by decide +kernel) rfl) pa_nil))))
      (pe_one (pe_chain op_le op_le (pv 1) (pv 0) (pv 2)))))), ?_⟩
    refine ⟨_, rfl, _, _, _, _, true, rfl, ClsV.ty _, TyX.base (TyOf.int _), kit_ty (by decide +kernel), _, rfl, ?_⟩
    refine iteT ?_
    refine ⟨_, rfl, _, _, _, _, false, rfl, ClsV.ty _, TyX.base (TyOf.int _), kit_ty (by decide +kernel), _, rfl, _, rfl, ?_⟩
    refine iteT ?_
    refine ⟨_, rfl, _, rfl, _, _, rfl, rfl, _, rfl, ?_⟩
    by_cases h1 : a ≤ v
    · rw [decide_eq_true h1]
      refine iteT ⟨_, rfl, _, _, rfl, rfl, ?_⟩
      have e : decide (a ≤ v ∧ v ≤ b) = decide (v ≤ b) := by simp [h1]
      rw [e] at k
      exact k
    · rw [decide_eq_false h1]
      refine iteF ?_
      have e : decide (a ≤ v ∧ v ≤ b) = false := by simp [h1]
      rw [e] at k
      exact k
/-! is_listing -/
def spListing : Sp := fun vs H Q _ => ∃ a : Addr, vs = [.ref a] ∧ ((∃ xs, H a = some (.lst xs)) ∨ ∃ xs, H a = some (.tup xs)) ∧ ∀ H', Same H H' → Q (.bl true) H'
theorem scListing : FnScope ["value"] ["value"] (defScope sListing) := ⟨rfl, rfl, rfl, by decide +kernel, rfl, by decide +kernel, by decide +kernel⟩
theorem same_new {H : Hp} {p : Addr} {o : HO} (h : H p = none) : Same H (upd H p o) := fun b u e => by
  rw [upd_ne (ne_of_none e h)]
  exact e
theorem ok_listing {f : Addr} {fd : FuncData} (B : Bare mg) (F : Df K mg "is_listing" sListing f fd) : FnOk P w K mg base CX0 1 f fd ["value"] spListing := by
  refine F.fn.ok scListing (fun vs H Q E h => ?_) (fun cdv A outer s H vs Q E hr h => ?_)
  · obtain ⟨a, rfl, _⟩ := h
    rfl
  · obtain ⟨a, rfl, hk, k⟩ := h
    refine ⟨_, pss_one (ps_ret (pe_callB call_isiT (by rfl) B.isinstance (by decide +kernel) (pa_cons (pv 0) (pa_cons (pe_tup (pa_cons (pe_bltn (v := .ty "list") (by rfl) B.list (by decide +kernel) rfl)
      (pa_cons (pe_bltn (v := .ty "tuple") (by rfl) B.tuple (by decide +kernel) rfl) pa_nil))) pa_nil)))), ?_⟩
    refine ⟨_, rfl, (by show 2 ≤ sizeLine; decide), fun t ht => ?_⟩
    have kk := k _ (same_new (o := .tup [.ty "list", .ty "tuple"]) ht)
    rcases hk with ⟨xs, e⟩ | ⟨xs, e⟩
    · exact ⟨_, _, _, _, _, true, rfl, upd_same, .cons (ClsV.ty _) (.cons (ClsV.ty _) .nil), TyX.base (TyOf.lst (by rw [upd_ne (ne_of_none e ht)]; exact e)),
        kitAny_cons (b := true) (kit_ty (by decide +kernel)) (fun z => by cases z) (fun _ => rfl), kk⟩
    · exact ⟨_, _, _, _, _, true, rfl, upd_same, .cons (ClsV.ty _) (.cons (ClsV.ty _) .nil), TyX.base (TyOf.tup (by rw [upd_ne (ne_of_none e ht)]; exact e)),
        kitAny_cons (b := false) (kit_ty (by decide +kernel)) (fun _ => kitAny_cons (b := true) (kit_ty (by decide +kernel)) (fun z => by cases z) (fun _ => rfl)) (fun z => by cases z), kk⟩
/-! check_size, check_index -/
def spCkSize : Sp := fun vs H Q _ => ∃ n : Int, vs = [.int n] ∧ 2 ≤ n ∧ n ≤ 6 ∧ Q .non H
theorem scCkSize : FnScope ["size"] ["size"] (defScope sCkSize) := ⟨rfl, rfl, rfl, by decide +kernel, rfl, by decide +kernel, by decide +kernel⟩
theorem ok_cksize {f f1 : Addr} {fd fd1 : FuncData} (N : Nums mg) (F : Df K mg "check_size" sCkSize f fd) (F1 : Df K mg "is_between" sBetween f1 fd1) (b1 : Binds K fd1 ["value", "least", "most"] [])
    (G1 : FnOk P w K mg base CX0 2 f1 fd1 ["value", "least", "most"] spBetween) : FnOk P w K mg base CX0 3 f fd ["size"] spCkSize := by
  refine F.fn.ok scCkSize (fun vs H Q E h => ?_) (fun cdv A outer s H vs Q E hr h => ?_)
  · obtain ⟨n, rfl, _⟩ := h
    rfl
  · obtain ⟨n, rfl, h1, h2, k⟩ := h
    obtain ⟨t1, e1⟩ := N.least
    obtain ⟨t2, e2⟩ := N.mostS
    refine ⟨_, pss_one (ps_if (pt_not (pt_val (pe_call G1 hr (by rfl) F1.g F1.fn.kp b1 .nil pass0 (pa_cons (pv 0) (pa_cons (pe_glob (v := .int 2) (by rfl) e1 ⟨_, rfl⟩) (pa_cons (pe_glob (v := .int 6) (by rfl) e2 ⟨_, rfl⟩) pa_nil))))))
      pss_never pss_nil), ?_⟩
    refine ⟨_, rfl, n, 2, 6, rfl, _, rfl, ?_⟩
    rw [decide_eq_true (show 2 ≤ n ∧ n ≤ 6 from ⟨h1, h2⟩)]
    exact iteF k
def spCkIndex : Sp := fun vs H Q _ => ∃ n i : Int, vs = [.int n, .int i] ∧ 1 ≤ i ∧ i ≤ n - 1 ∧ Q .non H
theorem scCkIndex : FnScope ["size", "i"] ["size", "i"] (defScope sCkIndex) := ⟨rfl, rfl, rfl, by decide +kernel, rfl, by decide +kernel, by decide +kernel⟩
theorem ok_ckindex {f f1 : Addr} {fd fd1 : FuncData} (F : Df K mg "check_index" sCkIndex f fd) (F1 : Df K mg "is_between" sBetween f1 fd1) (b1 : Binds K fd1 ["value", "least", "most"] [])
    (G1 : FnOk P w K mg base CX0 2 f1 fd1 ["value", "least", "most"] spBetween) : FnOk P w K mg base CX0 3 f fd ["size", "i"] spCkIndex := by
  refine F.fn.ok scCkIndex (fun vs H Q E h => ?_) (fun cdv A outer s H vs Q E hr h => ?_)
  · obtain ⟨n, i, rfl, _⟩ := h
    rfl
  · obtain ⟨n, i, rfl, h1, h2, k⟩ := h
    refine ⟨_, pss_one (ps_if (pt_not (pt_val (pe_call G1 hr (by rfl) F1.g F1.fn.kp b1 .nil pass0 (pa_cons (pv 1) (pa_cons pe_int (pa_cons (pe_op op_sub (pv 0) pe_int) pa_nil)))))) pss_never pss_nil), ?_⟩
    refine ⟨_, rfl, _, rfl, _, _, rfl, rfl, i, 1, n - 1, rfl, _, rfl, ?_⟩
    rw [decide_eq_true (show 1 ≤ i ∧ i ≤ n - 1 from ⟨h1, h2⟩)]
    exact iteF k
end
end Lw
/-! Gd. Defs that are called where no text is being made: the guards are known to be none. -/
namespace LwE
open PySem PySem.Spec PyProof.Rows L2
/-- a def's promise where no guard stands -/
structure FnG (P : Program) (w : World) (K : PySem.W.Frag) (mg : Str → Option Value) (base : Heap) (k : Nat) (f : Addr) (fd : FuncData) (ps : List Str) (sp : Sp) : Prop where
  len : ∀ vs H Q E, sp vs H Q E → vs.length = ps.length
  run : ∀ (A : Around) (outer : List Env) (s : Shared) (H : Hp) (args : Args) (us : List Value) (vs : List V) (Q : VK) (E : XK), A.guards = some [] → Room k A →
    Env0 P w K mg base A outer s H → BindsTo s fd args (ps.zip us) → Vals vs us → sp vs H Q E → codeAny (model P w) A (.call (.ref f) args) (CR CX0 outer P w H s Q E) s
section
variable {P : Program} {w : World} {K : PySem.W.Frag} {mg : Str → Option Value} {base : Heap}
theorem okG {x qual : Str} {st : Stmt} {f : Addr} {fd : FuncData} {N ps : List Str} {k : Nat} {sp : Sp} (F : Fun K x qual st f fd) (S : FnScope N ps (defScope st)) (len : ∀ vs H Q E, sp vs H Q E → vs.length = ps.length)
    (hbody : ∀ (cdv : Value) (A : Around) (outer : List Env) (s : Shared) (H : Hp) (vs : List V) (Q : VK) (E : XK), A.guards = some [] → Room k (A.deeper (PyProof.Rows.envOfC qual (defScope st) s.heap.objs.size f cdv)) → sp vs H Q E →
      ∃ t, PSs (cxOf CX0 P w K mg base N qual (defScope st) f cdv A outer s H E).nox (defBody st) t ∧ t { nx := fun _ H' => Q .non H', rt := Q } (L2.start N vs) H) : FnG P w K mg base (k + 1) f fd ps sp := by
  obtain ⟨oc, od, kV, doc, pm, an, cdv, ct, osl, rfl, lk, hcd⟩ := F.ex
  refine ⟨len, fun A outer s H args us vs Q E hg hr e0 hb r h => ?_⟩
  have old : ∀ b o, base.get? b = some o → s.heap.get? b = some o := fun b o e => (e0.bs b o e).1
  have Ks : K.In s.heap := e0.mod.kin.keeps old
  have free : s.heap.NoLimit := e0.mod.nolimit.keeps old
  have kinds : ∀ y ∈ ps.zip us, (defScope st).names.lookup y.1 = some .local ∨
      ((defScope st).names.lookup y.1 = some .cell ∧ ((cellsFrom (s.heap.objs.size + 1) (defScope st).names []).lookup y.1).isSome = true) := by
    rintro ⟨n, v⟩ hy
    rcases S.par n (List.of_mem_zip hy).1 with z | z
    · exact .inl z
    · exact .inr ⟨z, PySem.W.cellsFrom_some _ _ _ (.inl z)⟩
  refine codeAny_call_function hr.depth (Ks _ _ lk) rfl S.co S.gen rfl (PySem.W.codeRec_of Ks hcd) (hb _ _ _ _ ?_)
  refine wpAny_newFunctionEnv_cells S.kind kinds fun env eq s1 entry => ?_
  subst eq
  refine ⟨free.keeps entry.toInCall.keep, codeAny_func ?_⟩
  obtain ⟨t, ht, q⟩ := hbody cdv A outer s H vs Q E hg (hr.deeper _) h
  have I := inv_start (CX := CX0) (E := E) S hr.hd e0 (len _ _ _ _ h) r entry
  refine wpAny_mono (ht.nox.run [] s1 (L2.start N vs) H _ I q) (fun fl s' z => ?_) fun _ _ z => z
  cases fl with
  | brk =>
    obtain ⟨_, _, _, z⟩ := z
    exact z.elim
  | cont =>
    obtain ⟨_, _, _, z⟩ := z
    exact z.elim
  | next =>
    obtain ⟨σ', H', J, z⟩ := z
    exact ⟨.non, H', J.os, J.bare, J.base, J.hok, rfl, z⟩
  | ret u =>
    obtain ⟨v, σ', H', J, rv, z⟩ := z
    exact ⟨v, H', J.os, J.bare, J.base, J.hok, rv, z⟩
end
section
variable {X : Cx} {x : Str} {p pos : Pos} {e : Expr} {es : List Expr} {t : TA} {k : Nat} {f : Addr} {fd : FuncData} {ps : List Str} {sp : Sp}
/-- f(e, ..) where no guard stands -/
theorem pe_callG (hg : X.A.guards = some []) (F : FnG X.prog X.w X.K X.mg X.base k f fd ps sp) (hr : Room k X.A) (gx : Gl X x) (hm : X.mg x = some (.ref f)) (hk : PySem.W.keepIn X.K (.ref f) = true) (hb : Binds X.K fd ps [])
    (ha : PA X (e :: es) t) (hdb : (x == ("__debug__" : Str)) = false := by decide) (he : starEach (e :: es) X.env = (false, eval e X.env) :: starEach es X.env := by rfl)
    (hpl : (backTo pos (starEach es X.env)).any (·.1) = false := by rfl) : PE X (.Call (.Name x p) (e :: es) [] pos) (tCall sp [] E0 t) := by
  refine ⟨fun pins s σ H Q I h => ?_⟩
  refine wpAny_Call_Name_kw (ld_glob I gx hm ?_ hdb)
  refine PySem.W.callWith_K (h₀ := X.base) I.ok.mod.kin hk (thn (ha.run pos pins s σ H _ I h) fun us s1 ⟨vs, H1, I1, r, q⟩ => ⟨I1.kIn, ?_⟩) he hpl
  have q' : sp vs H1 Q E0 := by
    have z : sp (vs ++ []) H1 Q E0 := q
    rw [List.append_nil] at z
    exact z
  have hl : (us ++ []).length = ps.length := by
    rw [List.append_nil, ← r.length]
    exact F.len _ _ _ _ q'
  have b0 := hb s1 us I1.kIn hl
  rw [List.append_nil] at b0
  refine wpAny_call (codeAny_mono (F.run X.A X.stack s1 H1 ⟨us, []⟩ us vs Q E0 hg hr I1.env0 b0 r q') fun r s' z => ?_)
  cases r with
  | error e => exact (show False from z).elim
  | ok fl =>
    cases fl with
    | ret u => exact I1.after z
    | next => exact False.elim z
    | brk => exact False.elim z
    | cont => exact False.elim z
end
/-- the law's call -/
theorem call_law {P : Program} {w : World} {K : PySem.W.Frag} {mg mb : Str → Option Value} {k : Nat} {fa a : Addr} {fd : FuncData} {x : Str} {sp : Sp} {s₁ : Shared} {vs : List Value} {ns : List Int}
    (KX : K.In s₁.heap) (hns : s₁.heap.Ns mainGlobals mg) (hb : s₁.heap.Ns builtinsNs mb) (hbb : ∀ x : Str, x ≠ "__name__" → mb x = bootBuiltins x) (hlim : s₁.heap.NoLimit) (hgen : s₁.gens = #[])
    (ha : s₁.heap.get? a = some { cls := .type "list", data := .seq vs.toArray }) (hi : IntsAre vs ns) (hl : ns.length ≤ sizeLine) (hr : Room k callerA)
    (F : ∀ base : Heap, K.In base → base.Ns mainGlobals mg → FnG P w K mg base k fa fd [x] sp) (hbind : ∀ (s : Shared) (u : Value), BindsTo s fd ⟨[u], []⟩ [(x, u)])
    (hsp : ∀ H : Hp, Only H → SqL K H a (ns.map V.int) → sp [.ref a] H (fun v _ => v = .bl true) fun _ _ _ => False) :
    codeAny (model P w) callerA (.call (.ref fa) ⟨[.ref a], []⟩) (fun r s' => r = .ok (.ret (.bool true)) ∧ OldK s₁.heap s'.heap ∧ s'.os = s₁.os ∧ AllBare s'.gens) s₁ := by
  have rv := vals_ints hi
  have nlen := hi.length
  have core : ∀ H : Hp, Only H → SqL K H a (ns.map V.int) → HOk P w H s₁.heap → (∀ b, H b ≠ none → b = a) → (H a ≠ none → K.lookup a = none) →
      codeAny (model P w) callerA (.call (.ref fa) ⟨[.ref a], []⟩) (fun r s' => r = .ok (.ret (.bool true)) ∧ OldK s₁.heap s'.heap ∧ s'.os = s₁.os ∧ AllBare s'.gens) s₁ := by
    intro H hO hS hok only unk
    have keepsNs : ∀ {b : Addr} {m : Str → Option Value}, s₁.heap.Ns b m → (hidT s₁.heap H).Ns b m := by
      rintro b m ⟨o, es, ep, e, d, r⟩
      refine ⟨o, es, ep, hidT_get e ?_, d, r⟩
      cases q : H b with
      | none => rfl
      | some u =>
        have z := only b (by rw [q]; simp)
        rw [z, ha] at e
        cases e
        cases d
    have inK : K.In (hidT s₁.heap H) := by
      intro b o e
      refine hidT_get (KX b o e) ?_
      cases q : H b with
      | none => rfl
      | some u =>
        have z := only b (by rw [q]; simp)
        subst z
        rw [unk (by rw [q]; simp)] at e
        cases e
    have M : Mod K mg (hidT s₁.heap H) := ⟨inK, keepsNs hns, ⟨mb, keepsNs hb, hbb⟩, by
      obtain ⟨mc, z1, z2⟩ := hlim
      exact ⟨mc, keepsNs z1, z2⟩⟩
    have e0 : Env0 P w K mg (hidT s₁.heap H) callerA [] s₁ H := by
      refine ⟨rfl, M, fun b o e => of_hidT e, Nat.le_of_eq (hidT_size _ _), trivial, fun b hb => ?_, hok, .of_eq hgen⟩
      exact absurd (show b ∈ ([] : List Addr) from hb) (by simp)
    refine codeAny_mono ((F _ inK (keepsNs hns)).run callerA [] s₁ H ⟨[.ref a], []⟩ [.ref a] [.ref a] _ _ rfl hr e0 (hbind s₁ (.ref a)) (.cons rfl .nil) (hsp H hO hS)) fun r s' z => ?_
    cases r with
    | error e => exact (show False from z).elim
    | ok fl =>
      cases fl with
      | ret u =>
        obtain ⟨v, H', os, bare, un, hok', r', q⟩ := z
        obtain rfl : v = .bl true := q
        obtain rfl : u = Value.bool true := r'
        refine ⟨rfl, OldK.of_keep fun b o e => ?_, os, bare⟩
        cases q : H b with
        | none => exact un.keep b o e q (fun z => absurd (show b ∈ ([] : List Addr) from z) (by simp)) (by simp)
        | some u =>
          rcases hO b with z | ⟨ob, xs, z⟩
          · rw [q] at z
            cases z
          · obtain ⟨z1, _⟩ := hok b _ z
            obtain ⟨z2, _⟩ := hok' b _ (un.frzs b ob _ z)
            rw [e] at z1
            cases z1
            exact z2
      | next => exact False.elim z
      | brk => exact False.elim z
      | cont => exact False.elim z
  cases hk : K.lookup a with
  | some o =>
    have e := KX a o hk
    rw [ha] at e
    cases e
    refine core (fun _ => none) (fun _ => .inl rfl) ?_ (fun b u z => by cases (show (none : Option HO) = some u from z)) (fun b z => absurd rfl z) fun z => absurd rfl z
    exact .inr ⟨_, vs.toArray, _, hk, rfl, rfl, rfl, by rw [List.size_toArray, nlen]; exact hl, by simpa using rv⟩
  | none =>
    refine core (fun b => if b = a then some (.frz { cls := .type "list", data := .seq vs.toArray } (.lst (ns.map V.int))) else none) (fun b => ?_) ?_ (fun b u z => ?_) (fun b z => ?_) fun _ => hk
    · by_cases hb : b = a
      · exact .inr ⟨_, _, if_pos hb⟩
      · exact .inl (if_neg hb)
    · exact .inl (.inr ⟨_, if_pos rfl⟩)
    · by_cases hb : b = a
      · cases (if_pos hb).symm.trans z
        subst hb
        exact ⟨ha, by rw [List.length_map]; exact hl, vs, _, rv, ha⟩
      · cases (if_neg hb).symm.trans z
    · by_cases hb : b = a
      · exact hb
      · exact absurd (if_neg hb) z
/-- the goal behind the head -/
theorem walkG {l : PySem.W.OpenLaw} {n k : Nat} {q : Program} {loose : List Str} {XP : (Str → Option Value) → Heap → Prop} {YP : World → Heap → Prop} {d : DefRec} {K : Params → PySem.W.Frag} {sp : World → Sp} {x : Str}
    (hn : l.most = some n) (hn2 : n ≤ sizeLine) (hdf : d.params.defaults = []) (hr : Room k callerA) (hY : ∀ (w : World) (h : Heap), YP w h → (K w.params).In h)
    (F : ∀ (w : World) (mg : Str → Option Value) (fa : Addr) (h : Heap), (K w.params).In h → h.Ns mainGlobals mg → mg d.name = some (.ref fa) →
      ∃ fd : FuncData, (∀ (s : Shared) (u : Value), BindsTo s fd ⟨[u], []⟩ [(x, u)]) ∧ ∀ base : Heap, (K w.params).In base → base.Ns mainGlobals mg → FnG l.prog w (K w.params) mg base k fa fd [x] (sp w))
    (hsp : ∀ (w : World) (H : Hp) (a : Addr) (ns : List Int), ns.length ≤ n → Only H → SqL (K w.params) H a (ns.map V.int) → sp w [.ref a] H (fun v _ => v = .bl true) fun _ _ _ => False) :
    PySem.W.WalkO q loose XP YP l.row.toRowW d [] (fun f vs => PySem.call f vs) := by
  refine Att.attach_call hn hdf fun w s₀ s₁ mg mb fa o pm cd doc a vs ns G Y ho hd hcd hmg hobj hints hlen hg => ?_
  have KX := hY w _ Y
  obtain ⟨fd, hb, hF⟩ := F w mg fa _ KX G.T.g hmg
  exact call_law KX G.T.g G.T.b G.T.builtins G.T.nolimit hg hobj hints (Nat.le_trans hlen hn2) hr hF hb fun H hO hS => hsp w H a ns hlen hO hS
end LwE
/-! C. The draws: mixed, folded, draw, begun, size. -/
namespace Lw
open PySem L2 LwE
/-- sixty-four cells -/
structure Cells (cs : List Int) : Prop where
  len : cs.length = 64
  bd : ∀ x ∈ cs, 0 ≤ x ∧ x < 2147483647
theorem Cells.set {cs : List Int} (c : Cells cs) (j : Nat) {z : Int} (h0 : 0 ≤ z) (h1 : z < 2147483647) : Cells (cs.set j z) :=
  ⟨by rw [List.length_set]; exact c.len, fun x hx => by
    rcases List.mem_or_eq_of_mem_set hx with q | q
    · exact c.bd x q
    · rw [q]
      exact ⟨h0, h1⟩⟩
theorem Cells.at {cs : List Int} (c : Cells cs) {j : Nat} (hj : j < 64) : ∃ x, (nums cs)[j]? = some (.int x) ∧ 0 ≤ x ∧ x < 2147483647 := by
  have hl : j < cs.length := by rw [c.len]; exact hj
  refine ⟨cs[j], by simp [hl], c.bd _ (List.getElem_mem hl)⟩
theorem set_nums (cs : List Int) (j : Nat) (z : Int) : (nums cs).set j (.int z) = nums (cs.set j z) := by
  show _ = (cs.set j z).map V.int
  rw [List.map_set]
theorem ixN_lt {n j : Nat} (h : j < n) : ixN n (j : Int) = some j := by
  unfold ixN
  rw [if_pos (by omega), if_pos (by omega)]
  simp
section
variable {P : Program} {w : World} {K : PySem.W.Frag} {mg : Str → Option Value} {base : Heap}
/-! _law_mixed -/
def spMixed : Sp := fun vs H Q _ => ∃ c n : Int, vs = [.int c, .int n] ∧ 0 ≤ n ∧ n ≤ 1000000 ∧ ∀ z : Int, 0 ≤ z → z < 2147483647 → Q (.int z) H
theorem scMixed : FnScope ["cell", "n", "blend"] ["cell", "n"] (defScope sMixed) := ⟨rfl, rfl, rfl, by decide +kernel, rfl, by decide +kernel, by decide +kernel⟩
theorem ok_mixed {f : Addr} {fd : FuncData} (B : Bare mg) (F : Df K mg "_law_mixed" sMixed f fd) : FnOk P w K mg base CX0 1 f fd ["cell", "n"] spMixed := by
  refine F.fn.ok scMixed (fun vs H Q E h => ?_) (fun cdv A outer s H vs Q E hr h => ?_)
  · obtain ⟨c, n, rfl, _⟩ := h
    rfl
  · obtain ⟨c, n, rfl, h0, h1, k⟩ := h
    refine ⟨_, pss_cons (ps_set (i := 2) scMixed.nd rfl (Or.inl rfl)
        (pe_op op_add (pe_op op_add (pe_op op_mod (pe_callTy call_int1 (by rfl) B.int (by decide +kernel) (pa_cons (pe_op op_mul (pe_op op_mul (pv 0) (pe_op op_add pe_int (pe_op op_mul pe_int (pv 1)))) pe_int) pa_nil)) pe_int)
          (pe_op op_mul (pe_op op_mul pe_int (pv 1)) (pv 1))) (pe_op op_mul pe_int (pv 1))))
      (pss_one (ps_ret (pe_op op_fdiv (pe_op op_mod (pe_callTy call_int1 (by rfl) B.int (by decide +kernel) (pa_cons (pe_op op_mul (pv 2) pe_int) pa_nil)) pe_int) pe_int))), ?_⟩
    refine ⟨_, rfl, _, rfl, _, _, rfl, rfl, .inl ⟨by decide, by decide⟩, _, _, rfl, rfl, _, _, rfl, rfl, .inr ⟨by omega, by omega⟩, _, _, rfl, rfl, .inr ⟨by decide, by decide⟩,
      .inl ⟨_, rfl, _, _, rfl, rfl, (by show (0 : Int) < 2147483647; decide), _, rfl, _, _, rfl, rfl, .inl ⟨by decide, by decide⟩, _, rfl, _, _, rfl, rfl, .inr ⟨by omega, by omega⟩,
        _, _, rfl, rfl, _, rfl, _, _, rfl, rfl, .inl ⟨by decide, by decide⟩, _, _, rfl, rfl, ?_⟩⟩
    refine ⟨_, rfl, _, _, rfl, rfl, .inr ⟨by decide, by decide⟩, .inl ⟨_, rfl, _, _, rfl, rfl, (by show (0 : Int) < 2147483629; decide), _, _, rfl, rfl, ⟨by decide, by decide⟩, ?_⟩⟩
    refine k _ ?_ ?_ <;> omega
end
end Lw
/-! D. The sixty-four cells. -/
namespace Lw
open PySem L2 LwE
section
variable {P : Program} {w : World} {K : PySem.W.Frag} {mg : Str → Option Value} {base : Heap}
/-- behind H: a list of cells at D that was not there -/
structure FAt (H H' : Hp) (D : Addr) : Prop where
  same : Same H H'
  free : H D = none
  cells : ∃ cs, Cells cs ∧ H' D = some (.lst (nums cs))
theorem FAt.pair {H H' : Hp} {D T : Addr} {o : HO} (f : FAt H H' D) (h : H' T = none) : FAt H (upd H' T o) D :=
  ⟨f.same.trans (same_new h), f.free, let ⟨cs, c, e⟩ := f.cells; ⟨cs, c, (same_new h) _ _ e⟩⟩
theorem FAt.put {H H' : Hp} {D : Addr} {cs : List Int} (f : FAt H H' D) (c : Cells cs) : FAt H (upd H' D (.lst (nums cs))) D :=
  ⟨fun b o e => by
    rw [upd_ne (ne_of_none e f.free)]
    exact f.same _ _ e, f.free, cs, c, upd_same⟩
def spFolded (K : PySem.W.Frag) : Sp := fun vs H Q _ => ∃ (a : Addr) (ns : List Int), vs = [.ref a] ∧ SqL K H a (nums ns) ∧ ∀ D H', FAt H H' D → Q (.ref D) H'
theorem scFolded : FnScope ["script", "n", "found", "cell"] ["script"] (defScope sFolded) := ⟨rfl, rfl, rfl, by decide +kernel, rfl, by decide +kernel, by decide +kernel⟩
theorem ok_folded {f : Addr} {fd : FuncData} (B : Bare mg) (F : Df K mg "_law_folded" sFolded f fd) : FnOk P w K mg base CX0 1 f fd ["script"] (spFolded K) := by
  refine F.fn.ok scFolded (fun vs H Q E h => ?_) (fun cdv A outer s H vs Q E hr h => ?_)
  · obtain ⟨a, ns, rfl, _⟩ := h
    rfl
  · obtain ⟨a, ns, rfl, hS, k⟩ := h
    refine ⟨_, pss_cons (ps_setLc (i := 2) (own := [("n", 1)]) (g := gName 1) (tt := tYes) rfl scFolded.nd rfl rfl (sw_true rfl rfl rfl (by decide +kernel)) (pi_range1 (by rfl) B.range (pa_cons pe_int pa_nil))
        (blkOk_by (N := ["script", "n", "found", "cell"]) (sc := defScope sFolded) (by decide +kernel)) (fun _ _ _ _ _ => pg_name (i := 1) scFolded.nd rfl (Or.inl rfl)) (fun _ _ _ _ _ => pts_nil)
        (fun _ _ _ _ _ => pe_op op_add pe_int (pv 1)))
      (pss_cons (ps_for PassesOwn.never rfl (pi_enum (by rfl) B.enumerate (pa_cons (pv 0) pa_nil)) (pg_tup rfl (pgs_cons (pg_name (i := 1) scFolded.nd rfl (Or.inl rfl)) (pgs_cons (pg_name (i := 3) scFolded.nd rfl (Or.inl rfl)) pgs_nil)))
        (pss_one (ps_asg (pe_op op_mod (pe_callTy call_int1 (by rfl) B.int (by decide +kernel) (pa_cons (pe_op op_add (pe_op op_mul (pe_ix ix_list (pv 2)
            (pe_op op_mod (pe_callTy call_int1 (by rfl) B.int (by decide +kernel) (pa_cons (pv 1) pa_nil)) pe_int) (fun _ _ => rfl)) pe_int) (pv 3)) pa_nil)) pe_int)
          (pg_sub (pv 2) (pe_op op_mod (pe_callTy call_int1 (by rfl) B.int (by decide +kernel) (pa_cons (pv 1) pa_nil)) pe_int) set_list))))
      (pss_cons (ps_for PassesOwn.never rfl (pi_range2 (by rfl) B.range (pa_cons pe_int (pa_cons pe_int pa_nil))) (pg_name (i := 1) scFolded.nd rfl (Or.inl rfl))
        (pss_one (ps_asg (pe_op op_mod (pe_callTy call_int1 (by rfl) B.int (by decide +kernel) (pa_cons (pe_op op_add (pe_ix ix_list (pv 2) (pv 1) (fun _ _ => rfl))
            (pe_op op_mul (pe_ix ix_list (pv 2) (pe_op op_sub (pv 1) pe_int) (fun _ _ => rfl)) pe_int)) pa_nil)) pe_int)
          (pg_sub (pv 2) (pv 1) set_list))))
      (pss_one (ps_ret (pv 2))))), ?_⟩
    refine ⟨64, rfl, by decide, by decide, fun D hD => lc_range (lo := 0) (n := 64)
      (fun i H' => Same H H' ∧ ∃ cs : List Int, cs.length = i ∧ (∀ x ∈ cs, 0 ≤ x ∧ x < 2147483647) ∧ H' D = some (.lst (nums cs))) ⟨same_new hD, [], rfl, fun x hx => by simp at hx, upd_same⟩ ?_ ?_⟩
    · intro i H' hi ⟨h1, cs, h2, h3, h4⟩
      refine ⟨rfl, ?_⟩
      unfold tYes
      refine iteT ?_
      refine ⟨_, rfl, _, _, rfl, rfl, nums cs, h4, by rw [List.length_map]; exact small1000 (by omega), ?_, cs ++ [17 + (0 + (i : Int))], by simp [h2], fun x hx => ?_, by rw [upd_same]; simp [nums]⟩
      · intro b o e
        rw [upd_ne (ne_of_none e hD)]
        exact h1 _ _ e
      · rcases List.mem_append.mp hx with q | q
        · exact h3 x q
        · have e := List.mem_singleton.mp q
          omega
    · intro H' ⟨h1, cs, h2, h3, h4⟩
      have F0 : FAt H H' D := ⟨h1, hD, cs, ⟨h2, h3⟩, h4⟩
      refine ⟨_, rfl, a, _, rfl, h1.seq hS, for_enL (K := K) (a := a) (xs := nums ns) (fun i σ H'' => ∃ v1 v3 : Option V, σ = [some (.ref a), v1, some (.ref D), v3] ∧ FAt H H'' D) ⟨_, _, rfl, F0⟩ (fun i σ H'' _ ⟨_, _, _, f⟩ => f.same.seq hS) ?_ ?_⟩
      · rintro i x T σ H'' hx ⟨v1, v3, rfl, f⟩ hT
        obtain ⟨z, rfl, _, _⟩ := nums_get hx
        have f2 : FAt H (upd H'' T (.tup [.int (i : Nat), .int z])) D := f.pair hT
        obtain ⟨cs, cc, eD⟩ := f2.cells
        have hj : i % 64 < 64 := Nat.mod_lt _ (by decide)
        obtain ⟨y, hy, hy0, hy1⟩ := cc.at hj
        have ei : ((i : Nat) : Int) % 64 = ((i % 64 : Nat) : Int) := by omega
        refine ⟨T, _, rfl, SqT.of upd_same, rfl, _, _, rfl, _, _, rfl, rfl, ?_⟩
        refine ⟨_, rfl, _, rfl, .inl ⟨_, rfl, _, _, rfl, rfl, (by show (0 : Int) < 64; decide), D, _, _, _, rfl, rfl, SqL.of eD, at_of ei hy, _, _, rfl, rfl, .inr ⟨by decide, by decide⟩, _, rfl, _, _, rfl, rfl,
          .inl ⟨_, rfl, _, _, rfl, rfl, (by show (0 : Int) < 2147483647; decide), ?_⟩⟩⟩
        refine ⟨_, rfl, _, rfl, .inl ⟨_, rfl, _, _, rfl, rfl, (by show (0 : Int) < 64; decide), D, _, _, i % 64, rfl, rfl, eD, ?_, ?_⟩⟩
        · rw [ei]
          refine ixN_lt ?_
          rw [List.length_map, cc.len]
          exact hj
        · refine ⟨_, _, rfl, ?_⟩
          rw [set_nums]
          exact f2.put (cc.set _ (by omega) (by omega))
      · rintro σ H'' ⟨v1, v3, rfl, f⟩
        refine ⟨1, 64, rfl, ⟨by decide, by decide, by decide, by decide⟩, for_range (lo := 1) (n := 63) (fun i σ H'' => ∃ v1 v3 : Option V, σ = [some (.ref a), v1, some (.ref D), v3] ∧ FAt H H'' D) ⟨_, _, rfl, f⟩ ?_ ?_⟩
        · rintro i σ H3 hi ⟨v1, v3, rfl, f⟩
          obtain ⟨cs, cc, eD⟩ := f.cells
          obtain ⟨y, hy, hy0, hy1⟩ := cc.at (show i + 1 < 64 by omega)
          obtain ⟨z, hz, hz0, hz1⟩ := cc.at (show i < 64 by omega)
          have e1 : (1 + (i : Int)) = ((i + 1 : Nat) : Int) := by omega
          have e0 : (1 + (i : Int)) - 1 = ((i : Nat) : Int) := by omega
          refine ⟨_, rfl, _, rfl, D, _, _, _, rfl, rfl, SqL.of eD, at_of e1 hy, _, rfl, _, rfl, _, _, rfl, rfl, D, _, _, _, rfl, rfl, SqL.of eD, at_of e0 hz, _, _, rfl, rfl, .inr ⟨by decide, by decide⟩, _, _, rfl, rfl,
            .inl ⟨_, rfl, _, _, rfl, rfl, (by show (0 : Int) < 2147483647; decide), ?_⟩⟩
          refine ⟨_, rfl, _, rfl, D, _, _, i + 1, rfl, rfl, eD, ?_, ?_⟩
          · rw [e1]
            refine ixN_lt ?_
            rw [List.length_map, cc.len]
            omega
          · refine ⟨_, _, rfl, ?_⟩
            rw [set_nums]
            exact f.put (cc.set _ (by omega) (by omega))
        · rintro σ H3 ⟨v1, v3, rfl, f⟩
          exact ⟨_, rfl, k D H3 f⟩
end
end Lw
/-! F. The dict of the draws, one draw. -/
namespace Lw
open PySem L2 LwE
theorem nums_at {l : List Int} {i : Nat} (h : i < l.length) : (nums l)[i]? = some (.int l[i]) := by
  rw [List.getElem?_map, List.getElem?_eq_getElem h]
  rfl
abbrev kC : Key := Sum.inr "cells"
abbrev kG : Key := Sum.inr "great"
abbrev kS : Key := Sum.inr "spot"
theorem kCG : ¬ (("cells" : Str) = "great") := by decide +kernel
theorem kCS : ¬ (("cells" : Str) = "spot") := by decide +kernel
theorem kGS : ¬ (("great" : Str) = "spot") := by decide +kernel
theorem kSG : ¬ (("spot" : Str) = "great") := by decide +kernel
def mkd (c g : Addr) (n : Int) : List (Key × V) := [(kC, .ref c), (kG, .ref g), (kS, .int n)]
theorem mkd_c (c g : Addr) (n : Int) : valV (mkd c g n) kC = some (.ref c) := by
  simp [mkd, valV, List.find?_cons, kC, kG, kS, kCG, kCS, kGS, kSG]
theorem mkd_g (c g : Addr) (n : Int) : valV (mkd c g n) kG = some (.ref g) := by
  simp [mkd, valV, List.find?_cons, kC, kG, kS, kCG, kCS, kGS, kSG]
theorem mkd_s (c g : Addr) (n : Int) : valV (mkd c g n) kS = some (.int n) := by
  simp [mkd, valV, List.find?_cons, kC, kG, kS, kCG, kCS, kGS, kSG]
theorem mkd_ps (c g : Addr) (n z : Int) : putK (mkd c g n) kS (.int z) = mkd c g z := by
  simp [mkd, putK, kC, kG, kS, kCG, kCS, kGS, kSG]
theorem mkd_pg (c g h : Addr) (n : Int) : putK (mkd c g n) kG (.ref h) = mkd c h n := by
  simp [mkd, putK, kC, kG, kS, kCG, kCS, kGS, kSG]
/-- the dict of the draws at m, n of them drawn -/
structure Dr (H : Hp) (m g c : Addr) (n : Int) : Prop where
  hm : H m = some (.dK (mkd c g n))
  hc : ∃ cs, Cells cs ∧ H c = some (.lst (nums cs))
  hg : ∃ gs : List Int, gs.length ≤ 63 ∧ H g = some (.lst (nums gs))
  ne : c ≠ g
  n0 : 0 ≤ n
/-- all but the dict and its great cells stands -/
def Keep (m g : Addr) (H H' : Hp) : Prop := ∀ b o, H b = some o → b ≠ m → b ≠ g → H' b = some o
theorem Keep.refl (m g : Addr) (H : Hp) : Keep m g H H := fun _ _ e _ _ => e
theorem Keep.trans {m g : Addr} {H H1 H2 : Hp} (a : Keep m g H H1) (b : Keep m g H1 H2) : Keep m g H H2 := fun x o e h1 h2 => b x o (a x o e h1 h2) h1 h2
theorem Keep.of {m g : Addr} {H H1 : Hp} (a : Same H H1) : Keep m g H H1 := fun x o e _ _ => a x o e
theorem Dr.mg {H : Hp} {m g c : Addr} {n : Int} (d : Dr H m g c n) : m ≠ g := by
  obtain ⟨gs, _, e⟩ := d.hg
  exact ne_of d.hm e (by intro z; cases z)
theorem Dr.mc {H : Hp} {m g c : Addr} {n : Int} (d : Dr H m g c n) : m ≠ c := by
  obtain ⟨cs, _, e⟩ := d.hc
  exact ne_of d.hm e (by intro z; cases z)
theorem Dr.same {H H' : Hp} {m g c : Addr} {n : Int} (d : Dr H m g c n) (s : Same H H') : Dr H' m g c n :=
  ⟨s _ _ d.hm, let ⟨cs, a, b⟩ := d.hc; ⟨cs, a, s _ _ b⟩, let ⟨cs, a, b⟩ := d.hg; ⟨cs, a, s _ _ b⟩, d.ne, d.n0⟩
theorem Dr.next {H : Hp} {m g c : Addr} {n : Int} (d : Dr H m g c n) : Dr (upd H m (.dK (mkd c g (n + 1)))) m g c (n + 1) :=
  ⟨upd_same, let ⟨cs, a, b⟩ := d.hc; ⟨cs, a, by rw [upd_ne d.mc.symm]; exact b⟩, let ⟨cs, a, b⟩ := d.hg; ⟨cs, a, by rw [upd_ne d.mg.symm]; exact b⟩, d.ne, by have := d.n0; omega⟩
theorem Dr.great {H : Hp} {m g c : Addr} {n : Int} (d : Dr H m g c n) {gs : List Int} (h : gs.length ≤ 63) : Dr (upd H g (.lst (nums gs))) m g c n :=
  ⟨by rw [upd_ne d.mg]; exact d.hm, let ⟨cs, a, b⟩ := d.hc; ⟨cs, a, by rw [upd_ne d.ne]; exact b⟩, ⟨gs, h, upd_same⟩, d.ne, d.n0⟩
theorem dp_nums {K : PySem.W.Frag} {H : Hp} : ∀ l : List Int, DpAll K H (nums l) (l.map PyData.int)
  | [] => .nil
  | x :: l => .cons (.int x) (dp_nums l)
theorem lay_nums : ∀ l : List Int, PyData.canLayAll0 (l.map PyData.int) = true ∧ PyData.depthAll (l.map PyData.int) = 0
  | [] => by simp [PyData.canLayAll0, PyData.depthAll]
  | x :: l => by
    have ih := lay_nums l
    simp [PyData.canLayAll0, PyData.depthAll, PyData.canLay0, PyData.depth, ih.1, ih.2]
theorem shaped_nums (l : List Int) : SeqAt.shaped (.list (l.map PyData.int)) = true := by
  have h := lay_nums l
  unfold SeqAt.shaped
  simp [PyData.canLay0, PyData.depth, h.1, h.2]
theorem Dr.getS {H : Hp} {m g c : Addr} {n : Int} (d : Dr H m g c n) : DGet H m (.str "spot") (some (.int n)) := by
  have q := DGet.k (k := kS) d.hm
  rw [mkd_s] at q
  exact q
theorem Dr.getG {H : Hp} {m g c : Addr} {n : Int} (d : Dr H m g c n) : DGet H m (.str "great") (some (.ref g)) := by
  have q := DGet.k (k := kG) d.hm
  rw [mkd_g] at q
  exact q
theorem Dr.getC {H : Hp} {m g c : Addr} {n : Int} (d : Dr H m g c n) : DGet H m (.str "cells") (some (.ref c)) := by
  have q := DGet.k (k := kC) d.hm
  rw [mkd_c] at q
  exact q
section
variable {P : Program} {w : World} {K : PySem.W.Frag} {mg : Str → Option Value} {base : Heap}
def spDraw : Sp := fun vs H Q _ => ∃ (m g c : Addr) (n lim : Int), vs = [.ref m, .int lim] ∧ Dr H m g c n ∧ n ≤ 100000 ∧ 1 ≤ lim ∧ lim ≤ 1000 ∧
  ∀ (z : Int) (H' : Hp), 0 ≤ z → z < lim → Dr H' m g c (n + 1) → Keep m g H H' → Q (.int z) H'
theorem scDraw : FnScope ["m", "limit", "n", "lot", "here", "cell"] ["m", "limit"] (defScope sDraw) := ⟨rfl, rfl, rfl, by decide +kernel, rfl, by decide +kernel, by decide +kernel⟩
theorem ok_draw {f f1 : Addr} {fd fd1 : FuncData} (B : Bare mg) (F : Df K mg "_law_draw" sDraw f fd) (F1 : Df K mg "_law_mixed" sMixed f1 fd1) (b1 : Binds K fd1 ["cell", "n"] [])
    (G1 : FnOk P w K mg base CX0 1 f1 fd1 ["cell", "n"] spMixed) : FnOk P w K mg base CX0 2 f fd ["m", "limit"] spDraw := by
  refine F.fn.ok scDraw (fun vs H Q E h => ?_) (fun cdv A outer s H vs Q E hr h => ?_)
  · obtain ⟨m, g, c, n, lim, rfl, _⟩ := h
    rfl
  · obtain ⟨m, g, c, n, lim, rfl, d, hn, hl1, hl2, k⟩ := h
    have hu := hu_of hr
    refine ⟨_, pss_cons (ps_set (i := 2) scDraw.nd rfl (Or.inl rfl) (pe_dget hu (pv 0) pe_str (fun _ _ => rfl)))
      (pss_cons (ps_dput hu (pv 0) pe_str (pe_op op_add (pv 2) pe_int) rfl)
      (pss_cons (ps_if (pt_cmpR (op_neD hr.units) (pe_dget hu (pv 0) pe_str (fun _ _ => rfl)) (pe_lst pa_nil) (nomark _))
        (pss_cons (ps_set (i := 3) scDraw.nd rfl (Or.inl rfl) (pe_dget hu (pv 0) pe_str (fun _ _ => rfl)))
        (pss_cons (ps_set (i := 4) scDraw.nd rfl (Or.inl rfl) (pe_op op_mod (pe_callTy call_int1 (by rfl) B.int (by decide +kernel) (pa_cons (pv 2) pa_nil)) (pe_callB call_len_seq (by rfl) B.len PySem.boot_len (pa_cons (pv 3) pa_nil))))
        (pss_cons (ps_set (i := 5) scDraw.nd rfl (Or.inl rfl) (pe_ix ix_list (pv 3) (pv 4) (fun _ _ => rfl)))
        (pss_one (ps_if (pt_cmpR op_gt (pv 5) pe_int (nomark _))
          (pss_cons (ps_asg (pe_op op_fdiv (pv 5) (pv 1)) (pg_sub (pv 3) (pv 4) set_list))
          (pss_one (ps_ret (pe_op op_mod (pe_callTy call_int1 (by rfl) B.int (by decide +kernel) (pa_cons (pv 5) pa_nil)) (pv 1)))))
          pss_nil))))) pss_nil)
      (pss_cons (ps_set (i := 3) scDraw.nd rfl (Or.inl rfl) (pe_dget hu (pv 0) pe_str (fun _ _ => rfl)))
      (pss_one (ps_ret (pe_op op_mod (pe_callTy call_int1 (by rfl) B.int (by decide +kernel) (pa_cons
        (pe_call G1 hr (by rfl) F1.g F1.fn.kp b1 .nil pass0 (pa_cons (pe_call G1 hr (by rfl) F1.g F1.fn.kp b1 .nil pass0 (pa_cons
            (pe_op op_add (pe_ix ix_list (pv 3) (pe_op op_mod (pe_callTy call_int1 (by rfl) B.int (by decide +kernel) (pa_cons (pv 2) pa_nil)) pe_int) (fun _ _ => rfl)) (pe_op op_mul pe_int (pe_op op_fdiv (pv 2) pe_int)))
            (pa_cons (pv 2) pa_nil)))
          (pa_cons (pe_op op_add (pv 2) pe_int) pa_nil))) pa_nil)) (pv 1))))))), ?_⟩
    have n0 := d.n0
    -- n = m['spot']; m['spot'] = n + 1
    refine ⟨_, rfl, m, _, rfl, d.getS, ?_⟩
    refine ⟨_, rfl, _, _, rfl, rfl, _, rfl, m, _, rfl, DPut.k (k := kS) d.hm (by show 3 < sizeLine; decide), ?_⟩
    rw [mkd_ps]
    have d1 := d.next
    have k1 : Keep m g H (upd H m (.dK (mkd c g (n + 1)))) := fun b o e h1 _ => by
      rw [upd_ne h1]
      exact e
    generalize hH1 : upd H m (.dK (mkd c g (n + 1))) = H1 at d1 k1 ⊢
    clear hH1
    -- if m['great'] != []
    refine ⟨_, rfl, m, _, rfl, d1.getG, Nat.zero_le _, fun e he => ?_⟩
    have d2 : Dr (upd H1 e (.lst [])) m g c (n + 1) := d1.same (same_new he)
    have k2 : Keep m g H (upd H1 e (.lst [])) := k1.trans (.of (same_new he))
    obtain ⟨gs, hgl, hge⟩ := id d2.hg
    have hle : (upd H1 e (.lst [])) e = some (.lst []) := upd_same
    generalize hH2 : upd H1 e (.lst []) = H2 at d2 k2 hge hle ⊢
    clear hH2
    obtain ⟨cs, cc, hce⟩ := id d2.hc
    have hj : n.toNat % 64 < 64 := Nat.mod_lt _ (by decide)
    have ej : n % 64 = ((n.toNat % 64 : Nat) : Int) := by omega
    obtain ⟨y, hy, hy0, hy1⟩ := cc.at hj
    have el : (1 : Int) ≤ lim := hl1
    refine ⟨.list (gs.map PyData.int), .list [], .lst (SqL.of hge) (dp_nums gs), .lst (SqL.of hle) .nil, shaped_nums gs, by decide, _, rfl, ?_⟩
    cases gs with
    | nil =>
      refine iteF ?_
      refine ⟨_, rfl, m, _, rfl, d2.getC, ?_⟩
      refine ⟨_, rfl, _, rfl, .inl ⟨_, rfl, _, _, rfl, rfl, (by show (0 : Int) < 64; decide), c, _, _, _, rfl, rfl, SqL.of hce, at_of ej hy, _, rfl, _, _, rfl, rfl, ⟨by decide, by decide⟩,
        _, _, rfl, rfl, .inl ⟨by decide, by decide⟩, _, _, rfl, rfl, _, rfl, _, _, rfl, n0, by omega, fun z _ _ => ⟨_, rfl, _, _, rfl, rfl, _, _, rfl, by omega, by omega, fun z' h0' h1' =>
          .inl ⟨_, rfl, _, rfl, _, _, rfl, rfl, (by show (0 : Int) < lim; omega), k _ H2 (Int.emod_nonneg _ (by omega)) (Int.emod_lt_of_pos _ (by omega)) d2 k2⟩⟩⟩⟩
    | cons x gs =>
      refine iteT ?_
      have hlen : (nums (x :: gs)).length = (x :: gs).length := List.length_map ..
      have hpos : 0 < (x :: gs).length := Nat.succ_pos _
      have hi : n.toNat % (x :: gs).length < (x :: gs).length := Nat.mod_lt _ hpos
      have ei : n % (((nums (x :: gs)).length : Nat) : Int) = ((n.toNat % (x :: gs).length : Nat) : Int) := by
        rw [hlen]
        have e9 : ((n.toNat : Nat) : Int) = n := Int.toNat_of_nonneg n0
        have e8 : ((n.toNat % (x :: gs).length : Nat) : Int) = ((n.toNat : Nat) : Int) % (((x :: gs).length : Nat) : Int) := Int.natCast_emod _ _
        rw [e8, e9]
      generalize hi2 : n.toNat % (x :: gs).length = i at hi ei
      have hv : (nums (x :: gs))[i]? = some (.int ((x :: gs)[i])) := nums_at hi
      refine ⟨_, rfl, m, _, rfl, d2.getG, ?_⟩
      refine ⟨_, rfl, .inl ⟨_, rfl, _, rfl, g, _, rfl, .inl (SqL.of hge), _, _, rfl, rfl, (by rw [hlen]; omega), ?_⟩⟩
      refine ⟨_, rfl, _, rfl, g, _, _, _, rfl, rfl, SqL.of hge, at_of ei hv, ?_⟩
      refine ⟨_, rfl, _, _, rfl, rfl, _, rfl, ?_⟩
      refine ite2 (fun hc => ?_) (fun hc => ?_)
      · refine ⟨_, rfl, _, rfl, _, _, rfl, rfl, ⟨by omega, by omega⟩, _, rfl, _, rfl, g, _, _, i, rfl, rfl, hge, (by rw [ei]; exact ixN_lt (by rw [hlen]; exact hi)), ?_⟩
        rw [set_nums]
        refine ⟨_, rfl, .inl ⟨_, rfl, _, rfl, _, _, rfl, rfl, (by show (0 : Int) < lim; omega), ?_⟩⟩
        refine k _ _ (Int.emod_nonneg _ (by omega)) (Int.emod_lt_of_pos _ (by omega)) (d2.great (by rw [List.length_set]; exact hgl)) fun b o e1 h1 h2 => ?_
        rw [upd_ne h2]
        exact k2 _ _ e1 h1 h2
      · refine ⟨_, rfl, m, _, rfl, d2.getC, ?_⟩
        refine ⟨_, rfl, _, rfl, .inl ⟨_, rfl, _, _, rfl, rfl, (by show (0 : Int) < 64; decide), c, _, _, _, rfl, rfl, SqL.of hce, at_of ej hy, _, rfl, _, _, rfl, rfl, ⟨by decide, by decide⟩,
          _, _, rfl, rfl, .inl ⟨by decide, by decide⟩, _, _, rfl, rfl, _, rfl, _, _, rfl, n0, by omega, fun z _ _ => ⟨_, rfl, _, _, rfl, rfl, _, _, rfl, by omega, by omega, fun z' h0' h1' =>
            .inl ⟨_, rfl, _, rfl, _, _, rfl, rfl, (by show (0 : Int) < lim; omega), k _ H2 (Int.emod_nonneg _ (by omega)) (Int.emod_lt_of_pos _ (by omega)) d2 k2⟩⟩⟩⟩
end
end Lw
/-! G. The draws begin; sizes. -/
namespace Lw
open PySem L2 LwE
section
variable {P : Program} {w : World} {K : PySem.W.Frag} {mg : Str → Option Value} {base : Heap}
theorem merge_mkd (c g : Addr) : mergeK [] [(kC, V.ref c), (kG, V.ref g), (kS, V.int 0)] = mkd c g 0 := by
  simp [mergeK, putK, mkd, kC, kG, kS, kCG, kCS, kGS, kSG]
def spBegun (K : PySem.W.Frag) : Sp := fun vs H Q _ => ∃ (a : Addr) (ns : List Int), vs = [.ref a] ∧ SqL K H a (nums ns) ∧ ns.length ≤ 63 ∧ ∀ m g c H', Same H H' → Dr H' m g c 0 → Q (.ref m) H'
theorem scBegun : FnScope ["script", "m", "cell"] ["script"] (defScope sBegun) := ⟨rfl, rfl, rfl, by decide +kernel, rfl, by decide +kernel, by decide +kernel⟩
theorem ok_begun {f f1 : Addr} {fd fd1 : FuncData} (F : Df K mg "_law_begun" sBegun f fd) (F1 : Df K mg "_law_folded" sFolded f1 fd1) (b1 : Binds K fd1 ["script"] [])
    (G1 : FnOk P w K mg base CX0 1 f1 fd1 ["script"] (spFolded K)) : FnOk P w K mg base CX0 2 f fd ["script"] (spBegun K) := by
  refine F.fn.ok scBegun (fun vs H Q E h => ?_) (fun cdv A outer s H vs Q E hr h => ?_)
  · obtain ⟨a, ns, rfl, _⟩ := h
    rfl
  · obtain ⟨a, ns, rfl, hS, hl, k⟩ := h
    have hu := hu_of hr
    refine ⟨_, pss_cons (ps_set (i := 1) scBegun.nd rfl (Or.inl rfl) (pe_disp (pps_cons pe_str (pe_call G1 hr (by rfl) F1.g F1.fn.kp b1 .nil pass0 (pa_cons (pv 0) pa_nil))
        (pps_cons pe_str (pe_lst pa_nil) (pps_cons pe_str pe_int pps_nil))) (by rfl) (by rfl) (fun z => by cases z) (by decide)))
      (pss_cons (ps_dput hu (pv 1) pe_str (pe_lc (own := [("cell", 2)]) (g := gName 2) (tt := tYes) rfl scBegun.nd (pi_list (pv 0)) (blkOk_by (N := ["script", "m", "cell"]) (sc := defScope sBegun) (by decide +kernel))
          (fun _ _ _ _ _ => pg_name (i := 2) scBegun.nd rfl (Or.inl rfl)) (fun _ _ _ _ _ => pts_nil)
          (fun _ _ _ _ _ => pe_ifExp (pt_cmpR op_ge (pv 2) (pe_op op_pow pe_int pe_int) (nomark _)) (pv 2) pe_int)) rfl)
      (pss_one (ps_ret (pv 1)))), ?_⟩
    intro p hp
    refine ⟨_, rfl, a, ns, rfl, (same_new hp).seq hS, fun D H1 f1 => ?_⟩
    have s1 : Same H H1 := (same_new hp).trans f1.same
    have hp1 : H1 p = some (.dK []) := f1.same _ _ upd_same
    refine ⟨Nat.zero_le _, fun g hg => ?_⟩
    have npg : p ≠ g := ne_of_none hp1 hg
    refine ⟨by rw [upd_ne npg]; exact hp1, [(kC, .ref D), (kG, .ref g), (kS, .int 0)], rfl, (by show 3 ≤ 15; decide), ?_⟩
    rw [merge_mkd]
    obtain ⟨cs, cc, eD⟩ := f1.cells
    have nDp : D ≠ p := ne_of eD hp1 (by intro z; cases z)
    have nDg : D ≠ g := ne_of_none eD hg
    have d0 : Dr (upd (upd H1 g (.lst [])) p (.dK (mkd D g 0))) p g D 0 :=
      ⟨upd_same, ⟨cs, cc, by rw [upd_ne nDp, upd_ne nDg]; exact eD⟩, ⟨[], by decide, by rw [upd_ne npg.symm, upd_same]; rfl⟩, nDg, Int.le_refl 0⟩
    have s2 : Same H (upd (upd H1 g (.lst [])) p (.dK (mkd D g 0))) := fun b o e => by
      rw [upd_ne (ne_of_none e hp), upd_ne (ne_of_none (s1 _ _ e) hg)]
      exact s1 _ _ e
    generalize hH2 : upd (upd H1 g (.lst [])) p (.dK (mkd D g 0)) = H2 at d0 s2 ⊢
    clear hH2
    refine ⟨_, rfl, a, rfl, ⟨_, s2.seq hS⟩, fun q hq => lc_list (K := K) (a := a) (xs := nums ns) (fun i H' => Same H2 H' ∧ ∃ gs : List Int, gs.length = i ∧ H' q = some (.lst (nums gs))) ⟨same_new hq, [], rfl, upd_same⟩
      (fun i H' _ ⟨s3, _⟩ => (s2.trans s3).seq hS) ?_ ?_⟩
    · intro i x H' hx ⟨s3, gs, h2, h3⟩
      obtain ⟨z, rfl, hz, _⟩ := nums_get hx
      have hi : i < ns.length := (List.getElem?_eq_some_iff.mp hz).1
      refine ⟨rfl, ?_⟩
      unfold tYes
      refine iteT ?_
      refine ⟨_, rfl, _, _, rfl, rfl, ⟨by decide, by decide, by decide⟩, _, _, rfl, rfl, _, rfl, ?_⟩
      have put : ∀ y : Int, ∃ acc, H' q = some (.lst acc) ∧ acc.length < sizeLine ∧ Same H2 (upd H' q (.lst (acc ++ [.int y]))) ∧ ∃ gs : List Int, gs.length = i + 1 ∧ (upd H' q (.lst (acc ++ [.int y]))) q = some (.lst (nums gs)) := fun y => by
        refine ⟨nums gs, h3, by rw [List.length_map]; exact small1000 (by omega), fun b o e => ?_, gs ++ [y], by simp [h2], by rw [upd_same]; simp [nums]⟩
        rw [upd_ne (ne_of_none e hq)]
        exact s3 _ _ e
      refine ite2 (fun _ => ?_) (fun _ => ?_)
      · exact ⟨_, rfl, put z⟩
      · exact put 0
    · intro H' ⟨s3, gs, h2, h3⟩
      have d3 := d0.same s3
      refine ⟨_, rfl, p, _, rfl, DPut.k (k := kG) d3.hm (by show 3 < sizeLine; decide), ?_⟩
      rw [mkd_pg]
      have nqp : q ≠ p := ne_of h3 d3.hm (by intro z; cases z)
      obtain ⟨cs', cc', eD'⟩ := d0.hc
      have nDq : D ≠ q := ne_of_none eD' hq
      refine ⟨_, rfl, k p q D _ (fun b o e => ?_) ⟨upd_same, ⟨cs', cc', ?_⟩, ⟨gs, ?_, ?_⟩, nDq, Int.le_refl 0⟩⟩
      · rw [upd_ne (ne_of_none e hp)]
        exact s3 _ _ (s2 _ _ e)
      · rw [upd_ne nDp]
        exact s3 _ _ eD'
      · rw [h2, List.length_map]
        exact hl
      · rw [upd_ne nqp]
        exact h3
def spSize : Sp := fun vs H Q _ => ∃ (m g c : Addr) (n : Int), vs = [.ref m] ∧ Dr H m g c n ∧ n ≤ 100000 ∧ ∀ (z : Int) (H' : Hp), 2 ≤ z → z ≤ 6 → Dr H' m g c (n + 1) → Keep m g H H' → Q (.int z) H'
theorem scSize : FnScope ["m"] ["m"] (defScope sSize) := ⟨rfl, rfl, rfl, by decide +kernel, rfl, by decide +kernel, by decide +kernel⟩
theorem ok_size {f f1 : Addr} {fd fd1 : FuncData} (F : Df K mg "_law_size" sSize f fd) (F1 : Df K mg "_law_draw" sDraw f1 fd1) (b1 : Binds K fd1 ["m", "limit"] [])
    (G1 : FnOk P w K mg base CX0 2 f1 fd1 ["m", "limit"] spDraw) : FnOk P w K mg base CX0 3 f fd ["m"] spSize := by
  refine F.fn.ok scSize (fun vs H Q E h => ?_) (fun cdv A outer s H vs Q E hr h => ?_)
  · obtain ⟨m, g, c, n, rfl, _⟩ := h
    rfl
  · obtain ⟨m, g, c, n, rfl, d, hn, k⟩ := h
    refine ⟨_, pss_one (ps_ret (pe_op op_add pe_int (pe_call G1 hr (by rfl) F1.g F1.fn.kp b1 .nil pass0 (pa_cons (pv 0) (pa_cons pe_int pa_nil))))), ?_⟩
    refine ⟨_, rfl, m, g, c, n, 5, rfl, d, hn, by decide, by decide, fun z H' h0 h1 d' kp => ⟨_, _, rfl, rfl, k _ H' (by omega) (by omega) d' kp⟩⟩
end
end Lw
/-! H. Drawn letters. -/
namespace Lw
open PySem L2 LwE
theorem Dr.upd_at {H : Hp} {m g c q : Addr} {n : Int} {o : HO} (d : Dr H m g c n) (h1 : q ≠ m) (h2 : q ≠ g) (h3 : q ≠ c) : Dr (upd H q o) m g c n :=
  ⟨by rw [upd_ne h1.symm]; exact d.hm, let ⟨cs, a, b⟩ := d.hc; ⟨cs, a, by rw [upd_ne h3.symm]; exact b⟩, let ⟨cs, a, b⟩ := d.hg; ⟨cs, a, by rw [upd_ne h2.symm]; exact b⟩, d.ne, d.n0⟩
/-- what was not there ahead of a draw is none of its parts -/
structure Off (q m g c : Addr) : Prop where
  m : q ≠ m
  g : q ≠ g
  c : q ≠ c
theorem Dr.off {H : Hp} {m g c q : Addr} {n : Int} (d : Dr H m g c n) (h : H q = none) : Off q m g c :=
  ⟨(ne_of_none d.hm h).symm, let ⟨_, _, e⟩ := d.hg; (ne_of_none e h).symm, let ⟨_, _, e⟩ := d.hc; (ne_of_none e h).symm⟩
theorem Keep.free {m g c q : Addr} {n : Int} {H H' : Hp} (k : Keep m g H H') (d : Dr H' m g c n) (h : H' q = none) : H q = none := by
  have z := d.off h
  cases e : H q with
  | none => rfl
  | some o =>
    rw [k q o e z.m z.g] at h
    cases h
theorem Keep.put {m g q : Addr} {H H' : Hp} {o : HO} (k : Keep m g H H') (h : H q = none) : Keep m g H (upd H' q o) := fun b u e h1 h2 => by
  rw [upd_ne (ne_of_none e h)]
  exact k b u e h1 h2
theorem cut_take (l : List Int) {n : Int} (h : 0 ≤ n) : cutV (nums l) none (some n) = nums (l.take n.toNat) := by
  unfold cutV
  have e : HT.sIx (nums l).length (nums l).length (some n) = min n.toNat (nums l).length := by
    have q := HT.sIx_nat (nums l).length (nums l).length n.toNat
    rw [Int.toNat_of_nonneg h] at q
    exact q
  rw [HT.sIx_none, e, Nat.sub_zero, List.drop_zero]
  rw [List.length_map]
  show (l.map V.int).take _ = (l.take n.toNat).map V.int
  rw [← List.map_take]
  exact congrArg (List.map V.int) List.take_eq_take_min.symm
section
variable {P : Program} {w : World} {K : PySem.W.Frag} {mg : Str → Option Value} {base : Heap}
/-- between two turns -/
structure LW (H H' : Hp) (m g c : Addr) (n size : Int) (q : Addr) (fs : List Int) : Prop where
  dr : ∃ n', Dr H' m g c n' ∧ n ≤ n' ∧ n' ≤ n + 3 + 2 * fs.length
  kp : Keep m g H H'
  fr : H q = none
  at_ : H' q = some (.lst (nums fs))
  len : fs.length ≤ 46
  bd : ∀ x ∈ fs, 1 ≤ x ∧ x ≤ size
theorem LW.push {H H' H5 : Hp} {m g c : Addr} {n n1 size x : Int} {q : Addr} {fs : List Int} (W : LW H H' m g c n size q fs) (o : Off q m g c) (hl : fs.length ≤ 39) (k5 : Keep m g H' H5) (d5 : Dr H5 m g c n1) (h1 : n ≤ n1)
    (h2 : n1 ≤ n + 5 + 2 * fs.length) (x0 : 1 ≤ x) (x1 : x ≤ size) : LW H (upd H5 q (.lst (nums fs ++ [.int x]))) m g c n size q (fs ++ [x]) where
  dr := ⟨n1, d5.upd_at o.m o.g o.c, h1, by rw [List.length_append, List.length_singleton]; omega⟩
  kp := (W.kp.trans k5).put W.fr
  fr := W.fr
  at_ := by
    rw [upd_same]
    simp [nums]
  len := by
    rw [List.length_append, List.length_singleton]
    omega
  bd := fun y hy => by
    rcases List.mem_append.mp hy with z | z
    · exact W.bd y z
    · have e := List.mem_singleton.mp z
      omega
theorem LW.swap {H H' H5 : Hp} {m g c : Addr} {n n1 size : Int} {q p r : Addr} {fs xs : List Int} (W : LW H H' m g c n size q fs) (hl : fs.length ≤ 39) (hx : xs.length ≤ 6) (hx1 : 1 ≤ xs.length) (k5 : Keep m g H' H5) (d5 : Dr H5 m g c n1) (h1 : n ≤ n1)
    (h2 : n1 ≤ n + 5 + 2 * fs.length) (b : ∀ x ∈ xs, 1 ≤ x ∧ x ≤ size) (hp : H5 p = none) (hr : (upd H5 p (.lst (nums xs))) r = none) :
    LW H (upd (upd H5 p (.lst (nums xs))) r (.lst (nums fs ++ nums xs))) m g c n size r (fs ++ xs) where
  dr := ⟨n1, (d5.same (same_new hp)).same (same_new hr), h1, by rw [List.length_append]; omega⟩
  kp := ((W.kp.trans k5).trans (.of (same_new hp))).trans (.of (same_new hr))
  fr := ((W.kp.trans k5).trans (.of (same_new hp))).free (d5.same (same_new hp)) hr
  at_ := by
    rw [upd_same]
    simp [nums]
  len := by
    rw [List.length_append]
    omega
  bd := fun y hy => by
    rcases List.mem_append.mp hy with z | z
    · exact W.bd y z
    · exact b y z
/-- how long the list in the fifth place is -/
def lenOf (σ : List (Option V)) (H : Hp) : Nat := match (σ[5]? : Option (Option V)) with
  | some (some (V.ref q)) => (match H q with
    | some (HO.lst xs) => xs.length
    | _ => 0)
  | _ => 0
def spLetters : Sp := fun vs H Q _ => ∃ (m g c : Addr) (n size most : Int), vs = [.ref m, .int size, .int most] ∧ Dr H m g c n ∧ n ≤ 90000 ∧ 2 ≤ size ∧ size ≤ 6 ∧ 0 ≤ most ∧ most ≤ 40 ∧
  ∀ (p : Addr) (ls : List Int) (n' : Int) (H' : Hp), (ls.length : Int) ≤ most → (∀ x ∈ ls, 1 ≤ x ∧ x ≤ size) → n ≤ n' → n' ≤ n + 200 → Dr H' m g c n' → Keep m g H H' → H p = none → H' p = some (.lst (nums ls)) → Q (.ref p) H'
theorem scLetters : FnScope ["m", "size", "most", "kind", "many", "found", "low"] ["m", "size", "most"] (defScope sLetters) := ⟨rfl, rfl, rfl, by decide +kernel, rfl, by decide +kernel, by decide +kernel⟩
theorem ok_letters {f f1 : Addr} {fd fd1 : FuncData} (B : Bare mg) (F : Df K mg "_law_letters" sLetters f fd) (F1 : Df K mg "_law_draw" sDraw f1 fd1) (b1 : Binds K fd1 ["m", "limit"] [])
    (G1 : FnOk P w K mg base CX0 2 f1 fd1 ["m", "limit"] spDraw) : FnOk P w K mg base CX0 3 f fd ["m", "size", "most"] spLetters := by
  refine F.fn.ok scLetters (fun vs H Q E h => ?_) (fun cdv A outer s H vs Q E hr h => ?_)
  · obtain ⟨m, g, c, n, size, most, rfl, _⟩ := h
    rfl
  · obtain ⟨m, g, c, n, size, most, rfl, d, hn, hs1, hs2, hm1, hm2, k⟩ := h
    refine ⟨_, pss_cons (ps_par3 (i := 3) (j := 4) (l := 5) rfl scLetters.nd rfl rfl rfl (by decide) (by decide) (by decide) rfl rfl rfl
        (pa_cons (pe_call G1 hr (by rfl) F1.g F1.fn.kp b1 .nil pass0 (pa_cons (pv 0) (pa_cons pe_int pa_nil)))
        (pa_cons (pe_call G1 hr (by rfl) F1.g F1.fn.kp b1 .nil pass0 (pa_cons (pv 0) (pa_cons (pe_op op_add (pv 2) pe_int) pa_nil))) (pa_cons (pe_lst pa_nil) pa_nil))) (by rfl))
      (pss_cons (ps_set (i := 6) scLetters.nd rfl (Or.inl rfl) (pe_op op_add pe_int (pe_call G1 hr (by rfl) F1.g F1.fn.kp b1 .nil pass0 (pa_cons (pv 0) (pa_cons (pe_op op_sub (pv 1) pe_int) pa_nil)))))
      (pss_cons (ps_while PassesOwn.never (pt_cmpR op_lt (pe_callB call_len_seq (by rfl) B.len PySem.boot_len (pa_cons (pv 5) pa_nil)) (pv 4) (nomark _))
        (pss_one (ps_if (pt_cmpR op_eq (pv 3) pe_int (nomark _))
          (pss_one (ps_expr (pe_bm PySem.F.plainAttrs_list PySem.F.slot_list_append PySem.F.type_list_append mt_append (pv 5)
            (pa_cons (pe_op op_add pe_int (pe_call G1 hr (by rfl) F1.g F1.fn.kp b1 .nil pass0 (pa_cons (pv 0) (pa_cons (pv 1) pa_nil)))) pa_nil))))
          (pss_one (ps_if (pt_cmpR op_eq (pv 3) pe_int (nomark _))
            (pss_one (ps_expr (pe_bm PySem.F.plainAttrs_list PySem.F.slot_list_append PySem.F.type_list_append mt_append (pv 5)
              (pa_cons (pe_op op_add (pv 6) (pe_call G1 hr (by rfl) F1.g F1.fn.kp b1 .nil pass0 (pa_cons (pv 0) (pa_cons pe_int pa_nil)))) pa_nil))))
            (pss_one (ps_if (pt_cmpR op_eq (pv 3) pe_int (nomark _))
              (pss_one (ps_expr (pe_bm PySem.F.plainAttrs_list PySem.F.slot_list_append PySem.F.type_list_append mt_append (pv 5)
                (pa_cons (pe_ix ix_list (pe_lst (pa_cons (pv 6) (pa_cons (pv 6) (pa_cons (pe_op op_add pe_int (pe_call G1 hr (by rfl) F1.g F1.fn.kp b1 .nil pass0 (pa_cons (pv 0) (pa_cons (pv 1) pa_nil)))) pa_nil))))
                  (pe_call G1 hr (by rfl) F1.g F1.fn.kp b1 .nil pass0 (pa_cons (pv 0) (pa_cons pe_int pa_nil))) (fun _ _ => rfl)) pa_nil))))
              (pss_one (ps_if (pt_cmpR op_eq (pv 3) pe_int (nomark _))
                (pss_one (ps_set (i := 5) scLetters.nd rfl (Or.inl rfl) (pe_op op_cat (pv 5)
                  (pe_listDn rfl (by rfl) B.list (by rfl) B.range (pa_cons (pv 1) (pa_cons (pe_call G1 hr (by rfl) F1.g F1.fn.kp b1 .nil pass0 (pa_cons (pv 0) (pa_cons (pv 1) pa_nil))) (pa_cons (pe_un un_neg pe_int) pa_nil)))))))
                (pss_one (ps_set (i := 5) scLetters.nd rfl (Or.inl rfl) (pe_op op_cat (pv 5)
                  (pe_listRg rfl (by rfl) B.list (prg_2 (by rfl) B.range (pe_op op_add pe_int (pe_call G1 hr (by rfl) F1.g F1.fn.kp b1 .nil pass0 (pa_cons (pv 0) (pa_cons (pv 1) pa_nil)))) (pe_op op_add (pv 1) pe_int)))))))))))))))
      (pss_one (ps_ret (pe_slice sl_list (pv 5) po_none (po_some (pv 4))))))), ?_⟩
    refine ⟨_, rfl, m, g, c, n, 5, rfl, d, by omega, by decide, by decide, fun kd H1 kd0 kd1 d1 k1 => ?_⟩
    refine ⟨_, rfl, _, rfl, _, _, rfl, rfl, m, g, c, n + 1, most + 1, rfl, d1, by omega, by omega, by omega, fun many H2 m0 m1 d2 k2 => ?_⟩
    refine ⟨Nat.zero_le _, fun q hq => ⟨_, _, _, rfl, ?_⟩⟩
    have kk2 : Keep m g H H2 := k1.trans k2
    have d3 : Dr (upd H2 q (.lst [])) m g c (n + 1 + 1) := d2.same (same_new hq)
    have hq0 : H q = none := kk2.free d2 hq
    have off := d.off hq0
    refine ⟨_, rfl, _, rfl, _, _, rfl, rfl, m, g, c, n + 1 + 1, size - 1, rfl, d3, by omega, by omega, by omega, fun lw H4 l0 l1 d4 k4 => ?_⟩
    refine ⟨_, _, rfl, rfl, ?_⟩
    have W0 : LW H H4 m g c n size q [] := ⟨⟨_, d4, by omega, by simp; omega⟩, (kk2.trans (.of (same_new hq))).trans k4, hq0, k4 _ _ upd_same off.m off.g, by decide, fun x hx => by simp at hx⟩
    refine while_by (fun σ H' => ∃ q fs, σ = [some (.ref m), some (.int size), some (.int most), some (.int kd), some (.int many), some (.ref q), some (.int (1 + lw))] ∧ LW H H' m g c n size q fs)
      (fun σ H' => many.toNat - lenOf σ H') ⟨q, [], rfl, W0⟩ ?_ ?_
    · rintro σ H' ⟨q, fs, rfl, W⟩
      refine ⟨_, rfl, q, _, rfl, .inl (SqL.of W.at_), _, rfl, _, _, rfl, rfl, _, rfl, ?_⟩
      rw [List.length_map]
      have off := d.off W.fr
      obtain ⟨n1, dn, e1, e2⟩ := W.dr
      have lo : lenOf [some (.ref m), some (.int size), some (.int most), some (.int kd), some (.int many), some (.ref q), some (.int (1 + lw))] H' = fs.length := by
        unfold lenOf
        simp only [List.getElem?_cons_succ, List.getElem?_cons_zero, W.at_, List.length_map]
      refine ite2 (fun hc => ?_) (fun hc => ?_)
      · have hlt : (fs.length : Int) < many := of_decide_eq_true hc
        have hl : fs.length ≤ 39 := by omega
        rw [lo]
        have hsz : (nums fs).length < sizeLine := by
          rw [List.length_map]
          exact small1000 (by omega)
        have step : ∀ (H6 : Hp) (q' : Addr) (fs' : List Int), LW H H6 m g c n size q' fs' → fs.length < fs'.length →
            (∃ q fs, [some (V.ref m), some (.int size), some (.int most), some (.int kd), some (.int many), some (.ref q'), some (.int (1 + lw))] = [some (V.ref m), some (.int size), some (.int most), some (.int kd), some (.int many), some (.ref q), some (.int (1 + lw))] ∧ LW H H6 m g c n size q fs) ∧
            many.toNat - lenOf [some (.ref m), some (.int size), some (.int most), some (.int kd), some (.int many), some (.ref q'), some (.int (1 + lw))] H6 < many.toNat - fs.length := by
          intro H6 q' fs' W6 h6
          refine ⟨⟨q', fs', rfl, W6⟩, ?_⟩
          have lo6 : lenOf [some (.ref m), some (.int size), some (.int most), some (.int kd), some (.int many), some (.ref q'), some (.int (1 + lw))] H6 = fs'.length := by
            unfold lenOf
            simp only [List.getElem?_cons_succ, List.getElem?_cons_zero, W6.at_, List.length_map]
          rw [lo6]
          omega
        refine ⟨_, rfl, rfl, _, rfl, ite2 (fun _ => ?_) (fun _ => ?_)⟩
        · refine ⟨_, rfl, .inl ⟨rfl, _, SqL.of W.at_⟩, _, rfl, _, rfl, m, g, c, n1, size, rfl, dn, by omega, by omega, by omega, fun z H5 z0 z1 d5 k5 => ⟨_, _, rfl, rfl, q, _, _, rfl, rfl, k5 _ _ W.at_ off.m off.g, hsz, ?_⟩⟩
          exact step _ _ _ (W.push off hl k5 d5 (by omega) (by omega) (by omega) (by omega)) (by simp)
        refine ⟨_, rfl, rfl, _, rfl, ite2 (fun _ => ?_) (fun _ => ?_)⟩
        · refine ⟨_, rfl, .inl ⟨rfl, _, SqL.of W.at_⟩, _, rfl, _, rfl, m, g, c, n1, 2, rfl, dn, by omega, by omega, by omega, fun z H5 z0 z1 d5 k5 => ⟨_, _, rfl, rfl, q, _, _, rfl, rfl, k5 _ _ W.at_ off.m off.g, hsz, ?_⟩⟩
          exact step _ _ _ (W.push off hl k5 d5 (by omega) (by omega) (by omega) (by omega)) (by simp)
        refine ⟨_, rfl, rfl, _, rfl, ite2 (fun _ => ?_) (fun _ => ?_)⟩
        · refine ⟨_, rfl, .inl ⟨rfl, _, SqL.of W.at_⟩, _, rfl, _, rfl, _, rfl, _, rfl, m, g, c, n1, size, rfl, dn, by omega, by omega, by omega, fun z H5 z0 z1 d5 k5 => ⟨_, _, rfl, rfl, (by show 3 ≤ sizeLine; decide), fun l hl5 => ?_⟩⟩
          have d6 := d5.same (same_new (o := .lst [.int (1 + lw), .int (1 + lw), .int (1 + z)]) hl5)
          refine ⟨_, rfl, m, g, c, _, 3, rfl, d6, by omega, by omega, by omega, fun y H7 y0 y1 d7 k7 => ?_⟩
          have offl := d5.off hl5
          have h7 := k7 _ _ upd_same offl.m offl.g
          have k57 : Keep m g H' H7 := (k5.trans (.of (same_new hl5))).trans k7
          have fin : ∀ x : Int, 1 ≤ x → x ≤ size → ∃ (l' : Addr) (xs : List V) (y' : V), V.ref q = .ref l' ∧ [V.int x] = [y'] ∧ H7 l' = some (.lst xs) ∧ xs.length < sizeLine ∧
              (∃ q_1 fs, [some (V.ref m), some (.int size), some (.int most), some (.int kd), some (.int many), some (.ref q), some (.int (1 + lw))] = [some (V.ref m), some (.int size), some (.int most), some (.int kd), some (.int many), some (.ref q_1), some (.int (1 + lw))] ∧
                LW H (upd H7 l' (.lst (xs ++ [y']))) m g c n size q_1 fs) ∧
              many.toNat - lenOf [some (.ref m), some (.int size), some (.int most), some (.int kd), some (.int many), some (.ref q), some (.int (1 + lw))] (upd H7 l' (.lst (xs ++ [y']))) < many.toNat - fs.length := fun x x0 x1 =>
            ⟨q, _, _, rfl, rfl, k57 _ _ W.at_ off.m off.g, hsz, step _ _ _ (W.push off hl k57 d7 (by omega) (by omega) x0 x1) (by simp)⟩
          rcases (show y = 0 ∨ y = 1 ∨ y = 2 by omega) with e | e | e <;> subst e
          · exact ⟨l, _, _, _, rfl, rfl, SqL.of h7, at_of (j := 0) rfl rfl, fin _ (by omega) (by omega)⟩
          · exact ⟨l, _, _, _, rfl, rfl, SqL.of h7, at_of (j := 1) rfl rfl, fin _ (by omega) (by omega)⟩
          · exact ⟨l, _, _, _, rfl, rfl, SqL.of h7, at_of (j := 2) rfl rfl, fin _ (by omega) (by omega)⟩
        refine ⟨_, rfl, rfl, _, rfl, ite2 (fun _ => ?_) (fun _ => ?_)⟩
        · refine ⟨_, rfl, _, rfl, _, rfl, _, rfl, m, g, c, n1, size, rfl, dn, by omega, by omega, by omega, fun z H5 z0 z1 d5 k5 => ⟨1, rfl, size, z, rfl, ⟨by omega, by omega, by omega, by omega⟩, fun p hp => ?_⟩⟩
          refine ⟨q, p, _, _, rfl, rfl, (same_new hp) _ _ (k5 _ _ W.at_ off.m off.g), upd_same, ?_, fun r hr => ?_⟩
          · rw [List.length_map, List.length_map, dnV_length, sizeLine_eq]
            omega
          · exact step _ _ _ (W.swap hl (by rw [dnV_length]; omega) (by rw [dnV_length]; omega) k5 d5 (by omega) (by omega) (fun x hx => by have := dnV_mem hx; omega) hp hr) (by rw [List.length_append, dnV_length]; omega)
        · refine ⟨_, rfl, _, rfl, _, rfl, m, g, c, n1, size, rfl, dn, by omega, by omega, by omega, fun z H5 z0 z1 d5 k5 => ⟨_, _, rfl, rfl, _, rfl, _, _, rfl, rfl, _, _, rfl, rfl, RgOk.of_le (by omega) (by omega) (by omega) (by omega), fun p hp => ?_⟩⟩
          rw [upV_eq]
          refine ⟨q, p, _, _, rfl, rfl, (same_new hp) _ _ (k5 _ _ W.at_ off.m off.g), upd_same, ?_, fun r hr => ?_⟩
          · rw [List.length_map, List.length_map, upV_length, sizeLine_eq]
            omega
          · exact step _ _ _ (W.swap hl (by rw [upV_length]; omega) (by rw [upV_length]; omega) k5 d5 (by omega) (by omega) (fun x hx => by have := upV_mem hx; omega) hp hr) (by rw [List.length_append, upV_length]; omega)
      · refine ⟨_, rfl, _, rfl, _, rfl, q, _, rfl, SqL.of W.at_, fun p hp => ?_⟩
        rw [cut_take fs (by omega)]
        refine k p (fs.take many.toNat) n1 _ ?_ (fun x hx => W.bd x (List.mem_of_mem_take hx)) e1 ?_ (dn.same (same_new hp)) (W.kp.trans (.of (same_new hp))) (W.kp.free dn hp) upd_same
        · rw [List.length_take]
          omega
        · have := W.len
          omega
    · intro σ H' Q1 Q2 hq h
      obtain ⟨v, e1, p, ys, e2, e3, v2, e4, i, j, e5, e6, b, e7, h⟩ := h
      exact ⟨v, e1, p, ys, e2, e3, v2, e4, i, j, e5, e6, b, e7, hq _ _ h⟩
end
end Lw
/-! I. Letters checked; brackets read. -/
namespace Lw
open PySem L2 LwE LwM
section
variable {P : Program} {w : World} {K : PySem.W.Frag} {mg : Str → Option Value} {base : Heap}
/-- letters of the size, at most forty -/
structure Ls (size : Int) (ls : List Int) : Prop where
  s0 : 2 ≤ size
  s1 : size ≤ 6
  len : ls.length ≤ 40
  bd : ∀ x ∈ ls, 1 ≤ x ∧ x ≤ size
/-- a list, or a tuple, of them -/
def Seq (H : Hp) (a : Addr) (ls : List Int) : Prop := H a = some (.lst (nums ls)) ∨ H a = some (.tup (nums ls))
theorem Seq.same {H H' : Hp} {a : Addr} {ls : List Int} (h : Seq H a ls) (s : Same H H') : Seq H' a ls := h.elim (fun e => .inl (s _ _ e)) fun e => .inr (s _ _ e)
theorem Seq.is {H : Hp} {a : Addr} {ls : List Int} (h : Seq H a ls) : (∃ xs, H a = some (.lst xs)) ∨ ∃ xs, H a = some (.tup xs) := h.elim (fun e => .inl ⟨_, e⟩) fun e => .inr ⟨_, e⟩
theorem Seq.sq {H : Hp} {a : Addr} {ls : List Int} (h : Seq H a ls) : SqL K H a (nums ls) ∨ SqT K H a (nums ls) := h.elim (fun e => .inl (SqL.of e)) fun e => .inr (SqT.of e)
def spCkLetters : Sp := fun vs H Q _ => ∃ (size : Int) (a : Addr) (ls : List Int), vs = [.int size, .ref a] ∧ Seq H a ls ∧ Ls size ls ∧ ∀ H', Same H H' → Q .non H'
theorem scCkLetters : FnScope ["size", "letters", "place", "letter"] ["size", "letters"] (defScope sCkLetters) := ⟨rfl, rfl, rfl, by decide +kernel, rfl, by decide +kernel, by decide +kernel⟩
theorem ok_ckletters {f f1 f2 : Addr} {fd fd1 fd2 : FuncData} (B : Bare mg) (N : Nums mg) (F : Df K mg "check_letters" sCkLetters f fd) (F1 : Df K mg "is_between" sBetween f1 fd1) (b1 : Binds K fd1 ["value", "least", "most"] [])
    (G1 : FnOk P w K mg base CX0 2 f1 fd1 ["value", "least", "most"] spBetween) (F2 : Df K mg "is_listing" sListing f2 fd2) (b2 : Binds K fd2 ["value"] []) (G2 : FnOk P w K mg base CX0 1 f2 fd2 ["value"] spListing) :
    FnOk P w K mg base CX0 3 f fd ["size", "letters"] spCkLetters := by
  refine F.fn.ok scCkLetters (fun vs H Q E h => ?_) (fun cdv A outer s H vs Q E hr h => ?_)
  · obtain ⟨size, a, ls, rfl, _⟩ := h
    rfl
  · obtain ⟨size, a, ls, rfl, hq, L, k⟩ := h
    obtain ⟨t3, e3⟩ := N.mostL
    have hr1 : Room 1 _ := hr.mono (by decide)
    have turn : ∀ {X : Cx}, True := fun {_} => trivial
    have ck : ∀ (H1 : Hp), Same H H1 → Seq H1 a ls := fun H1 s1 => hq.same s1
    have lenOk : decide ((40 : Int) < (((nums ls).length : Nat) : Int)) = false := decide_eq_false (by rw [List.length_map]; have := L.len; omega)
    rcases hq with hq | hq
    · refine ⟨_, pss_cons (ps_if (pt_not (pt_val (pe_call G2 hr1 (by rfl) F2.g F2.fn.kp b2 .nil pass0 (pa_cons (pv 1) pa_nil)))) pss_never pss_nil)
        (pss_cons (ps_if (pt_cmpR op_gt (pe_callB call_len_seq (by rfl) B.len PySem.boot_len (pa_cons (pv 1) pa_nil)) (pe_glob (v := .int 40) (by rfl) e3 ⟨_, rfl⟩) (nomark _)) pss_never pss_nil)
        (pss_one (ps_for PassesOwn.never rfl (pi_enum (by rfl) B.enumerate (pa_cons (pv 1) pa_nil)) (pg_tup rfl (pgs_cons (pg_name (i := 2) scCkLetters.nd rfl (Or.inl rfl)) (pgs_cons (pg_name (i := 3) scCkLetters.nd rfl (Or.inl rfl)) pgs_nil)))
          (pss_one (ps_if (pt_not (pt_val (pe_call G1 hr (by rfl) F1.g F1.fn.kp b1 .nil pass0 (pa_cons (pv 3) (pa_cons pe_int (pa_cons (pv 0) pa_nil)))))) pss_never pss_nil))))), ?_⟩
      refine ⟨_, rfl, a, rfl, .inl ⟨_, hq⟩, fun H1 s1 => ⟨true, rfl, iteF ?_⟩⟩
      refine ⟨_, rfl, a, _, rfl, .inl (SqL.of (s1 _ _ hq)), _, _, rfl, rfl, _, rfl, ?_⟩
      rw [lenOk]
      refine iteF ?_
      refine ⟨_, rfl, a, _, rfl, SqL.of (s1 _ _ hq), for_enL (K := K) (a := a) (xs := nums ls) (fun i σ H2 => ∃ v2 v3 : Option V, σ = [some (.int size), some (.ref a), v2, v3] ∧ Same H H2) ⟨_, _, rfl, s1⟩
        (fun i σ H2 _ ⟨_, _, _, s2⟩ => SqL.of (s2 _ _ hq)) ?_ ?_⟩
      · rintro i x T σ H2 hx ⟨v2, v3, rfl, s2⟩ hT
        obtain ⟨z, rfl, _, hz⟩ := nums_get hx
        refine ⟨T, _, rfl, SqT.of upd_same, rfl, _, _, rfl, _, _, rfl, rfl, ?_⟩
        refine ⟨_, rfl, _, rfl, z, 1, size, rfl, _, rfl, ?_⟩
        rw [decide_eq_true (L.bd z hz)]
        exact iteF ⟨_, _, rfl, s2.trans (same_new hT)⟩
      · rintro σ H2 ⟨v2, v3, rfl, s2⟩
        exact k H2 s2
    · refine ⟨_, pss_cons (ps_if (pt_not (pt_val (pe_call G2 hr1 (by rfl) F2.g F2.fn.kp b2 .nil pass0 (pa_cons (pv 1) pa_nil)))) pss_never pss_nil)
        (pss_cons (ps_if (pt_cmpR op_gt (pe_callB call_len_seq (by rfl) B.len PySem.boot_len (pa_cons (pv 1) pa_nil)) (pe_glob (v := .int 40) (by rfl) e3 ⟨_, rfl⟩) (nomark _)) pss_never pss_nil)
        (pss_one (ps_for PassesOwn.never rfl (pi_enT (by rfl) B.enumerate (pa_cons (pv 1) pa_nil)) (pg_tup rfl (pgs_cons (pg_name (i := 2) scCkLetters.nd rfl (Or.inl rfl)) (pgs_cons (pg_name (i := 3) scCkLetters.nd rfl (Or.inl rfl)) pgs_nil)))
          (pss_one (ps_if (pt_not (pt_val (pe_call G1 hr (by rfl) F1.g F1.fn.kp b1 .nil pass0 (pa_cons (pv 3) (pa_cons pe_int (pa_cons (pv 0) pa_nil)))))) pss_never pss_nil))))), ?_⟩
      refine ⟨_, rfl, a, rfl, .inr ⟨_, hq⟩, fun H1 s1 => ⟨true, rfl, iteF ?_⟩⟩
      refine ⟨_, rfl, a, _, rfl, .inr (SqT.of (s1 _ _ hq)), _, _, rfl, rfl, _, rfl, ?_⟩
      rw [lenOk]
      refine iteF ?_
      refine ⟨_, rfl, a, _, rfl, SqT.of (s1 _ _ hq), for_enT (K := K) (a := a) (xs := nums ls) (fun i σ H2 => ∃ v2 v3 : Option V, σ = [some (.int size), some (.ref a), v2, v3] ∧ Same H H2) ⟨_, _, rfl, s1⟩
        (fun i σ H2 _ ⟨_, _, _, s2⟩ => SqT.of (s2 _ _ hq)) ?_ ?_⟩
      · rintro i x T σ H2 hx ⟨v2, v3, rfl, s2⟩ hT
        obtain ⟨z, rfl, _, hz⟩ := nums_get hx
        refine ⟨T, _, rfl, SqT.of upd_same, rfl, _, _, rfl, _, _, rfl, rfl, ?_⟩
        refine ⟨_, rfl, _, rfl, z, 1, size, rfl, _, rfl, ?_⟩
        rw [decide_eq_true (L.bd z hz)]
        exact iteF ⟨_, _, rfl, s2.trans (same_new hT)⟩
      · rintro σ H2 ⟨v2, v3, rfl, s2⟩
        exact k H2 s2
/-! bracketed -/
/-- between two turns: the three lists -/
structure BW (H H' : Hp) (pr lo wa : Addr) (i : Int) (ls : List Int) : Prop where
  same : Same H H'
  fp : H pr = none
  fl : H lo = none
  fw : H wa = none
  npl : pr ≠ lo
  npw : pr ≠ wa
  nlw : lo ≠ wa
  hp : ∃ ps, H' pr = some (.lst ps) ∧ ps.length ≤ ls.length ∧ ∀ x ∈ ps, ∃ t i j, x = V.ref t ∧ H' t = some (.tup [.int i, .int j])
  hl : H' lo = some (.lst (nums (lows i ls)))
  hw : H' wa = some (.lst (nums (highs i ls)))
/-- something new was laid -/
theorem BW.new {H H' : Hp} {pr lo wa T : Addr} {i : Int} {ls : List Int} {o : HO} (W : BW H H' pr lo wa i ls) (hT : H' T = none) : BW H (upd H' T o) pr lo wa i ls :=
  ⟨W.same.trans (same_new hT), W.fp, W.fl, W.fw, W.npl, W.npw, W.nlw, let ⟨ps, h1, h2, h3⟩ := W.hp; ⟨ps, same_new hT _ _ h1, h2, fun x hx => let ⟨t, a, b, e1, e2⟩ := h3 x hx; ⟨t, a, b, e1, same_new hT _ _ e2⟩⟩,
    same_new hT _ _ W.hl, same_new hT _ _ W.hw⟩
theorem brk (i : Int) (l : List Int) (x : Int) : lows i (l ++ [x]) = (stp i (lows i l, highs i l) l.length x).1 ∧ highs i (l ++ [x]) = (stp i (lows i l, highs i l) l.length x).2 := by
  unfold lows highs
  rw [br_snoc]
  exact ⟨rfl, rfl⟩
theorem BW.wait {H H' : Hp} {pr lo wa : Addr} {i : Int} {l : List Int} (W : BW H H' pr lo wa i l) {x : Int} (hx : x = i + 1) :
    BW H (upd H' wa (.lst (nums (highs i l) ++ [.int (l.length : Nat)]))) pr lo wa i (l ++ [x]) := by
  have e := brk i l x
  unfold stp at e
  rw [if_pos hx] at e
  refine ⟨fun b o z => ?_, W.fp, W.fl, W.fw, W.npl, W.npw, W.nlw, ?_, ?_, ?_⟩
  · rw [upd_ne (ne_of_none z W.fw)]
    exact W.same _ _ z
  · obtain ⟨ps, h1, h2, h3⟩ := W.hp
    refine ⟨ps, by rw [upd_ne W.npw]; exact h1, by rw [List.length_append]; omega, fun y hy => ?_⟩
    obtain ⟨t, a, b, e1, e2⟩ := h3 y hy
    exact ⟨t, a, b, e1, by rw [upd_ne (ne_of e2 W.hw (by intro z; cases z))]; exact e2⟩
  · rw [upd_ne W.nlw, e.1]
    exact W.hl
  · rw [upd_same, e.2]
    simp [nums]
theorem BW.low {H H' : Hp} {pr lo wa : Addr} {i : Int} {l : List Int} (W : BW H H' pr lo wa i l) {x : Int} (h1 : ¬ x = i + 1) (hx : x = i) (he : highs i l = []) :
    BW H (upd H' lo (.lst (nums (lows i l) ++ [.int (l.length : Nat)]))) pr lo wa i (l ++ [x]) := by
  have e := brk i l x
  unfold stp at e
  rw [if_neg h1, if_pos hx, if_pos he] at e
  refine ⟨fun b o z => ?_, W.fp, W.fl, W.fw, W.npl, W.npw, W.nlw, ?_, ?_, ?_⟩
  · rw [upd_ne (ne_of_none z W.fl)]
    exact W.same _ _ z
  · obtain ⟨ps, h1, h2, h3⟩ := W.hp
    refine ⟨ps, by rw [upd_ne W.npl]; exact h1, by rw [List.length_append]; omega, fun y hy => ?_⟩
    obtain ⟨t, a, b, e1, e2⟩ := h3 y hy
    exact ⟨t, a, b, e1, by rw [upd_ne (ne_of e2 W.hl (by intro z; cases z))]; exact e2⟩
  · rw [upd_same, e.1]
    simp [nums]
  · rw [upd_ne W.nlw.symm, e.2]
    exact W.hw
theorem BW.pass {H H' : Hp} {pr lo wa : Addr} {i : Int} {l : List Int} (W : BW H H' pr lo wa i l) {x : Int} (h1 : ¬ x = i + 1) (hx : ¬ x = i) : BW H H' pr lo wa i (l ++ [x]) := by
  have e := brk i l x
  unfold stp at e
  rw [if_neg h1, if_neg hx] at e
  refine ⟨W.same, W.fp, W.fl, W.fw, W.npl, W.npw, W.nlw, ?_, ?_, ?_⟩
  · obtain ⟨ps, h1, h2, h3⟩ := W.hp
    exact ⟨ps, h1, by rw [List.length_append]; omega, h3⟩
  · rw [e.1]
    exact W.hl
  · rw [e.2]
    exact W.hw
/-- the last that waits is taken away -/
theorem BW.popped {H H' : Hp} {pr lo wa T : Addr} {i a b : Int} {l : List Int} {ps : List V} (W : BW H H' pr lo wa i l) {x : Int} (h1 : ¬ x = i + 1) (hx : x = i) (he : ¬ highs i l = []) (hps : H' pr = some (.lst ps)) (hl : ps.length ≤ l.length)
    (h3 : ∀ x ∈ ps, ∃ t i j, x = V.ref t ∧ H' t = some (.tup [.int i, .int j])) (hT : upd H' wa (.lst (nums (highs i l)).dropLast) T = none) :
    BW H (upd (upd (upd H' wa (.lst (nums (highs i l)).dropLast)) T (.tup [.int a, .int b])) pr (.lst (ps ++ [.ref T]))) pr lo wa i (l ++ [x]) := by
  have e := brk i l x
  unfold stp at e
  rw [if_neg h1, if_pos hx, if_neg he] at e
  have nTw : T ≠ wa := fun z => by
    rw [z, upd_same] at hT
    cases hT
  have hT2 : H' T = none := by
    rw [upd_ne nTw] at hT
    exact hT
  have nTp : T ≠ pr := (ne_of_none hps hT2).symm
  have nTl : T ≠ lo := (ne_of_none W.hl hT2).symm
  refine ⟨fun c o z => ?_, W.fp, W.fl, W.fw, W.npl, W.npw, W.nlw, ⟨_, upd_same, by rw [List.length_append, List.length_append]; simp; omega, fun y hy => ?_⟩, ?_, ?_⟩
  · rw [upd_ne (ne_of_none z W.fp), upd_ne (ne_of_none (W.same _ _ z) hT2), upd_ne (ne_of_none z W.fw)]
    exact W.same _ _ z
  · rcases List.mem_append.mp hy with q | q
    · obtain ⟨t, c, d, e1, e2⟩ := h3 y q
      refine ⟨t, c, d, e1, ?_⟩
      rw [upd_ne (ne_of e2 hps (by intro z; cases z)), upd_ne (ne_of_none e2 hT2), upd_ne (ne_of e2 W.hw (by intro z; cases z))]
      exact e2
    · refine ⟨T, a, b, List.mem_singleton.mp q, ?_⟩
      rw [upd_ne nTp, upd_same]
  · rw [upd_ne W.npl.symm, upd_ne nTl.symm, upd_ne W.nlw, e.1]
    exact W.hl
  · rw [upd_ne W.npw.symm, upd_ne nTw.symm, upd_same, e.2]
    simp [nums, List.map_dropLast]
def spBrack : Sp := fun vs H Q _ => ∃ (t : Addr) (i : Int) (ls : List Int), vs = [.ref t, .int i] ∧ Seq H t ls ∧ ls.length ≤ 100 ∧
  ∀ (p a b c : Addr) (ps : List V) (H' : Hp), Same H H' → H' p = some (.tup [.ref a, .ref b, .ref c]) → H' a = some (.lst ps) → H' b = some (.lst (nums (lows i ls))) → H' c = some (.lst (nums (highs i ls))) → H b = none → H c = none → Q (.ref p) H'
theorem scBrack : FnScope ["letters", "i", "opening", "pairs", "lows", "waiting", "place", "letter"] ["letters", "i"] (defScope sBrack) := ⟨rfl, rfl, rfl, by decide +kernel, rfl, by decide +kernel, by decide +kernel⟩
theorem ok_brack {f : Addr} {fd : FuncData} (B : Bare mg) (F : Df K mg "bracketed" sBrack f fd) : FnOk P w K mg base CX0 1 f fd ["letters", "i"] spBrack := by
  refine F.fn.ok scBrack (fun vs H Q E h => ?_) (fun cdv A outer s H vs Q E hr h => ?_)
  · obtain ⟨t, i, ls, rfl, _⟩ := h
    rfl
  · obtain ⟨t, i, ls, rfl, ht, hlen, k⟩ := h
    rcases ht with ht | ht
    · refine ⟨_, pss_cons (ps_set (i := 2) scBrack.nd rfl (Or.inl rfl) (pe_op op_add (pv 1) pe_int)) (pss_cons (ps_set (i := 3) scBrack.nd rfl (Or.inl rfl) (pe_lst pa_nil)) (pss_cons (ps_set (i := 4) scBrack.nd rfl (Or.inl rfl) (pe_lst pa_nil)) (pss_cons (ps_set (i := 5) scBrack.nd rfl (Or.inl rfl) (pe_lst pa_nil))
        (pss_cons (ps_for PassesOwn.never rfl (pi_enum (by rfl) B.enumerate (pa_cons (pv 0) pa_nil)) (pg_tup rfl (pgs_cons (pg_name (i := 6) scBrack.nd rfl (Or.inl rfl)) (pgs_cons (pg_name (i := 7) scBrack.nd rfl (Or.inl rfl)) pgs_nil)))
          (pss_one (ps_if (pt_cmpR op_eq (pv 7) (pv 2) (nomark _))
            (pss_one (ps_expr (pe_bm PySem.F.plainAttrs_list PySem.F.slot_list_append PySem.F.type_list_append mt_append (pv 5) (pa_cons (pv 6) pa_nil))))
            (pss_one (ps_if (pt_cmpR op_eq (pv 7) (pv 1) (nomark _))
              (pss_one (ps_if (pt_truth (pv 5) (by intro _; rfl))
                (pss_one (ps_expr (pe_bm PySem.F.plainAttrs_list PySem.F.slot_list_append PySem.F.type_list_append mt_append (pv 3)
                  (pa_cons (pe_tup (pa_cons (pe_bm0 PySem.F.plainAttrs_list PySem.F.slot_list_pop PySem.F.type_list_pop mt_pop (pv 5)) (pa_cons (pv 6) pa_nil))) pa_nil))))
                (pss_one (ps_expr (pe_bm PySem.F.plainAttrs_list PySem.F.slot_list_append PySem.F.type_list_append mt_append (pv 4) (pa_cons (pv 6) pa_nil))))))
              pss_nil)))))
        (pss_one (ps_ret (pe_tup (pa_cons (pv 3) (pa_cons (pv 4) (pa_cons (pv 5) pa_nil)))))))))), ?_⟩
      refine ⟨_, rfl, _, _, rfl, rfl, ?_⟩
      refine ⟨Nat.zero_le _, fun pr hpr => ⟨Nat.zero_le _, fun lo hlo => ⟨Nat.zero_le _, fun wa hwa => ?_⟩⟩⟩
      have npl : pr ≠ lo := fun z => by
        rw [← z, upd_same] at hlo
        cases hlo
      have nlw : lo ≠ wa := fun z => by
        rw [← z, upd_same] at hwa
        cases hwa
      have npw : pr ≠ wa := fun z => by
        rw [← z, upd_ne npl, upd_same] at hwa
        cases hwa
      have s1 : Same H (upd (upd (upd H pr (.lst [])) lo (.lst [])) wa (.lst [])) := ((same_new hpr).trans (same_new hlo)).trans (same_new hwa)
      have fl : H lo = none := (same_new hpr).free hlo
      have fw : H wa = none := ((same_new hpr).trans (same_new hlo)).free hwa
      have W0 : BW H (upd (upd (upd H pr (.lst [])) lo (.lst [])) wa (.lst [])) pr lo wa i [] :=
        ⟨s1, hpr, fl, fw, npl, npw, nlw, ⟨[], by rw [upd_ne npw, upd_ne npl, upd_same], Nat.le_refl _, fun x hx => by simp at hx⟩, by rw [upd_ne nlw, upd_same]; rfl, by rw [upd_same]; rfl⟩
      refine ⟨_, rfl, t, _, rfl, SqL.of (s1 _ _ ht), for_enL (K := K) (a := t) (xs := nums ls)
        (fun j σ H' => ∃ v5 v6 : Option V, σ = [some (.ref t), some (.int i), some (.int (i + 1)), some (.ref pr), some (.ref lo), some (.ref wa), v5, v6] ∧ BW H H' pr lo wa i (ls.take j)) ⟨_, _, rfl, W0⟩ (fun j σ H' _ ⟨_, _, _, W⟩ => SqL.of (W.same _ _ ht)) ?_ ?_⟩
      · rintro j x T σ H' hx ⟨v5, v6, rfl, W1⟩ hT
        obtain ⟨z, rfl, hz, _⟩ := nums_get hx
        have hj : j < ls.length := (List.getElem?_eq_some_iff.mp hz).1
        have ej : (ls.take j).length = j := by
          rw [List.length_take]
          omega
        have en : ls.take (j + 1) = ls.take j ++ [z] := by
          rw [List.take_succ, hz]
          rfl
        have W := W1.new (o := .tup [.int (j : Nat), .int z]) hT
        have eT : (upd H' T (.tup [.int (j : Nat), .int z])) T = some (.tup [.int (j : Nat), .int z]) := upd_same
        generalize upd H' T (.tup [.int (j : Nat), .int z]) = H2 at W eT ⊢
        have szl : (nums (lows i (ls.take j))).length < sizeLine := by
          rw [List.length_map]
          exact small1000 (by have := (br_len i (ls.take j)).1; omega)
        have szh : (nums (highs i (ls.take j))).length < sizeLine := by
          rw [List.length_map]
          exact small1000 (by have := (br_len i (ls.take j)).2; omega)
        refine ⟨T, _, rfl, SqT.of eT, rfl, _, _, rfl, _, _, rfl, rfl, ?_⟩
        refine ⟨_, rfl, _, rfl, rfl, _, rfl, ite2 (fun hc => ?_) (fun hc => ?_)⟩
        · have hzi : z = i + 1 := by simpa using hc
          refine ⟨_, rfl, .inl ⟨rfl, _, SqL.of W.hw⟩, _, rfl, wa, _, _, rfl, rfl, W.hw, szh, ⟨_, _, rfl, ?_⟩⟩
          rw [en]
          have q := W.wait hzi
          rw [ej] at q
          exact q
        have hzi : ¬ z = i + 1 := by simpa using hc
        refine ⟨_, rfl, _, rfl, rfl, _, rfl, ite2 (fun hc2 => ?_) (fun hc2 => ?_)⟩
        · have hz2 : z = i := by simpa using hc2
          refine ⟨_, rfl, _, .inl ⟨_, SqL.of W.hw, rfl⟩, ?_⟩
          by_cases he : highs i (ls.take j) = []
          · rw [he]
            refine iteF ⟨_, rfl, .inl ⟨rfl, _, SqL.of W.hl⟩, _, rfl, lo, _, _, rfl, rfl, W.hl, szl, ⟨_, _, rfl, ?_⟩⟩
            rw [en]
            have q := W.low hzi hz2 he
            rw [ej] at q
            exact q
          · obtain ⟨ps, h1, h2, h3⟩ := W.hp
            have hne : (!(nums (highs i (ls.take j))).isEmpty) = true := by
              cases e : highs i (ls.take j) with
              | nil => exact absurd e he
              | cons a r => rfl
            rw [hne]
            have hlast : ∃ y, (highs i (ls.take j))[(highs i (ls.take j)).length - 1]? = some y := by
              cases e : highs i (ls.take j) with
              | nil => exact absurd e he
              | cons a r => exact ⟨(a :: r)[(a :: r).length - 1], by simp⟩
            obtain ⟨y, hy⟩ := hlast
            have hy2 : (nums (highs i (ls.take j)))[(nums (highs i (ls.take j))).length - 1]? = some (.int y) := by
              rw [List.length_map, List.getElem?_map, hy]
              rfl
            refine iteT ⟨_, rfl, .inl ⟨rfl, _, SqL.of h1⟩, _, rfl, .inl ⟨rfl, _, SqL.of W.hw⟩, wa, _, _, rfl, rfl, W.hw, hy2, ?_⟩
            refine ⟨_, rfl, (by show 2 ≤ sizeLine; decide), fun T2 hT2 => ⟨pr, ps, _, rfl, rfl, ?_, small1000 (by have := List.length_take_le j ls; omega), ⟨_, _, rfl, ?_⟩⟩⟩
            · have n2 : pr ≠ T2 := fun q => by
                rw [← q, upd_ne W.npw] at hT2
                rw [h1] at hT2
                cases hT2
              rw [upd_ne n2, upd_ne W.npw]
              exact h1
            · rw [en]
              exact W.popped hzi hz2 he h1 h2 h3 hT2
        · have hz2 : ¬ z = i := by simpa using hc2
          refine ⟨_, _, rfl, ?_⟩
          rw [en]
          exact W.pass hzi hz2
      · rintro σ H' ⟨v5, v6, rfl, W1⟩
        rw [List.length_map, List.take_length] at W1
        obtain ⟨ps, h1, h2, h3⟩ := W1.hp
        refine ⟨_, rfl, _, rfl, _, rfl, (by show 3 ≤ sizeLine; decide), fun p hp => ?_⟩
        have s6 := same_new (o := .tup [.ref pr, .ref lo, .ref wa]) hp
        exact k p pr lo wa ps _ (W1.same.trans s6) upd_same (s6 _ _ h1) (s6 _ _ W1.hl) (s6 _ _ W1.hw) W1.fl W1.fw
    · refine ⟨_, pss_cons (ps_set (i := 2) scBrack.nd rfl (Or.inl rfl) (pe_op op_add (pv 1) pe_int)) (pss_cons (ps_set (i := 3) scBrack.nd rfl (Or.inl rfl) (pe_lst pa_nil)) (pss_cons (ps_set (i := 4) scBrack.nd rfl (Or.inl rfl) (pe_lst pa_nil)) (pss_cons (ps_set (i := 5) scBrack.nd rfl (Or.inl rfl) (pe_lst pa_nil))
        (pss_cons (ps_for PassesOwn.never rfl (pi_enT (by rfl) B.enumerate (pa_cons (pv 0) pa_nil)) (pg_tup rfl (pgs_cons (pg_name (i := 6) scBrack.nd rfl (Or.inl rfl)) (pgs_cons (pg_name (i := 7) scBrack.nd rfl (Or.inl rfl)) pgs_nil)))
          (pss_one (ps_if (pt_cmpR op_eq (pv 7) (pv 2) (nomark _))
            (pss_one (ps_expr (pe_bm PySem.F.plainAttrs_list PySem.F.slot_list_append PySem.F.type_list_append mt_append (pv 5) (pa_cons (pv 6) pa_nil))))
            (pss_one (ps_if (pt_cmpR op_eq (pv 7) (pv 1) (nomark _))
              (pss_one (ps_if (pt_truth (pv 5) (by intro _; rfl))
                (pss_one (ps_expr (pe_bm PySem.F.plainAttrs_list PySem.F.slot_list_append PySem.F.type_list_append mt_append (pv 3)
                  (pa_cons (pe_tup (pa_cons (pe_bm0 PySem.F.plainAttrs_list PySem.F.slot_list_pop PySem.F.type_list_pop mt_pop (pv 5)) (pa_cons (pv 6) pa_nil))) pa_nil))))
                (pss_one (ps_expr (pe_bm PySem.F.plainAttrs_list PySem.F.slot_list_append PySem.F.type_list_append mt_append (pv 4) (pa_cons (pv 6) pa_nil))))))
              pss_nil)))))
        (pss_one (ps_ret (pe_tup (pa_cons (pv 3) (pa_cons (pv 4) (pa_cons (pv 5) pa_nil)))))))))), ?_⟩
      refine ⟨_, rfl, _, _, rfl, rfl, ?_⟩
      refine ⟨Nat.zero_le _, fun pr hpr => ⟨Nat.zero_le _, fun lo hlo => ⟨Nat.zero_le _, fun wa hwa => ?_⟩⟩⟩
      have npl : pr ≠ lo := fun z => by
        rw [← z, upd_same] at hlo
        cases hlo
      have nlw : lo ≠ wa := fun z => by
        rw [← z, upd_same] at hwa
        cases hwa
      have npw : pr ≠ wa := fun z => by
        rw [← z, upd_ne npl, upd_same] at hwa
        cases hwa
      have s1 : Same H (upd (upd (upd H pr (.lst [])) lo (.lst [])) wa (.lst [])) := ((same_new hpr).trans (same_new hlo)).trans (same_new hwa)
      have fl : H lo = none := (same_new hpr).free hlo
      have fw : H wa = none := ((same_new hpr).trans (same_new hlo)).free hwa
      have W0 : BW H (upd (upd (upd H pr (.lst [])) lo (.lst [])) wa (.lst [])) pr lo wa i [] :=
        ⟨s1, hpr, fl, fw, npl, npw, nlw, ⟨[], by rw [upd_ne npw, upd_ne npl, upd_same], Nat.le_refl _, fun x hx => by simp at hx⟩, by rw [upd_ne nlw, upd_same]; rfl, by rw [upd_same]; rfl⟩
      refine ⟨_, rfl, t, _, rfl, SqT.of (s1 _ _ ht), for_enT (K := K) (a := t) (xs := nums ls)
        (fun j σ H' => ∃ v5 v6 : Option V, σ = [some (.ref t), some (.int i), some (.int (i + 1)), some (.ref pr), some (.ref lo), some (.ref wa), v5, v6] ∧ BW H H' pr lo wa i (ls.take j)) ⟨_, _, rfl, W0⟩ (fun j σ H' _ ⟨_, _, _, W⟩ => SqT.of (W.same _ _ ht)) ?_ ?_⟩
      · rintro j x T σ H' hx ⟨v5, v6, rfl, W1⟩ hT
        obtain ⟨z, rfl, hz, _⟩ := nums_get hx
        have hj : j < ls.length := (List.getElem?_eq_some_iff.mp hz).1
        have ej : (ls.take j).length = j := by
          rw [List.length_take]
          omega
        have en : ls.take (j + 1) = ls.take j ++ [z] := by
          rw [List.take_succ, hz]
          rfl
        have W := W1.new (o := .tup [.int (j : Nat), .int z]) hT
        have eT : (upd H' T (.tup [.int (j : Nat), .int z])) T = some (.tup [.int (j : Nat), .int z]) := upd_same
        generalize upd H' T (.tup [.int (j : Nat), .int z]) = H2 at W eT ⊢
        have szl : (nums (lows i (ls.take j))).length < sizeLine := by
          rw [List.length_map]
          exact small1000 (by have := (br_len i (ls.take j)).1; omega)
        have szh : (nums (highs i (ls.take j))).length < sizeLine := by
          rw [List.length_map]
          exact small1000 (by have := (br_len i (ls.take j)).2; omega)
        refine ⟨T, _, rfl, SqT.of eT, rfl, _, _, rfl, _, _, rfl, rfl, ?_⟩
        refine ⟨_, rfl, _, rfl, rfl, _, rfl, ite2 (fun hc => ?_) (fun hc => ?_)⟩
        · have hzi : z = i + 1 := by simpa using hc
          refine ⟨_, rfl, .inl ⟨rfl, _, SqL.of W.hw⟩, _, rfl, wa, _, _, rfl, rfl, W.hw, szh, ⟨_, _, rfl, ?_⟩⟩
          rw [en]
          have q := W.wait hzi
          rw [ej] at q
          exact q
        have hzi : ¬ z = i + 1 := by simpa using hc
        refine ⟨_, rfl, _, rfl, rfl, _, rfl, ite2 (fun hc2 => ?_) (fun hc2 => ?_)⟩
        · have hz2 : z = i := by simpa using hc2
          refine ⟨_, rfl, _, .inl ⟨_, SqL.of W.hw, rfl⟩, ?_⟩
          by_cases he : highs i (ls.take j) = []
          · rw [he]
            refine iteF ⟨_, rfl, .inl ⟨rfl, _, SqL.of W.hl⟩, _, rfl, lo, _, _, rfl, rfl, W.hl, szl, ⟨_, _, rfl, ?_⟩⟩
            rw [en]
            have q := W.low hzi hz2 he
            rw [ej] at q
            exact q
          · obtain ⟨ps, h1, h2, h3⟩ := W.hp
            have hne : (!(nums (highs i (ls.take j))).isEmpty) = true := by
              cases e : highs i (ls.take j) with
              | nil => exact absurd e he
              | cons a r => rfl
            rw [hne]
            have hlast : ∃ y, (highs i (ls.take j))[(highs i (ls.take j)).length - 1]? = some y := by
              cases e : highs i (ls.take j) with
              | nil => exact absurd e he
              | cons a r => exact ⟨(a :: r)[(a :: r).length - 1], by simp⟩
            obtain ⟨y, hy⟩ := hlast
            have hy2 : (nums (highs i (ls.take j)))[(nums (highs i (ls.take j))).length - 1]? = some (.int y) := by
              rw [List.length_map, List.getElem?_map, hy]
              rfl
            refine iteT ⟨_, rfl, .inl ⟨rfl, _, SqL.of h1⟩, _, rfl, .inl ⟨rfl, _, SqL.of W.hw⟩, wa, _, _, rfl, rfl, W.hw, hy2, ?_⟩
            refine ⟨_, rfl, (by show 2 ≤ sizeLine; decide), fun T2 hT2 => ⟨pr, ps, _, rfl, rfl, ?_, small1000 (by have := List.length_take_le j ls; omega), ⟨_, _, rfl, ?_⟩⟩⟩
            · have n2 : pr ≠ T2 := fun q => by
                rw [← q, upd_ne W.npw] at hT2
                rw [h1] at hT2
                cases hT2
              rw [upd_ne n2, upd_ne W.npw]
              exact h1
            · rw [en]
              exact W.popped hzi hz2 he h1 h2 h3 hT2
        · have hz2 : ¬ z = i := by simpa using hc2
          refine ⟨_, _, rfl, ?_⟩
          rw [en]
          exact W.pass hzi hz2
      · rintro σ H' ⟨v5, v6, rfl, W1⟩
        rw [List.length_map, List.take_length] at W1
        obtain ⟨ps, h1, h2, h3⟩ := W1.hp
        refine ⟨_, rfl, _, rfl, _, rfl, (by show 3 ≤ sizeLine; decide), fun p hp => ?_⟩
        have s6 := same_new (o := .tup [.ref pr, .ref lo, .ref wa]) hp
        exact k p pr lo wa ps _ (W1.same.trans s6) upd_same (s6 _ _ h1) (s6 _ _ W1.hl) (s6 _ _ W1.hw) W1.fl W1.fw
end
end Lw
/-! J. The class of words. -/
namespace Lw
open PySem L2 LwE LwM
theorem sl_ : ¬ (("size" : Str) = "letters") := by decide +kernel
theorem ls_ : ¬ (("letters" : Str) = "size") := by decide +kernel
/-- a word's attributes -/
def wf (t : Addr) (z : Int) : List (Str × V) := putF "letters" (.ref t) (putF "size" (.int z) [])
theorem wf_size (t : Addr) (z : Int) : (wf t z).lookup ("size" : Str) = some (.int z) := by
  unfold wf
  rw [lookup_putF, if_neg sl_, lookup_putF, if_pos rfl]
theorem wf_letters (t : Addr) (z : Int) : (wf t z).lookup ("letters" : Str) = some (.ref t) := by
  unfold wf
  rw [lookup_putF, if_pos rfl]
theorem wf_no (t : Addr) (z : Int) {m : Str} (h1 : ¬ m = "letters") (h2 : ¬ m = "size") : (wf t z).lookup m = none := by
  unfold wf
  rw [lookup_putF, if_neg h1, lookup_putF, if_neg h2]
  rfl
/-- a word of the class at C stands at p -/
structure WAt (C : Addr) (H : Hp) (p : Addr) (size : Int) (ls : List Int) : Prop where
  ob : ∃ dx t, H p = some (.ins C dx (wf t size)) ∧ H t = some (.tup (nums ls))
  ls : Ls size ls
theorem WAt.same {C : Addr} {H H' : Hp} {p : Addr} {size : Int} {ls : List Int} (W : WAt C H p size ls) (s : Same H H') : WAt C H' p size ls :=
  ⟨let ⟨dx, t, a, b⟩ := W.ob; ⟨dx, t, s _ _ a, s _ _ b⟩, W.ls⟩
theorem WAt.keep {C : Addr} {H H' : Hp} {p m g c : Addr} {n size : Int} {ls : List Int} (W : WAt C H p size ls) (d : Dr H m g c n) (k : Keep m g H H') : WAt C H' p size ls := by
  obtain ⟨dx, t, a, b⟩ := W.ob
  obtain ⟨gs, _, e⟩ := d.hg
  exact ⟨⟨dx, t, k _ _ a (ne_of a d.hm (by intro z; cases z)) (ne_of a e (by intro z; cases z)), k _ _ b (ne_of b d.hm (by intro z; cases z)) (ne_of b e (by intro z; cases z))⟩, W.ls⟩
/-- what the top has made of the class -/
structure Cw (K : PySem.W.Frag) (mg : Str → Option Value) (C : Addr) : Prop where
  cl : Cls K C
  nS : NoAttr K C "size"
  nL : NoAttr K C "letters"
  mgC : mg "Word" = some (.ref C)
  ca : PySem.W.findIn K (.ref C) "__class__" = some (some (.builtin "object.__class__"))
  cn : PySem.W.specialIn K (.builtin "object.__class__") "__get__" = some (some (.builtin "getset_descriptor.__get__"))
  ct : PySem.W.takesIn K (.builtin "object.__class__") = some true
  cm : PySem.W.mroIn K C (.type "object") = some true
theorem cut_drop (l : List Int) {n : Int} (h : 0 ≤ n) : cutV (nums l) (some n) none = nums (l.drop n.toNat) := by
  unfold cutV
  have e : HT.sIx (nums l).length 0 (some n) = min n.toNat (nums l).length := by
    have q := HT.sIx_nat (nums l).length 0 n.toNat
    rw [Int.toNat_of_nonneg h] at q
    exact q
  rw [HT.sIx_none, e]
  rw [List.length_map]
  show ((l.map V.int).drop _).take _ = (l.drop n.toNat).map V.int
  rw [← List.map_drop, ← List.map_take]
  congr 1
  rw [List.take_of_length_le (by rw [List.length_drop]; omega)]
  rcases Nat.le_total n.toNat l.length with z | z
  · rw [Nat.min_eq_left z]
  · rw [Nat.min_eq_right z, List.drop_of_length_le (Nat.le_refl _), List.drop_of_length_le z]
/-- t + u, whichever is empty -/
theorem cat_any {K : PySem.W.Frag} {H : Hp} {Q : VK} {a b : Addr} {xs ys : List V} (ha : H a = some (.tup xs)) (hb : H b = some (.tup ys)) (hl : xs.length + ys.length ≤ sizeLine)
    (k : ∀ r H', Same H H' → H' r = some (.tup (xs ++ ys)) → Q (.ref r) H') : rCatA K (.ref a) (.ref b) H Q := by
  refine ⟨a, b, xs, ys, rfl, rfl, SqT.of ha, SqT.of hb, hl, fun e => ?_, fun _ e => ?_, fun _ _ p hp => k p _ (same_new hp) upd_same⟩
  · subst e
    exact k b H (Same.refl H) hb
  · subst e
    refine k a H (Same.refl H) ?_
    rw [List.append_nil]
    exact ha
theorem set_cut (l : List Int) (p : Nat) (x : Int) (h : p < l.length) : l.take p ++ [x] ++ l.drop (p + 1) = l.set p x := by
  rw [List.set_eq_take_append_cons_drop, if_pos h, List.append_assoc]
  rfl
theorem Ls.set {size : Int} {ls : List Int} (L : Ls size ls) (p : Nat) {x : Int} (h0 : 1 ≤ x) (h1 : x ≤ size) : Ls size (ls.set p x) :=
  ⟨L.s0, L.s1, by rw [List.length_set]; exact L.len, fun y hy => by
    rcases List.mem_or_eq_of_mem_set hy with q | q
    · exact L.bd y q
    · rw [q]
      exact ⟨h0, h1⟩⟩
section
variable {P : Program} {w : World} {K : PySem.W.Frag} {mg : Str → Option Value} {base : Heap}
/-! __init__ -/
def spInit (C : Addr) : Sp := fun vs H Q _ => ∃ (p dx : Addr) (size : Int) (a : Addr) (ls : List Int), vs = [.ref p, .int size, .ref a] ∧ H p = some (.ins C dx []) ∧ Seq H a ls ∧ Ls size ls ∧
  ∀ H', (∀ b o, H b = some o → b ≠ p → H' b = some o) → WAt C H' p size ls → Q .non H'
theorem scInit : FnScope ["self", "size", "letters"] ["self", "size", "letters"] (defScope sInit) := ⟨rfl, rfl, rfl, by decide +kernel, rfl, by decide +kernel, by decide +kernel⟩
theorem ok_init {f f1 f2 C : Addr} {fd fd1 fd2 : FuncData} (B : Bare mg) (T : Cw K mg C) (F : Fun K "__init__" "Word.__init__" sInit f fd) (F1 : Df K mg "check_size" sCkSize f1 fd1) (b1 : Binds K fd1 ["size"] [])
    (G1 : FnOk P w K mg base CX0 3 f1 fd1 ["size"] spCkSize) (F2 : Df K mg "check_letters" sCkLetters f2 fd2) (b2 : Binds K fd2 ["size", "letters"] []) (G2 : FnOk P w K mg base CX0 3 f2 fd2 ["size", "letters"] spCkLetters) :
    FnOk P w K mg base CX0 4 f fd ["self", "size", "letters"] (spInit C) := by
  refine F.ok scInit (fun vs H Q E h => ?_) (fun cdv A outer s H vs Q E hr h => ?_)
  · obtain ⟨p, dx, size, a, ls, rfl, _⟩ := h
    rfl
  · obtain ⟨p, dx, size, a, ls, rfl, hp, hq, L, k⟩ := h
    refine ⟨_, pss_cons (ps_expr (pe_call G1 hr (by rfl) F1.g F1.fn.kp b1 .nil pass0 (pa_cons (pv 1) pa_nil))) (pss_cons (ps_expr (pe_call G2 hr (by rfl) F2.g F2.fn.kp b2 .nil pass0 (pa_cons (pv 1) (pa_cons (pv 2) pa_nil))))
      (pss_cons (ps_fld (pv 0) (pv 1) rfl) (pss_one (ps_fld (pv 0) (pe_callTy call_tuple_of (by rfl) B.tuple (by decide +kernel) (pa_cons (pv 2) pa_nil)) rfl)))), ?_⟩
    refine ⟨_, rfl, size, rfl, L.s0, L.s1, ?_⟩
    refine ⟨_, rfl, _, rfl, size, a, ls, rfl, hq, L, fun H1 s1 => ?_⟩
    refine ⟨_, rfl, _, rfl, p, C, dx, _, rfl, s1 _ _ hp, T.cl, T.nS, (by show 0 < 1000; decide), ?_⟩
    have nap : a ≠ p := hq.elim (fun e => ne_of e hp (by intro z; cases z)) fun e => ne_of e hp (by intro z; cases z)
    have hq2 : Seq (upd H1 p (.ins C dx (putF "size" (.int size) []))) a ls := by
      rcases hq.same s1 with e | e
      · exact .inl (by rw [upd_ne nap]; exact e)
      · exact .inr (by rw [upd_ne nap]; exact e)
    have hp2 : (upd H1 p (.ins C dx (putF "size" (.int size) []))) p = some (.ins C dx (putF "size" (.int size) [])) := upd_same
    have k2 : ∀ b o, H b = some o → b ≠ p → (upd H1 p (.ins C dx (putF "size" (.int size) []))) b = some o := fun b o e h => by
      rw [upd_ne h]
      exact s1 _ _ e
    generalize upd H1 p (.ins C dx (putF "size" (.int size) [])) = H2 at hq2 hp2 k2 ⊢
    rcases hq2 with e | e
    · refine ⟨_, rfl, a, _, rfl, .inl ⟨SqL.of e, fun t ht => ?_⟩⟩
      have npt : p ≠ t := ne_of_none hp2 ht
      refine ⟨_, rfl, p, C, dx, _, rfl, same_new ht _ _ hp2, T.cl, T.nL, (by show 1 < 1000; decide), ?_⟩
      refine k _ (fun b o z h => ?_) ⟨⟨dx, t, upd_same, ?_⟩, L⟩
      · rw [upd_ne h]
        exact same_new ht _ _ (k2 _ _ z h)
      · rw [upd_ne npt.symm, upd_same]
    · refine ⟨_, rfl, a, _, rfl, .inr ⟨SqT.of e, ?_⟩⟩
      refine ⟨_, rfl, p, C, dx, _, rfl, hp2, T.cl, T.nL, (by show 1 < 1000; decide), ?_⟩
      refine k _ (fun b o z h => ?_) ⟨⟨dx, a, upd_same, ?_⟩, L⟩
      · rw [upd_ne h]
        exact k2 _ _ z h
      · rw [upd_ne nap]
        exact e
/-! a word made -/
theorem made {C : Addr} {H : Hp} {Q : VK} {size : Int} {a : Addr} {ls : List Int} (hq : Seq H a ls) (L : Ls size ls) (k : ∀ x H', Same H H' → H x = none → WAt C H' x size ls → Q (.ref x) H') :
    ∀ x dx, H x = none → H dx = none → dx ≠ x → spInit C (.ref x :: ([.int size, .ref a] ++ [])) (upd (upd H dx (.own x)) x (.ins C dx [])) (fun v H2 => v = .non ∧ Q (.ref x) H2) E0 := fun x dx nx ndx ne => by
  have s2 : Same H (upd (upd H dx (.own x)) x (.ins C dx [])) := fun b o e => by
    rw [upd_ne (ne_of_none e nx), upd_ne (ne_of_none e ndx)]
    exact e
  exact ⟨x, dx, size, a, ls, rfl, upd_same, hq.same s2, L, fun H' kp W => ⟨rfl, k x H' (Same.made nx ndx kp) nx W⟩⟩
end
end Lw
/-! K. The methods of words. -/
namespace Lw
open PySem L2 LwE LwM
/-- what is known of __init__ -/
structure In_ (P : Program) (w : World) (K : PySem.W.Frag) (mg : Str → Option Value) (base : Heap) (C : Addr) (fI : Addr) (fdI : FuncData) : Prop where
  m : Mk K C fI
  ok : FnOk P w K mg base CX0 4 fI fdI ["self", "size", "letters"] (spInit C)
  b : Binds K fdI ["self", "size", "letters"] []
section
variable {P : Program} {w : World} {K : PySem.W.Frag} {mg : Str → Option Value} {base : Heap}
/-! __len__ -/
def spLen (C : Addr) : Sp := fun vs H Q _ => ∃ (a : Addr) (size : Int) (ls : List Int), vs = [.ref a] ∧ WAt C H a size ls ∧ Q (.int (ls.length : Nat)) H
theorem scLen : FnScope ["self"] ["self"] (defScope sLen) := ⟨rfl, rfl, rfl, by decide +kernel, rfl, by decide +kernel, by decide +kernel⟩
theorem ok_len {f C : Addr} {fd : FuncData} (B : Bare mg) (T : Cw K mg C) (F : Fun K "__len__" "Word.__len__" sLen f fd) : FnOk P w K mg base CX0 1 f fd ["self"] (spLen C) := by
  refine F.ok scLen (fun vs H Q E h => ?_) (fun cdv A outer s H vs Q E hr h => ?_)
  · obtain ⟨a, size, ls, rfl, _⟩ := h
    rfl
  · obtain ⟨a, size, ls, rfl, W, k⟩ := h
    obtain ⟨dx, t, h1, h2⟩ := W.ob
    refine ⟨_, pss_one (ps_ret (pe_callB call_len_seq (by rfl) B.len PySem.boot_len (pa_cons (pe_fld (pv 0) rfl) pa_nil))), ?_⟩
    refine ⟨_, rfl, a, C, dx, _, _, rfl, h1, T.cl, T.nL, wf_letters _ _, t, _, rfl, .inr (SqT.of h2), ?_⟩
    rw [List.length_map]
    exact k
/-! __eq__ -/
theorem eqv_nums : ∀ l r : List Int, PyData.eqvAll (l.map PyData.int) (r.map PyData.int) = decide (l = r)
  | [], [] => by simp [PyData.eqvAll]
  | [], _ :: _ => by simp [PyData.eqvAll]
  | _ :: _, [] => by simp [PyData.eqvAll]
  | x :: l, y :: r => by
    have ih := eqv_nums l r
    simp only [List.map_cons, PyData.eqvAll, PyData.eqv, ih]
    by_cases h1 : x = y
    · subst h1
      simp
    · simp [h1]
theorem shaped_tup (l : List Int) : SeqAt.shaped (.tuple (l.map PyData.int)) = true := by
  have h := lay_nums l
  unfold SeqAt.shaped
  simp [PyData.canLay0, PyData.depth, h.1, h.2]
def spEq (C : Addr) : Sp := fun vs H Q _ => ∃ (a b : Addr) (s1 s2 : Int) (l1 l2 : List Int), vs = [.ref a, .ref b] ∧ WAt C H a s1 l1 ∧ WAt C H b s2 l2 ∧ Q (.bl (decide (s1 = s2 ∧ l1 = l2))) H
theorem scEq : FnScope ["self", "other"] ["self", "other"] (defScope sEq) := ⟨rfl, rfl, rfl, by decide +kernel, rfl, by decide +kernel, by decide +kernel⟩
theorem ty_word {C : Addr} (T : Cw K mg C) {H : Hp} {a : Addr} {s : Int} {l : List Int} (W : WAt C H a s l) : TyX K H (.ref a) (.ref C) := by
  obtain ⟨dx, t, h1, h2⟩ := W.ob
  exact TyX.base (TyOf.ins h1 T.cl T.ca T.cn T.ct T.cm)
theorem kit_word {C : Addr} : PySem.W.kitOne K (.ref C) (.ref C) = some true := by
  unfold PySem.W.kitOne
  simp
theorem ok_eq {f C : Addr} {fd : FuncData} (B : Bare mg) (T : Cw K mg C) (F : Fun K "__eq__" "Word.__eq__" sEq f fd) : FnOk P w K mg base CX0 1 f fd ["self", "other"] (spEq C) := by
  refine F.ok scEq (fun vs H Q E h => ?_) (fun cdv A outer s H vs Q E hr h => ?_)
  · obtain ⟨a, b, s1, s2, l1, l2, rfl, _⟩ := h
    rfl
  · obtain ⟨a, b, s1, s2, l1, l2, rfl, W1, W2, k⟩ := h
    obtain ⟨dx, t, h1, h2⟩ := W1.ob
    obtain ⟨dy, u, g1, g2⟩ := W2.ob
    refine ⟨_, pss_one (ps_ret (pe_and (pe_callB call_isi (by rfl) B.isinstance (by decide +kernel) (pa_cons (pv 1) (pa_cons (pe_glob (v := .ref C) (by rfl) T.mgC rfl) pa_nil)))
      (pe_and (pe_cmpR op_eq (pe_fld (pv 0) rfl) (pe_fld (pv 1) rfl) (nomark _)) (pe_one (pe_cmpR (op_eqD hr.units) (pe_fld (pv 0) rfl) (pe_fld (pv 1) rfl) (nomark _)))))), ?_⟩
    refine ⟨_, rfl, _, _, .ref C, .ref C, true, rfl, ClsV.own C, ty_word T W2, kit_word, true, rfl, iteT ?_⟩
    refine ⟨_, rfl, a, C, dx, _, _, rfl, h1, T.cl, T.nS, wf_size _ _, _, rfl, b, C, dy, _, _, rfl, g1, T.cl, T.nS, wf_size _ _, rfl, _, rfl, ?_⟩
    by_cases hs : s1 = s2
    · refine ite2 (fun _ => ?_) (fun z => absurd (by simp [hs]) z)
      refine ⟨_, rfl, a, C, dx, _, _, rfl, h1, T.cl, T.nL, wf_letters _ _, _, rfl, b, C, dy, _, _, rfl, g1, T.cl, T.nL, wf_letters _ _, ?_⟩
      refine ⟨.tuple (l1.map PyData.int), .tuple (l2.map PyData.int), .tup (SqT.of h2) (dp_nums l1), .tup (SqT.of g2) (dp_nums l2), shaped_tup l1, shaped_tup l2, ?_⟩
      have e : PyData.eqv (.tuple (l1.map PyData.int)) (.tuple (l2.map PyData.int)) = decide (s1 = s2 ∧ l1 = l2) := by
        show PyData.eqvAll _ _ = _
        rw [eqv_nums]
        simp [hs]
      rw [e]
      exact k
    · refine ite2 (fun z => absurd (by simpa using z) hs) (fun _ => ?_)
      have e : decide (s1 = s2 ∧ l1 = l2) = false := by simp [hs]
      rw [e] at k
      exact k
end
end Lw
/-! N. What can be done at an index. -/
namespace LwM
def lst (l : List Int) : Int := l.getLast?.getD 0
def fst (l : List Int) : Int := l.head?.getD 0
def upL (i : Int) (l : List Int) : List Int := l.set (lst (lows i l)).toNat (i + 1)
def dnL (i : Int) (l : List Int) : List Int := l.set (fst (highs i l)).toNat i
theorem lst_app (l r : List Int) (h : r ≠ []) : lst (l ++ r) = lst r := by
  unfold lst
  rw [List.getLast?_append]
  cases r with
  | nil => exact absurd rfl h
  | cons a r =>
    rw [List.getLast?_eq_some_getLast (List.cons_ne_nil a r)]
    rfl
theorem lst_mem {l : List Int} (h : l ≠ []) : lst l ∈ l := by
  cases l with
  | nil => exact absurd rfl h
  | cons a r =>
    unfold lst
    rw [List.getLast?_eq_some_getLast (List.cons_ne_nil a r)]
    exact List.getLast_mem _
theorem lst_snoc {l : List Int} (h : l ≠ []) : ∃ r, l = r ++ [lst l] := by
  refine ⟨l.dropLast, ?_⟩
  unfold lst
  rw [List.getLast?_eq_some_getLast h]
  exact (List.dropLast_concat_getLast h).symm
theorem fst_mem {l : List Int} (h : l ≠ []) : fst l ∈ l := by
  cases l with
  | nil => exact absurd rfl h
  | cons a r => exact List.mem_cons_self ..
end LwM
namespace Lw
open PySem L2 LwE LwM
theorem not_emp {l : List Int} (h : l ≠ []) : (!(nums l).isEmpty) = true := by
  cases l with
  | nil => exact absurd rfl h
  | cons a r => rfl
theorem at_lst {l : List Int} (h : l ≠ []) : atI (nums l) (-1) = some (.int (lst l)) := by
  obtain ⟨r, e⟩ := lst_snoc h
  have e2 : nums l = nums r ++ [.int (lst l)] := by
    rw [e]
    simp [nums, lst]
  rw [e2]
  exact atI_last _ _
theorem at_fst {l : List Int} (h : l ≠ []) : atI (nums l) 0 = some (.int (fst l)) := by
  cases l with
  | nil => exact absurd rfl h
  | cons a r => exact at_of (j := 0) rfl rfl
end Lw
/-! V. Neighbors taken out, in plain lists. -/
namespace LwM
/-- the letter at a place -/
def val (ls : List Int) (p : Int) : Int := ls[p.toNat]?.getD 0
/-- places read one after another -/
def gp (i : Int) (f : Int → Int) : List Int × List Int → List Int → List Int × List Int
  | s, [] => s
  | s, p :: r => gp i f (stp i s p (f p)) r
theorem gp_app (i : Int) (f : Int → Int) : ∀ (A B : List Int) (s : List Int × List Int), gp i f s (A ++ B) = gp i f (gp i f s A) B
  | [], B, s => rfl
  | p :: A, B, s => gp_app i f A B _
theorem go_gp (i : Int) (f : Int → Int) : ∀ (l : List Int) (s : List Int × List Int) (k : Int), (∀ (j : Nat) x, l[j]? = some x → f (k + j) = x) → go i s k l = gp i f s ((List.range l.length).map fun j => k + (j : Nat))
  | [], s, k, h => rfl
  | x :: l, s, k, h => by
    have h0 : f k = x := by
      have := h 0 x rfl
      simpa using this
    have ih := go_gp i f l (stp i s k x) (k + 1) fun j y hy => by
      have := h (j + 1) y (by simpa using hy)
      rw [← this]
      congr 1
      omega
    show go i (stp i s k x) (k + 1) l = _
    rw [ih, List.length_cons, List.range_succ_eq_map, List.map_cons, List.map_map]
    show _ = gp i f (stp i s (k + ((0 : Nat) : Int)) (f (k + ((0 : Nat) : Int)))) _
    have e0 : k + ((0 : Nat) : Int) = k := by omega
    rw [e0, h0]
    congr 1
    apply List.map_congr_left
    intro j _
    show k + 1 + (j : Int) = k + ((Nat.succ j : Nat) : Int)
    omega
/-- what is passed over changes nothing -/
theorem gp_filter (i : Int) (f : Int → Int) : ∀ (A : List Int) (s : List Int × List Int), gp i f s (A.filter fun p => decide (f p = i ∨ f p = i + 1)) = gp i f s A
  | [], s => rfl
  | p :: A, s => by
    rw [List.filter_cons]
    by_cases h : f p = i ∨ f p = i + 1
    · rw [if_pos (by simpa using h)]
      exact gp_filter i f A _
    · rw [if_neg (by simpa using h)]
      show gp i f s _ = gp i f (stp i s p (f p)) A
      have e : stp i s p (f p) = s := by
        unfold stp
        rw [if_neg (fun z => h (.inr z)), if_neg (fun z => h (.inl z))]
      rw [e]
      exact gp_filter i f A s
/-- a pair of neighbors changes nothing -/
theorem gp_pair (i : Int) (f : Int → Int) (A B : List Int) (s : List Int × List Int) {p q : Int} (hp : f p = i + 1) (hq : f q = i) : gp i f s (A ++ p :: q :: B) = gp i f s (A ++ B) := by
  rw [gp_app, gp_app]
  show gp i f (stp i (stp i _ p (f p)) q (f q)) B = _
  generalize gp i f s A = t
  congr 1
  rw [hp, hq]
  unfold stp
  rw [if_pos rfl, if_neg (by omega), if_pos rfl]
  simp
theorem gp_ups (i : Int) (f : Int → Int) : ∀ (B : List Int) (L W : List Int), (∀ p ∈ B, f p = i + 1) → gp i f (L, W) B = (L, W ++ B)
  | [], L, W, _ => by simp [gp]
  | p :: B, L, W, h => by
    show gp i f (stp i (L, W) p (f p)) B = _
    have e : stp i (L, W) p (f p) = (L, W ++ [p]) := by
      unfold stp
      rw [if_pos (h p (List.mem_cons_self ..))]
    rw [e, gp_ups i f B L _ fun q hq => h q (List.mem_cons_of_mem _ hq)]
    simp
/-- no i + 1 stands right ahead of an i -/
def NoAdj (i : Int) (f : Int → Int) (A : List Int) : Prop := ∀ (j : Nat) a b, A[j]? = some a → A[j + 1]? = some b → ¬ (f a = i + 1 ∧ f b = i)
theorem NoAdj.tail {i : Int} {f : Int → Int} {p : Int} {A : List Int} (h : NoAdj i f (p :: A)) : NoAdj i f A := fun j a b ha hb => h (j + 1) a b (by simpa using ha) (by simpa using hb)
theorem NoAdj.all {i : Int} {f : Int → Int} : ∀ {A : List Int} {p : Int}, NoAdj i f (p :: A) → f p = i + 1 → (∀ q ∈ A, f q = i ∨ f q = i + 1) → ∀ q ∈ A, f q = i + 1
  | [], _, _, _, _, q, hq => by simp at hq
  | a :: A, p, h, hp, hA, q, hq => by
    have ha : f a = i + 1 := by
      rcases hA a (List.mem_cons_self ..) with z | z
      · exact absurd ⟨hp, z⟩ (h 0 p a rfl rfl)
      · exact z
    rcases List.mem_cons.mp hq with z | z
    · rw [z]
      exact ha
    · exact NoAdj.all h.tail ha (fun q hq => hA q (List.mem_cons_of_mem _ hq)) q z
theorem gp_end (i : Int) (f : Int → Int) : ∀ (A L : List Int), (∀ p ∈ A, f p = i ∨ f p = i + 1) → NoAdj i f A →
    gp i f (L, []) A = (L ++ A.filter (fun p => decide (f p = i)), A.filter fun p => decide (f p = i + 1))
  | [], L, _, _ => by simp [gp]
  | p :: A, L, h, hn => by
    have hA : ∀ q ∈ A, f q = i ∨ f q = i + 1 := fun q hq => h q (List.mem_cons_of_mem _ hq)
    rcases h p (List.mem_cons_self ..) with z | z
    · show gp i f (stp i (L, []) p (f p)) A = _
      have e : stp i (L, []) p (f p) = (L ++ [p], []) := by
        unfold stp
        rw [if_neg (by omega), if_pos z]
        simp
      rw [e, gp_end i f A _ hA hn.tail, List.filter_cons, List.filter_cons, if_pos (by simpa using z), if_neg (by simp; omega)]
      simp
    · have hall := NoAdj.all hn z hA
      have e1 := gp_ups i f (p :: A) L [] (fun q hq => by
        rcases List.mem_cons.mp hq with y | y
        · rw [y]
          exact z
        · exact hall q y)
      rw [e1]
      have e2 : (p :: A).filter (fun q => decide (f q = i)) = [] := by
        rw [List.filter_eq_nil_iff]
        intro q hq
        rcases List.mem_cons.mp hq with y | y
        · rw [y]
          simp
          omega
        · have := hall q y
          simp
          omega
      have e3 : (p :: A).filter (fun q => decide (f q = i + 1)) = p :: A := by
        rw [List.filter_eq_self]
        intro q hq
        rcases List.mem_cons.mp hq with y | y
        · rw [y]
          simpa using z
        · simpa using hall q y
      rw [e2, e3]
      simp
/-- the first places that hold i or i + 1 -/
def plc (i : Int) (ls : List Int) (n : Nat) : List Int := ((List.range n).map fun j => ((j : Nat) : Int)).filter fun p => decide (val ls p = i ∨ val ls p = i + 1)
theorem plc_succ (i : Int) (ls : List Int) (n : Nat) : plc i ls (n + 1) = plc i ls n ++ (if val ls (n : Nat) = i ∨ val ls (n : Nat) = i + 1 then [((n : Nat) : Int)] else []) := by
  unfold plc
  rw [List.range_succ, List.map_append, List.filter_append]
  congr 1
  simp only [List.map_cons, List.map_nil, List.filter_cons, List.filter_nil, decide_eq_true_eq]
theorem br_plc (i : Int) (ls : List Int) : br i ls = gp i (val ls) ([], []) (plc i ls ls.length) := by
  unfold plc
  rw [gp_filter]
  have h := go_gp i (val ls) ls ([], []) 0 fun j x hx => by
    unfold val
    have e : (0 + (j : Int)).toNat = j := by omega
    rw [e, hx]
    rfl
  unfold br
  rw [h]
  congr 1
  apply List.map_congr_left
  intro j _
  omega
/-- the word of the loop that takes neighbors out -/
structure Out (i : Int) (ls rest : List Int) (at_ : Nat) : Prop where
  br : gp i (val ls) ([], []) rest = br i ls
  two : ∀ p ∈ rest, val ls p = i ∨ val ls p = i + 1
  bd : ∀ p ∈ rest, 0 ≤ p ∧ p < ls.length
  far : ∀ (j : Nat) a b, j < at_ → rest[j]? = some a → rest[j + 1]? = some b → ¬ (val ls a = i + 1 ∧ val ls b = i)
  len : rest.length ≤ ls.length
theorem Out.start (i : Int) (ls : List Int) : Out i ls (plc i ls ls.length) 0 where
  br := (br_plc i ls).symm
  two := fun p hp => by
    have := (List.mem_filter.mp hp).2
    simpa using this
  bd := fun p hp => by
    obtain ⟨j, hj, rfl⟩ := List.mem_map.mp (List.mem_filter.mp hp).1
    have := List.mem_range.mp hj
    omega
  far := fun j a b h => absurd h (Nat.not_lt_zero j)
  len := by
    unfold plc
    refine Nat.le_trans (List.length_filter_le _ _) ?_
    rw [List.length_map, List.length_range]
    exact Nat.le_refl _
theorem Out.pass {i : Int} {ls rest : List Int} {n : Nat} (o : Out i ls rest n) {a b : Int} (ha : rest[n]? = some a) (hb : rest[n + 1]? = some b) (h : ¬ (val ls a = i + 1 ∧ val ls b = i)) : Out i ls rest (n + 1) :=
  ⟨o.br, o.two, o.bd, fun j x y hj hx hy => by
    rcases Nat.lt_or_ge j n with z | z
    · exact o.far j x y z hx hy
    · have e : j = n := by omega
      subst e
      rw [ha] at hx
      rw [hb] at hy
      cases hx
      cases hy
      exact h, o.len⟩
theorem split_at {rest : List Int} {n : Nat} {a b : Int} (ha : rest[n]? = some a) (hb : rest[n + 1]? = some b) : rest = rest.take n ++ a :: b :: rest.drop (n + 2) := by
  obtain ⟨h1, e1⟩ := List.getElem?_eq_some_iff.mp ha
  obtain ⟨h2, e2⟩ := List.getElem?_eq_some_iff.mp hb
  have := List.take_append_drop n rest
  rw [List.drop_eq_getElem_cons h1, List.drop_eq_getElem_cons h2, e1, e2] at this
  exact this.symm
theorem Out.take {i : Int} {ls rest : List Int} {n : Nat} (o : Out i ls rest n) {a b : Int} (ha : rest[n]? = some a) (hb : rest[n + 1]? = some b) (h1 : val ls a = i + 1) (h2 : val ls b = i) :
    Out i ls (rest.take n ++ rest.drop (n + 2)) (n - 1) := by
  have e := split_at ha hb
  have hlen : (rest.take n ++ rest.drop (n + 2)).length + 2 = rest.length := by
    have := congrArg List.length e
    rw [List.length_append, List.length_cons, List.length_cons] at this
    rw [List.length_append]
    omega
  have sub : ∀ p, p ∈ rest.take n ++ rest.drop (n + 2) → p ∈ rest := fun p hp => by
    rcases List.mem_append.mp hp with z | z
    · exact List.mem_of_mem_take z
    · exact List.mem_of_mem_drop z
  refine ⟨?_, fun p hp => o.two p (sub p hp), fun p hp => o.bd p (sub p hp), fun j x y hj hx hy => ?_, by have := o.len; omega⟩
  · rw [← o.br]
    conv => rhs; rw [e]
    exact (gp_pair i (val ls) _ _ _ h1 h2).symm
  · have hn : n < rest.length := (List.getElem?_eq_some_iff.mp ha).1
    have lt1 : j < (rest.take n).length := by
      rw [List.length_take]
      omega
    have lt2 : j + 1 < (rest.take n).length := by
      rw [List.length_take]
      omega
    rw [List.getElem?_append_left lt1, List.getElem?_take_of_lt (by omega)] at hx
    rw [List.getElem?_append_left lt2, List.getElem?_take_of_lt (by omega)] at hy
    exact o.far j x y (by omega) hx hy
theorem Out.done {i : Int} {ls rest : List Int} {n : Nat} (o : Out i ls rest n) (h : rest.length ≤ n + 1) : lows i ls = rest.filter (fun p => decide (val ls p = i)) ∧ highs i ls = rest.filter (fun p => decide (val ls p = i + 1)) := by
  have hn : NoAdj i (val ls) rest := fun j a b ha hb => by
    have := (List.getElem?_eq_some_iff.mp hb).1
    exact o.far j a b (by omega) ha hb
  have e := gp_end i (val ls) rest [] o.two hn
  rw [o.br] at e
  unfold lows highs
  rw [e]
  exact ⟨List.nil_append _, rfl⟩
end LwM
/-! W. The law's own brackets: neighbors taken out. -/
namespace LwE
open PySem PySem.Spec PyProof.Rows L2
/-- a comprehension over enumerate(list) -/
theorem lc_enL {K : PySem.W.Frag} {a : Addr} {xs : List V} {g : TG} {tt : TT} {te : TE} {vs : List Nat} {σ : L2.St} {H1 : Hp} {D : Addr} {Qd : Hp → Prop} (Pv : Nat → Hp → Prop) (h0 : Pv 0 (upd H1 D (.lst []))) (hl : ∀ i H, i ≤ xs.length → Pv i H → SqL K H a xs)
    (hs : ∀ i x T H, xs[i]? = some x → Pv i H → H T = none → g (.ref T) (wipe σ vs) (upd H T (.tup [.int (i : Nat), x])) fun σ2 H2 => wipe σ2 vs = wipe σ vs ∧ tt σ2 H2 fun b H3 =>
      if b = true then te σ2 H3 fun y H4 => ∃ acc, H4 D = some (.lst acc) ∧ acc.length < sizeLine ∧ Pv (i + 1) (upd H4 D (.lst (acc ++ [y]))) else Pv (i + 1) H3) (hd : ∀ H, Pv xs.length H → Qd H) :
    ∃ W : Nat → Nat → Hp → Prop, (∃ m, W 0 m (upd H1 D (.lst []))) ∧ ∀ i m H, W i m H →
      ((Ite K a).stop i H ∧ Qd H) ∨ ((Ite K a).go i H ∧ ∃ Nx : Hp → Prop, (∀ H', Nx H' → ∃ m', m' < m ∧ W (i + 1) m' H') ∧ ∀ x H', (Ite K a).yld i H x H' → g x (wipe σ vs) H' fun σ2 H2 => wipe σ2 vs = wipe σ vs ∧ tt σ2 H2 fun b H3 =>
        if b = true then te σ2 H3 fun y H4 => ∃ acc, H4 D = some (.lst acc) ∧ acc.length < sizeLine ∧ Nx (upd H4 D (.lst (acc ++ [y]))) else Nx H3) := by
  refine ⟨fun i m H => m = xs.length - i ∧ i ≤ xs.length ∧ Pv i H, ⟨xs.length, by simp, Nat.zero_le _, h0⟩, ?_⟩
  intro i m H hW
  obtain ⟨rfl, hi, p⟩ := hW
  have q := hl i H hi p
  by_cases hlt : i < xs.length
  · refine .inr ⟨⟨xs, xs[i], q, by simp [hlt]⟩, Pv (i + 1), fun H' p' => ⟨xs.length - (i + 1), by omega, rfl, hlt, p'⟩, fun x H' y => ?_⟩
    obtain ⟨T, v, rfl, hT, rfl, y2⟩ := y
    exact hs i v T H (y2 xs q) p hT
  · obtain rfl : i = xs.length := by omega
    exact .inl ⟨⟨xs, q, Nat.le_refl _⟩, hd H p⟩
end LwE
namespace Lw
open PySem L2 LwE LwM
theorem inV2 (z a b : Int) : inV (.int z) [.int a, .int b] = decide (z = a ∨ z = b) := by
  show ((a == z) || ((b == z) || false)) = decide (z = a ∨ z = b)
  rw [Bool.or_false, Bool.eq_iff_iff]
  simp only [Bool.or_eq_true, beq_iff_eq, decide_eq_true_eq]
  omega
theorem val_at {ls : List Int} {j : Nat} {z : Int} (h : ls[j]? = some z) : val ls (j : Nat) = z := by
  unfold val
  rw [Int.toNat_natCast, h]
  rfl
theorem val_get {ls : List Int} {p : Int} (h0 : 0 ≤ p) (h1 : p < ls.length) : atI (nums ls) p = some (.int (val ls p)) := by
  have hl : p.toNat < ls.length := by omega
  have e : ls[p.toNat]? = some ls[p.toNat] := List.getElem?_eq_getElem hl
  refine at_of (j := p.toNat) (by omega) ?_
  rw [List.getElem?_map, e]
  unfold val
  rw [e]
  rfl
theorem filt_snoc {l : List Int} {j : Nat} {x : Int} (h : l[j]? = some x) (p : Int → Bool) : (l.take (j + 1)).filter p = (l.take j).filter p ++ (if p x = true then [x] else []) := by
  rw [List.take_succ, h, List.filter_append]
  congr 1
  show List.filter p [x] = _
  rw [List.filter_cons, List.filter_nil]
/-- how long the list in a place is; the number in a place -/
def lenAt (k : Nat) (σ : List (Option V)) (H : Hp) : Nat := match (σ[k]? : Option (Option V)) with
  | some (some (V.ref q)) => (match H q with
    | some (HO.lst xs) => xs.length
    | _ => 0)
  | _ => 0
def intAt (k : Nat) (σ : List (Option V)) : Nat := match (σ[k]? : Option (Option V)) with
  | some (some (V.int z)) => z.toNat
  | _ => 0
section
variable {P : Program} {w : World} {K : PySem.W.Frag} {mg : Str → Option Value} {base : Heap}
/-- a list of pairs of numbers -/
def PairL (H : Hp) (p : Addr) (n : Nat) : Prop := ∃ ps, H p = some (.lst ps) ∧ ps.length ≤ n ∧ ∀ x ∈ ps, ∃ t i j, x = V.ref t ∧ H t = some (.tup [.int i, .int j])
theorem PairL.same {H H' : Hp} {p : Addr} {n : Nat} (h : PairL H p n) (s : Same H H') : PairL H' p n := by
  obtain ⟨ps, h1, h2, h3⟩ := h
  exact ⟨ps, s _ _ h1, h2, fun x hx => let ⟨t, i, j, e1, e2⟩ := h3 x hx; ⟨t, i, j, e1, s _ _ e2⟩⟩
def spLeft : Sp := fun vs H Q _ => ∃ (a : Addr) (i : Int) (ls : List Int), vs = [.ref a, .int i] ∧ H a = some (.lst (nums ls)) ∧ ls.length ≤ 100 ∧
  ∀ (q r lo hi : Addr) (ps : List V) (H' : Hp), Same H H' → H' q = some (.lst [.ref r, .ref lo, .ref hi]) → H' r = some (.lst ps) → H' lo = some (.lst (nums (lows i ls))) → H' hi = some (.lst (nums (highs i ls))) → Q (.ref q) H'
theorem scLeft : FnScope ["letters", "i", "rest", "pairs", "at", "lows", "place", "letter"] ["letters", "i"] (defScope sLeft) := ⟨rfl, rfl, rfl, by decide +kernel, rfl, by decide +kernel, by decide +kernel⟩
theorem ok_left {f : Addr} {fd : FuncData} (B : Bare mg) (F : Df K mg "_law_left" sLeft f fd) : FnOk P w K mg base CX0 1 f fd ["letters", "i"] spLeft := by
  refine F.fn.ok scLeft (fun vs H Q E h => ?_) (fun cdv A outer s H vs Q E hr h => ?_)
  · obtain ⟨a, i, ls, rfl, _⟩ := h
    rfl
  · obtain ⟨a, i, ls, rfl, ha, hlen, k⟩ := h
    refine ⟨_, pss_cons (ps_setLc (i := 2) (own := [("place", 6), ("letter", 7)]) (g := gTup K 2 (gCons (gName 6) (gCons (gName 7) gNil)))
        (tt := tTest (tOp (rIn K false) (tVar 7) (tTup (tCons (tVar 1) (tCons (tOp (rI0 fun i j => .int (i + j)) (tVar 1) (tC (.int 1))) tNil))))) rfl scLeft.nd rfl rfl (sw_true rfl rfl rfl (by decide +kernel)) (pi_enum (by rfl) B.enumerate (pa_cons (pv 0) pa_nil))
        (blkOk_by (N := ["letters", "i", "rest", "pairs", "at", "lows", "place", "letter"]) (sc := defScope sLeft) (by decide +kernel))
        (fun _ _ _ _ _ => pg_tup rfl (pgs_cons (pg_name (i := 6) scLeft.nd rfl (Or.inl rfl)) (pgs_cons (pg_name (i := 7) scLeft.nd rfl (Or.inl rfl)) pgs_nil)))
        (fun _ _ _ _ _ => pts_one (pt_cmpR op_in_seq (pv 7) (pe_tup (pa_cons (pv 1) (pa_cons (pe_op op_add (pv 1) pe_int) pa_nil))) (by rfl))) (fun _ _ _ _ _ => pv 6))
      (pss_cons (ps_par (i := 3) (j := 4) (by rfl) scLeft.nd rfl rfl (by decide) rfl rfl (pa_cons (pe_lst pa_nil) (pa_cons pe_int pa_nil)) (by rfl))
      (pss_cons (ps_while PassesOwn.never (pt_cmpR op_lt (pe_op op_add (pv 4) pe_int) (pe_callB call_len_seq (by rfl) B.len PySem.boot_len (pa_cons (pv 2) pa_nil)) (nomark _))
        (pss_one (ps_if (PW.pt (pw_and (pt_cmpR op_eq (pe_ix ix_list (pv 0) (pe_ix ix_list (pv 2) (pv 4) (fun _ _ => rfl)) (fun _ _ => rfl)) (pe_op op_add (pv 1) pe_int) (nomark _))
            (pw_and1 (pt_cmpR op_eq (pe_ix ix_list (pv 0) (pe_ix ix_list (pv 2) (pe_op op_add (pv 4) pe_int) (fun _ _ => rfl)) (fun _ _ => rfl)) (pv 1) (nomark _)))))
          (pss_cons (ps_expr (pe_bm PySem.F.plainAttrs_list PySem.F.slot_list_append PySem.F.type_list_append mt_append (pv 3) (pa_cons (pe_tup (pa_cons (pe_ix ix_list (pv 2) (pv 4) (fun _ _ => rfl)) (pa_cons (pe_ix ix_list (pv 2) (pe_op op_add (pv 4) pe_int) (fun _ _ => rfl)) pa_nil))) pa_nil)))
          (pss_cons (ps_set (i := 2) scLeft.nd rfl (Or.inl rfl) (pe_op op_cat (pe_slice sl_list (pv 2) po_none (po_some (pv 4))) (pe_slice sl_list (pv 2) (po_some (pe_op op_add (pv 4) pe_int)) po_none)))
          (pss_one (ps_set (i := 4) scLeft.nd rfl (Or.inl rfl) (pe_callB (call_max2 rfl) (by rfl) B.max (by decide +kernel) (pa_cons pe_int (pa_cons (pe_op op_sub (pv 4) pe_int) pa_nil)))))))
          (pss_one (ps_set (i := 4) scLeft.nd rfl (Or.inl rfl) (pe_op op_add (pv 4) pe_int))))))
      (pss_cons (ps_setLc (i := 5) (own := [("place", 6)]) (g := gName 6) (tt := tTest (tOp rEq (tOp (rIxL K) (tVar 0) (tVar 6)) (tVar 1))) rfl scLeft.nd rfl rfl (sw_true rfl rfl rfl (by decide +kernel)) (pi_list (pv 2))
        (blkOk_by (N := ["letters", "i", "rest", "pairs", "at", "lows", "place", "letter"]) (sc := defScope sLeft) (by decide +kernel))
        (fun _ _ _ _ _ => pg_name (i := 6) scLeft.nd rfl (Or.inl rfl)) (fun _ _ _ _ _ => pts_one (pt_cmpR op_eq (pe_ix ix_list (pv 0) (pv 6) (fun _ _ => rfl)) (pv 1) (nomark _))) (fun _ _ _ _ _ => pv 6))
      (pss_one (ps_ret (pe_lst (pa_cons (pe_callB cr_sortedP (by rfl) B.sorted (by decide +kernel) (pa_cons (pv 3) pa_nil)) (pa_cons (pv 5) (pa_cons
        (pe_lc (own := [("place", 6)]) (g := gName 6) (tt := tTest (tOp rEq (tOp (rIxL K) (tVar 0) (tVar 6)) (tOp (rI0 fun i j => .int (i + j)) (tVar 1) (tC (.int 1))))) rfl scLeft.nd (pi_list (pv 2)) (blkOk_by (N := ["letters", "i", "rest", "pairs", "at", "lows", "place", "letter"]) (sc := defScope sLeft) (by decide +kernel))
          (fun _ _ _ _ _ => pg_name (i := 6) scLeft.nd rfl (Or.inl rfl)) (fun _ _ _ _ _ => pts_one (pt_cmpR op_eq (pe_ix ix_list (pv 0) (pv 6) (fun _ _ => rfl)) (pe_op op_add (pv 1) pe_int) (nomark _))) (fun _ _ _ _ _ => pv 6)) pa_nil)))))))))
      , ?_⟩
    refine ⟨_, rfl, a, _, rfl, SqL.of ha, fun D hD => ?_⟩
    have s0 : Same H (upd H D (.lst [])) := same_new hD
    refine lc_enL (K := K) (a := a) (xs := nums ls) (fun j H' => Same H H' ∧ H' D = some (.lst (nums (plc i ls j)))) ⟨s0, by rw [upd_same]; rfl⟩ (fun j H' _ ⟨s1, _⟩ => SqL.of (s1 _ _ ha)) ?_ ?_
    · rintro j x T H' hx ⟨s1, e1⟩ hT
      obtain ⟨z, rfl, hz, _⟩ := nums_get hx
      have hj : j < ls.length := (List.getElem?_eq_some_iff.mp hz).1
      have s2 : Same H' (upd H' T (.tup [.int (j : Nat), .int z])) := same_new hT
      have eT : (upd H' T (.tup [.int (j : Nat), .int z])) T = some (.tup [.int (j : Nat), .int z]) := upd_same
      generalize upd H' T (.tup [.int (j : Nat), .int z]) = H2 at s2 eT ⊢
      have e2 := s2 _ _ e1
      refine ⟨T, _, rfl, SqT.of eT, rfl, _, _, rfl, _, _, rfl, rfl, rfl, ?_⟩
      refine ⟨_, rfl, _, rfl, _, rfl, _, _, rfl, rfl, (by show 2 ≤ sizeLine; decide), fun T2 hT2 => ?_⟩
      refine ⟨T2, _, rfl, .inr (SqT.of upd_same), rfl, rfl, _, rfl, ?_⟩
      have e3 := same_new (o := .tup [.int i, .int (i + 1)]) hT2 _ _ e2
      have s3 : Same H (upd H2 T2 (.tup [.int i, .int (i + 1)])) := (s1.trans s2).trans (same_new hT2)
      generalize upd H2 T2 (.tup [.int i, .int (i + 1)]) = H3 at s3 e3 ⊢
      rw [if_neg Bool.false_ne_true, inV2]
      have ep := plc_succ i ls j
      rw [val_at hz] at ep
      refine ite2 (fun hc => ?_) (fun hc => ?_)
      · rw [if_pos (of_decide_eq_true hc)] at ep
        refine ⟨_, rfl, _, e3, ?_, ?_, ?_⟩
        · rw [List.length_map]
          refine small1000 ?_
          have := List.length_filter_le (fun p => decide (val ls p = i ∨ val ls p = i + 1)) ((List.range j).map fun j => ((j : Nat) : Int))
          rw [List.length_map, List.length_range] at this
          show (plc i ls j).length ≤ 1000
          unfold plc
          omega
        · exact fun b o e => by
            rw [upd_ne (ne_of_none e hD)]
            exact s3 _ _ e
        · rw [upd_same, ep]
          simp [nums]
      · rw [if_neg (fun z => hc (decide_eq_true z)), List.append_nil] at ep
        exact ⟨s3, by rw [ep]; exact e3⟩
    · rintro H1 ⟨s1, e1⟩
      rw [List.length_map] at e1
      refine ⟨Nat.zero_le _, fun pr hpr => ⟨_, _, rfl, ?_⟩⟩
      have s2 : Same H (upd H1 pr (.lst [])) := s1.trans (same_new hpr)
      have fp : H pr = none := s1.free hpr
      refine while_by (fun σ H' => ∃ (rp : Addr) (rest : List Int) (n : Nat), σ = [some (.ref a), some (.int i), some (.ref rp), some (.ref pr), some (.int (n : Nat)), none, none, none] ∧ Same H H' ∧ H rp = none ∧ rp ≠ pr ∧ H' rp = some (.lst (nums rest)) ∧
          PairL H' pr (ls.length - rest.length) ∧ Out i ls rest n ∧ n ≤ ls.length)
        (fun σ H' => 2 * lenAt 2 σ H' + 2 * ls.length - intAt 4 σ) ⟨D, plc i ls ls.length, 0, rfl, s2, hD, ?_, ?_, ?_, Out.start i ls, Nat.zero_le _⟩ ?_ ?_
      · exact ne_of_none e1 hpr
      · rw [upd_ne (ne_of_none e1 hpr)]
        exact e1
      · exact ⟨[], upd_same, Nat.zero_le _, fun x hx => by simp at hx⟩
      · rintro σ H' ⟨rp, rest, n, rfl, s3, frp, npr, e3, PL, O, hn⟩
        have mu : ∀ (rp' : Addr) (rest' : List Int) (n' : Nat) (H'' : Hp), H'' rp' = some (.lst (nums rest')) →
            2 * lenAt 2 [some (.ref a), some (.int i), some (.ref rp'), some (.ref pr), some (.int (n' : Nat)), none, none, none] H'' + 2 * ls.length - intAt 4 [some (.ref a), some (.int i), some (.ref rp'), some (.ref pr), some (.int (n' : Nat)), none, none, none] = 2 * rest'.length + 2 * ls.length - n' := fun rp' rest' n' H'' e => by
          unfold lenAt intAt
          simp only [List.getElem?_cons_succ, List.getElem?_cons_zero, e, List.length_map, Int.toNat_natCast]
        have hrl := O.len
        refine ⟨_, rfl, _, _, rfl, rfl, _, rfl, rp, _, rfl, .inl (SqL.of e3), _, _, rfl, rfl, _, rfl, ?_⟩
        rw [List.length_map]
        refine ite2 (fun hc => ?_) (fun hc => ?_)
        · have hlt : n + 1 < rest.length := by
            have := of_decide_eq_true hc
            omega
          rw [mu rp rest n H' e3]
          have hx0 : rest[n]? = some rest[n] := List.getElem?_eq_getElem (by omega)
          have hx1 : rest[n + 1]? = some rest[n + 1] := List.getElem?_eq_getElem hlt
          generalize rest[n] = x0 at hx0
          generalize rest[n + 1] = x1 at hx1
          have nx0 : (nums rest)[n]? = some (.int x0) := by
            rw [List.getElem?_map, hx0]
            rfl
          have nx1 : (nums rest)[n + 1]? = some (.int x1) := by
            rw [List.getElem?_map, hx1]
            rfl
          have b0 := O.bd x0 (List.mem_of_getElem? hx0)
          have b1 := O.bd x1 (List.mem_of_getElem? hx1)
          have ea := s3 _ _ ha
          have els : ¬ (val ls x0 = i + 1 ∧ val ls x1 = i) → (∃ (rp_1 : Addr) (rest_1 : List Int) (n_1 : Nat), [some (V.ref a), some (.int i), some (.ref rp), some (.ref pr), some (.int ((n : Nat) + 1)), none, none, none] =
              [some (V.ref a), some (.int i), some (.ref rp_1), some (.ref pr), some (.int (n_1 : Nat)), none, none, none] ∧ Same H H' ∧ H rp_1 = none ∧ rp_1 ≠ pr ∧ H' rp_1 = some (.lst (nums rest_1)) ∧ PairL H' pr (ls.length - rest_1.length) ∧ Out i ls rest_1 n_1 ∧ n_1 ≤ ls.length) ∧
              2 * lenAt 2 [some (.ref a), some (.int i), some (.ref rp), some (.ref pr), some (.int ((n : Nat) + 1)), none, none, none] H' + 2 * ls.length - intAt 4 [some (.ref a), some (.int i), some (.ref rp), some (.ref pr), some (.int ((n : Nat) + 1)), none, none, none] < 2 * rest.length + 2 * ls.length - n := fun z => by
            have ec : ((n : Nat) : Int) + 1 = ((n + 1 : Nat) : Int) := by omega
            rw [ec]
            refine ⟨⟨rp, rest, n + 1, rfl, s3, frp, npr, e3, PL, O.pass hx0 hx1 z, by omega⟩, ?_⟩
            rw [mu rp rest (n + 1) H' e3]
            omega
          refine ⟨_, rfl, _, rfl, _, rfl, rp, _, _, _, rfl, rfl, SqL.of e3, at_of (j := n) rfl nx0, a, _, _, _, rfl, rfl, SqL.of ea, val_get b0.1 b0.2, _, rfl, _, _, rfl, rfl, rfl, _, rfl, ite2 (fun h1 => ?_) (fun h1 => iteF ?_)⟩
          · have v0 : val ls x0 = i + 1 := by simpa using h1
            have e1n : ((n : Nat) : Int) + 1 = ((n + 1 : Nat) : Int) := by omega
            refine ⟨_, rfl, _, rfl, _, rfl, _, _, rfl, rfl, rp, _, _, _, rfl, rfl, SqL.of e3, at_of e1n nx1, a, _, _, _, rfl, rfl, SqL.of ea, val_get b1.1 b1.2, _, rfl, rfl, _, rfl, ite2 (fun h2 => ?_) (fun h2 => ?_)⟩
            · have v1 : val ls x1 = i := by simpa using h2
              obtain ⟨ps, p1, p2, p3⟩ := PL
              refine ⟨_, rfl, .inl ⟨rfl, _, SqL.of p1⟩, _, rfl, _, rfl, rp, _, _, _, rfl, rfl, SqL.of e3, at_of (j := n) rfl nx0, _, rfl, _, rfl, _, _, rfl, rfl, rp, _, _, _, rfl, rfl, SqL.of e3, at_of e1n nx1, (by show 2 ≤ sizeLine; decide), fun T hT => ?_⟩
              have nTp : T ≠ pr := (ne_of_none p1 hT).symm
              refine ⟨pr, ps, _, rfl, rfl, by rw [upd_ne nTp.symm]; exact p1, small1000 (by omega), ?_⟩
              have s4 : Same H (upd (upd H' T (.tup [.int x0, .int x1])) pr (.lst (ps ++ [.ref T]))) := fun b o e => by
                rw [upd_ne (ne_of_none e fp), upd_ne (ne_of_none (s3 _ _ e) hT)]
                exact s3 _ _ e
              have e4 : (upd (upd H' T (.tup [.int x0, .int x1])) pr (.lst (ps ++ [.ref T]))) rp = some (.lst (nums rest)) := by
                rw [upd_ne npr, upd_ne (ne_of_none e3 hT)]
                exact e3
              have PL4 : PairL (upd (upd H' T (.tup [.int x0, .int x1])) pr (.lst (ps ++ [.ref T]))) pr (ls.length - (rest.take n ++ rest.drop (n + 2)).length) := by
                refine ⟨_, upd_same, ?_, fun x hx => ?_⟩
                · rw [List.length_append, List.length_singleton, List.length_append, List.length_take, List.length_drop]
                  omega
                · rcases List.mem_append.mp hx with q | q
                  · obtain ⟨t, c, d, f1, f2⟩ := p3 x q
                    refine ⟨t, c, d, f1, ?_⟩
                    rw [upd_ne (ne_of f2 p1 (by intro z; cases z)), upd_ne (ne_of_none f2 hT)]
                    exact f2
                  · exact ⟨T, x0, x1, List.mem_singleton.mp q, by rw [upd_ne nTp, upd_same]⟩
              generalize upd (upd H' T (.tup [.int x0, .int x1])) pr (.lst (ps ++ [.ref T])) = H4 at s4 e4 PL4 ⊢
              refine ⟨_, rfl, _, rfl, _, rfl, rp, _, rfl, SqL.of e4, fun q1 hq1 => ?_⟩
              rw [cut_take rest (show (0 : Int) ≤ (n : Nat) by omega), Int.toNat_natCast]
              have s5 : Same H4 (upd H4 q1 (.lst (nums (rest.take n)))) := same_new hq1
              have e5 : (upd H4 q1 (.lst (nums (rest.take n)))) q1 = some (.lst (nums (rest.take n))) := upd_same
              generalize upd H4 q1 (.lst (nums (rest.take n))) = H5 at s5 e5 ⊢
              refine ⟨_, rfl, _, rfl, _, _, rfl, rfl, _, rfl, rp, _, rfl, SqL.of (s5 _ _ e4), fun q2 hq2 => ?_⟩
              rw [cut_drop rest (show (0 : Int) ≤ (n : Nat) + 2 by omega), show (((n : Nat) : Int) + 2).toNat = n + 2 by omega]
              have s6 : Same H4 (upd H5 q2 (.lst (nums (rest.drop (n + 2))))) := s5.trans (same_new hq2)
              refine ⟨q1, q2, _, _, rfl, rfl, same_new hq2 _ _ e5, upd_same, ?_, fun q3 hq3 => ?_⟩
              · rw [List.length_map, List.length_map, List.length_take, List.length_drop, sizeLine_eq]
                omega
              rw [show nums (rest.take n) ++ nums (rest.drop (n + 2)) = nums (rest.take n ++ rest.drop (n + 2)) by simp [nums]]
              have s7 : Same H4 (upd (upd H5 q2 (.lst (nums (rest.drop (n + 2))))) q3 (.lst (nums (rest.take n ++ rest.drop (n + 2))))) := s6.trans (same_new hq3)
              have e7 : (upd (upd H5 q2 (.lst (nums (rest.drop (n + 2))))) q3 (.lst (nums (rest.take n ++ rest.drop (n + 2))))) q3 = some (.lst (nums (rest.take n ++ rest.drop (n + 2)))) := upd_same
              have f7 : H4 q3 = none := s6.free hq3
              generalize upd (upd H5 q2 (.lst (nums (rest.drop (n + 2))))) q3 (.lst (nums (rest.take n ++ rest.drop (n + 2)))) = H7 at s7 e7 ⊢
              refine ⟨_, rfl, _, _, rfl, rfl, _, _, rfl, ?_⟩
              have em : (if ((n : Nat) : Int) - 1 > 0 then ((n : Nat) : Int) - 1 else 0) = ((n - 1 : Nat) : Int) := by
                split <;> omega
              rw [em]
              have nq3 : q3 ≠ pr := fun z => by
                obtain ⟨ps4, h4, _⟩ := PL4
                rw [z, h4] at f7
                cases f7
              refine ⟨⟨q3, rest.take n ++ rest.drop (n + 2), n - 1, rfl, s4.trans s7, s4.free f7, nq3, e7, PL4.same s7, O.take hx0 hx1 v0 v1, by omega⟩, ?_⟩
              refine Nat.lt_of_le_of_lt (Nat.le_of_eq (mu q3 (rest.take n ++ rest.drop (n + 2)) (n - 1) H7 e7)) ?_
              rw [List.length_append, List.length_take, List.length_drop]
              omega
            · have v1 : ¬ val ls x1 = i := by simpa using h2
              exact ⟨_, rfl, _, _, rfl, rfl, els fun z => v1 z.2⟩
          · have v0 : ¬ val ls x0 = i + 1 := by simpa using h1
            exact ⟨_, rfl, _, _, rfl, rfl, els fun z => v0 z.1⟩
        · have hle : rest.length ≤ n + 1 := by
            have : ¬ (((n : Nat) : Int) + 1 < (rest.length : Nat)) := fun z => hc (decide_eq_true z)
            omega
          obtain ⟨dl, dh⟩ := O.done hle
          refine ⟨_, rfl, rp, rfl, ⟨_, SqL.of e3⟩, fun D2 hD2 => lc_list (K := K) (a := rp) (xs := nums rest) (fun j H2 => Same H' H2 ∧ H2 D2 = some (.lst (nums ((rest.take j).filter fun p => decide (val ls p = i))))) ⟨same_new hD2, upd_same⟩
            (fun j H2 _ ⟨s4, _⟩ => SqL.of (s4 _ _ e3)) ?_ ?_⟩
          · rintro j x H2 hx ⟨s4, e4⟩
            obtain ⟨z, rfl, hz, hzm⟩ := nums_get hx
            have hj : j < rest.length := (List.getElem?_eq_some_iff.mp hz).1
            have bz := O.bd z hzm
            refine ⟨rfl, _, rfl, _, rfl, a, _, _, _, rfl, rfl, SqL.of (s4 _ _ (s3 _ _ ha)), val_get bz.1 bz.2, _, rfl, rfl, _, rfl, ?_⟩
            have ef := filt_snoc hz fun p => decide (val ls p = i)
            refine ite2 (fun hv => ?_) (fun hv => ?_)
            · have v : val ls z = i := by simpa using hv
              rw [if_pos (by simpa using v)] at ef
              refine ⟨_, rfl, _, e4, ?_, fun b o e => ?_, ?_⟩
              · rw [List.length_map]
                have := List.length_filter_le (fun p => decide (val ls p = i)) (rest.take j)
                rw [List.length_take] at this
                exact small1000 (by omega)
              · rw [upd_ne (ne_of_none e hD2)]
                exact s4 _ _ e
              · rw [upd_same, ef]
                simp [nums]
            · have v : ¬ val ls z = i := by simpa using hv
              rw [if_neg (by simpa using v), List.append_nil] at ef
              exact ⟨s4, by rw [ef]; exact e4⟩
          · rintro H2 ⟨s4, e4⟩
            rw [List.length_map, List.take_length, ← dl] at e4
            obtain ⟨ps, p1, p2, p3⟩ := PL.same s4
            refine ⟨_, rfl, pr, ps, rfl, SqL.of p1, p3, fun ys q1 _ hq1 => ?_⟩
            have s5 : Same H2 (upd H2 q1 (.lst ys)) := same_new hq1
            have e5 : (upd H2 q1 (.lst ys)) q1 = some (.lst ys) := upd_same
            generalize upd H2 q1 (.lst ys) = H3 at s5 e5 ⊢
            have s45 : Same H' H3 := s4.trans s5
            refine ⟨_, rfl, _, rfl, rp, rfl, ⟨_, SqL.of (s45 _ _ e3)⟩, fun D3 hD3 => lc_list (K := K) (a := rp) (xs := nums rest) (fun j H6 => Same H3 H6 ∧ H6 D3 = some (.lst (nums ((rest.take j).filter fun p => decide (val ls p = i + 1))))) ⟨same_new hD3, upd_same⟩
              (fun j H6 _ ⟨s6, _⟩ => SqL.of (s6 _ _ (s45 _ _ e3))) ?_ ?_⟩
            · rintro j x H6 hx ⟨s6, e6⟩
              obtain ⟨z, rfl, hz, hzm⟩ := nums_get hx
              have hj : j < rest.length := (List.getElem?_eq_some_iff.mp hz).1
              have bz := O.bd z hzm
              refine ⟨rfl, _, rfl, _, rfl, a, _, _, _, rfl, rfl, SqL.of (s6 _ _ (s45 _ _ (s3 _ _ ha))), val_get bz.1 bz.2, _, rfl, _, _, rfl, rfl, rfl, _, rfl, ?_⟩
              have ef := filt_snoc hz fun p => decide (val ls p = i + 1)
              refine ite2 (fun hv => ?_) (fun hv => ?_)
              · have v : val ls z = i + 1 := by simpa using hv
                rw [if_pos (by simpa using v)] at ef
                refine ⟨_, rfl, _, e6, ?_, fun b o e => ?_, ?_⟩
                · rw [List.length_map]
                  have := List.length_filter_le (fun p => decide (val ls p = i + 1)) (rest.take j)
                  rw [List.length_take] at this
                  exact small1000 (by omega)
                · rw [upd_ne (ne_of_none e hD3)]
                  exact s6 _ _ e
                · rw [upd_same, ef]
                  simp [nums]
              · have v : ¬ val ls z = i + 1 := by simpa using hv
                rw [if_neg (by simpa using v), List.append_nil] at ef
                exact ⟨s6, by rw [ef]; exact e6⟩
            · rintro H6 ⟨s6, e6⟩
              rw [List.length_map, List.take_length, ← dh] at e6
              refine ⟨(by show 3 ≤ sizeLine; decide), fun q hq => ?_⟩
              have s7 := same_new (o := .lst [.ref q1, .ref D2, .ref D3]) hq
              exact k q q1 D2 D3 ys _ ((s3.trans s45).trans (s6.trans s7)) upd_same (s7 _ _ (s6 _ _ e5)) (s7 _ _ (s6 _ _ (s5 _ _ e4))) (s7 _ _ e6)
      · intro σ H' Q1 Q2 hq h
        obtain ⟨v, e1, i1, j1, e2, e3, v2, e4, p, ys, e5, e6, i2, j2, e7, e8, b, e9, h⟩ := h
        exact ⟨v, e1, i1, j1, e2, e3, v2, e4, p, ys, e5, e6, i2, j2, e7, e8, b, e9, hq _ _ h⟩
end
end Lw
/-! X. Tops and bottoms by counts; a deed done. -/
namespace LwM
theorem one_up (i x : Int) : up i [x] = if x = i then 1 else 0 := by
  unfold up lows br go go stp
  by_cases h : x = i
  · rw [if_neg (by omega), if_pos h, if_pos h]
    rfl
  · by_cases h2 : x = i + 1
    · rw [if_pos h2, if_neg h]
      rfl
    · rw [if_neg h2, if_neg h, if_neg h]
      rfl
theorem one_dn (i x : Int) : dn i [x] = if x = i + 1 then 1 else 0 := by
  unfold dn highs br go go stp
  by_cases h2 : x = i + 1
  · rw [if_pos h2, if_pos h2]
    rfl
  · rw [if_neg h2, if_neg h2]
    by_cases h : x = i
    · rw [if_pos h]
      rfl
    · rw [if_neg h]
      rfl
/-- what is left over is what is more -/
theorem more (i : Int) : ∀ l : List Int, (up i l : Int) - dn i l = (l.count i : Int) - l.count (i + 1)
  | [] => by simp [up, dn, lows, highs, br, go]
  | x :: l => by
    have ih := more i l
    have e1 := up_app i [x] l
    have e2 := dn_app i [x] l
    rw [one_up, one_dn] at *
    show (up i ([x] ++ l) : Int) - dn i ([x] ++ l) = _
    rw [e1, e2, List.count_cons, List.count_cons]
    by_cases h : x = i
    · subst h
      have hn : ¬ x = x + 1 := by omega
      simp only [if_pos rfl, if_neg hn, beq_self_eq_true, if_true]
      rw [if_neg (by simpa using hn)]
      omega
    · by_cases h2 : x = i + 1
      · subst h2
        simp only [if_neg h, if_pos rfl, beq_self_eq_true, if_true]
        rw [if_neg (by simpa using h)]
        omega
      · simp only [if_neg h, if_neg h2]
        rw [if_neg (by simpa using h), if_neg (by simpa using h2)]
        omega
/-- nothing can go down: each end has enough -/
theorem dn_ends (i : Int) : ∀ l : List Int, dn i l = 0 ↔ ∀ k, k < l.length → (l.drop k).count (i + 1) ≤ (l.drop k).count i
  | [] => by simp [dn, highs, br, go]
  | x :: l => by
    have ih := dn_ends i l
    have e2 := dn_app i [x] l
    have m := more i (x :: l)
    rw [one_dn] at e2
    have e3 : dn i (x :: l) = (if x = i + 1 then 1 else 0) - up i l + dn i l := e2
    constructor
    · intro h k hk
      cases k with
      | zero =>
        rw [List.drop_zero]
        omega
      | succ k =>
        rw [List.drop_succ_cons]
        exact ih.mp (by omega) k (by rw [List.length_cons] at hk; omega)
    · intro h
      have h0 : dn i l = 0 := ih.mpr fun k hk => by
        have := h (k + 1) (by rw [List.length_cons]; omega)
        rwa [List.drop_succ_cons] at this
      have h1 := h 0 (by rw [List.length_cons]; omega)
      rw [List.drop_zero] at h1
      have e1 := up_app i [x] l
      have e4 : up i (x :: l) = up i [x] + (up i l - dn i [x]) := e1
      rw [one_up, one_dn] at e4
      split at e3 <;> split at e4 <;> omega
/-- nothing can go up: each beginning has enough -/
theorem up_starts (i : Int) (l : List Int) : up i l = 0 ↔ ∀ k, k ≤ l.length → (l.take k).count i ≤ (l.take k).count (i + 1) := by
  constructor
  · intro h k hk
    have e := up_app i (l.take k) (l.drop k)
    rw [List.take_append_drop] at e
    have m := more i (l.take k)
    omega
  · suffices key : ∀ n, n ≤ l.length → (∀ k, k ≤ n → (l.take k).count i ≤ (l.take k).count (i + 1)) → up i (l.take n) = 0 by
      intro h
      have := key l.length (Nat.le_refl _) h
      rwa [List.take_length] at this
    intro n
    induction n with
    | zero =>
      intro _ _
      rfl
    | succ n ih =>
      intro hn h
      have h0 := ih (by omega) fun k hk => h k (by omega)
      have hx : l[n]? = some l[n] := List.getElem?_eq_getElem (by omega)
      have e : l.take (n + 1) = l.take n ++ [l[n]] := by
        rw [List.take_succ, hx]
        rfl
      have m := more i (l.take (n + 1))
      have c := h (n + 1) (Nat.le_refl _)
      have e1 := up_app i (l.take n) [l[n]]
      have e2 := dn_app i (l.take n) [l[n]]
      rw [← e, one_up] at e1
      rw [← e, one_up, one_dn] at e2
      generalize l[n] = x at e1 e2
      by_cases c1 : x = i
      · rw [if_pos c1] at e1 e2
        rw [if_neg (by omega)] at e2
        omega
      · rw [if_neg c1] at e1 e2
        omega
/-- which letter changes -/
theorem low_val {i : Int} {l : List Int} {p : Int} (h : p ∈ lows i l) : val l p = i := by
  have key : ∀ (A : List Int) (s : List Int × List Int), (∀ q ∈ s.1, val l q = i) → (∀ q ∈ s.2, val l q = i + 1) → (∀ q ∈ (gp i (val l) s A).1, val l q = i) ∧ ∀ q ∈ (gp i (val l) s A).2, val l q = i + 1 := by
    intro A
    induction A with
    | nil => intro s h1 h2; exact ⟨h1, h2⟩
    | cons a A ih =>
      intro s h1 h2
      refine ih (stp i s a (val l a)) ?_ ?_
      · intro q hq
        unfold stp at hq
        split at hq
        · exact h1 q hq
        · split at hq
          · split at hq
            · rcases List.mem_append.mp hq with z | z
              · exact h1 q z
              · rw [List.mem_singleton.mp z]
                assumption
            · exact h1 q hq
          · exact h1 q hq
      · intro q hq
        unfold stp at hq
        split at hq
        · rcases List.mem_append.mp hq with z | z
          · exact h2 q z
          · rw [List.mem_singleton.mp z]
            assumption
        · split at hq
          · split at hq
            · exact h2 q hq
            · exact h2 q ((List.dropLast_sublist _).subset hq)
          · exact h2 q hq
  have k := key (plc i l l.length) ([], []) (fun q hq => by simp at hq) fun q hq => by simp at hq
  rw [← br_plc] at k
  exact k.1 p h
theorem high_val {i : Int} {l : List Int} {p : Int} (h : p ∈ highs i l) : val l p = i + 1 := by
  have key : ∀ (A : List Int) (s : List Int × List Int), (∀ q ∈ s.2, val l q = i + 1) → ∀ q ∈ (gp i (val l) s A).2, val l q = i + 1 := by
    intro A
    induction A with
    | nil => intro s h2; exact h2
    | cons a A ih =>
      intro s h2
      refine ih (stp i s a (val l a)) ?_
      intro q hq
      unfold stp at hq
      split at hq
      · rcases List.mem_append.mp hq with z | z
        · exact h2 q z
        · rw [List.mem_singleton.mp z]
          assumption
      · split at hq
        · split at hq
          · exact h2 q hq
          · exact h2 q ((List.dropLast_sublist _).subset hq)
        · exact h2 q hq
  have k := key (plc i l l.length) ([], []) fun q hq => by simp at hq
  rw [← br_plc] at k
  exact k p h
theorem val_some {l : List Int} {p : Int} (h0 : 0 ≤ p) (h1 : p < l.length) : l[p.toNat]? = some (val l p) := by
  have e : l[p.toNat]? = some l[p.toNat] := List.getElem?_eq_getElem (by omega)
  unfold val
  rw [e]
  rfl
theorem up_sum {i : Int} {l : List Int} (h : lows i l ≠ []) : (upL i l).sum = l.sum + 1 := by
  have hm := lst_mem h
  have b := br_bd (i := i) (l := l) (.inl hm)
  have e := val_some b.1 b.2
  rw [low_val hm] at e
  unfold upL
  rw [L2.sum_set e]
  omega
theorem dn_sum {i : Int} {l : List Int} (h : highs i l ≠ []) : (dnL i l).sum = l.sum - 1 := by
  have hm := fst_mem h
  have b := br_bd (i := i) (l := l) (.inr hm)
  have e := val_some b.1 b.2
  rw [high_val hm] at e
  unfold dnL
  rw [L2.sum_set e]
  omega
/-- what the law's deed makes of letters -/
def doneL (d : Int) (l : List Int) : Option (List Int) := if 0 < d then (if lows d l = [] then none else some (upL d l)) else (if highs (-d) l = [] then none else some (dnL (-d) l))
theorem sum_bd {l : List Int} {n : Int} (h : ∀ x ∈ l, 1 ≤ x ∧ x ≤ n) : (l.length : Int) ≤ l.sum ∧ l.sum ≤ n * l.length := by
  induction l with
  | nil => simp
  | cons a l ih =>
    have h1 := ih fun x hx => h x (List.mem_cons_of_mem _ hx)
    have h2 := h a (List.mem_cons_self ..)
    rw [List.sum_cons, List.length_cons]
    have e : n * ((l.length + 1 : Nat) : Int) = n * (l.length : Int) + n := by
      rw [Int.natCast_add, Int.mul_add]
      simp
    rw [e]
    omega
end LwM
/-! Eq. Two lists of numbers alike. -/
namespace Lw
open PySem L2 LwE LwM
theorem eqv_empty (l : List Int) : PyData.eqv (.list (l.map PyData.int)) (.list []) = decide (l = []) := by
  have := eqv_nums l []
  exact this
end Lw
/-! U. A deed done by the law; deeds until none is left. -/
namespace LwM
theorem upL_len (i : Int) (l : List Int) : (upL i l).length = l.length := List.length_set ..
theorem dnL_len (i : Int) (l : List Int) : (dnL i l).length = l.length := List.length_set ..
theorem doneL_len {d : Int} {l r : List Int} (h : doneL d l = some r) : r.length = l.length := by
  unfold doneL at h
  split at h
  · split at h
    · cases h
    · cases h
      exact upL_len _ _
  · split at h
    · cases h
    · cases h
      exact dnL_len _ _
theorem set_bd {l : List Int} {n : Int} (h : ∀ x ∈ l, 1 ≤ x ∧ x ≤ n) (p : Nat) {z : Int} (z0 : 1 ≤ z) (z1 : z ≤ n) : ∀ x ∈ l.set p z, 1 ≤ x ∧ x ≤ n := fun y hy => by
  rcases List.mem_or_eq_of_mem_set hy with q | q
  · exact h y q
  · rw [q]
    exact ⟨z0, z1⟩
theorem doneL_bd {d n : Int} {l r : List Int} (hl : ∀ x ∈ l, 1 ≤ x ∧ x ≤ n) (h0 : d ≠ 0) (h1 : -(n - 1) ≤ d) (h2 : d ≤ n - 1) (h : doneL d l = some r) : ∀ x ∈ r, 1 ≤ x ∧ x ≤ n := by
  unfold doneL at h
  split at h
  · split at h
    · cases h
    · cases h
      exact set_bd hl _ (by omega) (by omega)
  · split at h
    · cases h
    · cases h
      exact set_bd hl _ (by omega) (by omega)
theorem doneL_sum {d : Int} {l r : List Int} (h : doneL d l = some r) : r.sum = l.sum + (if 0 < d then 1 else -1) := by
  unfold doneL at h
  by_cases hd : 0 < d
  · rw [if_pos hd] at h ⊢
    split at h
    · cases h
    · rename_i z
      cases h
      exact up_sum z
  · rw [if_neg hd] at h ⊢
    split at h
    · cases h
    · rename_i z
      cases h
      have := dn_sum z
      omega
end LwM
namespace Lw
open PySem L2 LwE LwM
section
variable {P : Program} {w : World} {K : PySem.W.Frag} {mg : Str → Option Value} {base : Heap} {C : Addr}
def spDone : Sp := fun vs H Q _ => ∃ (a : Addr) (d : Int) (ls : List Int), vs = [.ref a, .int d] ∧ H a = some (.lst (nums ls)) ∧ ls.length ≤ 100 ∧ d ≠ 0 ∧
  (doneL d ls = none → ∀ H', Same H H' → Q .non H') ∧ ∀ r, doneL d ls = some r → ∀ q H', Same H H' → H q = none → H' q = some (.lst (nums r)) → Q (.ref q) H'
theorem scDone : FnScope ["letters", "deed", "i", "pairs", "lows", "highs"] ["letters", "deed"] (defScope sDone) := ⟨rfl, rfl, rfl, by decide +kernel, rfl, by decide +kernel, by decide +kernel⟩
theorem ok_done {f f1 : Addr} {fd fd1 : FuncData} (F : Df K mg "_law_done" sDone f fd) (F1 : Df K mg "_law_left" sLeft f1 fd1) (b1 : Binds K fd1 ["letters", "i"] []) (G1 : FnOk P w K mg base CX0 1 f1 fd1 ["letters", "i"] spLeft) :
    FnOk P w K mg base CX0 2 f fd ["letters", "deed"] spDone := by
  refine F.fn.ok scDone (fun vs H Q E h => ?_) (fun cdv A outer s H vs Q E hr h => ?_)
  · obtain ⟨a, d, ls, rfl, _⟩ := h
    rfl
  · obtain ⟨a, d, ls, rfl, ha, hlen, hd, kn, ks⟩ := h
    refine ⟨_, pss_cons (ps_set (i := 2) scDone.nd rfl (Or.inl rfl) (pe_ifExp (pt_cmpR op_gt (pv 1) pe_int (nomark _)) (pv 1) (pe_op op_sub pe_int (pv 1))))
      (pss_cons (ps_asg (pe_call G1 hr (by rfl) F1.g F1.fn.kp b1 .nil pass0 (pa_cons (pv 0) (pa_cons (pv 2) pa_nil)))
        (pg_unl rfl (pgs_cons (pg_name (i := 3) scDone.nd rfl (Or.inl rfl)) (pgs_cons (pg_name (i := 4) scDone.nd rfl (Or.inl rfl)) (pgs_cons (pg_name (i := 5) scDone.nd rfl (Or.inl rfl)) pgs_nil)))))
      (pss_cons (ps_if (PW.pt (pw_and (pt_cmpR op_gt (pv 1) pe_int (nomark _)) (pw_and1 (pt_cmpR (op_neD hr.units) (pv 4) (pe_lst pa_nil) (nomark _)))))
        (pss_one (ps_ret (pe_op op_cat (pe_op op_cat (pe_slice sl_list (pv 0) po_none (po_some (pe_ix ix_list (pv 4) (pe_un un_neg pe_int) (fun _ _ => rfl)))) (pe_lst (pa_cons (pe_op op_add (pv 2) pe_int) pa_nil)))
          (pe_slice sl_list (pv 0) (po_some (pe_op op_add (pe_ix ix_list (pv 4) (pe_un un_neg pe_int) (fun _ _ => rfl)) pe_int)) po_none)))) pss_nil)
      (pss_cons (ps_if (PW.pt (pw_and (pt_cmpR op_lt (pv 1) pe_int (nomark _)) (pw_and1 (pt_cmpR (op_neD hr.units) (pv 5) (pe_lst pa_nil) (nomark _)))))
        (pss_one (ps_ret (pe_op op_cat (pe_op op_cat (pe_slice sl_list (pv 0) po_none (po_some (pe_ix ix_list (pv 5) pe_int (fun _ _ => rfl)))) (pe_lst (pa_cons (pv 2) pa_nil)))
          (pe_slice sl_list (pv 0) (po_some (pe_op op_add (pe_ix ix_list (pv 5) pe_int (fun _ _ => rfl)) pe_int)) po_none)))) pss_nil)
      (pss_one (ps_ret pe_non))))), ?_⟩
    have out : ∀ (H1 : Hp) (p x : Int) (r : List Int), Same H H1 → 0 ≤ p → p < ls.length → r = ls.set p.toNat x → doneL d ls = some r → ∀ q1, H1 q1 = none → ∀ q2, (upd H1 q1 (.lst (nums (ls.take p.toNat)))) q2 = none →
        ∀ q3, (upd (upd H1 q1 (.lst (nums (ls.take p.toNat)))) q2 (.lst [.int x])) q3 = none → ∀ q4, (upd (upd (upd H1 q1 (.lst (nums (ls.take p.toNat)))) q2 (.lst [.int x])) q3 (.lst (nums (ls.take p.toNat) ++ [.int x]))) q4 = none →
        ∀ q5, (upd (upd (upd (upd H1 q1 (.lst (nums (ls.take p.toNat)))) q2 (.lst [.int x])) q3 (.lst (nums (ls.take p.toNat) ++ [.int x]))) q4 (.lst (nums (ls.drop (p + 1).toNat)))) q5 = none →
        Q (.ref q5) (upd (upd (upd (upd (upd H1 q1 (.lst (nums (ls.take p.toNat)))) q2 (.lst [.int x])) q3 (.lst (nums (ls.take p.toNat) ++ [.int x]))) q4 (.lst (nums (ls.drop (p + 1).toNat)))) q5 (.lst (nums (ls.take p.toNat) ++ [.int x] ++ nums (ls.drop (p + 1).toNat)))) := by
      intro H1 p x r s1 p0 p1 er ed q1 n1 q2 n2 q3 n3 q4 n4 q5 n5
      have s2 := (((s1.trans (same_new n1)).trans (same_new n2)).trans (same_new n3)).trans (same_new (o := .lst (nums (ls.drop (p + 1).toNat))) n4)
      refine ks r ed q5 _ (s2.trans (same_new n5)) (s2.free n5) ?_
      rw [upd_same, er]
      have e3 : (p + 1).toNat = p.toNat + 1 := by omega
      rw [e3, ← set_cut ls p.toNat x (by omega)]
      simp [nums]
    have szs : ∀ (p : Int), (nums (ls.take p.toNat)).length ≤ 100 ∧ (nums (ls.drop (p + 1).toNat)).length ≤ 100 := fun p => by
      rw [List.length_map, List.length_map, List.length_take, List.length_drop]
      omega
    refine ⟨_, rfl, _, _, rfl, rfl, _, rfl, ?_⟩
    by_cases hpos : 0 < d
    · rw [decide_eq_true hpos]
      refine iteT ⟨_, rfl, ?_⟩
      refine ⟨_, rfl, _, rfl, a, d, ls, rfl, ha, hlen, fun q r lo hi ps H1 s1 e1 e2 e3 e4 => ?_⟩
      refine ⟨q, _, rfl, SqL.of e1, rfl, _, _, rfl, _, _, rfl, _, _, rfl, rfl, ?_⟩
      refine ⟨_, rfl, _, _, rfl, rfl, _, rfl, ?_⟩
      rw [decide_eq_true hpos]
      refine iteT ⟨_, rfl, Nat.zero_le _, fun z hz => ?_⟩
      have s2 : Same H1 (upd H1 z (.lst [])) := same_new hz
      have ez : (upd H1 z (.lst [])) z = some (.lst []) := upd_same
      generalize upd H1 z (.lst []) = H2 at s2 ez ⊢
      have s12 := s1.trans s2
      refine ⟨.list ((lows d ls).map PyData.int), .list [], .lst (SqL.of (s2 _ _ e3)) (dp_nums _), .lst (SqL.of ez) .nil, shaped_nums _, by decide, _, rfl, ?_⟩
      rw [eqv_empty]
      by_cases hz0 : lows d ls = []
      · rw [decide_eq_true hz0]
        have ed : doneL d ls = none := by
          unfold doneL
          rw [if_pos hpos, if_pos hz0]
        refine iteF ⟨_, rfl, _, _, rfl, rfl, _, rfl, ?_⟩
        rw [decide_eq_false (by omega)]
        exact iteF (iteF (kn ed H2 s12))
      · rw [decide_eq_false hz0]
        have ed : doneL d ls = some (upL d ls) := by
          unfold doneL
          rw [if_pos hpos, if_neg hz0]
        have b := br_bd (i := d) (l := ls) (.inl (lst_mem hz0))
        have el := at_lst hz0
        have sz := szs (lst (lows d ls))
        refine iteT ⟨_, rfl, _, rfl, 1, rfl, lo, _, _, _, rfl, rfl, SqL.of (s2 _ _ e3), el, _, rfl, a, _, rfl, SqL.of (s12 _ _ ha), fun q1 n1 => ?_⟩
        rw [cut_take ls b.1]
        refine ⟨_, rfl, _, _, rfl, rfl, (by show 1 ≤ sizeLine; decide), fun q2 n2 => ?_⟩
        refine ⟨q1, q2, _, _, rfl, rfl, same_new n2 _ _ upd_same, upd_same, by rw [sizeLine_eq]; simp; omega, fun q3 n3 => ?_⟩
        have s3 := (same_new (o := .lst (nums (ls.take (lst (lows d ls)).toNat))) n1).trans ((same_new (o := .lst [.int (d + 1)]) n2).trans (same_new (o := .lst (nums (ls.take (lst (lows d ls)).toNat) ++ [.int (d + 1)])) n3))
        refine ⟨_, rfl, _, rfl, 1, rfl, lo, _, _, _, rfl, rfl, SqL.of (s3 _ _ (s2 _ _ e3)), el, _, _, rfl, rfl, _, rfl, a, _, rfl, SqL.of (s3 _ _ (s12 _ _ ha)), fun q4 n4 => ?_⟩
        rw [cut_drop ls (by omega)] at *
        refine ⟨q3, q4, _, _, rfl, rfl, same_new n4 _ _ upd_same, upd_same, by rw [sizeLine_eq]; simp; omega, fun q5 n5 => ?_⟩
        exact out H2 _ (d + 1) _ s12 b.1 b.2 rfl ed q1 n1 q2 n2 q3 n3 q4 n4 q5 n5
    · rw [decide_eq_false hpos]
      refine iteF ⟨_, rfl, _, _, rfl, rfl, ?_⟩
      refine ⟨_, rfl, _, rfl, a, 0 - d, ls, rfl, ha, hlen, fun q r lo hi ps H1 s1 e1 e2 e3 e4 => ?_⟩
      refine ⟨q, _, rfl, SqL.of e1, rfl, _, _, rfl, _, _, rfl, _, _, rfl, rfl, ?_⟩
      refine ⟨_, rfl, _, _, rfl, rfl, _, rfl, ?_⟩
      rw [decide_eq_false hpos]
      refine iteF (iteF ⟨_, rfl, _, _, rfl, rfl, _, rfl, ?_⟩)
      rw [decide_eq_true (show d < 0 by omega)]
      refine iteT ⟨_, rfl, Nat.zero_le _, fun z hz => ?_⟩
      have s2 : Same H1 (upd H1 z (.lst [])) := same_new hz
      have ez : (upd H1 z (.lst [])) z = some (.lst []) := upd_same
      generalize upd H1 z (.lst []) = H2 at s2 ez ⊢
      have s12 := s1.trans s2
      have em : 0 - d = -d := by omega
      rw [em] at e3 e4
      refine ⟨.list ((highs (-d) ls).map PyData.int), .list [], .lst (SqL.of (s2 _ _ e4)) (dp_nums _), .lst (SqL.of ez) .nil, shaped_nums _, by decide, _, rfl, ?_⟩
      rw [eqv_empty]
      by_cases hz0 : highs (-d) ls = []
      · rw [decide_eq_true hz0]
        have ed : doneL d ls = none := by
          unfold doneL
          rw [if_neg hpos, if_pos hz0]
        exact iteF (kn ed H2 s12)
      · rw [decide_eq_false hz0]
        have ed : doneL d ls = some (dnL (-d) ls) := by
          unfold doneL
          rw [if_neg hpos, if_neg hz0]
        have b := br_bd (i := -d) (l := ls) (.inr (fst_mem hz0))
        have el := at_fst hz0
        have sz := szs (fst (highs (-d) ls))
        refine iteT ⟨_, rfl, _, rfl, hi, _, _, _, rfl, rfl, SqL.of (s2 _ _ e4), el, _, rfl, a, _, rfl, SqL.of (s12 _ _ ha), fun q1 n1 => ?_⟩
        rw [cut_take ls b.1]
        refine ⟨_, rfl, (by show 1 ≤ sizeLine; decide), fun q2 n2 => ?_⟩
        refine ⟨q1, q2, _, _, rfl, rfl, same_new n2 _ _ upd_same, upd_same, by rw [sizeLine_eq]; simp; omega, fun q3 n3 => ?_⟩
        have s3 := (same_new (o := .lst (nums (ls.take (fst (highs (-d) ls)).toNat))) n1).trans ((same_new (o := .lst [.int (0 - d)]) n2).trans (same_new (o := .lst (nums (ls.take (fst (highs (-d) ls)).toNat) ++ [.int (0 - d)])) n3))
        refine ⟨_, rfl, _, rfl, hi, _, _, _, rfl, rfl, SqL.of (s3 _ _ (s2 _ _ e4)), el, _, _, rfl, rfl, _, rfl, a, _, rfl, SqL.of (s3 _ _ (s12 _ _ ha)), fun q4 n4 => ?_⟩
        rw [cut_drop ls (by omega)] at *
        refine ⟨q3, q4, _, _, rfl, rfl, same_new n4 _ _ upd_same, upd_same, by rw [sizeLine_eq]; simp; omega, fun q5 n5 => ?_⟩
        exact out H2 _ (0 - d) _ s12 b.1 b.2 (by rw [em]; rfl) ed q1 n1 q2 n2 q3 n3 q4 n4 q5 n5
end
end Lw
/-! Far. Deeds at indexes that are not neighbors; a string of one index. -/
namespace LwM
/-- a letter that is no bracket of j stays none -/
theorem go_set (j : Int) : ∀ (l : List Int) (p : Nat) (x y : Int) (s : List Int × List Int) (k : Int), l[p]? = some x → x ≠ j → x ≠ j + 1 → y ≠ j → y ≠ j + 1 → go j s k (l.set p y) = go j s k l
  | [], p, x, y, s, k, h, _, _, _, _ => by simp at h
  | a :: l, 0, x, y, s, k, h, h1, h2, h3, h4 => by
    have e : a = x := by simpa using h
    subst e
    show go j (stp j s k y) (k + 1) l = go j (stp j s k a) (k + 1) l
    unfold stp
    rw [if_neg h4, if_neg h3, if_neg h2, if_neg h1]
  | a :: l, p + 1, x, y, s, k, h, h1, h2, h3, h4 => by
    show go j (stp j s k a) (k + 1) (l.set p y) = go j (stp j s k a) (k + 1) l
    exact go_set j l p x y _ _ (by simpa using h) h1 h2 h3 h4
theorem br_set {j x y : Int} {l : List Int} {p : Nat} (h : l[p]? = some x) (h1 : x ≠ j) (h2 : x ≠ j + 1) (h3 : y ≠ j) (h4 : y ≠ j + 1) : br j (l.set p y) = br j l := go_set j l p x y _ _ h h1 h2 h3 h4
/-- the index of a deed -/
def ix (d : Int) : Int := if 0 < d then d else -d
/-- where a deed does something, and what it lays there -/
def plD (d : Int) (l : List Int) : Nat := if 0 < d then (lst (lows d l)).toNat else (fst (highs (-d) l)).toNat
def lyD (d : Int) : Int := if 0 < d then d + 1 else -d
theorem doneL_set {d : Int} {l r : List Int} (h : doneL d l = some r) : r = l.set (plD d l) (lyD d) ∧ ∃ x, l[plD d l]? = some x ∧ (x = ix d ∨ x = ix d + 1) := by
  unfold doneL at h
  unfold plD lyD ix
  by_cases c : 0 < d
  · rw [if_pos c] at h ⊢
    rw [if_pos c, if_pos c]
    split at h
    · cases h
    · rename_i z
      cases h
      have hm := lst_mem z
      have b := br_bd (i := d) (l := l) (.inl hm)
      exact ⟨rfl, _, val_some b.1 b.2, .inl (low_val hm)⟩
  · rw [if_neg c] at h ⊢
    rw [if_neg c, if_neg c]
    split at h
    · cases h
    · rename_i z
      cases h
      have hm := fst_mem z
      have b := br_bd (i := -d) (l := l) (.inr hm)
      exact ⟨rfl, _, val_some b.1 b.2, .inr (high_val hm)⟩
theorem lyD_or (d : Int) : lyD d = ix d ∨ lyD d = ix d + 1 := by
  unfold lyD ix
  split
  · exact .inr rfl
  · exact .inl rfl
/-- two deeds whose indexes are not neighbors -/
def FarD (d e : Int) : Prop := ix d + 1 < ix e ∨ ix e + 1 < ix d
theorem FarD.symm {d e : Int} (h : FarD d e) : FarD e d := h.elim .inr .inl
/-- the brackets of a far index stay -/
theorem far_br {d j : Int} {l r : List Int} (h : doneL d l = some r) (hj : ix d + 1 < j ∨ j + 1 < ix d) : br j r = br j l := by
  obtain ⟨e, x, hx, c⟩ := doneL_set h
  have c2 := lyD_or d
  rw [e]
  exact br_set hx (by omega) (by omega) (by omega) (by omega)
theorem far_done_eq {d e : Int} {l r : List Int} (h : doneL d l = some r) (f : FarD d e) : plD e r = plD e l ∧ (doneL e r = none ↔ doneL e l = none) := by
  have hb : br (ix e) r = br (ix e) l := far_br h (by unfold FarD at f; omega)
  unfold ix at hb
  unfold plD doneL lows highs
  by_cases c : 0 < e
  · simp only [c, if_true] at hb ⊢
    rw [hb]
    refine ⟨rfl, ?_⟩
    by_cases z : (br e l).1 = []
    · simp [z]
    · simp [z]
  · simp only [c, if_false] at hb ⊢
    rw [hb]
    refine ⟨rfl, ?_⟩
    by_cases z : (br (-e) l).2 = []
    · simp [z]
    · simp [z]
/-- far deeds can be done in any order -/
theorem far_comm {d e : Int} {l a b : List Int} (f : FarD d e) (h1 : doneL d l = some a) (h2 : doneL e l = some b) : ∃ z, doneL e a = some z ∧ doneL d b = some z := by
  obtain ⟨e1, x, hx, c1⟩ := doneL_set h1
  obtain ⟨e2, y, hy, c2⟩ := doneL_set h2
  obtain ⟨p1, n1⟩ := far_done_eq h1 f
  obtain ⟨p2, n2⟩ := far_done_eq h2 f.symm
  have ne : plD d l ≠ plD e l := by
    intro z
    rw [z, hy] at hx
    have : y = x := Option.some.inj hx
    unfold FarD at f
    omega
  cases q1 : doneL e a with
  | none =>
    rw [n1.mp q1] at h2
    cases h2
  | some z1 =>
    cases q2 : doneL d b with
    | none =>
      rw [n2.mp q2] at h1
      cases h1
    | some z2 =>
      have g1 := (doneL_set q1).1
      have g2 := (doneL_set q2).1
      rw [p1, e1] at g1
      rw [p2, e2] at g2
      refine ⟨z1, rfl, ?_⟩
      rw [g1, g2, List.set_comm _ _ ne]
/-- rows of deeds -/
def runL : List Int → List Int → Option (List Int)
  | [], l => some l
  | d :: ds, l => match doneL d l with
    | none => none
    | some r => runL ds r
theorem runL_cons {d : Int} {ds l r : List Int} (h : doneL d l = some r) : runL (d :: ds) l = runL ds r := by
  show (match doneL d l with | none => none | some r => runL ds r) = _
  rw [h]
theorem runL_split {d : Int} {ds l r : List Int} (h : runL (d :: ds) l = some r) : ∃ a, doneL d l = some a ∧ runL ds a = some r := by
  unfold runL at h
  cases e : doneL d l with
  | none =>
    rw [e] at h
    cases h
  | some a =>
    rw [e] at h
    exact ⟨a, rfl, h⟩
theorem runL_app : ∀ (a b l : List Int), runL (a ++ b) l = (runL a l).bind (runL b)
  | [], b, l => rfl
  | d :: a, b, l => by
    show (match doneL d l with | none => none | some r => runL (a ++ b) r) = (match doneL d l with | none => none | some r => runL a r).bind (runL b)
    cases doneL d l with
    | none => rfl
    | some r => exact runL_app a b r
/-- one deed ahead of a far row, or behind it -/
theorem far_row {d : Int} : ∀ {row l a b : List Int}, (∀ e ∈ row, FarD d e) → doneL d l = some a → runL row l = some b → ∃ z, runL row a = some z ∧ doneL d b = some z
  | [], l, a, b, _, h1, h2 => by
    cases h2
    exact ⟨a, rfl, h1⟩
  | e :: row, l, a, b, f, h1, h2 => by
    obtain ⟨c, g1, g2⟩ := runL_split h2
    obtain ⟨z, y1, y2⟩ := far_comm (f e (List.mem_cons_self ..)) h1 g1
    obtain ⟨u, v1, v2⟩ := far_row (fun x hx => f x (List.mem_cons_of_mem _ hx)) y2 g2
    exact ⟨u, by rw [runL_cons y1]; exact v1, v2⟩
/-- two rows put together, each in its order -/
inductive Ming : List Int → List Int → List Int → Prop
  | nil : Ming [] [] []
  | left {d : Int} {a b r : List Int} : Ming a b r → Ming (d :: a) b (d :: r)
  | right {e : Int} {a b r : List Int} : Ming a b r → Ming a (e :: b) (e :: r)
theorem Ming.ones : ∀ a : List Int, Ming a [] a
  | [] => .nil
  | _ :: a => .left (ones a)
theorem Ming.others : ∀ b : List Int, Ming [] b b
  | [] => .nil
  | _ :: b => .right (others b)
theorem Ming.app : ∀ a b : List Int, Ming a b (a ++ b)
  | [], b => others b
  | _ :: a, b => .left (app a b)
theorem Ming.flip {a b r : List Int} (h : Ming a b r) : Ming b a r := by
  induction h with
  | nil => exact .nil
  | left _ ih => exact .right ih
  | right _ ih => exact .left ih
theorem ming_run {a b r : List Int} (h : Ming a b r) : ∀ {l x y : List Int}, (∀ d ∈ a, ∀ e ∈ b, FarD d e) → runL a l = some x → runL b l = some y → runL r l = runL b x ∧ ∃ z, runL b x = some z := by
  induction h with
  | nil =>
    intro l x y _ h1 h2
    cases h1
    exact ⟨rfl, l, rfl⟩
  | @left d a b r _ ih =>
    intro l x y f h1 h2
    obtain ⟨l1, g1, g2⟩ := runL_split h1
    obtain ⟨z, y1, _⟩ := far_row (f d (List.mem_cons_self ..)) g1 h2
    have q := ih (fun d' hd e he => f d' (List.mem_cons_of_mem _ hd) e he) g2 y1
    rw [runL_cons g1]
    exact q
  | @right e a b r _ ih =>
    intro l x y f h1 h2
    obtain ⟨l2, g1, g2⟩ := runL_split h2
    obtain ⟨z, y1, y2⟩ := far_row (fun d hd => (f d hd e (List.mem_cons_self ..)).symm) g1 h1
    have q := ih (fun d hd e' he => f d hd e' (List.mem_cons_of_mem _ he)) y1 g2
    rw [runL_cons g1, runL_cons y2]
    exact q
/-- all rows put together of two far rows lead to the same -/
theorem ming_same {a b r l x y : List Int} (f : ∀ d ∈ a, ∀ e ∈ b, FarD d e) (h1 : runL a l = some x) (h2 : runL b l = some y) : ∃ z, ∀ r, Ming a b r → runL r l = some z := by
  obtain ⟨_, z, hz⟩ := ming_run (Ming.app a b) f h1 h2
  exact ⟨z, fun r h => by rw [(ming_run h f h1 h2).1, hz]⟩
end LwM
/-! Str. Along a string of one index. -/
namespace LwM
theorem set_mid (A B : List Int) (x y : Int) : (A ++ x :: B).set A.length y = A ++ y :: B := by
  rw [List.set_append_right _ _ (Nat.le_refl _), Nat.sub_self]
  rfl
theorem up_cons (i x : Int) (l : List Int) : up i (x :: l) = up i [x] + (up i l - dn i [x]) := up_app i [x] l
theorem dn_cons (i x : Int) (l : List Int) : dn i (x :: l) = (dn i [x] - up i l) + dn i l := dn_app i [x] l
/-- the last i that is left over: nothing waits ahead of it, and no i behind it is left over -/
theorem low_last {i : Int} {l : List Int} (h : lows i l ≠ []) : ∃ A B, l = A ++ i :: B ∧ (lst (lows i l)).toNat = A.length ∧ dn i A = 0 ∧ up i B = 0 := by
  have hm := lst_mem h
  have b := br_bd (i := i) (l := l) (.inl hm)
  have v := low_val hm
  have e := val_some b.1 b.2
  rw [v] at e
  have hp : (lst (lows i l)).toNat < l.length := by omega
  refine ⟨l.take (lst (lows i l)).toNat, l.drop ((lst (lows i l)).toNat + 1), ?_, ?_, ?_⟩
  · have e2 : l[(lst (lows i l)).toNat] = i := by
      rw [List.getElem?_eq_getElem hp] at e
      exact Option.some.inj e
    have e3 := List.take_append_drop (lst (lows i l)).toNat l
    rw [List.drop_eq_getElem_cons hp, e2] at e3
    exact e3.symm
  · rw [List.length_take]
    omega
  · generalize hq : (lst (lows i l)).toNat = p at *
    have hpi : lst (lows i l) = (p : Int) := by omega
    have el : l = (l.take p ++ [i]) ++ l.drop (p + 1) := by
      have e2 : l[p] = i := by
        rw [List.getElem?_eq_getElem hp] at e
        exact Option.some.inj e
      have e3 := List.take_append_drop p l
      rw [List.drop_eq_getElem_cons hp, e2] at e3
      rw [List.append_assoc]
      exact e3.symm
    have hl : (l.take p ++ [i]).length = p + 1 := by
      rw [List.length_append, List.length_take, List.length_singleton]
      omega
    have lA : (l.take p).length = p := by
      rw [List.length_take]
      omega
    have ll := lows_app i (l.take p ++ [i]) (l.drop (p + 1))
    rw [← el] at ll
    -- nothing of the rest is left over
    have hB : ((lows i (l.drop (p + 1))).map (· + ((l.take p ++ [i]).length : Int))).drop (highs i (l.take p ++ [i])).length = [] := by
      apply Classical.byContradiction
      intro z
      have q := lst_app (lows i (l.take p ++ [i])) _ z
      rw [← ll, hpi] at q
      have m := lst_mem z
      rw [← q] at m
      obtain ⟨u, hu, eu⟩ := List.mem_map.mp (List.mem_of_mem_drop m)
      have := br_bd (i := i) (.inl hu)
      omega
    rw [hB, List.append_nil] at ll
    have hm2 : (p : Int) ∈ lows i (l.take p ++ [i]) := by
      rw [← ll, ← hpi]
      exact hm
    have sn := br_snoc i (l.take p) i
    unfold stp at sn
    rw [if_neg (by omega), if_pos rfl] at sn
    have hz : highs i (l.take p) = [] := by
      apply Classical.byContradiction
      intro z
      rw [if_neg (show ¬ (br i (l.take p)).2 = [] from z)] at sn
      have m3 : (p : Int) ∈ lows i (l.take p) := by
        have : lows i (l.take p ++ [i]) = lows i (l.take p) := by
          unfold lows
          rw [sn]
        rwa [this] at hm2
      have := br_bd (i := i) (.inl m3)
      omega
    have hd : dn i (l.take p) = 0 := by
      unfold dn
      rw [hz]
      rfl
    refine ⟨hd, ?_⟩
    have d1 := dn_app i (l.take p) [i]
    rw [hd, one_dn, one_up, if_pos rfl, if_neg (by omega)] at d1
    have hl2 := congrArg List.length hB
    rw [List.length_drop, List.length_map] at hl2
    have d2 : (highs i (l.take p ++ [i])).length = 0 := d1
    rw [d2] at hl2
    unfold up
    simpa using hl2
/-- one up along the string -/
theorem up_upL {i : Int} {l : List Int} (h : lows i l ≠ []) : up i (upL i l) + 1 = up i l ∧ dn i (upL i l) = dn i l + 1 := by
  obtain ⟨A, B, e, e2, dA, uB⟩ := low_last h
  have eL : upL i l = A ++ (i + 1) :: B := by
    unfold upL
    rw [e2]
    conv => lhs; rw [e]
    exact set_mid A B i (i + 1)
  rw [eL]
  have w1 : up i [i] = 1 := by rw [one_up, if_pos rfl]
  have w2 : dn i [i] = 0 := by rw [one_dn, if_neg (by omega)]
  have w3 : up i [i + 1] = 0 := by rw [one_up, if_neg (by omega)]
  have w4 : dn i [i + 1] = 1 := by rw [one_dn, if_pos rfl]
  have u1 := up_app i A (i :: B)
  have d1 := dn_app i A (i :: B)
  have u2 := up_app i A ((i + 1) :: B)
  have d2 := dn_app i A ((i + 1) :: B)
  have a1 := up_cons i i B
  have a2 := dn_cons i i B
  have a3 := up_cons i (i + 1) B
  have a4 := dn_cons i (i + 1) B
  rw [← e] at u1 d1
  omega
/-- and down the string -/
theorem up_nil_iff {i : Int} {l : List Int} : lows i l = [] ↔ up i l = 0 := by
  unfold up
  exact List.length_eq_zero_iff.symm
theorem far_up {i j : Int} {l : List Int} (h : lows i l ≠ []) (i0 : 0 < i) (f : i + 1 < j ∨ j + 1 < i) : up j (upL i l) = up j l ∧ dn j (upL i l) = dn j l := by
  have q : doneL i l = some (upL i l) := by
    unfold doneL
    rw [if_pos i0, if_neg h]
  have b := far_br (j := j) q (by unfold ix; rw [if_pos i0]; exact f)
  unfold up dn lows highs
  rw [b]
  exact ⟨rfl, rfl⟩
end LwM
/-! WkM. What is left over, behind one deed. -/
namespace LwM
theorem one_i (i : Int) : lows i [i] = [0] ∧ highs i [i] = [] := by
  have h : ¬ (i = i + 1) := by omega
  unfold lows highs br go go stp
  simp [h]
theorem one_i1 (i : Int) : lows i [i + 1] = [] ∧ highs i [i + 1] = [0] := by
  unfold lows highs br go go stp
  simp
theorem nil_of_up {i : Int} {B : List Int} (h : up i B = 0) : lows i B = [] := List.length_eq_zero_iff.mp h
theorem nil_of_dn {i : Int} {B : List Int} (h : dn i B = 0) : highs i B = [] := List.length_eq_zero_iff.mp h
theorem br_low {i : Int} {A B : List Int} (dA : dn i A = 0) (uB : up i B = 0) :
    lows i (A ++ i :: B) = lows i A ++ [(A.length : Int)] ∧ highs i (A ++ i :: B) = ((highs i B).map (· + 1)).map (· + (A.length : Int)) := by
  have a1 := lows_app i [i] B
  have a2 := highs_app i [i] B
  have o := one_i i
  rw [o.1, o.2, nil_of_up uB] at a1
  rw [o.2, nil_of_up uB] at a2
  have e : [i] ++ B = i :: B := rfl
  rw [e] at a1 a2
  have l1 := lows_app i A (i :: B)
  have l2 := highs_app i A (i :: B)
  rw [a1, nil_of_dn dA] at l1
  rw [a1, a2, nil_of_dn dA] at l2
  constructor
  · rw [l1]
    simp
  · rw [l2]
    simp
theorem br_high {i : Int} {A B : List Int} (dA : dn i A = 0) (uB : up i B = 0) :
    lows i (A ++ (i + 1) :: B) = lows i A ∧ highs i (A ++ (i + 1) :: B) = (A.length : Int) :: ((highs i B).map (· + 1)).map (· + (A.length : Int)) := by
  have a1 := lows_app i [i + 1] B
  have a2 := highs_app i [i + 1] B
  have o := one_i1 i
  rw [o.1, o.2, nil_of_up uB] at a1
  rw [o.2, nil_of_up uB] at a2
  have e : [i + 1] ++ B = (i + 1) :: B := rfl
  rw [e] at a1 a2
  have l1 := lows_app i A ((i + 1) :: B)
  have l2 := highs_app i A ((i + 1) :: B)
  rw [a1, nil_of_dn dA] at l1
  rw [a1, a2, nil_of_dn dA] at l2
  constructor
  · rw [l1]
    simp
  · rw [l2]
    simp
/-- the first i + 1 that is left over -/
theorem high_first {i : Int} {l : List Int} (h : highs i l ≠ []) : ∃ A B, l = A ++ (i + 1) :: B ∧ (fst (highs i l)).toNat = A.length ∧ dn i A = 0 ∧ up i B = 0 := by
  have hm := fst_mem h
  have b := br_bd (i := i) (l := l) (.inr hm)
  have v := high_val hm
  have e := val_some b.1 b.2
  rw [v] at e
  have hp : (fst (highs i l)).toNat < l.length := by omega
  have e2 : l[(fst (highs i l)).toNat] = i + 1 := by
    rw [List.getElem?_eq_getElem hp] at e
    exact Option.some.inj e
  have e3 := List.take_append_drop (fst (highs i l)).toNat l
  rw [List.drop_eq_getElem_cons hp, e2] at e3
  have eA : (l.take (fst (highs i l)).toNat).length = (fst (highs i l)).toNat := by
    rw [List.length_take]
    omega
  have eF : ((fst (highs i l)).toNat : Int) = fst (highs i l) := Int.toNat_of_nonneg b.1
  generalize hA : l.take (fst (highs i l)).toNat = A at *
  generalize hB : l.drop ((fst (highs i l)).toNat + 1) = B at *
  have hh := highs_app i A ((i + 1) :: B)
  rw [e3] at hh
  have o := one_i1 i
  have a2 := highs_app i [i + 1] B
  rw [o.2] at a2
  have e4 : [i + 1] ++ B = (i + 1) :: B := rfl
  rw [e4] at a2
  have hT : (highs i A).take ((highs i A).length - (lows i ((i + 1) :: B)).length) = [] := by
    apply Classical.byContradiction
    intro z
    cases q : (highs i A).take ((highs i A).length - (lows i ((i + 1) :: B)).length) with
    | nil => exact z q
    | cons a T =>
      rw [q] at hh
      have ha : a ∈ highs i A := List.mem_of_mem_take (by rw [q]; exact List.mem_cons_self ..)
      have hb := br_bd (i := i) (.inr ha)
      have : fst (highs i l) = a := by
        rw [hh]
        rfl
      omega
  rw [hT, List.nil_append] at hh
  have hu : up i B = 0 := by
    apply Classical.byContradiction
    intro z
    have z2 : ([0] : List Int).length - (lows i B).length = 0 := by
      unfold up at z
      simp
      omega
    rw [z2, List.take_zero, List.nil_append] at a2
    have hm2 := hm
    rw [hh] at hm2
    obtain ⟨u, hu, eu⟩ := List.mem_map.mp hm2
    rw [a2] at hu
    obtain ⟨t, ht, et⟩ := List.mem_map.mp hu
    have hb := br_bd (i := i) (.inr ht)
    have e5 : fst ((highs i ((i + 1) :: B)).map (· + (A.length : Int))) = fst (highs i l) := by rw [hh]
    have e6 : t + 1 = u := et
    have e7 : u + (A.length : Int) = fst ((highs i ((i + 1) :: B)).map (· + (A.length : Int))) := eu
    have e8 : fst (highs i l) = (A.length : Int) := by omega
    rw [e5, e8] at e7
    omega
  refine ⟨A, B, e3.symm, by omega, ?_, hu⟩
  have u2 := up_cons i (i + 1) B
  have w3 : up i [i + 1] = 0 := by rw [one_up, if_neg (by omega)]
  have w4 : dn i [i + 1] = 1 := by rw [one_dn, if_pos rfl]
  rw [hu, w3, w4] at u2
  have l2 := congrArg List.length hT
  have u3 : (lows i ((i + 1) :: B)).length = 0 := u2
  rw [u3, Nat.sub_zero, List.take_length] at l2
  exact l2
theorem up_br {i : Int} {l : List Int} (h : lows i l ≠ []) : lows i (upL i l) ++ [lst (lows i l)] = lows i l ∧ highs i (upL i l) = lst (lows i l) :: highs i l := by
  obtain ⟨A, B, e, e2, dA, uB⟩ := low_last h
  have eL : upL i l = A ++ (i + 1) :: B := by
    unfold upL
    rw [e2]
    conv => lhs; rw [e]
    exact set_mid A B i (i + 1)
  have b1 := br_low dA uB
  have b2 := br_high dA uB
  rw [← e] at b1
  rw [← eL] at b2
  have el : lst (lows i l) = (A.length : Int) := by
    rw [b1.1, lst_app _ _ (List.cons_ne_nil _ _)]
    rfl
  constructor
  · rw [el, b2.1, b1.1]
  · rw [el, b2.2, b1.2]
theorem dn_br {i : Int} {l : List Int} (h : highs i l ≠ []) : lows i (dnL i l) = lows i l ++ [fst (highs i l)] ∧ fst (highs i l) :: highs i (dnL i l) = highs i l := by
  obtain ⟨A, B, e, e2, dA, uB⟩ := high_first h
  have eL : dnL i l = A ++ i :: B := by
    unfold dnL
    rw [e2]
    conv => lhs; rw [e]
    exact set_mid A B (i + 1) i
  have b1 := br_low dA uB
  have b2 := br_high dA uB
  rw [← eL] at b1
  rw [← e] at b2
  have el : fst (highs i l) = (A.length : Int) := by
    rw [b2.2]
    rfl
  constructor
  · rw [el, b1.1, b2.1]
  · rw [el, b1.2, b2.2]
/-- all that is left over -/
def fre (i : Int) (l : List Int) : List Int := lows i l ++ highs i l
theorem fre_up {i : Int} {l : List Int} (h : lows i l ≠ []) : fre i (upL i l) = fre i l ∧ ((lows i (upL i l)).length : Int) = (lows i l).length - 1 ∧ (lows i l).length ≠ 0 ∧ (fre i l)[(lows i l).length - 1]? = some (lst (lows i l)) := by
  obtain ⟨a, b⟩ := up_br h
  have hl := congrArg List.length a
  rw [List.length_append, List.length_singleton] at hl
  refine ⟨?_, by omega, by omega, ?_⟩
  · unfold fre
    rw [b]
    conv => rhs; rw [← a]
    simp
  · unfold fre
    rw [← a]
    rw [show (lows i (upL i l) ++ [lst (lows i l)]).length - 1 = (lows i (upL i l)).length by simp]
    rw [List.append_assoc, List.getElem?_append_right (Nat.le_refl _), Nat.sub_self]
    have e : lst (lows i (upL i l) ++ [lst (lows i l)]) = lst (lows i l) := by rw [a]
    rw [e]
    rfl
theorem fre_dn {i : Int} {l : List Int} (h : highs i l ≠ []) : fre i (dnL i l) = fre i l ∧ ((lows i (dnL i l)).length : Int) = (lows i l).length + 1 ∧ (lows i l).length ≠ (fre i l).length ∧ (fre i l)[(lows i l).length]? = some (fst (highs i l)) := by
  obtain ⟨a, b⟩ := dn_br h
  have hl := congrArg List.length a
  rw [List.length_append, List.length_singleton] at hl
  have hb := congrArg List.length b
  rw [List.length_cons] at hb
  refine ⟨?_, by omega, ?_, ?_⟩
  · unfold fre
    rw [a]
    conv => rhs; rw [← b]
    simp
  · unfold fre
    rw [List.length_append]
    omega
  · unfold fre
    rw [List.getElem?_append_right (Nat.le_refl _), Nat.sub_self, ← b]
    rfl
end LwM
/-! Wk. The walk of a row of deeds: what is left over is kept. -/
namespace Lw
open PySem L2 LwE LwM
/-- the attributes of a walk -/
def kf (hd fr lw : Addr) (z : Int) : List (Str × V) := putF "low" (.ref lw) (putF "free" (.ref fr) (putF "held" (.ref hd) (putF "size" (.int z) [])))
theorem k_ls : ¬ (("low" : Str) = "size") := by decide +kernel
theorem k_lh : ¬ (("low" : Str) = "held") := by decide +kernel
theorem k_lf : ¬ (("low" : Str) = "free") := by decide +kernel
theorem k_fs : ¬ (("free" : Str) = "size") := by decide +kernel
theorem k_fh : ¬ (("free" : Str) = "held") := by decide +kernel
theorem k_fl : ¬ (("free" : Str) = "low") := by decide +kernel
theorem k_hs : ¬ (("held" : Str) = "size") := by decide +kernel
theorem k_hl : ¬ (("held" : Str) = "low") := by decide +kernel
theorem k_hf : ¬ (("held" : Str) = "free") := by decide +kernel
theorem k_sl : ¬ (("size" : Str) = "low") := by decide +kernel
theorem k_sf : ¬ (("size" : Str) = "free") := by decide +kernel
theorem k_sh : ¬ (("size" : Str) = "held") := by decide +kernel
theorem kf_low (hd fr lw : Addr) (z : Int) : (kf hd fr lw z).lookup ("low" : Str) = some (.ref lw) := by
  unfold kf
  rw [lookup_putF, if_pos rfl]
theorem kf_free (hd fr lw : Addr) (z : Int) : (kf hd fr lw z).lookup ("free" : Str) = some (.ref fr) := by
  unfold kf
  rw [lookup_putF, if_neg k_fl, lookup_putF, if_pos rfl]
theorem kf_held (hd fr lw : Addr) (z : Int) : (kf hd fr lw z).lookup ("held" : Str) = some (.ref hd) := by
  unfold kf
  rw [lookup_putF, if_neg k_hl, lookup_putF, if_neg k_hf, lookup_putF, if_pos rfl]
theorem kf_size (hd fr lw : Addr) (z : Int) : (kf hd fr lw z).lookup ("size" : Str) = some (.int z) := by
  unfold kf
  rw [lookup_putF, if_neg k_sl, lookup_putF, if_neg k_sf, lookup_putF, if_neg k_sh, lookup_putF, if_pos rfl]
theorem kf_no (hd fr lw : Addr) (z : Int) {m : Str} (h1 : ¬ m = "low") (h2 : ¬ m = "free") (h3 : ¬ m = "held") (h4 : ¬ m = "size") : (kf hd fr lw z).lookup m = none := by
  unfold kf
  rw [lookup_putF, if_neg h1, lookup_putF, if_neg h2, lookup_putF, if_neg h3, lookup_putF, if_neg h4]
  rfl
/-- what the top has made of the class of walks -/
structure Cwk (K : PySem.W.Frag) (mg : Str → Option Value) (D : Addr) : Prop where
  cl : Cls K D
  nS : NoAttr K D "size"
  nH : NoAttr K D "held"
  nF : NoAttr K D "free"
  nL : NoAttr K D "low"
  mgC : mg "Walk" = some (.ref D)
/-- a walk of the class at D stands at p -/
structure Wk (D : Addr) (H : Hp) (p hd fr lw : Addr) (size : Int) (ls : List Int) (fs : List V) (los : List Int) : Prop where
  hp : ∃ dx, H p = some (.ins D dx (kf hd fr lw size))
  hh : H hd = some (.lst (nums ls))
  hf : H fr = some (.lst fs)
  hl : H lw = some (.lst (nums los))
  n1 : hd ≠ fr
  n2 : hd ≠ lw
  n3 : fr ≠ lw
  lf : (fs.length : Int) = size + 1
  ll : (los.length : Int) = size + 1
  ki : ∀ x ∈ fs, x = V.non ∨ ∃ f, x = V.ref f
  inv : ∀ (j : Nat) f, fs[j]? = some (V.ref f) → f ≠ hd ∧ f ≠ fr ∧ f ≠ lw ∧ H f = some (.lst (nums (fre j ls))) ∧ los[j]? = some ((lows j ls).length : Int)
  L : Ls size ls
/-- all but the three lists stays -/
def K3 (hd fr lw : Addr) (H H' : Hp) : Prop := ∀ b o, H b = some o → b ≠ hd → b ≠ fr → b ≠ lw → H' b = some o
theorem K3.of {hd fr lw : Addr} {H H' : Hp} (s : Same H H') : K3 hd fr lw H H' := fun b o e _ _ _ => s b o e
theorem K3.trans {hd fr lw : Addr} {H H' H'' : Hp} (a : K3 hd fr lw H H') (b : K3 hd fr lw H' H'') : K3 hd fr lw H H'' := fun c o e x y z => b c o (a c o e x y z) x y z
theorem Wk.same {D : Addr} {H H' : Hp} {p hd fr lw : Addr} {size : Int} {ls : List Int} {fs : List V} {los : List Int} (W : Wk D H p hd fr lw size ls fs los) (s : Same H H') : Wk D H' p hd fr lw size ls fs los :=
  ⟨let ⟨dx, a⟩ := W.hp; ⟨dx, s _ _ a⟩, s _ _ W.hh, s _ _ W.hf, s _ _ W.hl, W.n1, W.n2, W.n3, W.lf, W.ll, W.ki, fun j f e => let ⟨a, b, c, d, g⟩ := W.inv j f e; ⟨a, b, c, s _ _ d, g⟩, W.L⟩
/-- a place of the list of what is known -/
theorem Wk.at_ {D : Addr} {H : Hp} {p hd fr lw : Addr} {size : Int} {ls : List Int} {fs : List V} {los : List Int} (W : Wk D H p hd fr lw size ls fs los) {n : Nat} (h : (n : Int) ≤ size) :
    fs[n]? = some V.non ∨ ∃ f, fs[n]? = some (V.ref f) := by
  have h2 : n < fs.length := by
    have := W.lf
    omega
  rw [List.getElem?_eq_getElem h2]
  rcases W.ki _ (List.getElem_mem h2) with z | ⟨f, z⟩
  · exact .inl (by rw [z])
  · exact .inr ⟨f, by rw [z]⟩
/-- index n is looked up -/
theorem Wk.looked {D : Addr} {H : Hp} {p hd fr lw f : Addr} {size : Int} {ls : List Int} {fs : List V} {los : List Int} (W : Wk D H p hd fr lw size ls fs los) {n : Nat} (h : (n : Int) ≤ size)
    (hf : H f = some (.lst (nums (fre n ls)))) (g1 : f ≠ hd) (g2 : f ≠ fr) (g3 : f ≠ lw) :
    Wk D (upd (upd H fr (.lst (fs.set n (.ref f)))) lw (.lst (nums (los.set n ((lows n ls).length : Int))))) p hd fr lw size ls (fs.set n (.ref f)) (los.set n ((lows n ls).length : Int)) := by
  obtain ⟨dx, hp⟩ := W.hp
  have np2 : p ≠ fr := ne_of hp W.hf (by intro z; cases z)
  have np3 : p ≠ lw := ne_of hp W.hl (by intro z; cases z)
  refine ⟨⟨dx, ?_⟩, ?_, ?_, upd_same, W.n1, W.n2, W.n3, by rw [List.length_set]; exact W.lf, by rw [List.length_set]; exact W.ll, fun x hx => ?_, fun j g e => ?_, W.L⟩
  · rw [upd_ne np3, upd_ne np2]
    exact hp
  · rw [upd_ne W.n2, upd_ne W.n1]
    exact W.hh
  · rw [upd_ne W.n3, upd_same]
  · rcases List.mem_or_eq_of_mem_set hx with z | z
    · exact W.ki x z
    · exact .inr ⟨f, z⟩
  · by_cases hj : n = j
    · subst hj
      have h1 : n < fs.length := by
        have := W.lf
        omega
      have h2 : n < los.length := by
        have := W.ll
        omega
      rw [List.getElem?_set_self h1] at e
      have eg : f = g := by
        have := Option.some.inj e
        cases this
        rfl
      subst eg
      refine ⟨g1, g2, g3, ?_, ?_⟩
      · rw [upd_ne g3, upd_ne g2]
        exact hf
      · rw [List.getElem?_set_self h2]
    · rw [List.getElem?_set_ne hj] at e
      obtain ⟨a, b, c, d, q⟩ := W.inv j g e
      refine ⟨a, b, c, ?_, ?_⟩
      · rw [upd_ne c, upd_ne b]
        exact d
      · rw [List.getElem?_set_ne hj]
        exact q
/-- a deed is done -/
theorem Wk.step {D : Addr} {H : Hp} {p hd fr lw f : Addr} {size : Int} {ls r : List Int} {fs : List V} {los : List Int} (W : Wk D H p hd fr lw size ls fs los) {d : Int} (hr : doneL d ls = some r) (h0 : d ≠ 0) (h1 : -(size - 1) ≤ d) (h2 : d ≤ size - 1)
    {n : Nat} (hn : (n : Int) = ix d) (hf : fs[n]? = some (V.ref f)) (ef : fre n r = fre n ls) :
    Wk D (upd (upd (upd (upd H lw (.lst (nums (los.set n ((lows n r).length : Int))))) hd (.lst (nums r))) fr (.lst (fs.set (n - 1) .non))) fr (.lst ((fs.set (n - 1) .non).set (n + 1) .non))) p hd fr lw size r
      ((fs.set (n - 1) .non).set (n + 1) .non) (los.set n ((lows n r).length : Int)) := by
  obtain ⟨dx, hp⟩ := W.hp
  have np1 : p ≠ hd := ne_of hp W.hh (by intro z; cases z)
  have np2 : p ≠ fr := ne_of hp W.hf (by intro z; cases z)
  have np3 : p ≠ lw := ne_of hp W.hl (by intro z; cases z)
  have n1 : (1 : Int) ≤ n ∧ (n : Int) ≤ size - 1 := by
    unfold ix at hn
    split at hn <;> omega
  refine ⟨⟨dx, ?_⟩, ?_, upd_same, ?_, W.n1, W.n2, W.n3, by rw [List.length_set, List.length_set]; exact W.lf, by rw [List.length_set]; exact W.ll, fun x hx => ?_, fun j g e => ?_,
    ⟨W.L.s0, W.L.s1, by rw [doneL_len hr]; exact W.L.len, doneL_bd W.L.bd h0 h1 h2 hr⟩⟩
  · rw [upd_ne np2, upd_ne np2, upd_ne np1, upd_ne np3]
    exact hp
  · rw [upd_ne W.n1, upd_ne W.n1, upd_same]
  · rw [upd_ne W.n3.symm, upd_ne W.n3.symm, upd_ne W.n2.symm, upd_same]
  · rcases List.mem_or_eq_of_mem_set hx with z | z
    · rcases List.mem_or_eq_of_mem_set z with z | z
      · exact W.ki x z
      · exact .inl z
    · exact .inl z
  · have hjl : j < fs.length := by
      have q := (List.getElem?_eq_some_iff.mp e).1
      rw [List.length_set, List.length_set] at q
      exact q
    have hj1 : n + 1 ≠ j := by
      intro z
      subst z
      rw [List.getElem?_set_self (by rw [List.length_set]; exact hjl)] at e
      cases Option.some.inj e
    rw [List.getElem?_set_ne hj1] at e
    have hj2 : n - 1 ≠ j := by
      intro z
      subst z
      rw [List.getElem?_set_self hjl] at e
      cases Option.some.inj e
    rw [List.getElem?_set_ne hj2] at e
    obtain ⟨a, b, c, u, q⟩ := W.inv j g e
    have eb : fre j r = fre j ls ∧ (n ≠ j → lows j r = lows j ls) := by
      by_cases hj : n = j
      · subst hj
        exact ⟨ef, fun z => absurd rfl z⟩
      · have hb := far_br (j := (j : Int)) hr (by omega)
        unfold fre lows highs
        rw [hb]
        exact ⟨rfl, fun _ => rfl⟩
    refine ⟨a, b, c, ?_, ?_⟩
    · rw [upd_ne b, upd_ne b, upd_ne a, upd_ne c, eb.1]
      exact u
    · by_cases hj : n = j
      · subst hj
        rw [List.getElem?_set_self (by have := W.ll; omega)]
      · rw [List.getElem?_set_ne hj, eb.2 hj]
        exact q
theorem join2 {c : Bool} {T : Prop} {R : Hp → Prop} {H : Hp} (J : Hp → Prop) (h : ∀ H1, J H1 → R H1) (ht : c = true → (∀ H1, J H1 → R H1) → T) (he : c = false → J H) : if c = true then T else R H := by
  cases c with
  | true => exact ht rfl h
  | false => exact h H (he rfl)
section
variable {P : Program} {w : World} {K : PySem.W.Frag} {mg : Str → Option Value} {base : Heap}
/-! __init__ -/
def spWalk (C D : Addr) : Sp := fun vs H Q _ => ∃ (p dx a : Addr) (size : Int) (ls : List Int), vs = [.ref p, .ref a] ∧ H p = some (.ins D dx []) ∧ WAt C H a size ls ∧
  ∀ H' hd fr lw fs los, (∀ b o, H b = some o → b ≠ p → H' b = some o) → H hd = none → H fr = none → H lw = none → Wk D H' p hd fr lw size ls fs los → Q .non H'
theorem scWalk : FnScope ["self", "word"] ["self", "word"] (defScope sWInit) := ⟨rfl, rfl, rfl, by decide +kernel, rfl, by decide +kernel, by decide +kernel⟩
theorem rep_one {α : Type} (x : α) (n : Nat) : (List.replicate n [x]).flatten = List.replicate n x := by
  induction n with
  | zero => rfl
  | succ n ih => rw [List.replicate_succ, List.flatten_cons, ih]; rfl
theorem ok_walk {f C D : Addr} {fd : FuncData} (B : Bare mg) (T : Cw K mg C) (T2 : Cwk K mg D) (F : Fun K "__init__" "Walk.__init__" sWInit f fd) : FnOk P w K mg base CX0 1 f fd ["self", "word"] (spWalk C D) := by
  refine F.ok scWalk (fun vs H Q E h => ?_) (fun cdv A outer s H vs Q E hr h => ?_)
  · obtain ⟨p, dx, a, size, ls, rfl, _⟩ := h
    rfl
  · obtain ⟨p, dx, a, size, ls, rfl, hp, W, k⟩ := h
    refine ⟨_, pss_cons (ps_fld (pv 0) (pe_fld (pv 1) rfl) rfl)
      (pss_cons (ps_fld (pv 0) (pe_callTy call_list_of (by rfl) B.list (by decide +kernel) (pa_cons (pe_fld (pv 1) rfl) pa_nil)) rfl)
      (pss_cons (ps_fld (pv 0) (pe_op op_rep (pe_lst (pa_cons pe_non pa_nil)) (pe_op op_add (pe_fld (pv 1) rfl) pe_int)) rfl)
      (pss_one (ps_fld (pv 0) (pe_op op_rep (pe_lst (pa_cons pe_int pa_nil)) (pe_op op_add (pe_fld (pv 1) rfl) pe_int)) rfl)))), ?_⟩
    obtain ⟨dw, t, h1, h2⟩ := W.ob
    have L := W.ls
    have nap : a ≠ p := by
      intro z
      subst z
      rw [h1] at hp
      have := Option.some.inj hp
      injection this with e1 e2 e3
      have q := wf_size t size
      rw [e3] at q
      cases q
    have ntp : t ≠ p := ne_of h2 hp (by intro z; cases z)
    refine ⟨_, rfl, a, C, dw, _, _, rfl, h1, T.cl, T.nS, wf_size _ _, _, rfl, p, D, dx, _, rfl, hp, T2.cl, T2.nS, (by show 0 < 1000; decide), ?_⟩
    -- held
    have p1 : (upd H p (.ins D dx (putF "size" (.int size) []))) p = some (.ins D dx (putF "size" (.int size) [])) := upd_same
    have k1 : ∀ b o, H b = some o → b ≠ p → (upd H p (.ins D dx (putF "size" (.int size) []))) b = some o := fun b o e h => by rw [upd_ne h]; exact e
    have fr1 : ∀ b, (upd H p (.ins D dx (putF "size" (.int size) []))) b = none → H b = none := fun b e => by
      by_cases hb : b = p
      · subst hb
        rw [upd_same] at e
        cases e
      · rw [upd_ne hb] at e
        exact e
    generalize upd H p (.ins D dx (putF "size" (.int size) [])) = H1 at p1 k1 fr1 ⊢
    refine ⟨_, rfl, a, C, dw, _, _, rfl, k1 _ _ h1 nap, T.cl, T.nL, wf_letters _ _, t, _, rfl, .inr (SqT.of (k1 _ _ h2 ntp)), fun hd nhd => ?_⟩
    have npd : p ≠ hd := ne_of_none p1 nhd
    refine ⟨_, rfl, p, D, dx, _, rfl, same_new nhd _ _ p1, T2.cl, T2.nH, (by show 1 < 1000; decide), ?_⟩
    have p2 : (upd (upd H1 hd (.lst (nums ls))) p (.ins D dx (putF "held" (.ref hd) (putF "size" (.int size) [])))) p = some (.ins D dx (putF "held" (.ref hd) (putF "size" (.int size) []))) := upd_same
    have d2 : (upd (upd H1 hd (.lst (nums ls))) p (.ins D dx (putF "held" (.ref hd) (putF "size" (.int size) [])))) hd = some (.lst (nums ls)) := by rw [upd_ne npd.symm, upd_same]
    have k2 : ∀ b o, H b = some o → b ≠ p → (upd (upd H1 hd (.lst (nums ls))) p (.ins D dx (putF "held" (.ref hd) (putF "size" (.int size) [])))) b = some o := fun b o e h => by
      rw [upd_ne h]
      exact same_new nhd _ _ (k1 _ _ e h)
    have fr2 : ∀ b, (upd (upd H1 hd (.lst (nums ls))) p (.ins D dx (putF "held" (.ref hd) (putF "size" (.int size) [])))) b = none → H b = none := fun b e => by
      by_cases hb : b = p
      · subst hb
        rw [upd_same] at e
        cases e
      · rw [upd_ne hb] at e
        exact fr1 _ ((same_new nhd).free e)
    generalize upd (upd H1 hd (.lst (nums ls))) p (.ins D dx (putF "held" (.ref hd) (putF "size" (.int size) []))) = H2 at p2 d2 k2 fr2 ⊢
    -- free
    have e1 : size + 1 = ((size + 1).toNat : Nat) := by
      have := L.s0
      omega
    have s01 := L.s0
    have s11 := L.s1
    refine ⟨(by show 1 ≤ sizeLine; decide), fun q nq => ?_⟩
    have pq : p ≠ q := ne_of_none p2 nq
    have dq : hd ≠ q := ne_of_none d2 nq
    refine ⟨_, rfl, a, C, dw, _, _, rfl, same_new nq _ _ (k2 _ _ h1 nap), T.cl, T.nS, wf_size _ _, _, _, rfl, rfl, ?_⟩
    refine ⟨q, size + 1, _, rfl, rfl, upd_same, by omega, by omega, by rw [sizeLine_eq]; simp; omega, fun fr nfr => ?_⟩
    rw [rep_one]
    have s3 : Same H2 (upd (upd H2 q (.lst [.non])) fr (.lst (List.replicate (size + 1).toNat V.non))) := (same_new nq).trans (same_new nfr)
    have efr : (upd (upd H2 q (.lst [.non])) fr (.lst (List.replicate (size + 1).toNat V.non))) fr = some (.lst (List.replicate (size + 1).toNat V.non)) := upd_same
    have nfr2 : H2 fr = none := (same_new nq).free nfr
    generalize upd (upd H2 q (.lst [.non])) fr (.lst (List.replicate (size + 1).toNat V.non)) = H3 at s3 efr ⊢
    have npf : p ≠ fr := ne_of_none p2 nfr2
    have ndf : hd ≠ fr := ne_of_none d2 nfr2
    refine ⟨_, rfl, p, D, dx, _, rfl, s3 _ _ p2, T2.cl, T2.nF, (by show 2 < 1000; decide), ?_⟩
    have p4 : (upd H3 p (.ins D dx (putF "free" (.ref fr) (putF "held" (.ref hd) (putF "size" (.int size) []))))) p = some (.ins D dx (putF "free" (.ref fr) (putF "held" (.ref hd) (putF "size" (.int size) [])))) := upd_same
    have d4 : (upd H3 p (.ins D dx (putF "free" (.ref fr) (putF "held" (.ref hd) (putF "size" (.int size) []))))) hd = some (.lst (nums ls)) := by
      rw [upd_ne npd.symm]
      exact s3 _ _ d2
    have f4 : (upd H3 p (.ins D dx (putF "free" (.ref fr) (putF "held" (.ref hd) (putF "size" (.int size) []))))) fr = some (.lst (List.replicate (size + 1).toNat V.non)) := by
      rw [upd_ne npf.symm]
      exact efr
    have k4 : ∀ b o, H b = some o → b ≠ p → (upd H3 p (.ins D dx (putF "free" (.ref fr) (putF "held" (.ref hd) (putF "size" (.int size) []))))) b = some o := fun b o e h => by
      rw [upd_ne h]
      exact s3 _ _ (k2 _ _ e h)
    have fr4 : ∀ b, (upd H3 p (.ins D dx (putF "free" (.ref fr) (putF "held" (.ref hd) (putF "size" (.int size) []))))) b = none → H b = none := fun b e => by
      by_cases hb : b = p
      · subst hb
        rw [upd_same] at e
        cases e
      · rw [upd_ne hb] at e
        exact fr2 _ (s3.free e)
    have nfr0 : H fr = none := fr2 _ nfr2
    have nhd0 : H hd = none := fr1 _ nhd
    generalize upd H3 p (.ins D dx (putF "free" (.ref fr) (putF "held" (.ref hd) (putF "size" (.int size) [])))) = H4 at p4 d4 f4 k4 fr4 ⊢
    -- low
    refine ⟨(by show 1 ≤ sizeLine; decide), fun q2 nq2 => ?_⟩
    refine ⟨_, rfl, a, C, dw, _, _, rfl, same_new nq2 _ _ (k4 _ _ h1 nap), T.cl, T.nS, wf_size _ _, _, _, rfl, rfl, ?_⟩
    refine ⟨q2, size + 1, _, rfl, rfl, upd_same, by omega, by omega, by rw [sizeLine_eq]; simp; omega, fun lw nlw => ?_⟩
    rw [rep_one]
    have s5 : Same H4 (upd (upd H4 q2 (.lst [.int 0])) lw (.lst (List.replicate (size + 1).toNat (V.int 0)))) := (same_new nq2).trans (same_new nlw)
    have elw : (upd (upd H4 q2 (.lst [.int 0])) lw (.lst (List.replicate (size + 1).toNat (V.int 0)))) lw = some (.lst (List.replicate (size + 1).toNat (V.int 0))) := upd_same
    have nlw4 : H4 lw = none := (same_new nq2).free nlw
    generalize upd (upd H4 q2 (.lst [.int 0])) lw (.lst (List.replicate (size + 1).toNat (V.int 0))) = H5 at s5 elw ⊢
    have npl : p ≠ lw := ne_of_none p4 nlw4
    have ndl : hd ≠ lw := ne_of_none d4 nlw4
    have nfl : fr ≠ lw := ne_of_none f4 nlw4
    refine ⟨_, rfl, p, D, dx, _, rfl, s5 _ _ p4, T2.cl, T2.nL, (by show 3 < 1000; decide), ?_⟩
    refine k _ hd fr lw (List.replicate (size + 1).toNat V.non) (List.replicate (size + 1).toNat 0) (fun b o e h => ?_) nhd0 nfr0 (fr4 _ nlw4) ⟨⟨dx, upd_same⟩, ?_, ?_, ?_, ndf, ndl, nfl, by rw [List.length_replicate]; omega, by rw [List.length_replicate]; omega, fun x hx => .inl (List.eq_of_mem_replicate hx), fun j f e => ?_, L⟩
    · rw [upd_ne h]
      exact s5 _ _ (k4 _ _ e h)
    · rw [upd_ne npd.symm]
      exact s5 _ _ d4
    · rw [upd_ne npf.symm]
      exact s5 _ _ f4
    · rw [upd_ne npl.symm, elw]
      simp [nums]
    · have q := List.mem_of_getElem? e
      have z := List.eq_of_mem_replicate q
      cases z
end
end Lw
/-! Go. One deed of a walk. -/
namespace Lw
open PySem L2 LwE LwM
section
variable {P : Program} {w : World} {K : PySem.W.Frag} {mg : Str → Option Value} {base : Heap}
/-! look -/
def spLook (D : Addr) : Sp := fun vs H Q _ => ∃ (p hd fr lw : Addr) (n : Nat) (size : Int) (ls : List Int) (fs : List V) (los : List Int), vs = [.ref p, .int (n : Nat)] ∧ Wk D H p hd fr lw size ls fs los ∧ (n : Int) ≤ size ∧
  ∀ H' f los', H f = none → K3 hd fr lw H H' → Wk D H' p hd fr lw size ls (fs.set n (.ref f)) los' → Q .non H'
theorem scLook : FnScope ["self", "i", "pairs", "lows", "highs"] ["self", "i"] (defScope sLook) := ⟨rfl, rfl, rfl, by decide +kernel, rfl, by decide +kernel, by decide +kernel⟩
theorem ixN_nat {n j : Nat} (h : j < n) : ixN n (j : Int) = some j := by
  unfold ixN
  rw [if_pos (by omega), if_pos (by omega)]
  simp
theorem ok_look {f f2 D : Addr} {fd fd2 : FuncData} (B : Bare mg) (T2 : Cwk K mg D) (F : Fun K "look" "Walk.look" sLook f fd) (F2 : Df K mg "bracketed" sBrack f2 fd2) (b2 : Binds K fd2 ["letters", "i"] []) (G2 : FnOk P w K mg base CX0 1 f2 fd2 ["letters", "i"] spBrack) :
    FnOk P w K mg base CX0 2 f fd ["self", "i"] (spLook D) := by
  refine F.ok scLook (fun vs H Q E h => ?_) (fun cdv A outer s H vs Q E hr h => ?_)
  · obtain ⟨p, hd, fr, lw, n, size, ls, fs, los, rfl, _⟩ := h
    rfl
  · obtain ⟨p, hd, fr, lw, n, size, ls, fs, los, rfl, W, hn, k⟩ := h
    refine ⟨_, pss_cons (ps_asg (pe_call G2 hr (by rfl) F2.g F2.fn.kp b2 .nil pass0 (pa_cons (pe_fld (pv 0) rfl) (pa_cons (pv 1) pa_nil)))
        (pg_tup rfl (pgs_cons (pg_name (i := 2) scLook.nd rfl (Or.inl rfl)) (pgs_cons (pg_name (i := 3) scLook.nd rfl (Or.inl rfl)) (pgs_cons (pg_name (i := 4) scLook.nd rfl (Or.inl rfl)) pgs_nil)))))
      (pss_cons (ps_asg (pe_op op_cat (pv 3) (pv 4)) (pg_sub (pe_fld (pv 0) rfl) (pv 1) set_list))
      (pss_one (ps_asg (pe_callB call_len_seq (by rfl) B.len PySem.boot_len (pa_cons (pv 3) pa_nil)) (pg_sub (pe_fld (pv 0) rfl) (pv 1) set_list)))), ?_⟩
    obtain ⟨dx, hp⟩ := W.hp
    refine ⟨_, rfl, p, D, dx, _, _, rfl, hp, T2.cl, T2.nH, kf_held _ _ _ _, _, rfl, hd, (n : Int), ls, rfl, .inl W.hh, by have := W.L.len; omega, fun u x lo hi ps H1 s1 e1 e2 e3 e4 _ _ => ?_⟩
    refine ⟨u, _, rfl, SqT.of e1, rfl, _, _, rfl, _, _, rfl, _, _, rfl, rfl, ?_⟩
    have bl := br_len (n : Int) ls
    have L := W.L.len
    refine ⟨_, rfl, _, rfl, lo, hi, _, _, rfl, rfl, e3, e4, by rw [List.length_map, List.length_map, sizeLine_eq]; omega, fun f hf => ?_⟩
    rw [show nums (lows n ls) ++ nums (highs n ls) = nums (fre n ls) by simp [nums, fre]]
    have W1 := W.same s1
    have g1 : f ≠ hd := (ne_of_none W1.hh hf).symm
    have g2 : f ≠ fr := (ne_of_none W1.hf hf).symm
    have g3 : f ≠ lw := (ne_of_none W1.hl hf).symm
    have s2 := same_new (o := .lst (nums (fre n ls))) hf
    have W2 := W1.same s2
    have ef : (upd H1 f (.lst (nums (fre n ls)))) f = some (.lst (nums (fre n ls))) := upd_same
    have elo := s2 _ _ e3
    have s12 := s1.trans s2
    generalize upd H1 f (.lst (nums (fre n ls))) = H2 at W2 ef elo s12 ⊢
    have W3 := W2.looked hn ef g1 g2 g3
    obtain ⟨dy, hp2⟩ := W2.hp
    have nfl : (n : Int) < fs.length := by
      have := W.lf
      omega
    have nll : (n : Int) < los.length := by
      have := W.ll
      omega
    refine ⟨_, rfl, p, D, dy, _, _, rfl, hp2, T2.cl, T2.nF, kf_free _ _ _ _, _, rfl, fr, fs, n, n, rfl, rfl, W2.hf, ixN_nat (by omega), ?_⟩
    have lof : lo ≠ fr := by
      intro z
      subst z
      have q := W.hf
      have q2 := s1 _ _ q
      rw [e3] at q2
      have q3 := Option.some.inj q2
      injection q3 with q4
      have h3 : fs.length = (nums (lows n ls)).length := by rw [q4]
      have bn : ∀ x ∈ fs, False := by
        intro x hx
        have hx2 := hx
        rw [← q4] at hx2
        obtain ⟨y, _, ey⟩ := List.mem_map.mp hx2
        rcases W.ki x hx with c | ⟨g, c⟩
        · rw [← ey] at c; cases c
        · rw [← ey] at c; cases c
      cases hfs : fs with
      | nil =>
        rw [hfs] at nfl
        simp at nfl
        omega
      | cons a t => exact bn a (by rw [hfs]; exact List.mem_cons_self ..)
    have np2 : p ≠ fr := ne_of hp2 W2.hf (by intro z; cases z)
    refine ⟨_, rfl, lo, _, rfl, .inl (SqL.of (by rw [upd_ne lof]; exact elo)), ?_⟩
    rw [List.length_map]
    refine ⟨_, rfl, p, D, dy, _, _, rfl, by rw [upd_ne np2]; exact hp2, T2.cl, T2.nL, kf_low _ _ _ _, _, rfl, lw, _, n, n, rfl, rfl, by rw [upd_ne W.n3.symm]; exact W2.hl, ixN_nat (by rw [List.length_map]; omega), ?_⟩
    have el : (nums los).set n (V.int ((lows n ls).length : Nat)) = nums (los.set n ((lows n ls).length : Int)) := by
      unfold nums
      rw [List.map_set]
    rw [el]
    refine k _ f _ (s1.free hf) (fun b o e x1 x2 x3 => ?_) W3
    rw [upd_ne x3, upd_ne x2]
    exact s12 _ _ e
/-! go -/
/-- what is known of the indexes is old, or lies in new lists -/
def Fr_ (H : Hp) (fs fs' : List V) : Prop := ∀ (j : Nat) g, fs'[j]? = some (V.ref g) → fs[j]? = some (V.ref g) ∨ H g = none
theorem Fr_.set {H : Hp} {fs fs' : List V} (h : Fr_ H fs fs') (n : Nat) : Fr_ H fs (fs'.set n V.non) := fun j g e => by
  by_cases c : n = j
  · subst c
    by_cases z : n < fs'.length
    · rw [List.getElem?_set_self z] at e
      cases Option.some.inj e
    · rw [List.getElem?_eq_none (by rw [List.length_set]; omega)] at e
      cases e
  · rw [List.getElem?_set_ne c] at e
    exact h j g e
def spGo (D : Addr) : Sp := fun vs H Q _ => ∃ (p hd fr lw : Addr) (d size : Int) (ls : List Int) (fs : List V) (los : List Int), vs = [.ref p, .int d] ∧ Wk D H p hd fr lw size ls fs los ∧ d ≠ 0 ∧ -(size - 1) ≤ d ∧ d ≤ size - 1 ∧
  (doneL d ls = none → ∀ H' fs' los', Fr_ H fs fs' → K3 hd fr lw H H' → Wk D H' p hd fr lw size ls fs' los' → Q (.bl false) H') ∧
  ∀ r, doneL d ls = some r → ∀ H' fs' los', Fr_ H fs fs' → K3 hd fr lw H H' → Wk D H' p hd fr lw size r fs' los' → Q (.bl true) H'
structure Lk_ (P : Program) (w : World) (K : PySem.W.Frag) (mg : Str → Option Value) (base : Heap) (D : Addr) (f : Addr) (fd : FuncData) : Prop where
  m : Meth K D "look" f
  ok : FnOk P w K mg base CX0 2 f fd ["self", "i"] (spLook D)
  b : Binds K fd ["self", "i"] []
theorem scGo : FnScope ["self", "deed", "i", "free", "low"] ["self", "deed"] (defScope sGo) := ⟨rfl, rfl, rfl, by decide +kernel, rfl, by decide +kernel, by decide +kernel⟩
theorem ok_go {f fL D : Addr} {fd fdL : FuncData} (B : Bare mg) (T2 : Cwk K mg D) (F : Fun K "go" "Walk.go" sGo f fd) (S : Lk_ P w K mg base D fL fdL) : FnOk P w K mg base CX0 3 f fd ["self", "deed"] (spGo D) := by
  refine F.ok scGo (fun vs H Q E h => ?_) (fun cdv A outer s H vs Q E hr h => ?_)
  · obtain ⟨p, hd, fr, lw, d, size, ls, fs, los, rfl, _⟩ := h
    rfl
  · obtain ⟨p, hd, fr, lw, d, size, ls, fs, los, rfl, W, d0, d1, d2, kn, ks⟩ := h
    refine ⟨_, pss_cons (ps_set (i := 2) scGo.nd rfl (Or.inl rfl) (pe_callB call_abs (by rfl) B.abs (by decide +kernel) (pa_cons (pv 1) pa_nil)))
      (pss_cons (ps_if (pt_cmp (pc_isN (pe_ix ix_list (pe_fld (pv 0) rfl) (pv 2) (fun _ _ => rfl))))
        (pss_one (ps_expr (pe_meth (pv 0) T2.cl S.m S.ok hr S.b .nil pass0 (pa_cons (pv 2) pa_nil)))) pss_nil)
      (pss_cons (ps_set (i := 3) scGo.nd rfl (Or.inl rfl) (pe_ix ix_list (pe_fld (pv 0) rfl) (pv 2) (fun _ _ => rfl)))
      (pss_cons (ps_set (i := 4) scGo.nd rfl (Or.inl rfl) (pe_ix ix_list (pe_fld (pv 0) rfl) (pv 2) (fun _ _ => rfl)))
      (pss_cons (ps_if (pt_cmpR op_eq (pv 4) (pe_ifExp (pt_cmpR op_gt (pv 1) pe_int (nomark _)) pe_int (pe_callB call_len_seq (by rfl) B.len PySem.boot_len (pa_cons (pv 3) pa_nil))) (nomark _))
        (pss_one (ps_ret pe_bl)) pss_nil)
      (pss_cons (ps_if (pt_cmpR op_gt (pv 1) pe_int (nomark _))
        (pss_cons (ps_asg (pe_op op_sub (pv 4) pe_int) (pg_sub (pe_fld (pv 0) rfl) (pv 2) set_list))
          (pss_one (ps_asg (pe_op op_add (pv 2) pe_int) (pg_sub (pe_fld (pv 0) rfl) (pe_ix ix_list (pv 3) (pe_op op_sub (pv 4) pe_int) (fun _ _ => rfl)) set_list))))
        (pss_cons (ps_asg (pe_op op_add (pv 4) pe_int) (pg_sub (pe_fld (pv 0) rfl) (pv 2) set_list))
          (pss_one (ps_asg (pv 2) (pg_sub (pe_fld (pv 0) rfl) (pe_ix ix_list (pv 3) (pv 4) (fun _ _ => rfl)) set_list)))))
      (pss_cons (ps_asg2 pe_non (pg_sub (pe_fld (pv 0) rfl) (pe_op op_sub (pv 2) pe_int) set_list) (pg_sub (pe_fld (pv 0) rfl) (pe_op op_add (pv 2) pe_int) set_list))
      (pss_one (ps_ret pe_bl)))))))), ?_⟩
    have eabs : (if d < 0 then -d else d) = (d.natAbs : Int) := by
      split <;> omega
    have eix : (d.natAbs : Int) = ix d := by
      unfold ix
      split <;> omega
    refine ⟨_, rfl, d, rfl, ?_⟩
    rw [eabs]
    generalize hn : d.natAbs = n at *
    have nb : (n : Int) ≤ size - 1 ∧ 1 ≤ n := by
      unfold ix at eix
      split at eix <;> omega
    have nsz : (n : Int) ≤ size := by omega
    obtain ⟨dx, hp⟩ := W.hp
    have at_free : ∀ {fs : List V} {v : V}, fs[n]? = some v → atI fs (n : Int) = some v := fun h => atI_nat h
    obtain ⟨v0, hv0⟩ : ∃ v0, fs[n]? = some v0 := by
      rcases W.at_ nsz with z | ⟨g, z⟩
      · exact ⟨_, z⟩
      · exact ⟨_, z⟩
    refine ⟨_, rfl, p, D, dx, _, _, rfl, hp, T2.cl, T2.nF, kf_free _ _ _ _, _, rfl, fr, fs, _, v0, rfl, rfl, SqL.of W.hf, at_free hv0, _, rfl, ?_⟩
    refine join2 (H := H) (fun H1 => ∃ fs1 los1 g, Fr_ H fs fs1 ∧ K3 hd fr lw H H1 ∧ Wk D H1 p hd fr lw size ls fs1 los1 ∧ fs1[n]? = some (V.ref g)) ?_ ?_ ?_
    rotate_left
    · intro hc J
      have hv : v0 = .non := by simpa using hc
      refine ⟨_, rfl, p, dx, _, rfl, hp, kf_no _ _ _ _ (by decide +kernel) (by decide +kernel) (by decide +kernel) (by decide +kernel), _, rfl, p, hd, fr, lw, n, size, ls, fs, los, rfl, W, nsz, fun H1 g los1 ng k1 W1 => ?_⟩
      refine J _ ⟨_, _, g, fun j y e => ?_, k1, W1, ?_⟩
      · by_cases c : n = j
        · subst c
          by_cases z : n < fs.length
          · rw [List.getElem?_set_self z] at e
            cases Option.some.inj e
            exact .inr ng
          · rw [List.getElem?_eq_none (by rw [List.length_set]; omega)] at e
            cases e
        · rw [List.getElem?_set_ne c] at e
          exact .inl e
      rw [List.getElem?_set_self]
      have := W.lf
      omega
    · intro hc
      have hv : ¬ v0 = .non := by simpa using hc
      rcases W.at_ nsz with z | ⟨g, z⟩
      · rw [hv0] at z
        exact absurd (Option.some.inj z) hv
      · exact ⟨fs, los, g, fun _ _ e => .inl e, .of (Same.refl H), W, z⟩
    rintro H1 ⟨fs1, los1, g, fr1, k1, W1, hg⟩
    obtain ⟨g1, g2, g3, eg, elo⟩ := W1.inv n g hg
    obtain ⟨dx1, hp1⟩ := W1.hp
    have np1 : p ≠ hd := ne_of hp1 W1.hh (by intro z; cases z)
    have np2 : p ≠ fr := ne_of hp1 W1.hf (by intro z; cases z)
    have np3 : p ≠ lw := ne_of hp1 W1.hl (by intro z; cases z)
    have lnl : n < los1.length := by
      have := W1.ll
      omega
    have lnf : n + 1 < fs1.length := by
      have := W1.lf
      omega
    have elo2 : (nums los1)[n]? = some (.int ((lows n ls).length : Int)) := by
      rw [List.getElem?_map, elo]
      rfl
    refine ⟨_, rfl, p, D, dx1, _, _, rfl, hp1, T2.cl, T2.nF, kf_free _ _ _ _, _, rfl, fr, fs1, _, _, rfl, rfl, SqL.of W1.hf, at_free hg, ?_⟩
    refine ⟨_, rfl, p, D, dx1, _, _, rfl, hp1, T2.cl, T2.nL, kf_low _ _ _ _, _, rfl, lw, _, _, _, rfl, rfl, SqL.of W1.hl, atI_nat elo2, ?_⟩
    have eF : (fre n ls).length = (lows n ls).length + (highs n ls).length := List.length_append
    have bl := br_len (n : Int) ls
    have ln := W1.L.len
    have eL1 : ∀ {r : List Int} {x : Int}, x = ((lows n r).length : Int) → (nums los1).set n (V.int x) = nums (los1.set n ((lows n r).length : Int)) := fun {r x} e => by
      rw [e]
      unfold nums
      rw [List.map_set]
    have ex1 : ixN (nums los1).length (n : Int) = some n := ixN_nat (by rw [List.length_map]; exact lnl)
    have ex2 : ixN fs1.length ((n : Int) - 1) = some (n - 1) := by
      rw [show ((n : Int) - 1) = ((n - 1 : Nat) : Int) by omega]
      exact ixN_nat (by omega)
    have ex3 : ixN (fs1.set (n - 1) V.non).length ((n : Int) + 1) = some (n + 1) := by
      rw [show ((n : Int) + 1) = ((n + 1 : Nat) : Int) by omega]
      exact ixN_nat (by rw [List.length_set]; exact lnf)
    have ixP : ∀ {x : Int}, 0 ≤ x → x < ls.length → ixN (nums ls).length x = some x.toNat := fun {x} h0 h1 => by
      unfold ixN
      rw [if_pos h0, if_pos (by rw [List.length_map]; exact h1)]
    have k3 : ∀ {o1 o2 o3 o4 : HO}, K3 hd fr lw H (upd (upd (upd (upd H1 lw o1) hd o2) fr o3) fr o4) := fun {o1 o2 o3 o4} b o e x y z => by
      rw [upd_ne y, upd_ne y, upd_ne x, upd_ne z]
      exact k1 b o e x y z
    by_cases hpos : 0 < d
    · have ed : d = (n : Int) := by
        unfold ix at eix
        rw [if_pos hpos] at eix
        exact eix.symm
      subst ed
      refine ⟨_, rfl, _, rfl, _, _, rfl, rfl, _, rfl, ?_⟩
      rw [decide_eq_true hpos]
      refine iteT ⟨rfl, _, rfl, ?_⟩
      by_cases hz : lows (n : Int) ls = []
      · have en : doneL (n : Int) ls = none := by
          unfold doneL
          rw [if_pos hpos, if_pos hz]
        rw [hz]
        exact iteT (kn en _ _ _ fr1 k1 W1)
      · have en : doneL (n : Int) ls = some (upL n ls) := by
          unfold doneL
          rw [if_pos hpos, if_neg hz]
        obtain ⟨u1, u2, u3, u4⟩ := fre_up hz
        refine ite2 (fun c => absurd (by simpa using c) (show ¬ ((lows (n : Int) ls).length : Int) = 0 by omega)) (fun _ => ?_)
        refine ⟨_, rfl, _, _, rfl, rfl, _, rfl, ?_⟩
        rw [decide_eq_true hpos]
        refine iteT ?_
        refine ⟨_, rfl, _, _, rfl, rfl, _, rfl, p, D, dx1, _, _, rfl, hp1, T2.cl, T2.nL, kf_low _ _ _ _, _, rfl, lw, _, _, n, rfl, rfl, W1.hl, ex1, ?_⟩
        rw [eL1 u2.symm]
        have bb := br_bd (i := (n : Int)) (l := ls) (.inl (lst_mem hz))
        have eg2 : (nums (fre n ls))[(lows (n : Int) ls).length - 1]? = some (.int (lst (lows n ls))) := by
          rw [List.getElem?_map, u4]
          rfl
        refine ⟨_, rfl, _, _, rfl, rfl, _, rfl, p, D, dx1, _, _, rfl, by rw [upd_ne np3]; exact hp1, T2.cl, T2.nH, kf_held _ _ _ _, _, rfl, _, rfl, _, _, rfl, rfl, g, _, _, .int (lst (lows n ls)), rfl, rfl, SqL.of (by rw [upd_ne g3]; exact eg), ?_,
          hd, _, _, _, rfl, rfl, by rw [upd_ne W1.n2]; exact W1.hh, ixP bb.1 bb.2, ?_⟩
        · rw [show ((lows (n : Int) ls).length : Int) - 1 = (((lows (n : Int) ls).length - 1 : Nat) : Int) by omega]
          exact atI_nat eg2
        rw [show (nums ls).set (lst (lows (n : Int) ls)).toNat (V.int ((n : Int) + 1)) = nums (upL n ls) by unfold nums upL; rw [List.map_set]]
        refine ⟨_, rfl, p, D, dx1, _, _, rfl, by rw [upd_ne np1, upd_ne np3]; exact hp1, T2.cl, T2.nF, kf_free _ _ _ _, _, rfl, _, _, rfl, rfl, fr, _, _, _, rfl, rfl, by rw [upd_ne W1.n1.symm, upd_ne W1.n3]; exact W1.hf, ex2, ?_⟩
        refine ⟨_, rfl, p, D, dx1, _, _, rfl, by rw [upd_ne np2, upd_ne np1, upd_ne np3]; exact hp1, T2.cl, T2.nF, kf_free _ _ _ _, _, rfl, _, _, rfl, rfl, fr, _, _, _, rfl, rfl, upd_same, ex3, ?_⟩
        exact ks _ en _ _ _ ((fr1.set _).set _) k3 (W1.step en d0 d1 d2 eix hg u1)
    · have ed : d = -(n : Int) := by
        unfold ix at eix
        rw [if_neg hpos] at eix
        omega
      subst ed
      refine ⟨_, rfl, _, rfl, _, _, rfl, rfl, _, rfl, ?_⟩
      rw [decide_eq_false hpos]
      refine iteF ⟨_, rfl, g, _, rfl, .inl (SqL.of eg), rfl, _, rfl, ?_⟩
      have edn : doneL (-(n : Int)) ls = if highs (n : Int) ls = [] then none else some (dnL n ls) := by
        unfold doneL
        rw [if_neg hpos, Int.neg_neg]
      rw [List.length_map]
      by_cases hz : highs (n : Int) ls = []
      · have en : doneL (-(n : Int)) ls = none := by rw [edn, if_pos hz]
        have e0 : (fre n ls).length = (lows n ls).length := by
          rw [eF, hz]
          rfl
        rw [e0]
        refine ite2 (fun _ => kn en _ _ _ fr1 k1 W1) (fun c => absurd (by simp) c)
      · have en : doneL (-(n : Int)) ls = some (dnL n ls) := by rw [edn, if_neg hz]
        obtain ⟨u1, u2, u3, u4⟩ := fre_dn hz
        refine ite2 (fun c => absurd (show (lows (n : Int) ls).length = (fre n ls).length by have q : ((lows (n : Int) ls).length : Int) = ((fre n ls).length : Int) := (by simpa using c); omega) u3) (fun _ => ?_)
        refine ⟨_, rfl, _, _, rfl, rfl, _, rfl, ?_⟩
        rw [decide_eq_false hpos]
        refine iteF ?_
        refine ⟨_, rfl, _, _, rfl, rfl, _, rfl, p, D, dx1, _, _, rfl, hp1, T2.cl, T2.nL, kf_low _ _ _ _, _, rfl, lw, _, _, n, rfl, rfl, W1.hl, ex1, ?_⟩
        rw [eL1 u2.symm]
        have bb := br_bd (i := (n : Int)) (l := ls) (.inr (fst_mem hz))
        have eg2 : (nums (fre n ls))[(lows (n : Int) ls).length]? = some (.int (fst (highs n ls))) := by
          rw [List.getElem?_map, u4]
          rfl
        refine ⟨_, rfl, _, rfl, p, D, dx1, _, _, rfl, by rw [upd_ne np3]; exact hp1, T2.cl, T2.nH, kf_held _ _ _ _, _, rfl, _, rfl, g, _, _, .int (fst (highs n ls)), rfl, rfl, SqL.of (by rw [upd_ne g3]; exact eg), atI_nat eg2,
          hd, _, _, _, rfl, rfl, by rw [upd_ne W1.n2]; exact W1.hh, ixP bb.1 bb.2, ?_⟩
        rw [show (nums ls).set (fst (highs (n : Int) ls)).toNat (V.int (n : Int)) = nums (dnL n ls) by unfold nums dnL; rw [List.map_set]]
        refine ⟨_, rfl, p, D, dx1, _, _, rfl, by rw [upd_ne np1, upd_ne np3]; exact hp1, T2.cl, T2.nF, kf_free _ _ _ _, _, rfl, _, _, rfl, rfl, fr, _, _, _, rfl, rfl, by rw [upd_ne W1.n1.symm, upd_ne W1.n3]; exact W1.hf, ex2, ?_⟩
        refine ⟨_, rfl, p, D, dx1, _, _, rfl, by rw [upd_ne np2, upd_ne np1, upd_ne np3]; exact hp1, T2.cl, T2.nF, kf_free _ _ _ _, _, rfl, _, _, rfl, rfl, fr, _, _, _, rfl, rfl, upd_same, ex3, ?_⟩
        exact ks _ en _ _ _ ((fr1.set _).set _) k3 (W1.step en d0 d1 d2 eix hg u1)
end
end Lw
/-! Run. A row of deeds done. -/
namespace Lw
open PySem L2 LwE LwM
structure Nums2 (mg : Str → Option Value) : Prop where
  mostD : ∃ t, mg "MOST_DEEDS" = some (.int 1000 t)
section
variable {P : Program} {w : World} {K : PySem.W.Frag} {mg : Str → Option Value} {base : Heap}
/-- a deed of the size -/
def Deed (size d : Int) : Prop := d ≠ 0 ∧ -(size - 1) ≤ d ∧ d ≤ size - 1
/-! is_deed -/
def spIsDeed : Sp := fun vs H Q _ => ∃ size d : Int, vs = [.int size, .int d] ∧ Deed size d ∧ Q (.bl true) H
theorem scIsDeed : FnScope ["size", "value"] ["size", "value"] (defScope sIsDeed) := ⟨rfl, rfl, rfl, by decide +kernel, rfl, by decide +kernel, by decide +kernel⟩
theorem ok_isdeed {f f1 : Addr} {fd fd1 : FuncData} (F : Df K mg "is_deed" sIsDeed f fd) (F1 : Df K mg "is_between" sBetween f1 fd1) (b1 : Binds K fd1 ["value", "least", "most"] [])
    (G1 : FnOk P w K mg base CX0 2 f1 fd1 ["value", "least", "most"] spBetween) : FnOk P w K mg base CX0 3 f fd ["size", "value"] spIsDeed := by
  refine F.fn.ok scIsDeed (fun vs H Q E h => ?_) (fun cdv A outer s H vs Q E hr h => ?_)
  · obtain ⟨size, d, rfl, _⟩ := h
    rfl
  · obtain ⟨size, d, rfl, ⟨d0, d1, d2⟩, k⟩ := h
    refine ⟨_, pss_one (ps_ret (pe_and (pe_call G1 hr (by rfl) F1.g F1.fn.kp b1 .nil pass0 (pa_cons (pv 1) (pa_cons (pe_op op_sub pe_int (pv 0)) (pa_cons (pe_op op_sub (pv 0) pe_int) pa_nil))))
      (pe_one (pe_cmpR op_ne (pv 1) pe_int (nomark _))))), ?_⟩
    refine ⟨_, rfl, _, rfl, _, _, rfl, rfl, _, rfl, _, _, rfl, rfl, d, 1 - size, size - 1, rfl, ?_⟩
    rw [decide_eq_true (show 1 - size ≤ d ∧ d ≤ size - 1 from ⟨by omega, by omega⟩)]
    refine ⟨true, rfl, iteT ⟨_, rfl, rfl, ?_⟩⟩
    have e : (!decide (V.int d = V.int 0)) = true := by simp [d0]
    rw [e]
    exact k
/-! check_row -/
def spCkRow : Sp := fun vs H Q _ => ∃ (size : Int) (r : Addr) (row : List Int), vs = [.int size, .ref r] ∧ H r = some (.lst (nums row)) ∧ row.length ≤ 1000 ∧ (∀ d ∈ row, Deed size d) ∧ ∀ H', Same H H' → Q .non H'
theorem scCkRow : FnScope ["size", "row", "place", "deed"] ["size", "row"] (defScope sCkRow) := ⟨rfl, rfl, rfl, by decide +kernel, rfl, by decide +kernel, by decide +kernel⟩
theorem ok_ckrow {f f1 f2 : Addr} {fd fd1 fd2 : FuncData} (B : Bare mg) (N : Nums2 mg) (F : Df K mg "check_row" sCkRow f fd) (F1 : Df K mg "is_listing" sListing f1 fd1) (b1 : Binds K fd1 ["value"] []) (G1 : FnOk P w K mg base CX0 1 f1 fd1 ["value"] spListing)
    (F2 : Df K mg "is_deed" sIsDeed f2 fd2) (b2 : Binds K fd2 ["size", "value"] []) (G2 : FnOk P w K mg base CX0 3 f2 fd2 ["size", "value"] spIsDeed) : FnOk P w K mg base CX0 4 f fd ["size", "row"] spCkRow := by
  refine F.fn.ok scCkRow (fun vs H Q E h => ?_) (fun cdv A outer s H vs Q E hr h => ?_)
  · obtain ⟨size, r, row, rfl, _⟩ := h
    rfl
  · obtain ⟨size, r, row, rfl, hq, hlen, hd, k⟩ := h
    obtain ⟨t3, e3⟩ := N.mostD
    have hr1 : Room 1 _ := hr.mono (by decide)
    refine ⟨_, pss_cons (ps_if (PW.pt (pw_or (pt_not (pt_val (pe_call G1 hr1 (by rfl) F1.g F1.fn.kp b1 .nil pass0 (pa_cons (pv 1) pa_nil))))
        (pw_or1 (pt_cmpR op_gt (pe_callB call_len_seq (by rfl) B.len PySem.boot_len (pa_cons (pv 1) pa_nil)) (pe_glob (v := .int 1000) (by rfl) e3 ⟨_, rfl⟩) (nomark _))))) pss_never pss_nil)
      (pss_one (ps_for PassesOwn.never rfl (pi_enum (by rfl) B.enumerate (pa_cons (pv 1) pa_nil)) (pg_tup rfl (pgs_cons (pg_name (i := 2) scCkRow.nd rfl (Or.inl rfl)) (pgs_cons (pg_name (i := 3) scCkRow.nd rfl (Or.inl rfl)) pgs_nil)))
        (pss_one (ps_if (pt_not (pt_val (pe_call G2 hr (by rfl) F2.g F2.fn.kp b2 .nil pass0 (pa_cons (pv 0) (pa_cons (pv 3) pa_nil))))) pss_never pss_nil)))), ?_⟩
    refine ⟨_, rfl, r, rfl, .inl ⟨_, hq⟩, fun H1 s1 => ⟨true, rfl, iteF ?_⟩⟩
    refine ⟨_, rfl, r, _, rfl, .inl (SqL.of (s1 _ _ hq)), _, _, rfl, rfl, _, rfl, ?_⟩
    rw [decide_eq_false (show ¬ ((1000 : Int) < (((nums row).length : Nat) : Int)) by rw [List.length_map]; omega)]
    refine iteF ?_
    refine ⟨_, rfl, r, _, rfl, SqL.of (s1 _ _ hq), for_enL (K := K) (a := r) (xs := nums row) (fun i σ H2 => ∃ v2 v3 : Option V, σ = [some (.int size), some (.ref r), v2, v3] ∧ Same H H2) ⟨_, _, rfl, s1⟩
      (fun i σ H2 _ ⟨_, _, _, s2⟩ => SqL.of (s2 _ _ hq)) ?_ ?_⟩
    · rintro i x T σ H2 hx ⟨v2, v3, rfl, s2⟩ hT
      obtain ⟨z, rfl, _, hz⟩ := nums_get hx
      refine ⟨T, _, rfl, SqT.of upd_same, rfl, _, _, rfl, _, _, rfl, rfl, ?_⟩
      exact ⟨_, rfl, _, rfl, size, z, rfl, hd z hz, true, rfl, iteF ⟨_, _, rfl, s2.trans (same_new hT)⟩⟩
    · rintro σ H2 ⟨v2, v3, rfl, s2⟩
      exact k H2 s2
/-! Walk(word), followed -/
structure Wi_ (P : Program) (w : World) (K : PySem.W.Frag) (mg : Str → Option Value) (base : Heap) (C D : Addr) (fW : Addr) (fdW : FuncData) : Prop where
  m : Mk K D fW
  ok : FnOk P w K mg base CX0 1 fW fdW ["self", "word"] (spWalk C D)
  b : Binds K fdW ["self", "word"] []
structure Go_ (P : Program) (w : World) (K : PySem.W.Frag) (mg : Str → Option Value) (base : Heap) (D : Addr) (f : Addr) (fd : FuncData) : Prop where
  m : Meth K D "go" f
  ok : FnOk P w K mg base CX0 3 f fd ["self", "deed"] (spGo D)
  b : Binds K fd ["self", "deed"] []
theorem made_same {C x dx : Addr} {H : Hp} (nx : H x = none) (ndx : H dx = none) : Same H (upd (upd H dx (.own x)) x (.ins C dx [])) := fun b o e => by
  rw [upd_ne (ne_of_none e nx), upd_ne (ne_of_none e ndx)]
  exact e
theorem K3.same {hd fr lw : Addr} {H0 H H' : Hp} (s : Same H0 H) (k : K3 hd fr lw H H') (n1 : H0 hd = none) (n2 : H0 fr = none) (n3 : H0 lw = none) : Same H0 H' := fun b o e =>
  k b o (s b o e) (ne_of_none e n1) (ne_of_none e n2) (ne_of_none e n3)
def spFollowed (C D : Addr) : Sp := fun vs H Q _ => ∃ (a r : Addr) (size : Int) (l row z : List Int), vs = [.ref a, .ref r] ∧ WAt C H a size l ∧ H r = some (.lst (nums row)) ∧ row.length ≤ 1000 ∧ (∀ d ∈ row, Deed size d) ∧ runL row l = some z ∧
  ∀ q x hd fr lw fs los H', Same H H' → H' q = some (.tup [.ref x, .non]) → Wk D H' x hd fr lw size z fs los → Q (.ref q) H'
theorem scFollowed : FnScope ["word", "row", "walk", "place", "deed"] ["word", "row"] (defScope sFollowed) := ⟨rfl, rfl, rfl, by decide +kernel, rfl, by decide +kernel, by decide +kernel⟩
theorem runL_take {row l : List Int} {z : List Int} (h : runL row l = some z) {j : Nat} {d : Int} (hj : row[j]? = some d) : ∃ a b, runL (row.take j) l = some a ∧ doneL d a = some b ∧ runL (row.take (j + 1)) l = some b := by
  have hjl := (List.getElem?_eq_some_iff.mp hj).1
  have e : row = row.take j ++ d :: row.drop (j + 1) := by
    have e2 : row[j] = d := (List.getElem?_eq_some_iff.mp hj).2
    have e3 := List.take_append_drop j row
    rw [List.drop_eq_getElem_cons hjl, e2] at e3
    exact e3.symm
  have en : row.take (j + 1) = row.take j ++ [d] := by
    rw [List.take_succ, hj]
    rfl
  rw [e, runL_app] at h
  cases ha : runL (row.take j) l with
  | none =>
    rw [ha] at h
    cases h
  | some a =>
    rw [ha] at h
    obtain ⟨b, h1, _⟩ := runL_split (show runL (d :: row.drop (j + 1)) a = some z from h)
    refine ⟨a, b, rfl, h1, ?_⟩
    rw [en, runL_app, ha]
    show runL [d] a = some b
    rw [runL_cons h1]
    rfl
theorem ok_followed {f fW fG C D : Addr} {fd fdW fdG : FuncData} (B : Bare mg) (T2 : Cwk K mg D) (F : Df K mg "followed" sFollowed f fd) (I : Wi_ P w K mg base C D fW fdW) (G : Go_ P w K mg base D fG fdG) :
    FnOk P w K mg base CX0 4 f fd ["word", "row"] (spFollowed C D) := by
  refine F.fn.ok scFollowed (fun vs H Q E h => ?_) (fun cdv A outer s H vs Q E hr h => ?_)
  · obtain ⟨a, r, size, l, row, z, rfl, _⟩ := h
    rfl
  · obtain ⟨a, r, size, l, row, z, rfl, W, hq, hlen, hd, hz, k⟩ := h
    have hr2 : Room 2 _ := hr.mono (by decide)
    refine ⟨_, pss_cons (ps_set (i := 2) scFollowed.nd rfl (Or.inl rfl) (pe_make I.m I.ok hr2 (by rfl) T2.mgC I.b .nil pass0 (pa_cons (pv 0) pa_nil)))
      (pss_cons (ps_for PassesOwn.never rfl (pi_enum (by rfl) B.enumerate (pa_cons (pv 1) pa_nil)) (pg_tup rfl (pgs_cons (pg_name (i := 3) scFollowed.nd rfl (Or.inl rfl)) (pgs_cons (pg_name (i := 4) scFollowed.nd rfl (Or.inl rfl)) pgs_nil)))
        (pss_one (ps_if (pt_not (pt_val (pe_meth (pv 2) T2.cl G.m G.ok hr G.b .nil pass0 (pa_cons (pv 4) pa_nil)))) pss_never pss_nil)))
      (pss_one (ps_ret (pe_tup (pa_cons (pv 2) (pa_cons pe_non pa_nil)))))), ?_⟩
    refine ⟨_, rfl, ?_⟩
    intro x dx nx ndx ne
    have s0 := made_same (C := D) nx ndx
    refine ⟨x, dx, a, size, l, rfl, upd_same, W.same s0, fun H1 hd1 fr lw fs los kp nhd nfr nlw Z => ⟨rfl, ?_⟩⟩
    have s1 : Same H H1 := Same.made nx ndx kp
    replace nhd := s0.free nhd
    replace nfr := s0.free nfr
    replace nlw := s0.free nlw
    refine ⟨_, rfl, r, _, rfl, SqL.of (s1 _ _ hq), for_enL (K := K) (a := r) (xs := nums row) (fun i σ H2 => ∃ (v3 v4 : Option V) (c : List Int) (fs2 : List V) (los2 : List Int), σ = [some (.ref a), some (.ref r), some (.ref x), v3, v4] ∧ Same H H2 ∧
      runL (row.take i) l = some c ∧ Wk D H2 x hd1 fr lw size c fs2 los2) ⟨_, _, l, fs, los, rfl, s1, rfl, Z⟩ (fun i σ H2 _ ⟨_, _, _, _, _, _, s2, _⟩ => SqL.of (s2 _ _ hq)) ?_ ?_⟩
    · rintro i y T σ H2 hx ⟨v3, v4, c, fs2, los2, rfl, s2, hc, Z2⟩ hT
      obtain ⟨d, rfl, hj, hdm⟩ := nums_get hx
      obtain ⟨c1, b, g1, g2, g3⟩ := runL_take hz hj
      rw [hc] at g1
      cases g1
      have sT := same_new (o := .tup [.int (i : Nat), .int d]) hT
      have Z3 := Z2.same sT
      obtain ⟨dx, hp⟩ := Z3.hp
      obtain ⟨d0, d1, d2⟩ := hd d hdm
      refine ⟨T, _, rfl, SqT.of upd_same, rfl, _, _, rfl, _, _, rfl, rfl, ?_⟩
      refine ⟨_, rfl, x, dx, _, rfl, hp, kf_no _ _ _ _ (by decide +kernel) (by decide +kernel) (by decide +kernel) (by decide +kernel), _, rfl, x, hd1, fr, lw, d, size, c, fs2, los2, rfl, Z3, d0, d1, d2, (fun e => by rw [g2] at e; cases e), fun r2 e H3 fs3 los3 _ k3 Z4 => ?_⟩
      rw [g2] at e
      cases e
      exact ⟨true, rfl, iteF ⟨_, _, b, fs3, los3, rfl, K3.same (s2.trans sT) k3 nhd nfr nlw, g3, Z4⟩⟩
    · rintro σ H2 ⟨v3, v4, c, fs2, los2, rfl, s2, hc, Z2⟩
      rw [List.length_map, List.take_length, hz] at hc
      cases hc
      refine ⟨_, rfl, (by show 2 ≤ sizeLine; decide), fun q hq2 => ?_⟩
      exact k q x hd1 fr lw fs2 los2 _ (s2.trans (same_new hq2)) upd_same (Z2.same (same_new hq2))
/-! reached -/
def spReached (C D : Addr) : Sp := fun vs H Q _ => ∃ (x hd fr lw : Addr) (size : Int) (ls : List Int) (fs : List V) (los : List Int), vs = [.ref x] ∧ Wk D H x hd fr lw size ls fs los ∧ ∀ b H', Same H H' → H b = none → WAt C H' b size ls → Q (.ref b) H'
theorem scReached : FnScope ["self"] ["self"] (defScope sReached) := ⟨rfl, rfl, rfl, by decide +kernel, rfl, by decide +kernel, by decide +kernel⟩
theorem ok_reached {f fI C D : Addr} {fd fdI : FuncData} (T : Cw K mg C) (T2 : Cwk K mg D) (F : Fun K "reached" "Walk.reached" sReached f fd) (I : In_ P w K mg base C fI fdI) : FnOk P w K mg base CX0 6 f fd ["self"] (spReached C D) := by
  refine F.ok scReached (fun vs H Q E h => ?_) (fun cdv A outer s H vs Q E hr h => ?_)
  · obtain ⟨x, hd, fr, lw, size, ls, fs, los, rfl, _⟩ := h
    rfl
  · obtain ⟨x, hd, fr, lw, size, ls, fs, los, rfl, Z, k⟩ := h
    obtain ⟨dx, hp⟩ := Z.hp
    refine ⟨_, pss_one (ps_ret (pe_make I.m I.ok hr (by rfl) T.mgC I.b .nil pass0 (pa_cons (pe_fld (pv 0) rfl) (pa_cons (pe_fld (pv 0) rfl) pa_nil)))), ?_⟩
    refine ⟨_, rfl, x, D, dx, _, _, rfl, hp, T2.cl, T2.nS, kf_size _ _ _ _, _, rfl, x, D, dx, _, _, rfl, hp, T2.cl, T2.nH, kf_held _ _ _ _, ?_⟩
    exact made (.inl Z.hh) Z.L fun b H' s nb W => k b H' s nb W
/-! run -/
structure Re_ (P : Program) (w : World) (K : PySem.W.Frag) (mg : Str → Option Value) (base : Heap) (C D : Addr) (f : Addr) (fd : FuncData) : Prop where
  m : Meth K D "reached" f
  ok : FnOk P w K mg base CX0 6 f fd ["self"] (spReached C D)
  b : Binds K fd ["self"] []
def spRun (C : Addr) : Sp := fun vs H Q _ => ∃ (a r : Addr) (size : Int) (l row z : List Int), vs = [.ref a, .ref r] ∧ WAt C H a size l ∧ H r = some (.lst (nums row)) ∧ row.length ≤ 100 ∧ (∀ d ∈ row, d ≠ 0 ∧ -(size - 1) ≤ d ∧ d ≤ size - 1) ∧ runL row l = some z ∧ ∀ b H', Same H H' → WAt C H' b size z → Q (.ref b) H'
theorem scRun : FnScope ["word", "row", "walk", "stuck"] ["word", "row"] (defScope sRun) := ⟨rfl, rfl, rfl, by decide +kernel, rfl, by decide +kernel, by decide +kernel⟩
theorem ok_run {f f1 f2 fR C D : Addr} {fd fd1 fd2 fdR : FuncData} (T : Cw K mg C) (T2 : Cwk K mg D) (F : Df K mg "run" sRun f fd) (F1 : Df K mg "check_row" sCkRow f1 fd1) (b1 : Binds K fd1 ["size", "row"] []) (G1 : FnOk P w K mg base CX0 4 f1 fd1 ["size", "row"] spCkRow)
    (F2 : Df K mg "followed" sFollowed f2 fd2) (b2 : Binds K fd2 ["word", "row"] []) (G2 : FnOk P w K mg base CX0 4 f2 fd2 ["word", "row"] (spFollowed C D)) (R : Re_ P w K mg base C D fR fdR) : FnOk P w K mg base CX0 9 f fd ["word", "row"] (spRun C) := by
  refine F.fn.ok scRun (fun vs H Q E h => ?_) (fun cdv A outer s H vs Q E hr h => ?_)
  · obtain ⟨a, r, size, l, row, z, rfl, _⟩ := h
    rfl
  · obtain ⟨a, r, size, l, row, z, rfl, W, hq, hlen, hd, hz, k⟩ := h
    have hr4 : Room 4 _ := hr.mono (by decide)
    have hr6 : Room 6 _ := hr.mono (by decide)
    refine ⟨_, pss_cons (ps_expr (pe_call G1 hr4 (by rfl) F1.g F1.fn.kp b1 .nil pass0 (pa_cons (pe_fld (pv 0) rfl) (pa_cons (pv 1) pa_nil))))
      (pss_cons (ps_asg (pe_call G2 hr4 (by rfl) F2.g F2.fn.kp b2 .nil pass0 (pa_cons (pv 0) (pa_cons (pv 1) pa_nil))) (pg_tup rfl (pgs_cons (pg_name (i := 2) scRun.nd rfl (Or.inl rfl)) (pgs_cons (pg_name (i := 3) scRun.nd rfl (Or.inl rfl)) pgs_nil))))
      (pss_cons (ps_if (pt_cmp (pc_notN (pv 3))) pss_never pss_nil)
      (pss_one (ps_ret (pe_meth0 (pv 2) T2.cl R.m R.ok hr6 R.b .nil pass0))))), ?_⟩
    obtain ⟨dx, t, h1, h2⟩ := W.ob
    refine ⟨_, rfl, a, C, dx, _, _, rfl, h1, T.cl, T.nS, wf_size _ _, _, rfl, size, r, row, rfl, hq, by omega, hd, fun H1 s1 => ?_⟩
    refine ⟨_, rfl, _, rfl, a, r, size, l, row, z, rfl, W.same s1, s1 _ _ hq, by omega, hd, hz, fun q x hd1 fr lw fs los H2 s2 eq Z => ?_⟩
    refine ⟨q, _, rfl, SqT.of eq, rfl, _, _, rfl, _, _, rfl, rfl, ?_⟩
    refine ⟨_, rfl, _, rfl, iteF ?_⟩
    obtain ⟨dy, hp⟩ := Z.hp
    exact ⟨_, rfl, x, dy, _, rfl, hp, kf_no _ _ _ _ (by decide +kernel) (by decide +kernel) (by decide +kernel) (by decide +kernel), x, hd1, fr, lw, size, z, fs, los, rfl, Z, fun b H' s3 nb Wb => k b H' ((s1.trans s2).trans s3) Wb⟩
end
end Lw
/-! Tx. Texts of small data. -/
namespace LwE
open PySem PySem.Spec PyProof.Rows L2
mutual
def smD : PyData → Bool
  | .none | .bool _ => true
  | .int i => decide (i.natAbs ≤ 100000)
  | .str _ => false
  | .list xs | .tuple xs => smA xs
  | .dict _ => false
def smA : List PyData → Bool
  | [] => true
  | x :: xs => smD x && smA xs
end
mutual
def wtD : PyData → Nat
  | .none => 4
  | .bool _ => 5
  | .int _ => 18
  | .str _ => 0
  | .list xs | .tuple xs => wtA xs + 3
  | .dict _ => 0
def wtA : List PyData → Nat
  | [] => 0
  | x :: xs => wtD x + 2 + wtA xs
end
theorem textFrom_le : ∀ (ts : List Str) (k : Nat) (acc : Str), (textFrom k acc ts).length ≤ acc.length + piled ts
  | [], k, acc => by simp [textFrom]
  | t :: ts, k, acc => by
    have ih := textFrom_le ts (k + 1) (acc ++ (if k > 0 then ", " else "" : String) ++ t)
    have e : (acc ++ (if k > 0 then ", " else "" : String) ++ t).length ≤ acc.length + 2 + t.length := by
      rw [strLen_append, strLen_append]
      split
      · have : ((", " : String) : Str).length = 2 := rfl
        omega
      · have : (("" : String) : Str).length = 0 := rfl
        omega
    rw [piled_cons]
    show (textFrom (k + 1) _ ts).length ≤ _
    omega
theorem listText_le (ts : List Str) : (listText ts).length ≤ piled ts + 2 := by
  unfold listText
  rw [strLen_append]
  have h := textFrom_le ts 0 "["
  have e1 : (("[" : String) : Str).length = 1 := rfl
  have e2 : (("]" : String) : Str).length = 1 := rfl
  omega
theorem tupleText_le (ts : List Str) : (tupleText ts).length ≤ piled ts + 3 := by
  unfold tupleText
  rw [strLen_append, strLen_append]
  have e1 : ((("(" : String) : Str)).length = 1 := rfl
  have e3 : (((if ts.length == 1 then ",)" else ")" : String) : Str)).length ≤ 2 := by split <;> decide
  by_cases h : ts = []
  · subst h
    have : (Str.join ", " []).length = 0 := rfl
    omega
  · have := join_length_add ts h
    omega
theorem log_small (i : Int) (h : i.natAbs ≤ 100000) : i.natAbs.log2 < 17 := by
  rcases Nat.eq_zero_or_pos i.natAbs with z | z
  · rw [z]
    decide
  · exact (Nat.log2_lt (by omega)).mpr (by omega)
mutual
theorem sm_all : ∀ d : PyData, smD d = true → d.showable = true ∧ d.hasDict = false ∧ d.shown.length ≤ wtD d
  | .none, _ => ⟨rfl, rfl, by simp only [PyData.shown, wtD]; decide⟩
  | .bool b, _ => ⟨rfl, rfl, by simp only [PyData.shown, wtD]; cases b <;> decide⟩
  | .int i, h => by
    have hi : i.natAbs ≤ 100000 := by simpa [smD] using h
    have h1 := log_small i hi
    have h2 := int_text_length_le (by decide : 0 < 17) h1
    refine ⟨?_, rfl, ?_⟩
    · simp only [PyData.showable, decide_eq_true_eq]
      omega
    · simp only [PyData.shown, wtD]
      show (Str.ofString (toString i)).length ≤ 18
      rw [PySem.ofString_length]
      omega
  | .str x, h => by simp [smD] at h
  | .list xs, h => by
    obtain ⟨a, b, c⟩ := sm_allA xs (by simpa [smD] using h)
    refine ⟨by simpa [PyData.showable] using a, by simpa [PyData.hasDict] using b, ?_⟩
    simp only [PyData.shown, wtD]
    have := listText_le (PyData.shownAll xs)
    omega
  | .tuple xs, h => by
    obtain ⟨a, b, c⟩ := sm_allA xs (by simpa [smD] using h)
    refine ⟨by simpa [PyData.showable] using a, by simpa [PyData.hasDict] using b, ?_⟩
    simp only [PyData.shown, wtD]
    have := tupleText_le (PyData.shownAll xs)
    omega
  | .dict _, h => by simp [smD] at h
theorem sm_allA : ∀ xs : List PyData, smA xs = true → PyData.showableAll xs = true ∧ PyData.hasDictAll xs = false ∧ piled (PyData.shownAll xs) ≤ wtA xs
  | [], _ => ⟨rfl, rfl, by simp [PyData.shownAll, piled, wtA]⟩
  | x :: xs, h => by
    have h' : smD x = true ∧ smA xs = true := by simpa [smA] using h
    obtain ⟨a, b, c⟩ := sm_all x h'.1
    obtain ⟨a2, b2, c2⟩ := sm_allA xs h'.2
    refine ⟨by simp [PyData.showableAll, a, a2], by simp [PyData.hasDictAll, b, b2], ?_⟩
    simp only [PyData.shownAll, wtA, piled_cons]
    omega
end
theorem sm_ints : ∀ l : List Int, (∀ x ∈ l, x.natAbs ≤ 100000) → smA (l.map PyData.int) = true
  | [], _ => rfl
  | x :: l, h => by
    have ih := sm_ints l fun y hy => h y (List.mem_cons_of_mem _ hy)
    have hx := h x (List.mem_cons_self ..)
    simp [smA, smD, ih, hx]
theorem wt_ints : ∀ l : List Int, wtA (l.map PyData.int) = 20 * l.length
  | [] => rfl
  | x :: l => by
    have ih := wt_ints l
    simp only [List.map_cons, wtA, wtD, List.length_cons, ih]
    omega
/-- repr of small data -/
def rReprS (K : PySem.W.Frag) : List V → Hp → VK → Prop := fun xs H Q => ∃ (a : Addr) (d : PyData), xs = [V.ref a] ∧ Dp K H (.ref a) d ∧ smD d = true ∧ d.depth ≤ 8 ∧ wtD d ≤ 1000000 ∧ Q (.str d.shown) H
theorem call_reprS {X : Cx} (hg : X.A.guards = some []) (hu : X.A.units + 64 < cLine) : CallR X (.builtin "repr") (rReprS X.K) := by
  intro pins s σ H xs us Q I r h
  obtain ⟨a, d, rfl, hd, h1, h2, h3, q⟩ := h
  obtain ⟨g1, g2, g3⟩ := sm_all d h1
  refine call_reprD hg hu pins s σ H _ us Q I r ⟨a, d, rfl, hd, g1, g2, h2, ?_, q⟩
  rw [sizeLine_eq]
  omega
end LwE
/-! Hd. What a call tells, or the word of its refusal. -/
namespace LwE
open PySem PySem.Spec PyProof.Rows L2
/-- a comprehension over zip of two lists of one length -/
theorem lc_zipL {K : PySem.W.Frag} {a b : Addr} {xs ys : List V} {g : TG} {tt : TT} {te : TE} {vs : List Nat} {σ : L2.St} {H1 : Hp} {D : Addr} {Qd : Hp → Prop} (hlen : xs.length = ys.length) (Pv : Nat → Hp → Prop) (h0 : Pv 0 (upd H1 D (.lst [])))
    (hl : ∀ i H, i ≤ xs.length → Pv i H → SqL K H a xs ∧ SqL K H b ys)
    (hs : ∀ i x y T H, xs[i]? = some x → ys[i]? = some y → Pv i H → H T = none → g (.ref T) (wipe σ vs) (upd H T (.tup [x, y])) fun σ2 H2 => wipe σ2 vs = wipe σ vs ∧ tt σ2 H2 fun b H3 =>
      if b = true then te σ2 H3 fun y H4 => ∃ acc, H4 D = some (.lst acc) ∧ acc.length < sizeLine ∧ Pv (i + 1) (upd H4 D (.lst (acc ++ [y]))) else Pv (i + 1) H3) (hd : ∀ H, Pv xs.length H → Qd H) :
    ∃ W : Nat → Nat → Hp → Prop, (∃ m, W 0 m (upd H1 D (.lst []))) ∧ ∀ i m H, W i m H →
      ((Itz K a b).stop i H ∧ Qd H) ∨ ((Itz K a b).go i H ∧ ∃ Nx : Hp → Prop, (∀ H', Nx H' → ∃ m', m' < m ∧ W (i + 1) m' H') ∧ ∀ x H', (Itz K a b).yld i H x H' → g x (wipe σ vs) H' fun σ2 H2 => wipe σ2 vs = wipe σ vs ∧ tt σ2 H2 fun b H3 =>
        if b = true then te σ2 H3 fun y H4 => ∃ acc, H4 D = some (.lst acc) ∧ acc.length < sizeLine ∧ Nx (upd H4 D (.lst (acc ++ [y]))) else Nx H3) := by
  refine ⟨fun i m H => m + i = xs.length ∧ Pv i H, ⟨xs.length, Nat.add_zero _, h0⟩, fun i m H ⟨hm, p⟩ => ?_⟩
  obtain ⟨q1, q2⟩ := hl i H (by omega) p
  cases m with
  | zero =>
    have e : i = xs.length := by omega
    rw [e] at p
    exact .inl ⟨⟨xs, ys, q1, q2, .inl (by omega)⟩, hd H p⟩
  | succ m =>
    have h1 : i < xs.length := by omega
    refine .inr ⟨⟨xs, ys, xs[i], ys[i]'(by omega), q1, q2, List.getElem?_eq_getElem h1, List.getElem?_eq_getElem (by omega)⟩, Pv (i + 1), fun H' p' => ⟨m, Nat.lt_succ_self m, by omega, p'⟩, fun v H' y => ?_⟩
    obtain ⟨T, x, z, rfl, hT, rfl, y1, y2⟩ := y
    exact hs i x z T H (y1 xs q1) (y2 ys q2) p hT
/-- a wish that may lean on how many slots there are -/
theorem takes_len {X : Cx} {W : WX} (t : Takes X W) : Takes X fun c d σ H => σ.length = X.N.length → W c d σ H := fun u s' ⟨a, B, sI, pins, σ, H, cls, d, e, I, nb, up, sky, na, os, ag, w⟩ =>
  t u s' ⟨a, B, sI, pins, σ, H, cls, d, e, I, nb, up, sky, na, os, ag, w I.len⟩
/-- any wish that is weaker -/
theorem pe_weak {X : Cx} {e : Expr} {te : TE} (he : PE X e te) : PE X e fun σ H Q => ∃ Qm : VK, te σ H Qm ∧ ∀ v H', Qm v H' → Q v H' :=
  ⟨fun pins s σ H Q I ⟨Qm, h, i⟩ => wpAny_mono (he.run pins s σ H Qm I h) (fun u s1 ⟨v, H1, I1, r, q⟩ => ⟨v, H1, I1, r, i _ _ q⟩) fun _ _ z => z⟩
theorem sameN {H : Hp} {p : Addr} {o : HO} (h : H p = none) : Same H (upd H p o) := fun b u e => by
  rw [upd_ne (ne_of_none e h)]
  exact e
theorem look_one (f : Str) (v : V) : List.lookup f [(f, v)] = some v := by simp [List.lookup]
end LwE
namespace Lw
open PySem L2 LwE LamX
/-! ### the kinds of refusals -/
inductive Kd
  | size | letters | index | number | deed | table | move | shape | stuck | great
  deriving DecidableEq
def Kd.word : Kd → Str
  | .size => "size" | .letters => "letters" | .index => "index" | .number => "number" | .deed => "deed" | .table => "table" | .move => "move" | .shape => "shape" | .stuck => "stuck" | .great => "great"
def Kd.field : Kd → Str
  | .size => "value" | .letters => "place" | .index => "value" | .number => "value" | .deed => "place" | .table => "row" | .move => "place" | .shape => "value" | .stuck => "place" | .great => "most"
/-- is it a ValueError -/
def Kd.ve : Kd → Bool
  | .stuck => false | .great => false | _ => true
/-- where the classes stand -/
structure Eca where
  lift : Addr
  of : Kd → Addr
  recd : Addr
  osize : Addr
  ohouse : Addr
/-- what the module says of them -/
structure Ec (K : PySem.W.Frag) (mg : Str → Option Value) (e : Eca) : Prop where
  isinstance : mg "isinstance" = none
  zip : mg "zip" = none
  len : mg "len" = none
  ve : mg "ValueError" = none
  lift : mg "LiftError" = some (.ref e.lift)
  size : mg "BadSize" = some (.ref (e.of .size))
  letters : mg "BadLetters" = some (.ref (e.of .letters))
  index : mg "BadIndex" = some (.ref (e.of .index))
  number : mg "BadNumber" = some (.ref (e.of .number))
  deed : mg "BadDeed" = some (.ref (e.of .deed))
  table : mg "BadTable" = some (.ref (e.of .table))
  move : mg "BadMove" = some (.ref (e.of .move))
  shape : mg "BadShape" = some (.ref (e.of .shape))
  recd : mg "BadRecording" = some (.ref e.recd)
  osize : mg "OtherSize" = some (.ref e.osize)
  ohouse : mg "OtherHouse" = some (.ref e.ohouse)
  stuck : mg "Stuck" = some (.ref (e.of .stuck))
  great : mg "TooGreat" = some (.ref (e.of .great))
  K_ : HeldK K
/-- what the class of a kind says -/
structure Ek (K : PySem.W.Frag) (e : Eca) (k : Kd) : Prop where
  held : HeldC K (e.of k)
  no : PySem.W.findIn K (.ref (e.of k)) k.field = some none
  exm : PySem.W.exmAny K (.ref (e.of k)) [.ref e.lift, .ref (e.of .stuck), .ref (e.of .great)] = some true
  is_ : ∀ k', PySem.W.kitOne K (.ref (e.of k)) (.ref (e.of k')) = some (decide (k = k'))
  recd : PySem.W.kitOne K (.ref (e.of k)) (.ref e.recd) = some false
  osize : PySem.W.kitOne K (.ref (e.of k)) (.ref e.osize) = some false
  ohouse : PySem.W.kitOne K (.ref (e.of k)) (.ref e.ohouse) = some false
  ve : PySem.W.kitOne K (.ref (e.of k)) (.type "ValueError") = some k.ve
/-- how the refusal is told -/
def Rf (K : PySem.W.Frag) (e : Eca) (Q : VK) : XK := fun cls d H => ∃ (k : Kd) (dd : Addr) (v : V), Ek K e k ∧ cls = .ref (e.of k) ∧ d = some dd ∧ H dd = some (.xd [(k.field, v)]) ∧ ∀ p H', Same H H' → H' p = some (.tup [.str k.word, v]) → Q (.ref p) H'
/-- what the law's look makes of the lambda's reading -/
def TTheard (K : PySem.W.Frag) (e : Eca) : (XK → Hp → VK → Prop) → Hp → VK → Prop := fun tl H Q =>
  ∀ l, H l = none → tl (Rf K e Q) (upd H l (.lst [])) fun v H1 => ∀ p, H1 p = none → Q (.ref p) (upd H1 p (.lst [v]))
abbrev Nhd : List Str := ["call", "told", "error", "e", "valued", "kinds", "words", "found", "word", "is_so"]
theorem scHeard : FnScope Nhd ["call"] (defScope sHeard) := ⟨rfl, rfl, rfl, by decide +kernel, rfl, by decide +kernel, by decide +kernel⟩
def wds : List Str := ["size", "letters", "index", "number", "deed", "table", "move", "shape", "recording", "othersize", "otherhouse"]
def kbs (k : Kd) : List Bool := [decide (k = .size), decide (k = .letters), decide (k = .index), decide (k = .number), decide (k = .deed), decide (k = .table), decide (k = .move), decide (k = .shape), false, false, false]
/-- which words are kept -/
def kept (k : Kd) (i : Nat) : List Str := (((wds.zip (kbs k)).take i).filter (·.2)).map (·.1)
theorem kept_len (k : Kd) (i : Nat) : (kept k i).length ≤ 11 := by
  unfold kept
  rw [List.length_map]
  refine Nat.le_trans (List.length_filter_le _ _) ?_
  rw [List.length_take]
  have : (wds.zip (kbs k)).length = 11 := rfl
  omega
theorem kept_succ {k : Kd} {i : Nat} {x : Str} {b : Bool} (h1 : wds[i]? = some x) (h2 : (kbs k)[i]? = some b) : kept k (i + 1) = kept k i ++ if b then [x] else [] := by
  have hz : (wds.zip (kbs k))[i]? = some (x, b) := by
    rw [List.getElem?_zip_eq_some]
    exact ⟨h1, h2⟩
  unfold kept
  rw [List.take_succ, hz]
  cases b <;> simp
theorem kept_all {k : Kd} (h1 : k ≠ .stuck) (h2 : k ≠ .great) : kept k 11 = [k.word] := by
  cases k <;> first | rfl | exact absurd rfl h1 | exact absurd rfl h2
section
variable {X : Cx} {g : Addr} {cdg : Value} {q : Str} {e : Eca}
set_option maxHeartbeats 4000000 in
theorem heard_rest (F : Ec X.K X.mg e) (s : Shared) (H : Hp) : ∃ tr : TS, PSs (cxOf C8.CX0 X.prog X.w X.K X.mg X.base Nhd "_law_heard" (defScope sHeard) g cdg X.A X.stack s H C8.E0).nox ((defBody sHeard).drop 6) tr ∧
    ∀ (D : Ends) (o0 o1 o3 o5 o6 o7 o8 o9 : Option V) (a dd : Addr) (k : Kd) (v : V) (vb : Bool) (H1 : Hp), Ek X.K e k → k ≠ .stuck → k ≠ .great → vb = (decide (k = .size) || (decide (k = .index) || decide (k = .number))) →
      H1 a = some (ExK (.ref (e.of k)) (some dd) a) → H1 dd = some (.xd [(k.field, v)]) → (∀ p H', Same H1 H' → H' p = some (.tup [.str k.word, v]) → D.rt (.ref p) H') → tr D [o0, o1, some (.ref a), o3, some (.bl vb), o5, o6, o7, o8, o9] H1 := by
  refine ⟨_, pss_cons (ps_set (i := 5) scHeard.nd rfl (Or.inl rfl) (pe_lst (pa_cons (pe_callB (call_isHeld F.K_) (by rfl) F.isinstance (by decide +kernel) (pa_cons (pv 2) (pa_cons (pe_glob (v := .ref (e.of .size)) (by rfl) F.size rfl) pa_nil)))
      (pa_cons (pe_callB (call_isHeld F.K_) (by rfl) F.isinstance (by decide +kernel) (pa_cons (pv 2) (pa_cons (pe_glob (v := .ref (e.of .letters)) (by rfl) F.letters rfl) pa_nil)))
      (pa_cons (pe_callB (call_isHeld F.K_) (by rfl) F.isinstance (by decide +kernel) (pa_cons (pv 2) (pa_cons (pe_glob (v := .ref (e.of .index)) (by rfl) F.index rfl) pa_nil))) pa_nil)))))
    (pss_cons (ps_set (i := 5) scHeard.nd rfl (Or.inl rfl) (pe_op op_cat (pv 5) (pe_lst (pa_cons (pe_callB (call_isHeld F.K_) (by rfl) F.isinstance (by decide +kernel) (pa_cons (pv 2) (pa_cons (pe_glob (v := .ref (e.of .number)) (by rfl) F.number rfl) pa_nil)))
      (pa_cons (pe_callB (call_isHeld F.K_) (by rfl) F.isinstance (by decide +kernel) (pa_cons (pv 2) (pa_cons (pe_glob (v := .ref (e.of .deed)) (by rfl) F.deed rfl) pa_nil)))
      (pa_cons (pe_callB (call_isHeld F.K_) (by rfl) F.isinstance (by decide +kernel) (pa_cons (pv 2) (pa_cons (pe_glob (v := .ref (e.of .table)) (by rfl) F.table rfl) pa_nil))) pa_nil))))))
    (pss_cons (ps_set (i := 5) scHeard.nd rfl (Or.inl rfl) (pe_op op_cat (pv 5) (pe_lst (pa_cons (pe_callB (call_isHeld F.K_) (by rfl) F.isinstance (by decide +kernel) (pa_cons (pv 2) (pa_cons (pe_glob (v := .ref (e.of .move)) (by rfl) F.move rfl) pa_nil)))
      (pa_cons (pe_callB (call_isHeld F.K_) (by rfl) F.isinstance (by decide +kernel) (pa_cons (pv 2) (pa_cons (pe_glob (v := .ref (e.of .shape)) (by rfl) F.shape rfl) pa_nil)))
      (pa_cons (pe_callB (call_isHeld F.K_) (by rfl) F.isinstance (by decide +kernel) (pa_cons (pv 2) (pa_cons (pe_glob (v := .ref e.recd) (by rfl) F.recd rfl) pa_nil))) pa_nil))))))
    (pss_cons (ps_set (i := 5) scHeard.nd rfl (Or.inl rfl) (pe_op op_cat (pv 5) (pe_lst (pa_cons (pe_callB (call_isHeld F.K_) (by rfl) F.isinstance (by decide +kernel) (pa_cons (pv 2) (pa_cons (pe_glob (v := .ref e.osize) (by rfl) F.osize rfl) pa_nil)))
      (pa_cons (pe_callB (call_isHeld F.K_) (by rfl) F.isinstance (by decide +kernel) (pa_cons (pv 2) (pa_cons (pe_glob (v := .ref e.ohouse) (by rfl) F.ohouse rfl) pa_nil))) pa_nil)))))
    (pss_cons (ps_set (i := 6) scHeard.nd rfl (Or.inl rfl) (pe_lst (pa_cons pe_str (pa_cons pe_str (pa_cons pe_str (pa_cons pe_str (pa_cons pe_str (pa_cons pe_str (pa_cons pe_str (pa_cons pe_str (pa_cons pe_str pa_nil)))))))))))
    (pss_cons (ps_set (i := 6) scHeard.nd rfl (Or.inl rfl) (pe_op op_cat (pv 6) (pe_lst (pa_cons pe_str (pa_cons pe_str pa_nil)))))
    (pss_cons (ps_setLc (i := 7) (own := [("word", 8), ("is_so", 9)]) (g := gTup X.K 2 (gCons (gName 8) (gCons (gName 9) gNil))) rfl scHeard.nd rfl rfl (sw_true rfl rfl rfl (by decide +kernel)) (pi_zip (by rfl) F.zip (pa_cons (pv 6) (pa_cons (pv 5) pa_nil)))
      (blkOk_by (N := Nhd) (sc := defScope sHeard) (by decide +kernel)) (fun _ _ _ _ _ => pg_tup rfl (pgs_cons (pg_name (i := 8) scHeard.nd rfl (Or.inl rfl)) (pgs_cons (pg_name (i := 9) scHeard.nd rfl (Or.inl rfl)) pgs_nil)))
      (fun _ _ _ _ _ => pts_one (pt_val (pv 9))) (fun _ _ _ _ _ => pv 8))
    (pss_cons (ps_if (PW.pt (pw_or (pt_cmpR op_ne (pe_callB call_len_seq (by rfl) F.len PySem.boot_len (pa_cons (pv 7) pa_nil)) pe_int (nomark _))
        (pw_or1 (pt_not (pt_val (pe_callB (call_isHeld F.K_) (by rfl) F.isinstance (by decide +kernel) (pa_cons (pv 2) (pa_cons (pe_bltn (v := .ty "ValueError") (by rfl) F.ve (by decide +kernel) rfl) pa_nil)))))))) (pss_one (ps_ret pe_str)) pss_nil)
    (pss_cons (ps_if (PW.pt (pw_or (pt_val (pv 4)) (pw_or1 (pt_cmpR op_eq (pe_ix ix_list (pv 7) pe_int (fun _ _ => rfl)) pe_str (nomark _))))) (pss_one (ps_ret (pe_tup (pa_cons (pe_ix ix_list (pv 7) pe_int (fun _ _ => rfl)) (pa_cons (pe_fldHeld (pv 2)) pa_nil))))) pss_nil)
    (pss_cons (ps_if (pt_cmpR op_in_seq (pe_ix ix_list (pv 7) pe_int (fun _ _ => rfl)) (pe_tup (pa_cons pe_str (pa_cons pe_str (pa_cons pe_str pa_nil)))) (by rfl)) (pss_one (ps_ret (pe_tup (pa_cons (pe_ix ix_list (pv 7) pe_int (fun _ _ => rfl)) (pa_cons (pe_fldHeld (pv 2)) pa_nil))))) pss_nil)
    (pss_one (ps_ret (pe_ifExp (pt_cmpR op_eq (pe_ix ix_list (pv 7) pe_int (fun _ _ => rfl)) pe_str (nomark _)) (pe_tup (pa_cons pe_str (pa_cons (pe_fldHeld (pv 2)) pa_nil))) (pe_ix ix_list (pv 7) pe_int (fun _ _ => rfl)))))))))))))), ?_⟩
  intro D o0 o1 o3 o5 o6 o7 o8 o9 a dd k v vb H0 E_ hk1 hk2 hvb ha hda kq
  have sA : Same H0 H0 := Same.refl _
  refine ⟨_, rfl, a, _, dd, _, _, _, _, rfl, E_.held, ha, hda, ClsV.own _, E_.is_ .size, _, rfl, a, _, dd, _, _, _, _, rfl, E_.held, ha, hda, ClsV.own _, E_.is_ .letters, _, rfl, a, _, dd, _, _, _, _, rfl, E_.held, ha, hda, ClsV.own _, E_.is_ .index, (by show 3 ≤ sizeLine; decide), fun l1 hl1 => ?_⟩
  have s_l1 : Same H0 (upd H0 l1 (HO.lst [V.bl (decide (k = Kd.size)), V.bl (decide (k = Kd.letters)), V.bl (decide (k = Kd.index))])) := sameN hl1
  have e_l1 : (upd H0 l1 (HO.lst [V.bl (decide (k = Kd.size)), V.bl (decide (k = Kd.letters)), V.bl (decide (k = Kd.index))])) l1 = some (HO.lst [V.bl (decide (k = Kd.size)), V.bl (decide (k = Kd.letters)), V.bl (decide (k = Kd.index))]) := upd_same
  generalize upd H0 l1 (HO.lst [V.bl (decide (k = Kd.size)), V.bl (decide (k = Kd.letters)), V.bl (decide (k = Kd.index))]) = H1 at s_l1 e_l1 ⊢
  replace ha := s_l1 _ _ ha
  replace hda := s_l1 _ _ hda
  replace sA := sA.trans s_l1
  refine ⟨_, rfl, _, rfl, a, _, dd, _, _, _, _, rfl, E_.held, ha, hda, ClsV.own _, E_.is_ .number, _, rfl, a, _, dd, _, _, _, _, rfl, E_.held, ha, hda, ClsV.own _, E_.is_ .deed, _, rfl, a, _, dd, _, _, _, _, rfl, E_.held, ha, hda, ClsV.own _, E_.is_ .table, (by show 3 ≤ sizeLine; decide), fun l2 hl2 => ?_⟩
  have s_l2 : Same H1 (upd H1 l2 (HO.lst [V.bl (decide (k = Kd.number)), V.bl (decide (k = Kd.deed)), V.bl (decide (k = Kd.table))])) := sameN hl2
  have e_l2 : (upd H1 l2 (HO.lst [V.bl (decide (k = Kd.number)), V.bl (decide (k = Kd.deed)), V.bl (decide (k = Kd.table))])) l2 = some (HO.lst [V.bl (decide (k = Kd.number)), V.bl (decide (k = Kd.deed)), V.bl (decide (k = Kd.table))]) := upd_same
  generalize upd H1 l2 (HO.lst [V.bl (decide (k = Kd.number)), V.bl (decide (k = Kd.deed)), V.bl (decide (k = Kd.table))]) = H2 at s_l2 e_l2 ⊢
  replace ha := s_l2 _ _ ha
  replace hda := s_l2 _ _ hda
  replace e_l1 := s_l2 _ _ e_l1
  replace sA := sA.trans s_l2
  refine ⟨l1, l2, _, _, rfl, rfl, e_l1, e_l2, (by rw [sizeLine_eq]; simp), fun l3 hl3 => ?_⟩
  have s_l3 : Same H2 (upd H2 l3 (HO.lst ([V.bl (decide (k = Kd.size)), V.bl (decide (k = Kd.letters)), V.bl (decide (k = Kd.index))] ++ [V.bl (decide (k = Kd.number)), V.bl (decide (k = Kd.deed)), V.bl (decide (k = Kd.table))]))) := sameN hl3
  have e_l3 : (upd H2 l3 (HO.lst ([V.bl (decide (k = Kd.size)), V.bl (decide (k = Kd.letters)), V.bl (decide (k = Kd.index))] ++ [V.bl (decide (k = Kd.number)), V.bl (decide (k = Kd.deed)), V.bl (decide (k = Kd.table))]))) l3 = some (HO.lst ([V.bl (decide (k = Kd.size)), V.bl (decide (k = Kd.letters)), V.bl (decide (k = Kd.index))] ++ [V.bl (decide (k = Kd.number)), V.bl (decide (k = Kd.deed)), V.bl (decide (k = Kd.table))])) := upd_same
  generalize upd H2 l3 (HO.lst ([V.bl (decide (k = Kd.size)), V.bl (decide (k = Kd.letters)), V.bl (decide (k = Kd.index))] ++ [V.bl (decide (k = Kd.number)), V.bl (decide (k = Kd.deed)), V.bl (decide (k = Kd.table))])) = H3 at s_l3 e_l3 ⊢
  replace ha := s_l3 _ _ ha
  replace hda := s_l3 _ _ hda
  replace sA := sA.trans s_l3
  refine ⟨_, rfl, _, rfl, a, _, dd, _, _, _, _, rfl, E_.held, ha, hda, ClsV.own _, E_.is_ .move, _, rfl, a, _, dd, _, _, _, _, rfl, E_.held, ha, hda, ClsV.own _, E_.is_ .shape, _, rfl, a, _, dd, _, _, _, _, rfl, E_.held, ha, hda, ClsV.own _, E_.recd, (by show 3 ≤ sizeLine; decide), fun l4 hl4 => ?_⟩
  have s_l4 : Same H3 (upd H3 l4 (HO.lst [V.bl (decide (k = Kd.move)), V.bl (decide (k = Kd.shape)), V.bl false])) := sameN hl4
  have e_l4 : (upd H3 l4 (HO.lst [V.bl (decide (k = Kd.move)), V.bl (decide (k = Kd.shape)), V.bl false])) l4 = some (HO.lst [V.bl (decide (k = Kd.move)), V.bl (decide (k = Kd.shape)), V.bl false]) := upd_same
  generalize upd H3 l4 (HO.lst [V.bl (decide (k = Kd.move)), V.bl (decide (k = Kd.shape)), V.bl false]) = H4 at s_l4 e_l4 ⊢
  replace ha := s_l4 _ _ ha
  replace hda := s_l4 _ _ hda
  replace e_l3 := s_l4 _ _ e_l3
  replace sA := sA.trans s_l4
  refine ⟨l3, l4, _, _, rfl, rfl, e_l3, e_l4, (by rw [sizeLine_eq]; simp), fun l5 hl5 => ?_⟩
  have s_l5 : Same H4 (upd H4 l5 (HO.lst ([V.bl (decide (k = Kd.size)), V.bl (decide (k = Kd.letters)), V.bl (decide (k = Kd.index))] ++ [V.bl (decide (k = Kd.number)), V.bl (decide (k = Kd.deed)), V.bl (decide (k = Kd.table))] ++ [V.bl (decide (k = Kd.move)), V.bl (decide (k = Kd.shape)), V.bl false]))) := sameN hl5
  have e_l5 : (upd H4 l5 (HO.lst ([V.bl (decide (k = Kd.size)), V.bl (decide (k = Kd.letters)), V.bl (decide (k = Kd.index))] ++ [V.bl (decide (k = Kd.number)), V.bl (decide (k = Kd.deed)), V.bl (decide (k = Kd.table))] ++ [V.bl (decide (k = Kd.move)), V.bl (decide (k = Kd.shape)), V.bl false]))) l5 = some (HO.lst ([V.bl (decide (k = Kd.size)), V.bl (decide (k = Kd.letters)), V.bl (decide (k = Kd.index))] ++ [V.bl (decide (k = Kd.number)), V.bl (decide (k = Kd.deed)), V.bl (decide (k = Kd.table))] ++ [V.bl (decide (k = Kd.move)), V.bl (decide (k = Kd.shape)), V.bl false])) := upd_same
  generalize upd H4 l5 (HO.lst ([V.bl (decide (k = Kd.size)), V.bl (decide (k = Kd.letters)), V.bl (decide (k = Kd.index))] ++ [V.bl (decide (k = Kd.number)), V.bl (decide (k = Kd.deed)), V.bl (decide (k = Kd.table))] ++ [V.bl (decide (k = Kd.move)), V.bl (decide (k = Kd.shape)), V.bl false])) = H5 at s_l5 e_l5 ⊢
  replace ha := s_l5 _ _ ha
  replace hda := s_l5 _ _ hda
  replace sA := sA.trans s_l5
  refine ⟨_, rfl, _, rfl, a, _, dd, _, _, _, _, rfl, E_.held, ha, hda, ClsV.own _, E_.osize, _, rfl, a, _, dd, _, _, _, _, rfl, E_.held, ha, hda, ClsV.own _, E_.ohouse, (by show 2 ≤ sizeLine; decide), fun l6 hl6 => ?_⟩
  have s_l6 : Same H5 (upd H5 l6 (HO.lst [V.bl false, V.bl false])) := sameN hl6
  have e_l6 : (upd H5 l6 (HO.lst [V.bl false, V.bl false])) l6 = some (HO.lst [V.bl false, V.bl false]) := upd_same
  generalize upd H5 l6 (HO.lst [V.bl false, V.bl false]) = H6 at s_l6 e_l6 ⊢
  replace ha := s_l6 _ _ ha
  replace hda := s_l6 _ _ hda
  replace e_l5 := s_l6 _ _ e_l5
  replace sA := sA.trans s_l6
  refine ⟨l5, l6, _, _, rfl, rfl, e_l5, e_l6, (by rw [sizeLine_eq]; simp), fun l7 hl7 => ?_⟩
  have s_l7 : Same H6 (upd H6 l7 (HO.lst ([V.bl (decide (k = Kd.size)), V.bl (decide (k = Kd.letters)), V.bl (decide (k = Kd.index))] ++ [V.bl (decide (k = Kd.number)), V.bl (decide (k = Kd.deed)), V.bl (decide (k = Kd.table))] ++ [V.bl (decide (k = Kd.move)), V.bl (decide (k = Kd.shape)), V.bl false] ++ [V.bl false, V.bl false]))) := sameN hl7
  have e_l7 : (upd H6 l7 (HO.lst ([V.bl (decide (k = Kd.size)), V.bl (decide (k = Kd.letters)), V.bl (decide (k = Kd.index))] ++ [V.bl (decide (k = Kd.number)), V.bl (decide (k = Kd.deed)), V.bl (decide (k = Kd.table))] ++ [V.bl (decide (k = Kd.move)), V.bl (decide (k = Kd.shape)), V.bl false] ++ [V.bl false, V.bl false]))) l7 = some (HO.lst ([V.bl (decide (k = Kd.size)), V.bl (decide (k = Kd.letters)), V.bl (decide (k = Kd.index))] ++ [V.bl (decide (k = Kd.number)), V.bl (decide (k = Kd.deed)), V.bl (decide (k = Kd.table))] ++ [V.bl (decide (k = Kd.move)), V.bl (decide (k = Kd.shape)), V.bl false] ++ [V.bl false, V.bl false])) := upd_same
  generalize upd H6 l7 (HO.lst ([V.bl (decide (k = Kd.size)), V.bl (decide (k = Kd.letters)), V.bl (decide (k = Kd.index))] ++ [V.bl (decide (k = Kd.number)), V.bl (decide (k = Kd.deed)), V.bl (decide (k = Kd.table))] ++ [V.bl (decide (k = Kd.move)), V.bl (decide (k = Kd.shape)), V.bl false] ++ [V.bl false, V.bl false])) = H7 at s_l7 e_l7 ⊢
  replace ha := s_l7 _ _ ha
  replace hda := s_l7 _ _ hda
  replace sA := sA.trans s_l7
  refine ⟨(by show 9 ≤ sizeLine; decide), fun w1 hw1 => ?_⟩
  have s_w1 : Same H7 (upd H7 w1 (HO.lst [V.str "size", V.str "letters", V.str "index", V.str "number", V.str "deed", V.str "table", V.str "move", V.str "shape", V.str "recording"])) := sameN hw1
  have e_w1 : (upd H7 w1 (HO.lst [V.str "size", V.str "letters", V.str "index", V.str "number", V.str "deed", V.str "table", V.str "move", V.str "shape", V.str "recording"])) w1 = some (HO.lst [V.str "size", V.str "letters", V.str "index", V.str "number", V.str "deed", V.str "table", V.str "move", V.str "shape", V.str "recording"]) := upd_same
  generalize upd H7 w1 (HO.lst [V.str "size", V.str "letters", V.str "index", V.str "number", V.str "deed", V.str "table", V.str "move", V.str "shape", V.str "recording"]) = H8 at s_w1 e_w1 ⊢
  replace ha := s_w1 _ _ ha
  replace hda := s_w1 _ _ hda
  replace e_l7 := s_w1 _ _ e_l7
  replace sA := sA.trans s_w1
  refine ⟨_, rfl, (by show 2 ≤ sizeLine; decide), fun w2 hw2 => ?_⟩
  have s_w2 : Same H8 (upd H8 w2 (HO.lst [V.str "othersize", V.str "otherhouse"])) := sameN hw2
  have e_w2 : (upd H8 w2 (HO.lst [V.str "othersize", V.str "otherhouse"])) w2 = some (HO.lst [V.str "othersize", V.str "otherhouse"]) := upd_same
  generalize upd H8 w2 (HO.lst [V.str "othersize", V.str "otherhouse"]) = H9 at s_w2 e_w2 ⊢
  replace ha := s_w2 _ _ ha
  replace hda := s_w2 _ _ hda
  replace e_l7 := s_w2 _ _ e_l7
  replace e_w1 := s_w2 _ _ e_w1
  replace sA := sA.trans s_w2
  refine ⟨w1, w2, _, _, rfl, rfl, e_w1, e_w2, (by rw [sizeLine_eq]; simp), fun w3 hw3 => ?_⟩
  have s_w3 : Same H9 (upd H9 w3 (HO.lst ([V.str "size", V.str "letters", V.str "index", V.str "number", V.str "deed", V.str "table", V.str "move", V.str "shape", V.str "recording"] ++ [V.str "othersize", V.str "otherhouse"]))) := sameN hw3
  have e_w3 : (upd H9 w3 (HO.lst ([V.str "size", V.str "letters", V.str "index", V.str "number", V.str "deed", V.str "table", V.str "move", V.str "shape", V.str "recording"] ++ [V.str "othersize", V.str "otherhouse"]))) w3 = some (HO.lst ([V.str "size", V.str "letters", V.str "index", V.str "number", V.str "deed", V.str "table", V.str "move", V.str "shape", V.str "recording"] ++ [V.str "othersize", V.str "otherhouse"])) := upd_same
  generalize upd H9 w3 (HO.lst ([V.str "size", V.str "letters", V.str "index", V.str "number", V.str "deed", V.str "table", V.str "move", V.str "shape", V.str "recording"] ++ [V.str "othersize", V.str "otherhouse"])) = HA at s_w3 e_w3 ⊢
  replace ha := s_w3 _ _ ha
  replace hda := s_w3 _ _ hda
  replace e_l7 := s_w3 _ _ e_l7
  replace sA := sA.trans s_w3
  have eW : HA w3 = some (.lst (wds.map V.str)) := e_w3
  have eK : HA l7 = some (.lst ((kbs k).map V.bl)) := e_l7
  refine ⟨_, rfl, _, rfl, w3, l7, _, _, rfl, SqL.of eW, SqL.of eK, fun R hR => lc_zipL (K := X.K) (a := w3) (b := l7) (xs := wds.map V.str) (ys := (kbs k).map V.bl) rfl (fun i H' => Same HA H' ∧ H' R = some (.lst ((kept k i).map V.str))) ⟨sameN hR, by rw [upd_same]; rfl⟩
    (fun i H' _ ⟨s, _⟩ => ⟨SqL.of (s _ _ eW), SqL.of (s _ _ eK)⟩) ?_ ?_⟩
  · rintro i x y T H' hx hy ⟨s2, e2⟩ hT
    rw [List.getElem?_map, Option.map_eq_some_iff] at hx hy
    obtain ⟨x, hx, rfl⟩ := hx
    obtain ⟨y, hy, rfl⟩ := hy
    have ks := kept_succ hx hy
    have s3 : Same H' (upd H' T (.tup [.str x, .bl y])) := sameN hT
    have eT : (upd H' T (.tup [.str x, .bl y])) T = some (.tup [.str x, .bl y]) := upd_same
    generalize upd H' T (.tup [.str x, .bl y]) = HB at s3 eT ⊢
    refine ⟨T, _, rfl, SqT.of eT, rfl, _, _, rfl, _, _, rfl, rfl, rfl, ?_⟩
    refine ⟨_, rfl, _, rfl, ?_⟩
    cases y with
    | true =>
      refine iteT ⟨_, rfl, _, s3 _ _ e2, ?_, fun b o q => ?_, ?_⟩
      · have := kept_len k i
        rw [List.length_map, sizeLine_eq]
        omega
      · rw [upd_ne (ne_of_none q hR)]
        exact s3 _ _ (s2 _ _ q)
      · rw [upd_same, ks]
        simp
    | false =>
      refine iteF ⟨s2.trans s3, ?_⟩
      rw [ks]
      simpa using s3 _ _ e2
  · rintro HB ⟨s2, e2⟩
    rw [show ((wds.map V.str).length) = 11 from rfl, kept_all hk1 hk2] at e2
    replace sA := sA.trans s2
    replace ha := s2 _ _ ha
    replace hda := s2 _ _ hda
    have eR : HB R = some (.lst [.str k.word]) := e2
    have ve : k.ve = true := by
      cases k <;> first | rfl | exact absurd rfl hk1 | exact absurd rfl hk2
    refine ⟨_, rfl, R, _, rfl, .inl (SqL.of eR), rfl, _, rfl, iteF ⟨_, rfl, a, _, dd, _, _, _, _, rfl, E_.held, ha, hda, ClsV.ty _, E_.ve, _, rfl, ?_⟩⟩
    rw [ve]
    refine iteF ⟨_, rfl, _, rfl, ?_⟩
    have fin : ∀ (p : Addr) (H' : Hp) (h : H' p = none), Same HB H' → D.rt (.ref p) (upd H' p (.tup [.str k.word, v])) := fun p H' h s => kq p _ ((sA.trans s).trans (sameN h)) upd_same
    subst hvb
    cases k
    case size =>
      exact iteT ⟨_, rfl, R, _, _, _, rfl, rfl, SqL.of (eR), at_of (j := 0) rfl rfl, _, rfl, a, _, dd, _, v, rfl, E_.held, E_.no, ha, hda, look_one _ _, (by show 2 ≤ sizeLine; decide), fun p hp => fin p _ hp (Same.refl _)⟩
    case letters =>
      refine iteF ⟨_, rfl, R, _, _, _, rfl, rfl, SqL.of (eR), at_of (j := 0) rfl rfl, rfl, _, rfl, ?_⟩
      rw [decide_eq_false (by decide +kernel)]
      refine iteF ⟨_, rfl, R, _, _, _, rfl, rfl, SqL.of (eR), at_of (j := 0) rfl rfl, (by show 3 ≤ sizeLine; decide), fun q hq => ?_⟩
      have sQ : Same HB (upd HB q (.tup [.str "letters", .str "deed", .str "move"])) := sameN hq
      refine ⟨q, _, rfl, .inr (SqT.of upd_same), rfl, rfl, _, rfl, ?_⟩
      rw [if_neg Bool.false_ne_true]
      rw [show inV (V.str (Kd.word .letters)) [V.str "letters", V.str "deed", V.str "move"] = true by decide +kernel]
      exact iteT ⟨_, rfl, R, _, _, _, rfl, rfl, SqL.of (sQ _ _ eR), at_of (j := 0) rfl rfl, _, rfl, a, _, dd, _, v, rfl, E_.held, E_.no, sQ _ _ ha, sQ _ _ hda, look_one _ _, (by show 2 ≤ sizeLine; decide), fun p hp => fin p _ hp sQ⟩
    case index =>
      exact iteT ⟨_, rfl, R, _, _, _, rfl, rfl, SqL.of (eR), at_of (j := 0) rfl rfl, _, rfl, a, _, dd, _, v, rfl, E_.held, E_.no, ha, hda, look_one _ _, (by show 2 ≤ sizeLine; decide), fun p hp => fin p _ hp (Same.refl _)⟩
    case number =>
      exact iteT ⟨_, rfl, R, _, _, _, rfl, rfl, SqL.of (eR), at_of (j := 0) rfl rfl, _, rfl, a, _, dd, _, v, rfl, E_.held, E_.no, ha, hda, look_one _ _, (by show 2 ≤ sizeLine; decide), fun p hp => fin p _ hp (Same.refl _)⟩
    case deed =>
      refine iteF ⟨_, rfl, R, _, _, _, rfl, rfl, SqL.of (eR), at_of (j := 0) rfl rfl, rfl, _, rfl, ?_⟩
      rw [decide_eq_false (by decide +kernel)]
      refine iteF ⟨_, rfl, R, _, _, _, rfl, rfl, SqL.of (eR), at_of (j := 0) rfl rfl, (by show 3 ≤ sizeLine; decide), fun q hq => ?_⟩
      have sQ : Same HB (upd HB q (.tup [.str "letters", .str "deed", .str "move"])) := sameN hq
      refine ⟨q, _, rfl, .inr (SqT.of upd_same), rfl, rfl, _, rfl, ?_⟩
      rw [if_neg Bool.false_ne_true]
      rw [show inV (V.str (Kd.word .deed)) [V.str "letters", V.str "deed", V.str "move"] = true by decide +kernel]
      exact iteT ⟨_, rfl, R, _, _, _, rfl, rfl, SqL.of (sQ _ _ eR), at_of (j := 0) rfl rfl, _, rfl, a, _, dd, _, v, rfl, E_.held, E_.no, sQ _ _ ha, sQ _ _ hda, look_one _ _, (by show 2 ≤ sizeLine; decide), fun p hp => fin p _ hp sQ⟩
    case table =>
      refine iteF ⟨_, rfl, R, _, _, _, rfl, rfl, SqL.of (eR), at_of (j := 0) rfl rfl, rfl, _, rfl, ?_⟩
      rw [decide_eq_false (by decide +kernel)]
      refine iteF ⟨_, rfl, R, _, _, _, rfl, rfl, SqL.of (eR), at_of (j := 0) rfl rfl, (by show 3 ≤ sizeLine; decide), fun q hq => ?_⟩
      have sQ : Same HB (upd HB q (.tup [.str "letters", .str "deed", .str "move"])) := sameN hq
      refine ⟨q, _, rfl, .inr (SqT.of upd_same), rfl, rfl, _, rfl, ?_⟩
      rw [if_neg Bool.false_ne_true]
      rw [show inV (V.str (Kd.word .table)) [V.str "letters", V.str "deed", V.str "move"] = false by decide +kernel]
      refine iteF ⟨_, rfl, R, _, _, _, rfl, rfl, SqL.of (sQ _ _ eR), at_of (j := 0) rfl rfl, rfl, _, rfl, ?_⟩
      rw [decide_eq_true (show V.str (Kd.word .table) = V.str "table" from rfl)]
      exact iteT ⟨_, rfl, a, _, dd, _, v, rfl, E_.held, E_.no, sQ _ _ ha, sQ _ _ hda, look_one _ _, (by show 2 ≤ sizeLine; decide), fun p hp => fin p _ hp sQ⟩
    case move =>
      refine iteF ⟨_, rfl, R, _, _, _, rfl, rfl, SqL.of (eR), at_of (j := 0) rfl rfl, rfl, _, rfl, ?_⟩
      rw [decide_eq_false (by decide +kernel)]
      refine iteF ⟨_, rfl, R, _, _, _, rfl, rfl, SqL.of (eR), at_of (j := 0) rfl rfl, (by show 3 ≤ sizeLine; decide), fun q hq => ?_⟩
      have sQ : Same HB (upd HB q (.tup [.str "letters", .str "deed", .str "move"])) := sameN hq
      refine ⟨q, _, rfl, .inr (SqT.of upd_same), rfl, rfl, _, rfl, ?_⟩
      rw [if_neg Bool.false_ne_true]
      rw [show inV (V.str (Kd.word .move)) [V.str "letters", V.str "deed", V.str "move"] = true by decide +kernel]
      exact iteT ⟨_, rfl, R, _, _, _, rfl, rfl, SqL.of (sQ _ _ eR), at_of (j := 0) rfl rfl, _, rfl, a, _, dd, _, v, rfl, E_.held, E_.no, sQ _ _ ha, sQ _ _ hda, look_one _ _, (by show 2 ≤ sizeLine; decide), fun p hp => fin p _ hp sQ⟩
    case shape =>
      refine iteF ⟨_, rfl, R, _, _, _, rfl, rfl, SqL.of (eR), at_of (j := 0) rfl rfl, rfl, _, rfl, ?_⟩
      rw [decide_eq_true (show V.str (Kd.word .shape) = V.str "shape" from rfl)]
      exact iteT ⟨_, rfl, R, _, _, _, rfl, rfl, SqL.of (eR), at_of (j := 0) rfl rfl, _, rfl, a, _, dd, _, v, rfl, E_.held, E_.no, ha, hda, look_one _ _, (by show 2 ≤ sizeLine; decide), fun p hp => fin p _ hp (Same.refl _)⟩
    case stuck =>
      exact absurd rfl hk1
    case great =>
      exact absurd rfl hk2
set_option maxHeartbeats 4000000 in
theorem heard_gives (F : Ec X.K X.mg e) : GivesTo X Nhd "_law_heard" (defScope sHeard) g cdg (defBody sHeard) "call" q (TTheard X.K e) := by
  intro f c' s H Q tl act hc h
  let X1 : Cx := (cxOf C8.CX0 X.prog X.w X.K X.mg X.base Nhd "_law_heard" (defScope sHeard) g cdg X.A X.stack s H C8.E0).nox
  obtain ⟨tr, htr, hrest⟩ := heard_rest (g := g) (cdg := cdg) F s H
  refine ⟨_, pss_cons (ps_par (i := 1) (j := 2) (by rfl) scHeard.nd rfl rfl (by decide) rfl rfl (pa_cons (pe_lst pa_nil) (pa_cons pe_non pa_nil)) (by rfl))
    (pss_cons (ps_try_hold (X := X1) (i := 3) (c1 := .ref e.lift) (c2 := .ref (e.of .stuck)) (c3 := .ref (e.of .great))
      (tb := fun W D σ H => ∃ Ech : XK, (∀ cls d σ' H', σ'.length = 10 → Ech cls d H' → W cls d σ' H') ∧ σ[0]? = some (some (.ref f)) ∧ H c' = some (CodeO c' q) ∧ ∃ Qm : VK, tl Ech H Qm ∧ ∀ v H1, Qm v H1 → [v].length ≤ sizeLine ∧ ∀ p, H1 p = none → D.nx (σ.set 1 (some (.ref p))) (upd H1 p (.lst [v])))
      rfl rfl rfl scHeard.nd rfl rfl ⟨rfl, F.lift⟩ ⟨rfl, F.stuck⟩ ⟨rfl, F.great⟩ (fun W pn xe tk _ => ?body) (fun a oe cls d pn _ _ => pss_one (ps_set (i := 2) scHeard.nd rfl (Or.inl rfl) (pv 3))))
    (pss_cons (ps_if (pt_cmpR op_isN (pv 2) pe_non (nomark _)) (pss_one (ps_ret (pv 1))) pss_nil)
    (pss_cons (ps_if (pt_val (pe_callB (call_isHeld F.K_) (by rfl) F.isinstance (by decide +kernel) (pa_cons (pv 2) (pa_cons (pe_glob (v := .ref (e.of .stuck)) (by rfl) F.stuck rfl) pa_nil))))
      (pss_one (ps_ret (pe_ifExp (pt_not (pt_val (pe_callB (call_isHeld F.K_) (by rfl) F.isinstance (by decide +kernel) (pa_cons (pv 2) (pa_cons (pe_bltn (v := .ty "ValueError") (by rfl) F.ve (by decide +kernel) rfl) pa_nil)))))
        (pe_tup (pa_cons pe_str (pa_cons (pe_fldHeld (pv 2)) pa_nil))) pe_str))) pss_nil)
    (pss_cons (ps_if (pt_val (pe_callB (call_isHeld F.K_) (by rfl) F.isinstance (by decide +kernel) (pa_cons (pv 2) (pa_cons (pe_glob (v := .ref (e.of .great)) (by rfl) F.great rfl) pa_nil))))
      (pss_one (ps_ret (pe_ifExp (pt_not (pt_val (pe_callB (call_isHeld F.K_) (by rfl) F.isinstance (by decide +kernel) (pa_cons (pv 2) (pa_cons (pe_bltn (v := .ty "ValueError") (by rfl) F.ve (by decide +kernel) rfl) pa_nil)))))
        (pe_tup (pa_cons pe_str (pa_cons (pe_fldHeld (pv 2)) pa_nil))) pe_str))) pss_nil)
    (pss_cons (ps_set (i := 4) scHeard.nd rfl (Or.inl rfl) (pe_or (pe_callB (call_isHeld F.K_) (by rfl) F.isinstance (by decide +kernel) (pa_cons (pv 2) (pa_cons (pe_glob (v := .ref (e.of .size)) (by rfl) F.size rfl) pa_nil)))
      (pe_or (pe_callB (call_isHeld F.K_) (by rfl) F.isinstance (by decide +kernel) (pa_cons (pv 2) (pa_cons (pe_glob (v := .ref (e.of .index)) (by rfl) F.index rfl) pa_nil)))
      (pe_one (pe_callB (call_isHeld F.K_) (by rfl) F.isinstance (by decide +kernel) (pa_cons (pv 2) (pa_cons (pe_glob (v := .ref (e.of .number)) (by rfl) F.number rfl) pa_nil)))))))
    htr))))), ?_⟩
  case body =>
    refine ⟨fun pins s' σ H' D I h' => ?_⟩
    obtain ⟨Ech, hW, h1, h2, Qm, h3, h4⟩ := h'
    refine PSs.run (X := X1.tr pn xe) (pss_one (ps_set (i := 1) scHeard.nd rfl (Or.inl rfl) (pe_lst (pa_cons (pe_weak (act (fun cls d σ H => σ.length = 10 → W cls d σ H) pn xe Ech _ _ (takes_len tk) fun cls d σ' H' h z => hW cls d σ' H' z h)) pa_nil)))) pins s' σ H' D I ?_
    exact ⟨Qm, ⟨h1, h2, h3⟩, h4⟩
  refine ⟨Nat.zero_le _, fun l hl => ⟨_, _, rfl, Rf X.K e Q, fun cls d σ' H' hσ hR => ?_, rfl, ?_, _, h l hl, fun v H1 hv => ⟨(by show 1 ≤ sizeLine; decide), fun p hp => ?_⟩⟩⟩
  · -- a refusal
    obtain ⟨k, dd, v, E_, rfl, rfl, hd, kq⟩ := hR
    match σ', hσ with
    | [o0, o1, o2, o3, o4, o5, o6, o7, o8, o9], _ =>
    refine ⟨E_.exm, fun a na => ⟨_, rfl, ?_⟩⟩
    have hda : (upd H' a (ExK (.ref (e.of k)) (some dd) a)) dd = some (.xd [(k.field, v)]) := by
      rw [upd_ne (ne_of_none hd na)]
      exact hd
    have ha : (upd H' a (ExK (.ref (e.of k)) (some dd) a)) a = some (ExK (.ref (e.of k)) (some dd) a) := upd_same
    have s1 : Same H' (upd H' a (ExK (.ref (e.of k)) (some dd) a)) := fun b o q => by
      rw [upd_ne (ne_of_none q na)]
      exact q
    refine ⟨_, rfl, rfl, _, rfl, ?_⟩
    rw [decide_eq_false (by intro z; cases z)]
    refine iteF ⟨_, rfl, a, _, dd, _, _, _, _, rfl, E_.held, ha, hda, ClsV.own _, E_.is_ .stuck, _, rfl, ?_⟩
    by_cases hk1 : k = .stuck
    · subst hk1
      refine iteT ⟨_, rfl, a, _, dd, _, _, _, _, rfl, E_.held, ha, hda, ClsV.ty _, E_.ve, _, rfl, iteT ?_⟩
      exact ⟨_, rfl, a, _, dd, _, v, rfl, E_.held, E_.no, ha, hda, look_one _ _, (by show 2 ≤ sizeLine; decide), fun p hp => kq p _ (s1.trans (sameN hp)) upd_same⟩
    rw [decide_eq_false hk1]
    refine iteF ⟨_, rfl, a, _, dd, _, _, _, _, rfl, E_.held, ha, hda, ClsV.own _, E_.is_ .great, _, rfl, ?_⟩
    by_cases hk2 : k = .great
    · subst hk2
      refine iteT ⟨_, rfl, a, _, dd, _, _, _, _, rfl, E_.held, ha, hda, ClsV.ty _, E_.ve, _, rfl, iteT ?_⟩
      exact ⟨_, rfl, a, _, dd, _, v, rfl, E_.held, E_.no, ha, hda, look_one _ _, (by show 2 ≤ sizeLine; decide), fun p hp => kq p _ (s1.trans (sameN hp)) upd_same⟩
    rw [decide_eq_false hk2]
    refine iteF ?_
    -- one of the ValueErrors
    refine ⟨_, rfl, a, _, dd, _, _, _, _, rfl, E_.held, ha, hda, ClsV.own _, E_.is_ .size, _, rfl, ite2 (fun h1 => ?_) fun h1 => ⟨_, rfl, a, _, dd, _, _, _, _, rfl, E_.held, ha, hda, ClsV.own _, E_.is_ .index, _, rfl, ite2 (fun h2 => ?_) fun h2 => ⟨_, rfl, a, _, dd, _, _, _, _, rfl, E_.held, ha, hda, ClsV.own _, E_.is_ .number, ?_⟩⟩⟩
    · exact hrest _ _ _ _ _ _ _ _ _ a dd k v _ _ E_ hk1 hk2 (by rw [h1]; rfl) ha hda fun p H2 s2 e2 => kq p H2 (s1.trans s2) e2
    · exact hrest _ _ _ _ _ _ _ _ _ a dd k v _ _ E_ hk1 hk2 (by rw [h2]; simp) ha hda fun p H2 s2 e2 => kq p H2 (s1.trans s2) e2
    · exact hrest _ _ _ _ _ _ _ _ _ a dd k v _ _ E_ hk1 hk2 (by rw [Bool.eq_false_iff.mpr h1, Bool.eq_false_iff.mpr h2]; rfl) ha hda fun p H2 s2 e2 => kq p H2 (s1.trans s2) e2
  · rw [upd_ne (ne_of_none hc hl)]
    exact hc
  · exact ⟨_, rfl, rfl, _, rfl, iteT ⟨_, rfl, hv p hp⟩⟩
end
end Lw
/-! Rx. Rows of deeds: done, or stuck; refused by Stuck. -/
namespace LwM
/-- the letters as far as a row can be done, and where it is stuck -/
def stL : List Int → List Int → Nat → List Int × Option Nat
  | [], l, _ => (l, none)
  | d :: r, l, n => match doneL d l with
    | none => (l, some n)
    | some l' => stL r l' (n + 1)
theorem stL_app : ∀ (A B l c : List Int) (n : Nat), runL A l = some c → stL (A ++ B) l n = stL B c (n + A.length)
  | [], B, l, c, n, h => by
    cases h
    rfl
  | d :: A, B, l, c, n, h => by
    obtain ⟨b, h1, h2⟩ := runL_split h
    show (match doneL d l with | none => (l, some n) | some l' => stL (A ++ B) l' (n + 1)) = _
    rw [h1]
    show stL (A ++ B) b (n + 1) = _
    rw [stL_app A B b c (n + 1) h2]
    congr 1
    simp only [List.length_cons]
    omega
theorem stL_stuck {row l c : List Int} {i : Nat} {d : Int} (h : runL (row.take i) l = some c) (hi : row[i]? = some d) (hd : doneL d c = none) : stL row l 0 = (c, some i) := by
  have hl := (List.getElem?_eq_some_iff.mp hi).1
  have e := List.take_append_drop i row
  rw [List.drop_eq_getElem_cons hl, (List.getElem?_eq_some_iff.mp hi).2] at e
  rw [← e, stL_app _ _ _ _ _ h]
  show (match doneL d c with | none => (c, some _) | some l' => _) = _
  rw [hd]
  show (c, some _) = (c, some i)
  rw [List.length_take]
  congr 2
  omega
theorem stL_end {row l z : List Int} (h : runL row l = some z) : stL row l 0 = (z, none) := by
  have q := stL_app row [] l z 0 h
  rw [List.append_nil] at q
  rw [q]
  rfl
theorem runL_snoc {A l c r : List Int} {d : Int} (h : runL A l = some c) (hd : doneL d c = some r) : runL (A ++ [d]) l = some r := by
  rw [runL_app, h]
  show runL [d] c = some r
  rw [runL_cons hd]
  rfl
end LwM
namespace Lw
open PySem L2 LwE LwM
/-- a place, or None -/
def plV : Option Nat → V
  | none => .non
  | some n => .int (n : Nat)
section
variable {P : Program} {w : World} {K : PySem.W.Frag} {mg : Str → Option Value} {base : Heap}
/-! ### the errors -/
/-- the field noted -/
def spENote (C : Addr) (f : Str) : Sp := fun vs H Q _ => ∃ (a : Addr) (x : V), vs = [.ref a, x] ∧ H a = some (exo a C none) ∧ ∀ dx, H dx = none → dx ≠ a → Q .non (upd (upd H dx (exd dx [(f, x)])) a (exo a C (some dx)))
theorem raise_read {C : Addr} {f : Str} {H : Hp} {x : V} {Q : XK} (h : ∀ d, H d = none → Q (.ref C) (some d) (upd H d (.xd [(f, x)]))) : [x].length ≤ 1000 ∧ ∀ a, H a = none → spENote C f (.ref a :: ([x] ++ [])) (upd H a (exo a C none))
    (fun v H2 => v = .non ∧ ∃ (d : Addr) (fs : List (Str × V)), H2 a = some (exo a C (some d)) ∧ H2 d = some (exd d fs) ∧ H d = none ∧ Q (.ref C) (some d) (upd (del H2 a) d (.xd fs))) (fun _ _ _ => False) := by
  refine ⟨by show 1 ≤ 1000; decide, fun a ha => ⟨a, x, rfl, upd_same, fun dx hdx ne => ⟨rfl, dx, [(f, x)], upd_same, ?_, ?_, ?_⟩⟩⟩
  · rw [upd_ne ne, upd_same]
  · rw [upd_ne ne] at hdx
    exact hdx
  · have hd : H dx = none := by
      rw [upd_ne ne] at hdx
      exact hdx
    have e : upd (del (upd (upd (upd H a (exo a C none)) dx (exd dx [(f, x)])) a (exo a C (some dx))) a) dx (.xd [(f, x)]) = upd H dx (.xd [(f, x)]) := by
      funext b
      by_cases h1 : b = dx
      · rw [h1, upd_same, upd_same]
      · rw [upd_ne h1, upd_ne h1]
        by_cases h2 : b = a
        · rw [h2, del_same, ha]
        · rw [del_ne h2, upd_ne h2, upd_ne h1, upd_ne h2]
    rw [e]
    exact h dx hd
/-- what is known of an error's class -/
structure Er (P : Program) (w : World) (K : PySem.W.Frag) (mg : Str → Option Value) (base : Heap) (x : Str) (C : Addr) (B newId initId : String) (bmB : List Value) (f : Str) (fI : Addr) (dI : FuncData) : Prop where
  Fa : ExcBaseFacts B newId initId bmB
  T : OexG K C newId bmB
  g : mg x = some (.ref C)
  iC : PySem.W.findIn K (.ref C) "__init__" = some (some (.ref fI))
  tI : PySem.W.typeIn K (.ref fI) = some (.type "function")
  ok : FnOk P w K mg base CX0 1 fI dI ["self", f] (spENote C f)
  b : Binds K dI ["self", f] []
theorem pass00 {X : Cx} : Passes CX0 X (fun _ _ _ => False) := fun _ _ _ _ _ _ _ h => h.elim

theorem scEStuck : FnScope ["self", "place"] ["self", "place"] (defScope sEStuck) := ⟨rfl, rfl, rfl, by decide +kernel, rfl, by decide +kernel, by decide +kernel⟩
theorem ok_estuck {fI C : Addr} {dI : FuncData} (F : Fun K "__init__" "Stuck.__init__" sEStuck fI dI) (T : OexG K C "RuntimeError.__new__" bmR) (no : PySem.W.findIn K (.ref C) "place" = some none) : FnOk P w K mg base CX0 1 fI dI ["self", "place"] (spENote C "place") := by
  refine F.ok scEStuck (fun vs H Q E h => ?_) (fun cdv A outer s H vs Q E hr h => ?_)
  · obtain ⟨a, x, rfl, _⟩ := h
    rfl
  · obtain ⟨a, x, rfl, ha, k⟩ := h
    exact ⟨_, pss_one (ps_note rfl (pv 0) (pv 1)), _, rfl, _, rfl, a, C, _, _, rfl, T, no, ha, fun dx h1 h2 => k dx h1 h2⟩
/-- a refusal by the class at C, its field f set to v -/
def Ref1 (C : Addr) (f : Str) (v : V) (H : Hp) (E : XK) : Prop := ∀ H', Same H H' → ∀ d, H' d = none → E (.ref C) (some d) (upd H' d (.xd [(f, v)]))
theorem Ref1.same {C : Addr} {f : Str} {v : V} {H H' : Hp} {E : XK} (h : Ref1 C f v H E) (s : Same H H') : Ref1 C f v H' E := fun H2 s2 d hd => h H2 (s.trans s2) d hd
/-! check_row, over a list or a tuple -/
def spCkRowS : Sp := fun vs H Q _ => ∃ (size : Int) (r : Addr) (row : List Int), vs = [.int size, .ref r] ∧ Seq H r row ∧ row.length ≤ 1000 ∧ (∀ d ∈ row, Deed size d) ∧ ∀ H', Same H H' → Q .non H'
theorem ok_ckrowS {f f1 f2 : Addr} {fd fd1 fd2 : FuncData} (B : Bare mg) (N : Nums2 mg) (F : Df K mg "check_row" sCkRow f fd) (F1 : Df K mg "is_listing" sListing f1 fd1) (b1 : Binds K fd1 ["value"] []) (G1 : FnOk P w K mg base CX0 1 f1 fd1 ["value"] spListing)
    (F2 : Df K mg "is_deed" sIsDeed f2 fd2) (b2 : Binds K fd2 ["size", "value"] []) (G2 : FnOk P w K mg base CX0 3 f2 fd2 ["size", "value"] spIsDeed) : FnOk P w K mg base CX0 4 f fd ["size", "row"] spCkRowS := by
  refine F.fn.ok scCkRow (fun vs H Q E h => ?_) (fun cdv A outer s H vs Q E hr h => ?_)
  · obtain ⟨size, r, row, rfl, _⟩ := h
    rfl
  · obtain ⟨size, r, row, rfl, hq, hlen, hd, k⟩ := h
    obtain ⟨t3, e3⟩ := N.mostD
    have hr1 : Room 1 _ := hr.mono (by decide)
    rcases hq with hq | hq
    · refine ⟨_, pss_cons (ps_if (PW.pt (pw_or (pt_not (pt_val (pe_call G1 hr1 (by rfl) F1.g F1.fn.kp b1 .nil pass0 (pa_cons (pv 1) pa_nil))))
          (pw_or1 (pt_cmpR op_gt (pe_callB call_len_seq (by rfl) B.len PySem.boot_len (pa_cons (pv 1) pa_nil)) (pe_glob (v := .int 1000) (by rfl) e3 ⟨_, rfl⟩) (nomark _))))) pss_never pss_nil)
        (pss_one (ps_for PassesOwn.never rfl (pi_enum (by rfl) B.enumerate (pa_cons (pv 1) pa_nil)) (pg_tup rfl (pgs_cons (pg_name (i := 2) scCkRow.nd rfl (Or.inl rfl)) (pgs_cons (pg_name (i := 3) scCkRow.nd rfl (Or.inl rfl)) pgs_nil)))
          (pss_one (ps_if (pt_not (pt_val (pe_call G2 hr (by rfl) F2.g F2.fn.kp b2 .nil pass0 (pa_cons (pv 0) (pa_cons (pv 3) pa_nil))))) pss_never pss_nil)))), ?_⟩
      refine ⟨_, rfl, r, rfl, .inl ⟨_, hq⟩, fun H1 s1 => ⟨true, rfl, iteF ?_⟩⟩
      refine ⟨_, rfl, r, _, rfl, .inl (SqL.of (s1 _ _ hq)), _, _, rfl, rfl, _, rfl, ?_⟩
      rw [decide_eq_false (show ¬ ((1000 : Int) < (((nums row).length : Nat) : Int)) by rw [List.length_map]; omega)]
      refine iteF ?_
      refine ⟨_, rfl, r, _, rfl, SqL.of (s1 _ _ hq), for_enL (K := K) (a := r) (xs := nums row) (fun i σ H2 => ∃ v2 v3 : Option V, σ = [some (.int size), some (.ref r), v2, v3] ∧ Same H H2) ⟨_, _, rfl, s1⟩
        (fun i σ H2 _ ⟨_, _, _, s2⟩ => SqL.of (s2 _ _ hq)) ?_ ?_⟩
      · rintro i x T σ H2 hx ⟨v2, v3, rfl, s2⟩ hT
        obtain ⟨z, rfl, _, hz⟩ := nums_get hx
        refine ⟨T, _, rfl, SqT.of upd_same, rfl, _, _, rfl, _, _, rfl, rfl, ?_⟩
        exact ⟨_, rfl, _, rfl, size, z, rfl, hd z hz, true, rfl, iteF ⟨_, _, rfl, s2.trans (same_new hT)⟩⟩
      · rintro σ H2 ⟨v2, v3, rfl, s2⟩
        exact k H2 s2
    · refine ⟨_, pss_cons (ps_if (PW.pt (pw_or (pt_not (pt_val (pe_call G1 hr1 (by rfl) F1.g F1.fn.kp b1 .nil pass0 (pa_cons (pv 1) pa_nil))))
          (pw_or1 (pt_cmpR op_gt (pe_callB call_len_seq (by rfl) B.len PySem.boot_len (pa_cons (pv 1) pa_nil)) (pe_glob (v := .int 1000) (by rfl) e3 ⟨_, rfl⟩) (nomark _))))) pss_never pss_nil)
        (pss_one (ps_for PassesOwn.never rfl (pi_enT (by rfl) B.enumerate (pa_cons (pv 1) pa_nil)) (pg_tup rfl (pgs_cons (pg_name (i := 2) scCkRow.nd rfl (Or.inl rfl)) (pgs_cons (pg_name (i := 3) scCkRow.nd rfl (Or.inl rfl)) pgs_nil)))
          (pss_one (ps_if (pt_not (pt_val (pe_call G2 hr (by rfl) F2.g F2.fn.kp b2 .nil pass0 (pa_cons (pv 0) (pa_cons (pv 3) pa_nil))))) pss_never pss_nil)))), ?_⟩
      refine ⟨_, rfl, r, rfl, .inr ⟨_, hq⟩, fun H1 s1 => ⟨true, rfl, iteF ?_⟩⟩
      refine ⟨_, rfl, r, _, rfl, .inr (SqT.of (s1 _ _ hq)), _, _, rfl, rfl, _, rfl, ?_⟩
      rw [decide_eq_false (show ¬ ((1000 : Int) < (((nums row).length : Nat) : Int)) by rw [List.length_map]; omega)]
      refine iteF ?_
      refine ⟨_, rfl, r, _, rfl, SqT.of (s1 _ _ hq), for_enT (K := K) (a := r) (xs := nums row) (fun i σ H2 => ∃ v2 v3 : Option V, σ = [some (.int size), some (.ref r), v2, v3] ∧ Same H H2) ⟨_, _, rfl, s1⟩
        (fun i σ H2 _ ⟨_, _, _, s2⟩ => SqT.of (s2 _ _ hq)) ?_ ?_⟩
      · rintro i x T σ H2 hx ⟨v2, v3, rfl, s2⟩ hT
        obtain ⟨z, rfl, _, hz⟩ := nums_get hx
        refine ⟨T, _, rfl, SqT.of upd_same, rfl, _, _, rfl, _, _, rfl, rfl, ?_⟩
        exact ⟨_, rfl, _, rfl, size, z, rfl, hd z hz, true, rfl, iteF ⟨_, _, rfl, s2.trans (same_new hT)⟩⟩
      · rintro σ H2 ⟨v2, v3, rfl, s2⟩
        exact k H2 s2
/-! followed -/
def spFollowedX (C D : Addr) : Sp := fun vs H Q _ => ∃ (a r : Addr) (size : Int) (l row : List Int), vs = [.ref a, .ref r] ∧ WAt C H a size l ∧ Seq H r row ∧ row.length ≤ 1000 ∧ (∀ d ∈ row, Deed size d) ∧
  ∀ q x hd fr lw fs los H', Same H H' → H' q = some (.tup [.ref x, plV (stL row l 0).2]) → Wk D H' x hd fr lw size (stL row l 0).1 fs los → Q (.ref q) H'
theorem ok_followedX {f fW fG C D : Addr} {fd fdW fdG : FuncData} (B : Bare mg) (T2 : Cwk K mg D) (F : Df K mg "followed" sFollowed f fd) (I : Wi_ P w K mg base C D fW fdW) (G : Go_ P w K mg base D fG fdG) :
    FnOk P w K mg base CX0 4 f fd ["word", "row"] (spFollowedX C D) := by
  refine F.fn.ok scFollowed (fun vs H Q E h => ?_) (fun cdv A outer s H vs Q E hr h => ?_)
  · obtain ⟨a, r, size, l, row, rfl, _⟩ := h
    rfl
  · obtain ⟨a, r, size, l, row, rfl, W, hq, hlen, hd, k⟩ := h
    have hr2 : Room 2 _ := hr.mono (by decide)
    rcases hq with hq | hq
    · refine ⟨_, pss_cons (ps_set (i := 2) scFollowed.nd rfl (Or.inl rfl) (pe_make I.m I.ok hr2 (by rfl) T2.mgC I.b .nil pass0 (pa_cons (pv 0) pa_nil)))
        (pss_cons (ps_for PassesOwn.never rfl (pi_enum (by rfl) B.enumerate (pa_cons (pv 1) pa_nil)) (pg_tup rfl (pgs_cons (pg_name (i := 3) scFollowed.nd rfl (Or.inl rfl)) (pgs_cons (pg_name (i := 4) scFollowed.nd rfl (Or.inl rfl)) pgs_nil)))
          (pss_one (ps_if (pt_not (pt_val (pe_meth (pv 2) T2.cl G.m G.ok hr G.b .nil pass0 (pa_cons (pv 4) pa_nil)))) (pss_one (ps_ret (pe_tup (pa_cons (pv 2) (pa_cons (pv 3) pa_nil))))) pss_nil)))
        (pss_one (ps_ret (pe_tup (pa_cons (pv 2) (pa_cons pe_non pa_nil)))))), ?_⟩
      refine ⟨_, rfl, ?_⟩
      intro x dx nx ndx ne
      have s0 := made_same (C := D) nx ndx
      refine ⟨x, dx, a, size, l, rfl, upd_same, W.same s0, fun H1 hd1 fr lw fs los kp nhd nfr nlw Z => ⟨rfl, ?_⟩⟩
      have s1 : Same H H1 := Same.made nx ndx kp
      replace nhd := s0.free nhd
      replace nfr := s0.free nfr
      replace nlw := s0.free nlw
      refine ⟨_, rfl, r, _, rfl, SqL.of (s1 _ _ hq), for_enL (K := K) (a := r) (xs := nums row) (fun i σ H2 => ∃ (v3 v4 : Option V) (c : List Int) (fs2 : List V) (los2 : List Int), σ = [some (.ref a), some (.ref r), some (.ref x), v3, v4] ∧ Same H H2 ∧
        runL (row.take i) l = some c ∧ Wk D H2 x hd1 fr lw size c fs2 los2) ⟨_, _, l, fs, los, rfl, s1, rfl, Z⟩ (fun i σ H2 _ ⟨_, _, _, _, _, _, s2, _⟩ => SqL.of (s2 _ _ hq)) ?_ ?_⟩
      · rintro i y T σ H2 hx ⟨v3, v4, c, fs2, los2, rfl, s2, hc, Z2⟩ hT
        obtain ⟨d, rfl, hj, hdm⟩ := nums_get hx
        have sT := same_new (o := .tup [.int (i : Nat), .int d]) hT
        have Z3 := Z2.same sT
        obtain ⟨dx, hp⟩ := Z3.hp
        obtain ⟨d0, d1, d2⟩ := hd d hdm
        have en : row.take (i + 1) = row.take i ++ [d] := by
          rw [List.take_succ, hj]
          rfl
        refine ⟨T, _, rfl, SqT.of upd_same, rfl, _, _, rfl, _, _, rfl, rfl, ?_⟩
        refine ⟨_, rfl, x, dx, _, rfl, hp, kf_no _ _ _ _ (by decide +kernel) (by decide +kernel) (by decide +kernel) (by decide +kernel), _, rfl, x, hd1, fr, lw, d, size, c, fs2, los2, rfl, Z3, d0, d1, d2, fun e H3 fs3 los3 _ k3 Z4 => ⟨false, rfl, iteT ?_⟩, fun r2 e H3 fs3 los3 _ k3 Z4 => ⟨true, rfl, iteF ⟨_, _, r2, fs3, los3, rfl, K3.same (s2.trans sT) k3 nhd nfr nlw, by rw [en]; exact runL_snoc hc e, Z4⟩⟩⟩
        have st := stL_stuck hc hj e
        refine ⟨_, rfl, _, rfl, (by show 2 ≤ sizeLine; decide), fun q hq2 => ?_⟩
        refine k q x hd1 fr lw fs3 los3 _ ((K3.same (s2.trans sT) k3 nhd nfr nlw).trans (same_new hq2)) ?_ ?_
        · rw [st, upd_same]
          rfl
        · rw [st]
          exact Z4.same (same_new hq2)
      · rintro σ H2 ⟨v3, v4, c, fs2, los2, rfl, s2, hc, Z2⟩
        rw [List.length_map, List.take_length] at hc
        have st := stL_end hc
        refine ⟨_, rfl, (by show 2 ≤ sizeLine; decide), fun q hq2 => ?_⟩
        refine k q x hd1 fr lw fs2 los2 _ (s2.trans (same_new hq2)) ?_ ?_
        · rw [st, upd_same]
          rfl
        · rw [st]
          exact Z2.same (same_new hq2)
    · refine ⟨_, pss_cons (ps_set (i := 2) scFollowed.nd rfl (Or.inl rfl) (pe_make I.m I.ok hr2 (by rfl) T2.mgC I.b .nil pass0 (pa_cons (pv 0) pa_nil)))
        (pss_cons (ps_for PassesOwn.never rfl (pi_enT (by rfl) B.enumerate (pa_cons (pv 1) pa_nil)) (pg_tup rfl (pgs_cons (pg_name (i := 3) scFollowed.nd rfl (Or.inl rfl)) (pgs_cons (pg_name (i := 4) scFollowed.nd rfl (Or.inl rfl)) pgs_nil)))
          (pss_one (ps_if (pt_not (pt_val (pe_meth (pv 2) T2.cl G.m G.ok hr G.b .nil pass0 (pa_cons (pv 4) pa_nil)))) (pss_one (ps_ret (pe_tup (pa_cons (pv 2) (pa_cons (pv 3) pa_nil))))) pss_nil)))
        (pss_one (ps_ret (pe_tup (pa_cons (pv 2) (pa_cons pe_non pa_nil)))))), ?_⟩
      refine ⟨_, rfl, ?_⟩
      intro x dx nx ndx ne
      have s0 := made_same (C := D) nx ndx
      refine ⟨x, dx, a, size, l, rfl, upd_same, W.same s0, fun H1 hd1 fr lw fs los kp nhd nfr nlw Z => ⟨rfl, ?_⟩⟩
      have s1 : Same H H1 := Same.made nx ndx kp
      replace nhd := s0.free nhd
      replace nfr := s0.free nfr
      replace nlw := s0.free nlw
      refine ⟨_, rfl, r, _, rfl, SqT.of (s1 _ _ hq), for_enT (K := K) (a := r) (xs := nums row) (fun i σ H2 => ∃ (v3 v4 : Option V) (c : List Int) (fs2 : List V) (los2 : List Int), σ = [some (.ref a), some (.ref r), some (.ref x), v3, v4] ∧ Same H H2 ∧
        runL (row.take i) l = some c ∧ Wk D H2 x hd1 fr lw size c fs2 los2) ⟨_, _, l, fs, los, rfl, s1, rfl, Z⟩ (fun i σ H2 _ ⟨_, _, _, _, _, _, s2, _⟩ => SqT.of (s2 _ _ hq)) ?_ ?_⟩
      · rintro i y T σ H2 hx ⟨v3, v4, c, fs2, los2, rfl, s2, hc, Z2⟩ hT
        obtain ⟨d, rfl, hj, hdm⟩ := nums_get hx
        have sT := same_new (o := .tup [.int (i : Nat), .int d]) hT
        have Z3 := Z2.same sT
        obtain ⟨dx, hp⟩ := Z3.hp
        obtain ⟨d0, d1, d2⟩ := hd d hdm
        have en : row.take (i + 1) = row.take i ++ [d] := by
          rw [List.take_succ, hj]
          rfl
        refine ⟨T, _, rfl, SqT.of upd_same, rfl, _, _, rfl, _, _, rfl, rfl, ?_⟩
        refine ⟨_, rfl, x, dx, _, rfl, hp, kf_no _ _ _ _ (by decide +kernel) (by decide +kernel) (by decide +kernel) (by decide +kernel), _, rfl, x, hd1, fr, lw, d, size, c, fs2, los2, rfl, Z3, d0, d1, d2, fun e H3 fs3 los3 _ k3 Z4 => ⟨false, rfl, iteT ?_⟩, fun r2 e H3 fs3 los3 _ k3 Z4 => ⟨true, rfl, iteF ⟨_, _, r2, fs3, los3, rfl, K3.same (s2.trans sT) k3 nhd nfr nlw, by rw [en]; exact runL_snoc hc e, Z4⟩⟩⟩
        have st := stL_stuck hc hj e
        refine ⟨_, rfl, _, rfl, (by show 2 ≤ sizeLine; decide), fun q hq2 => ?_⟩
        refine k q x hd1 fr lw fs3 los3 _ ((K3.same (s2.trans sT) k3 nhd nfr nlw).trans (same_new hq2)) ?_ ?_
        · rw [st, upd_same]
          rfl
        · rw [st]
          exact Z4.same (same_new hq2)
      · rintro σ H2 ⟨v3, v4, c, fs2, los2, rfl, s2, hc, Z2⟩
        rw [List.length_map, List.take_length] at hc
        have st := stL_end hc
        refine ⟨_, rfl, (by show 2 ≤ sizeLine; decide), fun q hq2 => ?_⟩
        refine k q x hd1 fr lw fs2 los2 _ (s2.trans (same_new hq2)) ?_ ?_
        · rw [st, upd_same]
          rfl
        · rw [st]
          exact Z2.same (same_new hq2)
/-! first_stuck, can -/
def spFirst (C : Addr) : Sp := fun vs H Q _ => ∃ (a r : Addr) (size : Int) (l row : List Int), vs = [.ref a, .ref r] ∧ WAt C H a size l ∧ Seq H r row ∧ row.length ≤ 1000 ∧ (∀ d ∈ row, Deed size d) ∧ ∀ H', Same H H' → Q (plV (stL row l 0).2) H'
theorem scFirst : FnScope ["word", "row"] ["word", "row"] (defScope sFirst) := ⟨rfl, rfl, rfl, by decide +kernel, rfl, by decide +kernel, by decide +kernel⟩
theorem ok_first {f f1 f2 C D : Addr} {fd fd1 fd2 : FuncData} (T : Cw K mg C) (F : Df K mg "first_stuck" sFirst f fd) (F1 : Df K mg "check_row" sCkRow f1 fd1) (b1 : Binds K fd1 ["size", "row"] []) (G1 : FnOk P w K mg base CX0 4 f1 fd1 ["size", "row"] spCkRowS)
    (F2 : Df K mg "followed" sFollowed f2 fd2) (b2 : Binds K fd2 ["word", "row"] []) (G2 : FnOk P w K mg base CX0 4 f2 fd2 ["word", "row"] (spFollowedX C D)) : FnOk P w K mg base CX0 5 f fd ["word", "row"] (spFirst C) := by
  refine F.fn.ok scFirst (fun vs H Q E h => ?_) (fun cdv A outer s H vs Q E hr h => ?_)
  · obtain ⟨a, r, size, l, row, rfl, _⟩ := h
    rfl
  · obtain ⟨a, r, size, l, row, rfl, W, hq, hlen, hd, k⟩ := h
    refine ⟨_, pss_cons (ps_expr (pe_call G1 hr (by rfl) F1.g F1.fn.kp b1 .nil pass0 (pa_cons (pe_fld (pv 0) rfl) (pa_cons (pv 1) pa_nil))))
      (pss_one (ps_ret (pe_ix ix_tup (pe_call G2 hr (by rfl) F2.g F2.fn.kp b2 .nil pass0 (pa_cons (pv 0) (pa_cons (pv 1) pa_nil))) pe_int (fun _ _ => rfl)))), ?_⟩
    obtain ⟨dx, t, h1, h2⟩ := W.ob
    refine ⟨_, rfl, a, C, dx, _, _, rfl, h1, T.cl, T.nS, wf_size _ _, _, rfl, size, r, row, rfl, hq, hlen, hd, fun H1 s1 => ?_⟩
    refine ⟨_, rfl, _, rfl, a, r, size, l, row, rfl, W.same s1, hq.same s1, hlen, hd, fun q x hd1 fr lw fs los H2 s2 eq Z => ?_⟩
    exact ⟨q, _, _, _, rfl, rfl, SqT.of eq, at_of (j := 1) rfl rfl, k H2 (s1.trans s2)⟩
def spCan (C : Addr) : Sp := fun vs H Q _ => ∃ (a r : Addr) (size : Int) (l row : List Int), vs = [.ref a, .ref r] ∧ WAt C H a size l ∧ Seq H r row ∧ row.length ≤ 1000 ∧ (∀ d ∈ row, Deed size d) ∧ ∀ H', Same H H' → Q (.bl (stL row l 0).2.isNone) H'
theorem scCan : FnScope ["word", "row"] ["word", "row"] (defScope sCan) := ⟨rfl, rfl, rfl, by decide +kernel, rfl, by decide +kernel, by decide +kernel⟩
theorem ok_can {f f1 C : Addr} {fd fd1 : FuncData} (F : Df K mg "can" sCan f fd) (F1 : Df K mg "first_stuck" sFirst f1 fd1) (b1 : Binds K fd1 ["word", "row"] []) (G1 : FnOk P w K mg base CX0 5 f1 fd1 ["word", "row"] (spFirst C)) : FnOk P w K mg base CX0 6 f fd ["word", "row"] (spCan C) := by
  refine F.fn.ok scCan (fun vs H Q E h => ?_) (fun cdv A outer s H vs Q E hr h => ?_)
  · obtain ⟨a, r, size, l, row, rfl, _⟩ := h
    rfl
  · obtain ⟨a, r, size, l, row, rfl, W, hq, hlen, hd, k⟩ := h
    refine ⟨_, pss_one (ps_ret (pe_cmp (pc_isN (pe_call G1 hr (by rfl) F1.g F1.fn.kp b1 .nil pass0 (pa_cons (pv 0) (pa_cons (pv 1) pa_nil)))))), ?_⟩
    refine ⟨_, rfl, _, rfl, a, r, size, l, row, rfl, W, hq, hlen, hd, fun H1 s1 => ?_⟩
    have e : decide (plV (stL row l 0).2 = V.non) = (stL row l 0).2.isNone := by
      cases (stL row l 0).2 with
      | none => rfl
      | some n => rfl
    show Q (.bl (decide (plV (stL row l 0).2 = V.non))) H1
    rw [e]
    exact k H1 s1
/-! run -/
def spRunX (C CT : Addr) : Sp := fun vs H Q E => ∃ (a r : Addr) (size : Int) (l row : List Int), vs = [.ref a, .ref r] ∧ WAt C H a size l ∧ Seq H r row ∧ row.length ≤ 1000 ∧ (∀ d ∈ row, Deed size d) ∧
  ((∃ z, stL row l 0 = (z, none) ∧ ∀ b H', Same H H' → WAt C H' b size z → Q (.ref b) H') ∨ ∃ z n, stL row l 0 = (z, some n) ∧ Ref1 CT "place" (.int (n : Nat)) H E)
theorem ok_runX {f f1 f2 fR C D CT fT : Addr} {fd fd1 fd2 fdR dT : FuncData} (T : Cw K mg C) (T2 : Cwk K mg D) (F : Df K mg "run" sRun f fd) (F1 : Df K mg "check_row" sCkRow f1 fd1) (b1 : Binds K fd1 ["size", "row"] []) (G1 : FnOk P w K mg base CX0 4 f1 fd1 ["size", "row"] spCkRowS)
    (F2 : Df K mg "followed" sFollowed f2 fd2) (b2 : Binds K fd2 ["word", "row"] []) (G2 : FnOk P w K mg base CX0 4 f2 fd2 ["word", "row"] (spFollowedX C D)) (R : Re_ P w K mg base C D fR fdR)
    (S : Er P w K mg base "Stuck" CT "RuntimeError" "RuntimeError.__new__" "RuntimeError.__init__" bmR "place" fT dT) : FnOk P w K mg base (L2.CX P w) 9 f fd ["word", "row"] (spRunX C CT) := by
  refine F.fn.okX scRun (fun vs H Q E h => ?_) (fun cdv A outer s H vs Q E hr h => ?_)
  · obtain ⟨a, r, size, l, row, rfl, _⟩ := h
    rfl
  · obtain ⟨a, r, size, l, row, rfl, W, hq, hlen, hd, hz⟩ := h
    have hr4 : Room 4 _ := hr.mono (by decide)
    have hr6 : Room 6 _ := hr.mono (by decide)
    have hr2 : Room 2 _ := hr.mono (by decide)
    refine ⟨_, pss_cons (ps_expr (pe_call G1 hr4 (by rfl) F1.g F1.fn.kp b1 .nil pass0 (pa_cons (pe_fld (pv 0) rfl) (pa_cons (pv 1) pa_nil))))
      (pss_cons (ps_asg (pe_call G2 hr4 (by rfl) F2.g F2.fn.kp b2 .nil pass0 (pa_cons (pv 0) (pa_cons (pv 1) pa_nil))) (pg_tup rfl (pgs_cons (pg_name (i := 2) scRun.nd rfl (Or.inl rfl)) (pgs_cons (pg_name (i := 3) scRun.nd rfl (Or.inl rfl)) pgs_nil))))
      (pss_cons (ps_if (pt_cmp (pc_notN (pv 3))) (pss_one (ps_raise rfl (takes_of rfl rfl rfl rfl) (pmk_note S.Fa S.T S.iC S.tI S.ok hr2 S.b pass00 (by rfl) S.g (pa_cons (pv 3) pa_nil)))) pss_nil)
      (pss_one (ps_ret (pe_meth0 (pv 2) T2.cl R.m R.ok hr6 R.b .nil pass0))))), ?_⟩
    obtain ⟨dx, t, h1, h2⟩ := W.ob
    refine ⟨_, rfl, a, C, dx, _, _, rfl, h1, T.cl, T.nS, wf_size _ _, _, rfl, size, r, row, rfl, hq, hlen, hd, fun H1 s1 => ?_⟩
    refine ⟨_, rfl, _, rfl, a, r, size, l, row, rfl, W.same s1, hq.same s1, hlen, hd, fun q x hd1 fr lw fs los H2 s2 eq Z => ?_⟩
    refine ⟨q, _, rfl, SqT.of eq, rfl, _, _, rfl, _, _, rfl, rfl, ?_⟩
    rcases hz with ⟨z, e, k⟩ | ⟨z, n, e, k⟩
    · rw [e] at Z ⊢
      refine ⟨_, rfl, _, rfl, iteF ?_⟩
      obtain ⟨dy, hp⟩ := Z.hp
      exact ⟨_, rfl, x, dy, _, rfl, hp, kf_no _ _ _ _ (by decide +kernel) (by decide +kernel) (by decide +kernel) (by decide +kernel), x, hd1, fr, lw, size, z, fs, los, rfl, Z, fun b H' s3 nb Wb => k b H' ((s1.trans s2).trans s3) Wb⟩
    · rw [e]
      exact ⟨_, rfl, _, rfl, iteT ⟨_, rfl, raise_read (k _ (s1.trans s2))⟩⟩
end
end Lw
/-! Lr. The law's own runs, and the deeds that it draws. -/
namespace LwM
theorem runL_len : ∀ {row l z : List Int}, runL row l = some z → z.length = l.length
  | [], l, z, h => by
    cases h
    rfl
  | d :: row, l, z, h => by
    obtain ⟨a, h1, h2⟩ := runL_split h
    rw [runL_len h2, doneL_len h1]
end LwM
namespace Lw
open PySem L2 LwE LwM
section
variable {P : Program} {w : World} {K : PySem.W.Frag} {mg : Str → Option Value} {base : Heap}
def spLawRun : Sp := fun vs H Q _ => ∃ (a r : Addr) (l row : List Int), vs = [.ref a, .ref r] ∧ H a = some (.lst (nums l)) ∧ l.length ≤ 100 ∧ Seq H r row ∧ (∀ d ∈ row, d ≠ 0) ∧
  ∀ q b H', Same H H' → H' q = some (.lst [.ref b, plV (stL row l 0).2]) → H' b = some (.lst (nums (stL row l 0).1)) → Q (.ref q) H'
theorem scLawRun : FnScope ["letters", "row", "place", "deed", "more"] ["letters", "row"] (defScope sLawRun) := ⟨rfl, rfl, rfl, by decide +kernel, rfl, by decide +kernel, by decide +kernel⟩
theorem ok_lrun {f f1 : Addr} {fd fd1 : FuncData} (B : Bare mg) (F : Df K mg "_law_run" sLawRun f fd) (F1 : Df K mg "_law_done" sDone f1 fd1) (b1 : Binds K fd1 ["letters", "deed"] []) (G1 : FnOk P w K mg base CX0 2 f1 fd1 ["letters", "deed"] spDone) :
    FnOk P w K mg base CX0 3 f fd ["letters", "row"] spLawRun := by
  refine F.fn.ok scLawRun (fun vs H Q E h => ?_) (fun cdv A outer s H vs Q E hr h => ?_)
  · obtain ⟨a, r, l, row, rfl, _⟩ := h
    rfl
  · obtain ⟨a, r, l, row, rfl, ha, hl, hq, hd, k⟩ := h
    rcases hq with hq | hq
    · refine ⟨_, pss_cons (ps_for PassesOwn.never rfl (pi_enum (by rfl) B.enumerate (pa_cons (pv 1) pa_nil)) (pg_tup rfl (pgs_cons (pg_name (i := 2) scLawRun.nd rfl (Or.inl rfl)) (pgs_cons (pg_name (i := 3) scLawRun.nd rfl (Or.inl rfl)) pgs_nil)))
          (pss_cons (ps_set (i := 4) scLawRun.nd rfl (Or.inl rfl) (pe_call G1 hr (by rfl) F1.g F1.fn.kp b1 .nil pass0 (pa_cons (pv 0) (pa_cons (pv 3) pa_nil))))
          (pss_cons (ps_if (pt_cmp (pc_isN (pv 4))) (pss_one (ps_ret (pe_lst (pa_cons (pv 0) (pa_cons (pv 2) pa_nil))))) pss_nil)
          (pss_one (ps_set (i := 0) scLawRun.nd rfl (Or.inl rfl) (pv 4))))))
        (pss_one (ps_ret (pe_lst (pa_cons (pv 0) (pa_cons pe_non pa_nil))))), ?_⟩
      refine ⟨_, rfl, r, _, rfl, SqL.of hq, for_enL (K := K) (a := r) (xs := nums row) (fun i σ H2 => ∃ (b : Addr) (v2 v3 v4 : Option V) (c : List Int), σ = [some (.ref b), some (.ref r), v2, v3, v4] ∧ Same H H2 ∧
        runL (row.take i) l = some c ∧ H2 b = some (.lst (nums c))) ⟨a, _, _, _, l, rfl, Same.refl H, rfl, ha⟩ (fun i σ H2 _ ⟨_, _, _, _, _, _, s2, _⟩ => SqL.of (s2 _ _ hq)) ?_ ?_⟩
      · rintro i y T σ H2 hx ⟨b, v2, v3, v4, c, rfl, s2, hc, hb⟩ hT
        obtain ⟨d, rfl, hj, hdm⟩ := nums_get hx
        have sT := same_new (o := .tup [.int (i : Nat), .int d]) hT
        have en : row.take (i + 1) = row.take i ++ [d] := by
          rw [List.take_succ, hj]
          rfl
        have cl := runL_len hc
        refine ⟨T, _, rfl, SqT.of upd_same, rfl, _, _, rfl, _, _, rfl, rfl, ?_⟩
        refine ⟨_, rfl, _, rfl, b, d, c, rfl, sT _ _ hb, by omega, hd d hdm, fun e H3 s3 => ?_, fun z e q H3 s3 _ hz => ?_⟩
        · refine ⟨_, rfl, _, rfl, iteT ?_⟩
          have st := stL_stuck hc hj e
          refine ⟨_, rfl, _, rfl, (by show 2 ≤ sizeLine; decide), fun q hq2 => ?_⟩
          have s4 := same_new (o := .lst [.ref b, .int (i : Nat)]) hq2
          refine k q b _ (((s2.trans sT).trans s3).trans s4) ?_ ?_
          · rw [st, upd_same]
            rfl
          · rw [st]
            exact s4 _ _ (s3 _ _ (sT _ _ hb))
        · refine ⟨_, rfl, _, rfl, iteF ⟨_, rfl, q, _, _, _, z, rfl, (s2.trans sT).trans s3, ?_, hz⟩⟩
          rw [en]
          exact runL_snoc hc e
      · rintro σ H2 ⟨b, v2, v3, v4, c, rfl, s2, hc, hb⟩
        rw [List.length_map, List.take_length] at hc
        have st := stL_end hc
        refine ⟨_, rfl, (by show 2 ≤ sizeLine; decide), fun q hq2 => ?_⟩
        have s4 := same_new (o := .lst [.ref b, .non]) hq2
        refine k q b _ (s2.trans s4) ?_ ?_
        · rw [st, upd_same]
          rfl
        · rw [st]
          exact s4 _ _ hb
    · refine ⟨_, pss_cons (ps_for PassesOwn.never rfl (pi_enT (by rfl) B.enumerate (pa_cons (pv 1) pa_nil)) (pg_tup rfl (pgs_cons (pg_name (i := 2) scLawRun.nd rfl (Or.inl rfl)) (pgs_cons (pg_name (i := 3) scLawRun.nd rfl (Or.inl rfl)) pgs_nil)))
          (pss_cons (ps_set (i := 4) scLawRun.nd rfl (Or.inl rfl) (pe_call G1 hr (by rfl) F1.g F1.fn.kp b1 .nil pass0 (pa_cons (pv 0) (pa_cons (pv 3) pa_nil))))
          (pss_cons (ps_if (pt_cmp (pc_isN (pv 4))) (pss_one (ps_ret (pe_lst (pa_cons (pv 0) (pa_cons (pv 2) pa_nil))))) pss_nil)
          (pss_one (ps_set (i := 0) scLawRun.nd rfl (Or.inl rfl) (pv 4))))))
        (pss_one (ps_ret (pe_lst (pa_cons (pv 0) (pa_cons pe_non pa_nil))))), ?_⟩
      refine ⟨_, rfl, r, _, rfl, SqT.of hq, for_enT (K := K) (a := r) (xs := nums row) (fun i σ H2 => ∃ (b : Addr) (v2 v3 v4 : Option V) (c : List Int), σ = [some (.ref b), some (.ref r), v2, v3, v4] ∧ Same H H2 ∧
        runL (row.take i) l = some c ∧ H2 b = some (.lst (nums c))) ⟨a, _, _, _, l, rfl, Same.refl H, rfl, ha⟩ (fun i σ H2 _ ⟨_, _, _, _, _, _, s2, _⟩ => SqT.of (s2 _ _ hq)) ?_ ?_⟩
      · rintro i y T σ H2 hx ⟨b, v2, v3, v4, c, rfl, s2, hc, hb⟩ hT
        obtain ⟨d, rfl, hj, hdm⟩ := nums_get hx
        have sT := same_new (o := .tup [.int (i : Nat), .int d]) hT
        have en : row.take (i + 1) = row.take i ++ [d] := by
          rw [List.take_succ, hj]
          rfl
        have cl := runL_len hc
        refine ⟨T, _, rfl, SqT.of upd_same, rfl, _, _, rfl, _, _, rfl, rfl, ?_⟩
        refine ⟨_, rfl, _, rfl, b, d, c, rfl, sT _ _ hb, by omega, hd d hdm, fun e H3 s3 => ?_, fun z e q H3 s3 _ hz => ?_⟩
        · refine ⟨_, rfl, _, rfl, iteT ?_⟩
          have st := stL_stuck hc hj e
          refine ⟨_, rfl, _, rfl, (by show 2 ≤ sizeLine; decide), fun q hq2 => ?_⟩
          have s4 := same_new (o := .lst [.ref b, .int (i : Nat)]) hq2
          refine k q b _ (((s2.trans sT).trans s3).trans s4) ?_ ?_
          · rw [st, upd_same]
            rfl
          · rw [st]
            exact s4 _ _ (s3 _ _ (sT _ _ hb))
        · refine ⟨_, rfl, _, rfl, iteF ⟨_, rfl, q, _, _, _, z, rfl, (s2.trans sT).trans s3, ?_, hz⟩⟩
          rw [en]
          exact runL_snoc hc e
      · rintro σ H2 ⟨b, v2, v3, v4, c, rfl, s2, hc, hb⟩
        rw [List.length_map, List.take_length] at hc
        have st := stL_end hc
        refine ⟨_, rfl, (by show 2 ≤ sizeLine; decide), fun q hq2 => ?_⟩
        have s4 := same_new (o := .lst [.ref b, .non]) hq2
        refine k q b _ (s2.trans s4) ?_ ?_
        · rw [st, upd_same]
          rfl
        · rw [st]
          exact s4 _ _ hb
end
end Lw
/-! Dw. Rows of deeds drawn. -/
namespace Lw
open PySem L2 LwE LwM
section
variable {P : Program} {w : World} {K : PySem.W.Frag} {mg : Str → Option Value} {base : Heap}
/-- between two turns: the row so far -/
structure DW (H H' : Hp) (m g c : Addr) (n size : Int) (q : Addr) (ds : List Int) : Prop where
  dr : ∃ n', Dr H' m g c n' ∧ n ≤ n' ∧ n' ≤ n + 3 * ds.length
  kp : Keep m g H H'
  fr : H q = none
  at_ : H' q = some (.lst (nums ds))
  bd : ∀ d ∈ ds, Deed size d
theorem DW.push {H H' H5 : Hp} {m g c : Addr} {n n1 size x : Int} {q : Addr} {ds : List Int} (W : DW H H' m g c n size q ds) (o : Off q m g c) (k5 : Keep m g H' H5) (d5 : Dr H5 m g c n1) (h1 : n ≤ n1)
    (h2 : n1 ≤ n + 3 + 3 * ds.length) (hx : Deed size x) : DW H (upd H5 q (.lst (nums ds ++ [.int x]))) m g c n size q (ds ++ [x]) where
  dr := ⟨n1, d5.upd_at o.m o.g o.c, h1, by rw [List.length_append, List.length_singleton]; omega⟩
  kp := (W.kp.trans k5).put W.fr
  fr := W.fr
  at_ := by
    rw [upd_same]
    simp [nums]
  bd := fun y hy => by
    rcases List.mem_append.mp hy with z | z
    · exact W.bd y z
    · rw [List.mem_singleton.mp z]
      exact hx
theorem eqv_nil (l : List Int) : PyData.eqv (.list (l.map PyData.int)) (.list []) = decide (l = []) := by
  cases l with
  | nil => simp [PyData.eqv, PyData.eqvAll]
  | cons a l => simp [PyData.eqv, PyData.eqvAll]
def spDeeds : Sp := fun vs H Q _ => ∃ (m g c : Addr) (n size many : Int), vs = [.ref m, .int size, .int many] ∧ Dr H m g c n ∧ n ≤ 90000 ∧ 2 ≤ size ∧ size ≤ 6 ∧ 0 ≤ many ∧ many ≤ 100 ∧
  ∀ (p : Addr) (ds : List Int) (n' : Int) (H' : Hp), (ds.length : Int) = many → (∀ d ∈ ds, Deed size d) → n ≤ n' → n' ≤ n + 3 * many → Dr H' m g c n' → Keep m g H H' → H p = none → H' p = some (.lst (nums ds)) → Q (.ref p) H'
theorem scDeeds : FnScope ["m", "size", "many", "found", "k", "deed"] ["m", "size", "many"] (defScope sDeeds) := ⟨rfl, rfl, rfl, by decide +kernel, rfl, by decide +kernel, by decide +kernel⟩
theorem ok_deeds {f f1 : Addr} {fd fd1 : FuncData} (B : Bare mg) (F : Df K mg "_law_deeds" sDeeds f fd) (F1 : Df K mg "_law_draw" sDraw f1 fd1) (b1 : Binds K fd1 ["m", "limit"] []) (G1 : FnOk P w K mg base CX0 2 f1 fd1 ["m", "limit"] spDraw) :
    FnOk P w K mg base CX0 3 f fd ["m", "size", "many"] spDeeds := by
  refine F.fn.ok scDeeds (fun vs H Q E h => ?_) (fun cdv A outer s H vs Q E hr h => ?_)
  · obtain ⟨m, g, c, n, size, many, rfl, _⟩ := h
    rfl
  · obtain ⟨m, g, c, n, size, many, rfl, d, hn, z0, z1, m0, m1, k⟩ := h
    refine ⟨_, pss_cons (ps_set (i := 3) scDeeds.nd rfl (Or.inl rfl) (pe_lst pa_nil))
      (pss_cons (ps_for PassesOwn.never rfl (pi_range1 (by rfl) B.range (pa_cons (pv 2) pa_nil)) (pg_name (i := 4) scDeeds.nd rfl (Or.inl rfl))
        (pss_cons (ps_set (i := 5) scDeeds.nd rfl (Or.inl rfl) (pe_op op_mul (pe_ix ix_list (pe_lst (pa_cons pe_int (pa_cons (pe_un un_neg pe_int) pa_nil))) (pe_call G1 hr (by rfl) F1.g F1.fn.kp b1 .nil pass0 (pa_cons (pv 0) (pa_cons pe_int pa_nil))) (fun _ _ => rfl))
          (pe_op op_add pe_int (pe_call G1 hr (by rfl) F1.g F1.fn.kp b1 .nil pass0 (pa_cons (pv 0) (pa_cons (pe_op op_sub (pv 1) pe_int) pa_nil))))))
        (pss_one (ps_expr (pe_bm PySem.F.plainAttrs_list PySem.F.slot_list_append PySem.F.type_list_append mt_append (pv 3)
          (pa_cons (pe_ifExp (PW.pt (pw_and (pt_cmpR (op_neD hr.units) (pv 3) (pe_lst pa_nil) (nomark _)) (pw_and1 (pt_cmpR op_eq (pe_call G1 hr (by rfl) F1.g F1.fn.kp b1 .nil pass0 (pa_cons (pv 0) (pa_cons pe_int pa_nil))) pe_int (nomark _)))))
            (pe_ix ix_list (pv 3) (pe_un un_neg pe_int) (fun _ _ => rfl)) (pv 5)) pa_nil))))))
      (pss_one (ps_ret (pv 3)))), ?_⟩
    refine ⟨Nat.zero_le _, fun q hq => ?_⟩
    have oq := d.off hq
    have W0 : DW H (upd H q (.lst [])) m g c n size q [] := ⟨⟨n, d.same (same_new hq), by omega, by simp⟩, .of (same_new hq), hq, upd_same, fun x hx => by cases hx⟩
    refine ⟨_, rfl, many, rfl, by omega, by omega, for_range (lo := 0) (n := many.toNat) (fun i σ H2 => ∃ (v4 v5 : Option V) (ds : List Int), σ = [some (.ref m), some (.int size), some (.int many), some (.ref q), v4, v5] ∧ ds.length = i ∧ DW H H2 m g c n size q ds) ⟨_, _, [], rfl, rfl, W0⟩ ?_ ?_⟩
    · rintro i σ H2 hi ⟨v4, v5, ds, rfl, hl, W⟩
      obtain ⟨n1, d1, a1, a2⟩ := W.dr
      refine ⟨1, rfl, (by show 2 ≤ sizeLine; decide), fun p hp => ?_⟩
      have s3 : Same H2 (upd H2 p (.lst [.int 1, .int (-1)])) := same_new hp
      have e3 : (upd H2 p (.lst [.int 1, .int (-1)])) p = some (.lst [.int 1, .int (-1)]) := upd_same
      have op := d1.off hp
      refine ⟨_, rfl, m, g, c, n1, 2, rfl, d1.same s3, by omega, by decide, by decide, fun z H4 y0 y1 d4 k4 => ?_⟩
      have e4 := k4 _ _ e3 op.m op.g
      obtain ⟨sg, hsg, ex⟩ : ∃ sg : Int, (sg = 1 ∨ sg = -1) ∧ atI [V.int 1, V.int (-1)] z = some (.int sg) := by
        rcases (show z = 0 ∨ z = 1 by omega) with e | e <;> subst e
        · exact ⟨1, .inl rfl, at_of (j := 0) rfl rfl⟩
        · exact ⟨-1, .inr rfl, at_of (j := 1) rfl rfl⟩
      refine ⟨p, _, z, _, rfl, rfl, SqL.of e4, ex, ?_⟩
      refine ⟨_, rfl, _, rfl, _, _, rfl, rfl, m, g, c, _, size - 1, rfl, d4, by omega, by omega, by omega, fun y H5 x0 x1 d5 k5 => ⟨_, _, rfl, rfl, sg, 1 + y, rfl, rfl, .inl ⟨by omega, by omega⟩, ?_⟩⟩
      have k25 : Keep m g H2 H5 := ((Keep.of s3).trans k4).trans k5
      have q5 := k25 _ _ W.at_ oq.m oq.g
      have hdd : Deed size (sg * (1 + y)) := by
        rcases hsg with e | e <;> subst e
        · refine ⟨?_, ?_, ?_⟩ <;> omega
        · refine ⟨?_, ?_, ?_⟩ <;> omega
      have hsz : (nums ds).length < sizeLine := by
        rw [List.length_map, sizeLine_eq]
        omega
      refine ⟨_, rfl, .inl ⟨rfl, _, SqL.of q5⟩, _, rfl, Nat.zero_le _, fun e he => ?_⟩
      have s6 : Same H5 (upd H5 e (.lst [])) := same_new he
      have e6 : (upd H5 e (.lst [])) e = some (.lst []) := upd_same
      generalize upd H5 e (.lst []) = H6 at s6 e6 ⊢
      have q6 := s6 _ _ q5
      have d6 := d5.same s6
      have k26 : Keep m g H2 H6 := k25.trans (.of s6)
      refine ⟨_, _, .lst (SqL.of q6) (dp_nums ds), .lst (SqL.of e6) .nil, shaped_nums ds, by decide, _, rfl, ?_⟩
      rw [eqv_nil]
      by_cases hz : ds = []
      · rw [decide_eq_true hz]
        refine iteF (iteF ⟨_, rfl, q, _, _, rfl, rfl, q6, hsz, ?_⟩)
        exact ⟨_, _, ds ++ [sg * (1 + y)], rfl, by rw [List.length_append, List.length_singleton]; omega, W.push oq k26 d6 (by omega) (by omega) hdd⟩
      · rw [decide_eq_false hz]
        refine iteT ⟨_, rfl, m, g, c, _, 3, rfl, d6, by omega, by decide, by decide, fun t H7 t0 t1 d7 k7 => ⟨rfl, _, rfl, ?_⟩⟩
        have q7 := k7 _ _ q6 oq.m oq.g
        have k27 : Keep m g H2 H7 := k26.trans k7
        refine ite2 (fun _ => ?_) fun _ => ?_
        · refine ⟨_, rfl, _, rfl, q, _, _, _, rfl, rfl, SqL.of q7, at_lst hz, q, _, _, rfl, rfl, q7, hsz, ?_⟩
          exact ⟨_, _, ds ++ [lst ds], rfl, by rw [List.length_append, List.length_singleton]; omega, W.push oq k27 d7 (by omega) (by omega) (W.bd _ (lst_mem hz))⟩
        · refine ⟨_, rfl, q, _, _, rfl, rfl, q7, hsz, ?_⟩
          exact ⟨_, _, ds ++ [sg * (1 + y)], rfl, by rw [List.length_append, List.length_singleton]; omega, W.push oq k27 d7 (by omega) (by omega) hdd⟩
    · rintro σ H2 ⟨v4, v5, ds, rfl, hl, W⟩
      obtain ⟨n1, d1, a1, a2⟩ := W.dr
      exact ⟨_, rfl, k q ds n1 H2 (by omega) W.bd a1 (by omega) d1 W.kp W.fr W.at_⟩
end
end Lw
/-! Wy. A row of deeds that can be done, drawn. -/
namespace LwM
/-- the deeds of a size, ascending -/
def ff (size : Int) (j : Nat) : List Int := ((List.range j).map fun (t : Nat) => 1 - size + (t : Int)).filter fun x => decide (x ≠ 0)
theorem ff_succ (size : Int) (j : Nat) : ff size (j + 1) = ff size j ++ if 1 - size + (j : Int) ≠ 0 then [1 - size + (j : Int)] else [] := by
  unfold ff
  rw [List.range_succ, List.map_append, List.filter_append]
  congr 1
  simp only [List.map_cons, List.map_nil, List.filter_cons, List.filter_nil, decide_eq_true_eq]
theorem ff_len (size : Int) (j : Nat) : (ff size j).length ≤ j := by
  unfold ff
  refine Nat.le_trans (List.length_filter_le _ _) ?_
  rw [List.length_map, List.length_range]
  exact Nat.le_refl _
theorem ff_mem {size x : Int} {j : Nat} : x ∈ ff size j ↔ x ≠ 0 ∧ 1 - size ≤ x ∧ x < 1 - size + j := by
  unfold ff
  rw [List.mem_filter, List.mem_map]
  constructor
  · rintro ⟨⟨t, ht, rfl⟩, h⟩
    rw [List.mem_range] at ht
    exact ⟨of_decide_eq_true h, by omega, by omega⟩
  · rintro ⟨h, h1, h2⟩
    exact ⟨⟨(x - (1 - size)).toNat, by rw [List.mem_range]; omega, by omega⟩, decide_eq_true h⟩
/-- those that can be done -/
def okD (l : List Int) (d : Int) : Bool := (doneL d l).isSome
end LwM
namespace Lw
open PySem L2 LwE LwM
section
variable {P : Program} {w : World} {K : PySem.W.Frag} {mg : Str → Option Value} {base : Heap}
/-- between two turns: the row, and what comes of it -/
structure WW (H H' : Hp) (m g c : Addr) (n size : Int) (l : List Int) (q b : Addr) (ds z : List Int) : Prop where
  dr : ∃ n', Dr H' m g c n' ∧ n ≤ n' ∧ n' ≤ n + ds.length
  kp : Keep m g H H'
  fr : H q = none
  at_ : H' q = some (.lst (nums ds))
  bd : ∀ d ∈ ds, Deed size d
  run : runL ds l = some z
  lb : H' b = some (.lst (nums z))
  og : b ≠ g
  nq : q ≠ b
def spWay : Sp := fun vs H Q _ => ∃ (m g c a : Addr) (n size many : Int) (l : List Int), vs = [.ref m, .int size, .ref a, .int many] ∧ Dr H m g c n ∧ n ≤ 90000 ∧ 2 ≤ size ∧ size ≤ 6 ∧ 0 ≤ many ∧ many ≤ 100 ∧ H a = some (.lst (nums l)) ∧ a ≠ g ∧ l.length ≤ 40 ∧
  ∀ (p q b : Addr) (ds z : List Int) (n' : Int) (H' : Hp), (ds.length : Int) ≤ many → (∀ d ∈ ds, Deed size d) → runL ds l = some z → n ≤ n' → n' ≤ n + many → Dr H' m g c n' → Keep m g H H' → H q = none → q ≠ g → H' p = some (.lst [.ref q, .ref b]) → H' q = some (.lst (nums ds)) → H' b = some (.lst (nums z)) → Q (.ref p) H'
theorem scWay : FnScope ["m", "size", "letters", "many", "row", "k", "some", "deed"] ["m", "size", "letters", "many"] (defScope sWay) := ⟨rfl, rfl, rfl, by decide +kernel, rfl, by decide +kernel, by decide +kernel⟩
theorem ok_way {f f1 f2 : Addr} {fd fd1 fd2 : FuncData} (B : Bare mg) (F : Df K mg "_law_way" sWay f fd) (F1 : Df K mg "_law_draw" sDraw f1 fd1) (b1 : Binds K fd1 ["m", "limit"] []) (G1 : FnOk P w K mg base CX0 2 f1 fd1 ["m", "limit"] spDraw)
    (F2 : Df K mg "_law_done" sDone f2 fd2) (b2 : Binds K fd2 ["letters", "deed"] []) (G2 : FnOk P w K mg base CX0 2 f2 fd2 ["letters", "deed"] spDone) : FnOk P w K mg base CX0 3 f fd ["m", "size", "letters", "many"] spWay := by
  refine F.fn.ok scWay (fun vs H Q E h => ?_) (fun cdv A outer s H vs Q E hr h => ?_)
  · obtain ⟨m, g, c, a, n, size, many, l, rfl, _⟩ := h
    rfl
  · obtain ⟨m, g, c, a, n, size, many, l, rfl, d, hn, z0, z1, m0, m1, ha, ag, hl, k⟩ := h
    refine ⟨_, pss_cons (ps_set (i := 4) scWay.nd rfl (Or.inl rfl) (pe_lst pa_nil))
      (pss_cons (ps_for PassesOwn.never rfl (pi_range1 (by rfl) B.range (pa_cons (pv 3) pa_nil)) (pg_name (i := 5) scWay.nd rfl (Or.inl rfl))
        (pss_cons (ps_setLc (i := 6) (own := [("deed", 7)]) (g := gName 7) (tt := tTest (tOp rNe (tVar 7) (tC (.int 0)))) rfl scWay.nd rfl rfl (sw_true rfl rfl rfl (by decide +kernel)) (pi_range2 (by rfl) B.range (pa_cons (pe_op op_sub pe_int (pv 1)) (pa_cons (pv 1) pa_nil)))
          (blkOk_by (N := ["m", "size", "letters", "many", "row", "k", "some", "deed"]) (sc := defScope sWay) (by decide +kernel))
          (fun _ _ _ _ _ => pg_name (i := 7) scWay.nd rfl (Or.inl rfl)) (fun _ _ _ _ _ => pts_one (pt_cmpR op_ne (pv 7) pe_int (nomark _))) (fun _ _ _ _ _ => pv 7))
        (pss_cons (ps_setLc (i := 6) (own := [("deed", 7)]) (g := gName 7) rfl scWay.nd rfl rfl (sw_true rfl rfl rfl (by decide +kernel)) (pi_list (pv 6))
          (blkOk_by (N := ["m", "size", "letters", "many", "row", "k", "some", "deed"]) (sc := defScope sWay) (by decide +kernel))
          (fun _ _ _ _ _ => pg_name (i := 7) scWay.nd rfl (Or.inl rfl)) (fun _ _ _ _ _ => pts_one (pt_cmp (pc_notN (pe_call G2 hr (by rfl) F2.g F2.fn.kp b2 .nil pass0 (pa_cons (pv 2) (pa_cons (pv 7) pa_nil)))))) (fun _ _ _ _ _ => pv 7))
        (pss_one (ps_if (pt_cmpR (op_neD hr.units) (pv 6) (pe_lst pa_nil) (nomark _))
          (pss_cons (ps_expr (pe_bm PySem.F.plainAttrs_list PySem.F.slot_list_append PySem.F.type_list_append mt_append (pv 4)
              (pa_cons (pe_ix ix_list (pv 6) (pe_call G1 hr (by rfl) F1.g F1.fn.kp b1 .nil pass0 (pa_cons (pv 0) (pa_cons (pe_callB call_len_seq (by rfl) B.len PySem.boot_len (pa_cons (pv 6) pa_nil)) pa_nil))) (fun _ _ => rfl)) pa_nil)))
            (pss_one (ps_set (i := 2) scWay.nd rfl (Or.inr rfl) (pe_call G2 hr (by rfl) F2.g F2.fn.kp b2 .nil pass0 (pa_cons (pv 2) (pa_cons (pe_ix ix_list (pv 4) (pe_un un_neg pe_int) (fun _ _ => rfl)) pa_nil))))))
          pss_nil)))))
      (pss_one (ps_ret (pe_lst (pa_cons (pv 4) (pa_cons (pv 2) pa_nil)))))), ?_⟩
    refine ⟨Nat.zero_le _, fun q hq => ?_⟩
    have oq := d.off hq
    have W0 : WW H (upd H q (.lst [])) m g c n size l q a [] l := ⟨⟨n, d.same (same_new hq), by omega, by simp⟩, .of (same_new hq), hq, upd_same, fun x hx => (by cases hx), rfl, same_new hq _ _ ha, ag, (ne_of_none ha hq).symm⟩
    refine ⟨_, rfl, many, rfl, by omega, by omega, for_range (lo := 0) (n := many.toNat) (fun i σ H2 => ∃ (v5 v6 : Option V) (b : Addr) (ds z : List Int), σ = [some (.ref m), some (.int size), some (.ref b), some (.int many), some (.ref q), v5, v6, none] ∧ ds.length ≤ i ∧ WW H H2 m g c n size l q b ds z) ⟨_, _, a, [], l, rfl, Nat.le_refl _, W0⟩ ?_ ?_⟩
    · rintro i σ H2 hi ⟨v5, v6, b, ds, z, rfl, hds, W⟩
      obtain ⟨n1, d1, a1, a2⟩ := W.dr
      have zl := runL_len W.run
      -- all deeds
      refine ⟨_, rfl, _, _, rfl, rfl, _, rfl, 1 - size, size, rfl, ⟨by omega, by omega, by omega, by omega⟩, fun D hD => ?_⟩
      refine lc_range (lo := 1 - size) (n := (size - (1 - size)).toNat) (fun j H' => Same H2 H' ∧ H' D = some (.lst (nums (ff size j)))) ⟨same_new hD, upd_same⟩ ?_ ?_
      · rintro j H3 hj ⟨s3, e3⟩
        refine ⟨rfl, _, rfl, rfl, _, rfl, ?_⟩
        rw [ff_succ]
        by_cases c0 : 1 - size + (j : Int) = 0
        · rw [if_neg (by simpa using c0), List.append_nil]
          have e : (!decide (V.int (1 - size + (j : Int)) = V.int 0)) = false := by simp [c0]
          rw [e]
          exact iteF ⟨s3, e3⟩
        · rw [if_pos c0]
          have e : (!decide (V.int (1 - size + (j : Int)) = V.int 0)) = true := by simp [c0]
          rw [e]
          refine iteT ⟨_, rfl, _, e3, ?_, fun b o e => ?_, by rw [upd_same]; simp [nums]⟩
          · rw [List.length_map]
            have := ff_len size j
            exact small1000 (by omega)
          · rw [upd_ne (ne_of_none e hD)]
            exact s3 _ _ e
      rintro H3 ⟨s3, e3⟩
      -- those that can be done
      have b3 := s3 _ _ W.lb
      refine ⟨_, rfl, D, rfl, ⟨_, SqL.of e3⟩, fun D2 hD2 => lc_list (K := K) (a := D) (xs := nums (ff size (size - (1 - size)).toNat)) (fun j H' => Same H3 H' ∧ H' D2 = some (.lst (nums (((ff size (size - (1 - size)).toNat).take j).filter (okD z))))) ⟨same_new hD2, upd_same⟩ (fun j H' _ ⟨s4, _⟩ => SqL.of (s4 _ _ e3)) ?_ ?_⟩
      · rintro j x H4 hx ⟨s4, e4⟩
        obtain ⟨y, rfl, hy, hym⟩ := nums_get hx
        obtain ⟨y0, y1, y2⟩ := ff_mem.mp hym
        have ef := filt_snoc hy (okD z)
        refine ⟨rfl, _, rfl, _, rfl, b, y, z, rfl, s4 _ _ b3, by omega, y0, fun e H5 s5 => ?_, fun r e q5 H5 s5 nq e5 => ?_⟩
        · have o : okD z y = false := by
            unfold okD
            rw [e]
            rfl
          refine ⟨_, rfl, iteF ⟨s4.trans s5, ?_⟩⟩
          rw [ef, o]
          simpa using s5 _ _ e4
        · have o : okD z y = true := by
            unfold okD
            rw [e]
            rfl
          refine ⟨_, rfl, iteT ⟨_, rfl, _, s5 _ _ e4, ?_, fun b o e => ?_, by rw [upd_same, ef, o]; simp [nums]⟩⟩
          · rw [List.length_map]
            have h1 := List.length_filter_le (okD z) ((ff size (size - (1 - size)).toNat).take j)
            have h2 := ff_len size (size - (1 - size)).toNat
            rw [List.length_take] at h1
            exact small1000 (by omega)
          · rw [upd_ne (ne_of_none e hD2)]
            exact s5 _ _ (s4 _ _ e)
      rintro H4 ⟨s4, e4⟩
      rw [List.length_map, List.take_length] at e4
      generalize hss : (ff size (size - (1 - size)).toNat).filter (okD z) = ss at e4
      have ssm : ∀ y ∈ ss, Deed size y ∧ ∃ r, doneL y z = some r := fun y hy => by
        rw [← hss, List.mem_filter] at hy
        obtain ⟨y0, y1, y2⟩ := ff_mem.mp hy.1
        exact ⟨⟨y0, by omega, by omega⟩, Option.isSome_iff_exists.mp hy.2⟩
      have ssl : ss.length ≤ 20 := by
        rw [← hss]
        have h1 := List.length_filter_le (okD z) (ff size (size - (1 - size)).toNat)
        have h2 := ff_len size (size - (1 - size)).toNat
        omega
      have s24 := s3.trans s4
      refine ⟨_, rfl, Nat.zero_le _, fun e he => ?_⟩
      have s5 : Same H4 (upd H4 e (.lst [])) := same_new he
      have e5 : (upd H4 e (.lst [])) e = some (.lst []) := upd_same
      generalize upd H4 e (.lst []) = H5 at s5 e5 ⊢
      have s25 := s24.trans s5
      have D5 := s5 _ _ e4
      refine ⟨_, _, .lst (SqL.of D5) (dp_nums ss), .lst (SqL.of e5) .nil, shaped_nums ss, by decide, _, rfl, ?_⟩
      rw [eqv_nil]
      have d5 := d1.same s25
      by_cases hz : ss = []
      · rw [decide_eq_true hz]
        exact iteF ⟨_, _, b, ds, z, rfl, by omega, ⟨n1, d5, a1, a2⟩, W.kp.trans (.of s25), W.fr, s25 _ _ W.at_, W.bd, W.run, s25 _ _ W.lb, W.og, W.nq⟩
      · rw [decide_eq_false hz]
        have sp : 0 < ss.length := List.length_pos_iff.mpr hz
        have oD : D2 ≠ m ∧ D2 ≠ g := by
          obtain ⟨gs, _, eg⟩ := d1.hg
          exact ⟨(ne_of_none (s3 _ _ d1.hm) hD2).symm, (ne_of_none (s3 _ _ eg) hD2).symm⟩
        refine iteT ⟨_, rfl, .inl ⟨rfl, _, SqL.of (s25 _ _ W.at_)⟩, _, rfl, _, rfl, _, rfl, D2, _, rfl, .inl (SqL.of D5), m, g, c, n1, _, rfl, d5, by omega, by rw [List.length_map]; omega, by rw [List.length_map]; omega, fun t H6 t0 t1 d6 k6 => ?_⟩
        rw [List.length_map] at t1
        have D6 := k6 _ _ D5 oD.1 oD.2
        have hj : t.toNat < ss.length := by omega
        obtain ⟨ddm, r, dr⟩ := ssm _ (List.getElem_mem hj)
        have hat : atI (nums ss) t = some (.int ss[t.toNat]) := at_of (j := t.toNat) (by omega) (by simp [nums, hj])
        generalize ss[t.toNat] = dd at ddm dr hat
        have q6 := k6 _ _ (s25 _ _ W.at_) oq.m oq.g
        have bm : b ≠ m := ne_of W.lb d1.hm (by intro z; cases z)
        refine ⟨D2, _, t, _, rfl, rfl, SqL.of D6, hat, q, _, _, rfl, rfl, q6, (by rw [List.length_map, sizeLine_eq]; omega), ?_⟩
        have d7 := d6.upd_at (o := .lst (nums ds ++ [V.int dd])) oq.m oq.g oq.c
        have b7 : (upd H6 q (.lst (nums ds ++ [V.int dd]))) b = some (.lst (nums z)) := by
          rw [upd_ne W.nq.symm]
          exact k6 _ _ (s25 _ _ W.lb) bm W.og
        have q7 : (upd H6 q (.lst (nums ds ++ [V.int dd]))) q = some (.lst (nums (ds ++ [dd]))) := by
          rw [upd_same]
          simp [nums]
        have k27 : Keep m g H (upd H6 q (.lst (nums ds ++ [V.int dd]))) := ((W.kp.trans (.of s25)).trans k6).put W.fr
        generalize upd H6 q (.lst (nums ds ++ [V.int dd])) = H7 at d7 b7 q7 k27 ⊢
        have hl1 : atI (nums (ds ++ [dd])) (-1) = some (.int dd) := by
          have h1 := at_lst (l := ds ++ [dd]) (by simp)
          rw [lst_app ds [dd] (by simp)] at h1
          exact h1
        refine ⟨_, rfl, _, rfl, 1, rfl, q, _, _, _, rfl, rfl, SqL.of q7, hl1, b, dd, z, rfl, b7, by omega, ddm.1, fun e => (by rw [dr] at e; cases e), fun r2 e b8 H8 s8 nb e8 => ?_⟩
        obtain ⟨gs, _, eg⟩ := d7.hg
        refine ⟨_, _, b8, ds ++ [dd], r2, rfl, by rw [List.length_append, List.length_singleton]; omega, ⟨n1 + 1, d7.same s8, by omega, by rw [List.length_append, List.length_singleton]; omega⟩, k27.trans (.of s8), W.fr, s8 _ _ q7, fun y hy => ?_, runL_snoc W.run e, e8, (ne_of_none eg nb).symm, ne_of_none q7 nb⟩
        rcases List.mem_append.mp hy with h | h
        · exact W.bd y h
        · rw [List.mem_singleton.mp h]
          exact ddm
    · rintro σ H2 ⟨v5, v6, b, ds, z, rfl, hds, W⟩
      obtain ⟨n1, d1, a1, a2⟩ := W.dr
      refine ⟨_, rfl, _, rfl, (by show 2 ≤ sizeLine; decide), fun p hp => ?_⟩
      have s3 := same_new (o := .lst [.ref q, .ref b]) hp
      exact k p q b ds z n1 _ (by omega) W.bd W.run a1 (by omega) (d1.same s3) (W.kp.trans (.of s3)) W.fr oq.g upd_same (s3 _ _ W.at_) (s3 _ _ W.lb)
end
end Lw
/-! Sf. The deeds that can be done, ascending. -/
namespace LwM
def two (l : List Int) (i : Int) : List Int := (if lows i l = [] then [] else [i]) ++ (if highs i l = [] then [] else [-i])
def sd (l : List Int) : Nat → List Int
  | 0 => []
  | j + 1 => sd l j ++ two l ((j + 1 : Nat) : Int)
theorem two_mem {l : List Int} {i d : Int} : d ∈ two l i ↔ (d = i ∧ lows i l ≠ []) ∨ (d = -i ∧ highs i l ≠ []) := by
  unfold two
  rw [List.mem_append]
  constructor
  · rintro (h | h)
    · split at h
      · cases h
      · exact .inl ⟨List.mem_singleton.mp h, by assumption⟩
    · split at h
      · cases h
      · exact .inr ⟨List.mem_singleton.mp h, by assumption⟩
  · rintro (⟨h, n⟩ | ⟨h, n⟩)
    · rw [if_neg n, h]
      exact .inl (List.mem_singleton.mpr rfl)
    · rw [if_neg n, h]
      exact .inr (List.mem_singleton.mpr rfl)
theorem sd_mem {l : List Int} {d : Int} : ∀ {j : Nat}, d ∈ sd l j ↔ ∃ i : Nat, 1 ≤ i ∧ i ≤ j ∧ d ∈ two l (i : Int)
  | 0 => ⟨fun h => (by cases h), fun ⟨i, a, b, _⟩ => (by omega)⟩
  | j + 1 => by
    show d ∈ sd l j ++ _ ↔ _
    rw [List.mem_append, sd_mem (j := j)]
    constructor
    · rintro (⟨i, a, b, h⟩ | h)
      · exact ⟨i, a, by omega, h⟩
      · exact ⟨j + 1, by omega, by omega, h⟩
    · rintro ⟨i, a, b, h⟩
      rcases Nat.lt_or_ge j i with q | q
      · obtain rfl : i = j + 1 := by omega
        exact .inr h
      · exact .inl ⟨i, a, q, h⟩
theorem two_nodup (l : List Int) {i : Int} (h : 1 ≤ i) : (two l i).Nodup := by
  unfold two
  split <;> split <;> simp
  omega
theorem sd_nodup (l : List Int) : ∀ j, (sd l j).Nodup
  | 0 => List.nodup_nil
  | j + 1 => by
    show (sd l j ++ _).Nodup
    rw [List.nodup_append]
    refine ⟨sd_nodup l j, two_nodup l (by omega), fun a ha b hb => ?_⟩
    obtain ⟨i, i1, i2, h⟩ := sd_mem.mp ha
    rcases two_mem.mp h with ⟨e, _⟩ | ⟨e, _⟩ <;> rcases two_mem.mp hb with ⟨e2, _⟩ | ⟨e2, _⟩ <;> omega
theorem ff_nodup (size : Int) (j : Nat) : (ff size j).Nodup := by
  unfold ff
  refine List.Pairwise.filter _ ?_
  show List.Pairwise (· ≠ ·) ((List.range j).map fun (t : Nat) => 1 - size + (t : Int))
  rw [List.pairwise_map]
  refine List.Pairwise.imp ?_ (List.nodup_range (n := j))
  intro a b h c
  apply h
  omega
theorem ff_sorted (size : Int) (j : Nat) : (ff size j).Pairwise (· ≤ ·) := by
  unfold ff
  refine List.Pairwise.filter _ ?_
  rw [List.pairwise_map]
  refine List.Pairwise.imp ?_ (List.pairwise_lt_range (n := j))
  intro a b h
  omega
theorem okD_iff {l : List Int} {d : Int} (h0 : d ≠ 0) : okD l d = true ↔ (0 < d ∧ lows d l ≠ []) ∨ (d < 0 ∧ highs (-d) l ≠ []) := by
  unfold okD doneL
  by_cases h : 0 < d
  · rw [if_pos h]
    by_cases e : lows d l = []
    · rw [if_pos e]
      simp [h, e]
      omega
    · rw [if_neg e]
      simp [h, e]
  · rw [if_neg h]
    have h' : d < 0 := by omega
    by_cases e : highs (-d) l = []
    · rw [if_pos e]
      simp [h, e]
    · rw [if_neg e]
      simp [h, h', e]
theorem perm_le_eq : ∀ {a b : List Int}, a.Perm b → a.Pairwise (· ≤ ·) → b.Pairwise (· ≤ ·) → a = b
  | [], b, p, _, _ => (List.nil_perm.mp p).symm
  | x :: a, [], p, _, _ => by
    have := p.length_eq
    simp at this
  | x :: a, y :: b, p, ha, hb => by
    rw [List.pairwise_cons] at ha hb
    have e : x = y := by
      have h1 : x ∈ y :: b := p.subset (List.mem_cons_self ..)
      have h2 : y ∈ x :: a := p.symm.subset (List.mem_cons_self ..)
      rcases List.mem_cons.mp h1 with h1 | h1
      · exact h1
      · rcases List.mem_cons.mp h2 with h2 | h2
        · exact h2.symm
        · exact Int.le_antisymm (ha.1 _ h2) (hb.1 _ h1)
    subst e
    rw [perm_le_eq (List.Perm.cons_inv p) ha.2 hb.2]
/-- the law's list, and the program's, sorted -/
theorem sd_sort {l ns : List Int} {size : Int} (h0 : 2 ≤ size) (p : ns.Perm (sd l (size - 1).toNat)) (s : ns.Pairwise (· ≤ ·)) : ns = (ff size (size - (1 - size)).toNat).filter (okD l) := by
  refine perm_le_eq (p.trans ?_) s (List.Pairwise.filter _ (ff_sorted _ _))
  refine (List.perm_ext_iff_of_nodup (sd_nodup _ _) (List.Pairwise.filter _ (ff_nodup _ _))).mpr fun d => ?_
  rw [sd_mem, List.mem_filter, ff_mem]
  constructor
  · rintro ⟨i, i1, i2, h⟩
    rcases two_mem.mp h with ⟨e, n⟩ | ⟨e, n⟩
    · refine ⟨⟨by omega, by omega, by omega⟩, (okD_iff (by omega)).mpr (.inl ⟨by omega, ?_⟩)⟩
      rw [e]
      exact n
    · refine ⟨⟨by omega, by omega, by omega⟩, (okD_iff (by omega)).mpr (.inr ⟨by omega, ?_⟩)⟩
      rw [e, Int.neg_neg]
      exact n
  · rintro ⟨⟨d0, d1, d2⟩, h⟩
    rcases (okD_iff d0).mp h with ⟨a, n⟩ | ⟨a, n⟩
    · refine ⟨d.toNat, by omega, by omega, two_mem.mpr (.inl ⟨by omega, ?_⟩)⟩
      rw [show ((d.toNat : Nat) : Int) = d by omega]
      exact n
    · refine ⟨(-d).toNat, by omega, by omega, two_mem.mpr (.inr ⟨by omega, ?_⟩)⟩
      rw [show (((-d).toNat : Nat) : Int) = -d by omega]
      exact n
end LwM
namespace Lw
open PySem L2 LwE LwM
section
variable {P : Program} {w : World} {K : PySem.W.Frag} {mg : Str → Option Value} {base : Heap}
/-- pairs whose first parts are ds -/
def PrD (H : Hp) (ps : List Addr) (ds : List Int) : Prop := ps.length = ds.length ∧ ∀ (k : Nat) (p : Addr), ps[k]? = some p → ∃ (d : Int) (y : V), ds[k]? = some d ∧ H p = some (.tup [.int d, y])
theorem PrD.same {H H' : Hp} {ps : List Addr} {ds : List Int} (h : PrD H ps ds) (s : Same H H') : PrD H' ps ds := ⟨h.1, fun k p hp => let ⟨d, y, e1, e2⟩ := h.2 k p hp; ⟨d, y, e1, s _ _ e2⟩⟩
/-- the steps so far, in the list at q -/
structure SD (H H' : Hp) (q : Addr) (ds : List Int) : Prop where
  sm : Same H H'
  fr : H q = none
  at_ : ∃ ps : List Addr, H' q = some (.lst (ps.map V.ref)) ∧ PrD H' ps ds
theorem SD.same {H H' H2 : Hp} {q : Addr} {ds : List Int} (h : SD H H' q ds) (s : Same H' H2) : SD H H2 q ds :=
  ⟨h.sm.trans s, h.fr, let ⟨ps, e, p⟩ := h.at_; ⟨ps, s _ _ e, p.same s⟩⟩
theorem SD.push {H H' : Hp} {q p : Addr} {ps : List Addr} {ds : List Int} {d : Int} {y : V} (h : SD H H' q ds) (e : H' q = some (.lst (ps.map V.ref))) (pr : PrD H' ps ds) (hp : H' p = some (.tup [.int d, y])) : SD H (upd H' q (.lst (ps.map V.ref ++ [V.ref p]))) q (ds ++ [d]) := by
  have ne : ∀ {b o}, H' b = some (.tup o) → b ≠ q := fun x => ne_of x e (by intro z; cases z)
  refine ⟨fun b o x => ?_, h.fr, ps ++ [p], by rw [upd_same]; simp, by rw [List.length_append, List.length_append, pr.1]; rfl, fun k b hb => ?_⟩
  · rw [upd_ne (ne_of_none x h.fr)]
    exact h.sm _ _ x
  · rw [List.getElem?_append] at hb
    split at hb
    · rename_i hk
      obtain ⟨d', y', e1, e2⟩ := pr.2 k b hb
      refine ⟨d', y', ?_, by rw [upd_ne (ne e2)]; exact e2⟩
      rw [List.getElem?_append_left (by rw [← pr.1]; exact hk)]
      exact e1
    · rename_i hk
      have hk' := (List.getElem?_eq_some_iff.mp hb).1
      simp only [List.length_singleton] at hk'
      have e0 : k - ps.length = 0 := by omega
      rw [e0] at hb
      cases Option.some.inj hb
      refine ⟨d, y, ?_, by rw [upd_ne (ne hp)]; exact hp⟩
      rw [List.getElem?_append_right (by rw [← pr.1]; omega), ← pr.1, e0]
      rfl
def spSteps : Sp := fun vs H Q _ => ∃ (t : Addr) (size : Int) (l : List Int), vs = [.int size, .ref t] ∧ H t = some (.tup (nums l)) ∧ l.length ≤ 40 ∧ 2 ≤ size ∧ size ≤ 6 ∧ ∀ (q : Addr) (ps : List Addr) (H' : Hp), Same H H' → H' q = some (.lst (ps.map V.ref)) → PrD H' ps (sd l (size - 1).toNat) → Q (.ref q) H'
theorem scSteps : FnScope ["size", "letters", "steps", "i", "pairs", "lows", "highs"] ["size", "letters"] (defScope sSteps) := ⟨rfl, rfl, rfl, by decide +kernel, rfl, by decide +kernel, by decide +kernel⟩
theorem sd_len (l : List Int) : ∀ j, (sd l j).length ≤ 2 * j
  | 0 => Nat.le_refl _
  | j + 1 => by
    have ih := sd_len l j
    show (sd l j ++ two l _).length ≤ _
    rw [List.length_append]
    have : (two l ((j + 1 : Nat) : Int)).length ≤ 2 := by
      unfold two
      rw [List.length_append]
      split <;> split <;> simp
    omega
theorem cut_tup (l : List Int) {p : Int} (h0 : 0 ≤ p) (h1 : p < l.length) : ¬ (HT.sIx (nums l).length 0 none = 0 ∧ HT.sIx (nums l).length (nums l).length (some p) = (nums l).length) := by
  have e1 : (p.toNat : Int) = p := Int.toNat_of_nonneg h0
  rw [HT.sIx_none, ← e1, HT.sIx_nat, List.length_map]
  omega
theorem cut_tup2 (l : List Int) {p : Int} (h0 : 0 ≤ p) (h1 : p < l.length) : ¬ (HT.sIx (nums l).length 0 (some (p + 1)) = 0 ∧ HT.sIx (nums l).length (nums l).length none = (nums l).length) := by
  have e2 : p + 1 = ((p.toNat + 1 : Nat) : Int) := by omega
  rw [HT.sIx_none, e2, HT.sIx_nat, List.length_map]
  omega
set_option maxHeartbeats 2000000 in
theorem ok_steps {f f1 : Addr} {fd fd1 : FuncData} (B : Bare mg) (F : Df K mg "steps_from" sSteps f fd) (F1 : Df K mg "bracketed" sBrack f1 fd1) (b1 : Binds K fd1 ["letters", "i"] []) (G1 : FnOk P w K mg base CX0 1 f1 fd1 ["letters", "i"] spBrack) : FnOk P w K mg base CX0 2 f fd ["size", "letters"] spSteps := by
  refine F.fn.ok scSteps (fun vs H Q E h => ?_) (fun cdv A outer s H vs Q E hr h => ?_)
  · obtain ⟨t, size, l, rfl, _⟩ := h
    rfl
  · obtain ⟨t, size, l, rfl, ht, hl, z0, z1, k⟩ := h
    refine ⟨_, pss_cons (ps_set (i := 2) scSteps.nd rfl (Or.inl rfl) (pe_lst pa_nil))
      (pss_cons (ps_for PassesOwn.never rfl (pi_range2 (by rfl) B.range (pa_cons pe_int (pa_cons (pv 0) pa_nil))) (pg_name (i := 3) scSteps.nd rfl (Or.inl rfl))
        (pss_cons (ps_asg (pe_call G1 hr (by rfl) F1.g F1.fn.kp b1 .nil pass0 (pa_cons (pv 1) (pa_cons (pv 3) pa_nil))) (pg_tup rfl (pgs_cons (pg_name (i := 4) scSteps.nd rfl (Or.inl rfl)) (pgs_cons (pg_name (i := 5) scSteps.nd rfl (Or.inl rfl)) (pgs_cons (pg_name (i := 6) scSteps.nd rfl (Or.inl rfl)) pgs_nil)))))
        (pss_cons (ps_if (pt_truth (pv 5) (by intro _; rfl)) (pss_one (ps_expr (pe_bm PySem.F.plainAttrs_list PySem.F.slot_list_append PySem.F.type_list_append mt_append (pv 2)
            (pa_cons (pe_tup (pa_cons (pv 3) (pa_cons (pe_op op_catA (pe_op op_catA (pe_slice sl_tup (pv 1) po_none (po_some (pe_ix ix_list (pv 5) (pe_un un_neg pe_int) (fun _ _ => rfl)))) (pe_tup (pa_cons (pe_op op_add (pv 3) pe_int) pa_nil)))
              (pe_slice sl_tup (pv 1) (po_some (pe_op op_add (pe_ix ix_list (pv 5) (pe_un un_neg pe_int) (fun _ _ => rfl)) pe_int)) po_none)) pa_nil))) pa_nil)))) pss_nil)
        (pss_one (ps_if (pt_truth (pv 6) (by intro _; rfl)) (pss_one (ps_expr (pe_bm PySem.F.plainAttrs_list PySem.F.slot_list_append PySem.F.type_list_append mt_append (pv 2)
            (pa_cons (pe_tup (pa_cons (pe_un un_neg (pv 3)) (pa_cons (pe_op op_catA (pe_op op_catA (pe_slice sl_tup (pv 1) po_none (po_some (pe_ix ix_list (pv 6) pe_int (fun _ _ => rfl)))) (pe_tup (pa_cons (pv 3) pa_nil)))
              (pe_slice sl_tup (pv 1) (po_some (pe_op op_add (pe_ix ix_list (pv 6) pe_int (fun _ _ => rfl)) pe_int)) po_none)) pa_nil))) pa_nil)))) pss_nil)))))
      (pss_one (ps_ret (pv 2)))), ?_⟩
    refine ⟨Nat.zero_le _, fun q hq => ?_⟩
    have W0 : SD H (upd H q (.lst [])) q [] := ⟨same_new hq, hq, [], upd_same, rfl, fun k p hp => (by cases hp)⟩
    refine ⟨_, rfl, 1, size, rfl, ⟨by omega, by omega, by omega, by omega⟩, for_range (lo := 1) (n := (size - 1).toNat) (fun j σ H2 => ∃ v3 v4 v5 v6 : Option V, σ = [some (.int size), some (.ref t), some (.ref q), v3, v4, v5, v6] ∧ SD H H2 q (sd l j)) ⟨_, _, _, _, rfl, W0⟩ ?_ ?_⟩
    · rintro j σ H2 hj ⟨v3, v4, v5, v6, rfl, W⟩
      have esd : sd l (j + 1) = (sd l j ++ if lows (1 + (j : Int)) l = [] then [] else [1 + (j : Int)]) ++ if highs (1 + (j : Int)) l = [] then [] else [-(1 + (j : Int))] := by
        show sd l j ++ two l _ = _
        unfold two
        rw [show (((j + 1 : Nat) : Int)) = 1 + (j : Int) by omega, List.append_assoc]
      have sl := sd_len l j
      generalize hi : (1 + (j : Int)) = i at esd
      refine ⟨_, rfl, _, rfl, t, i, l, by rw [← hi] <;> rfl, .inr (W.sm _ _ ht), by omega, fun p a b c pv H3 s3 ep ea eb ec nb nc => ?_⟩
      refine ⟨p, _, rfl, SqT.of ep, rfl, _, _, rfl, _, _, rfl, _, _, rfl, rfl, ?_⟩
      have W3 := W.same s3
      rw [esd]
      generalize sd l j = ds at W W3 sl
      obtain ⟨ps0, eq2, pr0⟩ := W.at_
      have qb : b ≠ q := (ne_of_none eq2 nb).symm
      have qc : c ≠ q := (ne_of_none eq2 nc).symm
      have ht3 := s3 _ _ (W.sm _ _ ht)
      refine ⟨_, rfl, _, .inl ⟨_, SqL.of eb, rfl⟩, ?_⟩
      refine join2 (H := H3) (fun H1 => SD H H1 q (ds ++ if lows i l = [] then [] else [i]) ∧ H1 t = some (.tup (nums l)) ∧ H1 c = some (.lst (nums (highs i l)))) ?_ ?_ ?_
      rotate_left
      · intro hc J
        have hne : lows i l ≠ [] := fun z => by
          rw [z] at hc
          cases hc
        have bd := br_bd (i := i) (l := l) (.inl (lst_mem hne))
        obtain ⟨ps3, eq3, pr3⟩ := W3.at_
        refine ⟨_, rfl, .inl ⟨rfl, _, SqL.of eq3⟩, _, rfl, _, rfl, _, rfl, 1, rfl, b, _, _, _, rfl, rfl, SqL.of eb, at_lst hne, _, rfl, t, _, rfl, SqT.of ht3, cut_tup l bd.1 bd.2, fun u hu => ?_⟩
        rw [cut_take l bd.1]
        have su : Same H3 (upd H3 u (.tup (nums (l.take (lst (lows i l)).toNat)))) := same_new hu
        have eu : (upd H3 u (.tup (nums (l.take (lst (lows i l)).toNat)))) u = some (.tup (nums (l.take (lst (lows i l)).toNat))) := upd_same
        generalize upd H3 u (.tup (nums (l.take (lst (lows i l)).toNat))) = H4 at su eu ⊢
        refine ⟨_, rfl, _, _, rfl, rfl, (by show 1 ≤ sizeLine; decide), fun r hr2 => ?_⟩
        have sr : Same H4 (upd H4 r (.tup [.int (i + 1)])) := same_new hr2
        have er : (upd H4 r (.tup [.int (i + 1)])) r = some (.tup [.int (i + 1)]) := upd_same
        generalize upd H4 r (.tup [.int (i + 1)]) = H5 at sr er ⊢
        refine cat_any (sr _ _ eu) er (by rw [List.length_map, List.length_take, sizeLine_eq]; simp; omega) fun y H6 s6 ey => ?_
        have s36 := (su.trans sr).trans s6
        refine ⟨_, rfl, _, rfl, 1, rfl, b, _, _, _, rfl, rfl, SqL.of (s36 _ _ eb), at_lst hne, _, _, rfl, rfl, _, rfl, t, _, rfl, SqT.of (s36 _ _ ht3), cut_tup2 l bd.1 bd.2, fun v hv => ?_⟩
        rw [cut_drop l (show 0 ≤ lst (lows i l) + 1 by have := bd.1; omega)]
        have sv : Same H6 (upd H6 v (.tup (nums (l.drop (lst (lows i l) + 1).toNat)))) := same_new hv
        have ev : (upd H6 v (.tup (nums (l.drop (lst (lows i l) + 1).toNat)))) v = some (.tup (nums (l.drop (lst (lows i l) + 1).toNat))) := upd_same
        generalize upd H6 v (.tup (nums (l.drop (lst (lows i l) + 1).toNat))) = H7 at sv ev ⊢
        refine cat_any (sv _ _ ey) ev (by rw [List.length_append, List.length_map, List.length_map, List.length_take, List.length_drop, sizeLine_eq]; simp; omega) fun z H8 s8 ez => ?_
        refine ⟨(by show 2 ≤ sizeLine; decide), fun pp hpp => ?_⟩
        have s9 : Same H8 (upd H8 pp (.tup [.int i, .ref z])) := same_new hpp
        have e9 : (upd H8 pp (.tup [.int i, .ref z])) pp = some (.tup [.int i, .ref z]) := upd_same
        generalize upd H8 pp (.tup [.int i, .ref z]) = H9 at s9 e9 ⊢
        have s39 := ((s36.trans sv).trans s8).trans s9
        have W9 := W3.same s39
        have lp := pr3.1
        refine ⟨q, _, _, rfl, rfl, s39 _ _ eq3, (by rw [List.length_map, sizeLine_eq]; omega), J _ ⟨?_, ?_, ?_⟩⟩
        · rw [if_neg hne]
          exact W9.push (s39 _ _ eq3) (pr3.same s39) e9
        · rw [upd_ne (ne_of (s39 _ _ ht3) (s39 _ _ eq3) (by intro z; cases z))]
          exact s39 _ _ ht3
        · rw [upd_ne qc]
          exact s39 _ _ ec
      · intro hc
        have hz : lows i l = [] := by
          cases e : lows i l with
          | nil => rfl
          | cons a r =>
            rw [e] at hc
            cases hc
        rw [if_pos hz, List.append_nil]
        exact ⟨W3, ht3, ec⟩
      rintro H4 ⟨W4, ht4, ec4⟩
      have sl2 : (ds ++ if lows i l = [] then [] else [i]).length ≤ 2 * j + 1 := by
        rw [List.length_append]
        split <;> simp <;> omega
      generalize (ds ++ if lows i l = [] then [] else [i]) = dt at W4 sl2 ⊢
      refine ⟨_, rfl, _, .inl ⟨_, SqL.of ec4, rfl⟩, ?_⟩
      refine join2 (H := H4) (fun H1 => SD H H1 q (dt ++ if highs i l = [] then [] else [-i])) (fun H1 W => ⟨_, _, _, _, rfl, W⟩) ?_ ?_
      · intro hc J
        have hne : highs i l ≠ [] := fun z => by
          rw [z] at hc
          cases hc
        have bd := br_bd (i := i) (l := l) (.inr (fst_mem hne))
        obtain ⟨ps3, eq3, pr3⟩ := W4.at_
        refine ⟨_, rfl, .inl ⟨rfl, _, SqL.of eq3⟩, _, rfl, i, rfl, _, rfl, _, rfl, c, _, _, _, rfl, rfl, SqL.of ec4, at_fst hne, _, rfl, t, _, rfl, SqT.of ht4, cut_tup l bd.1 bd.2, fun u hu => ?_⟩
        rw [cut_take l bd.1]
        have su : Same H4 (upd H4 u (.tup (nums (l.take (fst (highs i l)).toNat)))) := same_new hu
        have eu : (upd H4 u (.tup (nums (l.take (fst (highs i l)).toNat)))) u = some (.tup (nums (l.take (fst (highs i l)).toNat))) := upd_same
        generalize upd H4 u (.tup (nums (l.take (fst (highs i l)).toNat))) = H5 at su eu ⊢
        refine ⟨_, rfl, (by show 1 ≤ sizeLine; decide), fun r hr2 => ?_⟩
        have sr : Same H5 (upd H5 r (.tup [.int i])) := same_new hr2
        have er : (upd H5 r (.tup [.int i])) r = some (.tup [.int i]) := upd_same
        generalize upd H5 r (.tup [.int i]) = H6 at sr er ⊢
        refine cat_any (sr _ _ eu) er (by rw [List.length_map, List.length_take, sizeLine_eq]; simp; omega) fun y H7 s7 ey => ?_
        have s47 := (su.trans sr).trans s7
        refine ⟨_, rfl, _, rfl, c, _, _, _, rfl, rfl, SqL.of (s47 _ _ ec4), at_fst hne, _, _, rfl, rfl, _, rfl, t, _, rfl, SqT.of (s47 _ _ ht4), cut_tup2 l bd.1 bd.2, fun v hv => ?_⟩
        rw [cut_drop l (show 0 ≤ fst (highs i l) + 1 by have := bd.1; omega)]
        have sv : Same H7 (upd H7 v (.tup (nums (l.drop (fst (highs i l) + 1).toNat)))) := same_new hv
        have ev : (upd H7 v (.tup (nums (l.drop (fst (highs i l) + 1).toNat)))) v = some (.tup (nums (l.drop (fst (highs i l) + 1).toNat))) := upd_same
        generalize upd H7 v (.tup (nums (l.drop (fst (highs i l) + 1).toNat))) = H8 at sv ev ⊢
        refine cat_any (sv _ _ ey) ev (by rw [List.length_append, List.length_map, List.length_map, List.length_take, List.length_drop, sizeLine_eq]; simp; omega) fun z H9 s9 ez => ?_
        refine ⟨(by show 2 ≤ sizeLine; decide), fun pp hpp => ?_⟩
        have s10 : Same H9 (upd H9 pp (.tup [.int (-i), .ref z])) := same_new hpp
        have e10 : (upd H9 pp (.tup [.int (-i), .ref z])) pp = some (.tup [.int (-i), .ref z]) := upd_same
        generalize upd H9 pp (.tup [.int (-i), .ref z]) = H10 at s10 e10 ⊢
        have s4t := ((s47.trans sv).trans s9).trans s10
        have W9 := W4.same s4t
        have lp := pr3.1
        refine ⟨q, _, _, rfl, rfl, s4t _ _ eq3, (by rw [List.length_map, sizeLine_eq]; omega), J _ ?_⟩
        rw [if_neg hne]
        exact W9.push (s4t _ _ eq3) (pr3.same s4t) e10
      · intro hc
        have hz : highs i l = [] := by
          cases e : highs i l with
          | nil => rfl
          | cons a r =>
            rw [e] at hc
            cases hc
        rw [if_pos hz, List.append_nil]
        exact W4
    · rintro σ H2 ⟨v3, v4, v5, v6, rfl, W⟩
      obtain ⟨ps, e, pr⟩ := W.at_
      exact ⟨_, rfl, k q ps H2 W.sm e pr⟩
end
end Lw
/-! Do. deeds_of; the law's looks. -/
namespace Lw
open PySem L2 LwE LwM
section
variable {P : Program} {w : World} {K : PySem.W.Frag} {mg : Str → Option Value} {base : Heap}
/-- the deeds that can be done, ascending -/
def dsf (size : Int) (l : List Int) : List Int := (ff size (size - (1 - size)).toNat).filter (okD l)
def spDeedsOf (C : Addr) : Sp := fun vs H Q _ => ∃ (a : Addr) (size : Int) (l : List Int), vs = [.ref a] ∧ WAt C H a size l ∧ ∀ p H', Same H H' → H' p = some (.tup (nums (dsf size l))) → Q (.ref p) H'
theorem scDeedsOf : FnScope ["word", "deed", "after"] ["word"] (defScope sDeedsOf) := ⟨rfl, rfl, rfl, by decide +kernel, rfl, by decide +kernel, by decide +kernel⟩
theorem ok_deedsof {f f1 C : Addr} {fd fd1 : FuncData} (B : Bare mg) (T : Cw K mg C) (F : Df K mg "deeds_of" sDeedsOf f fd) (F1 : Df K mg "steps_from" sSteps f1 fd1) (b1 : Binds K fd1 ["size", "letters"] []) (G1 : FnOk P w K mg base CX0 2 f1 fd1 ["size", "letters"] spSteps) : FnOk P w K mg base CX0 3 f fd ["word"] (spDeedsOf C) := by
  refine F.fn.ok scDeedsOf (fun vs H Q E h => ?_) (fun cdv A outer s H vs Q E hr h => ?_)
  · obtain ⟨a, size, l, rfl, _⟩ := h
    rfl
  · obtain ⟨a, size, l, rfl, W, k⟩ := h
    refine ⟨_, pss_one (ps_ret (pe_callTy call_tuple_of (by rfl) B.tuple (by decide +kernel) (pa_cons (pe_callB cr_sortedI (by rfl) B.sorted (by decide +kernel) (pa_cons
      (pe_lc (own := [("deed", 1), ("after", 2)]) (g := gTup K 2 (gCons (gName 1) (gCons (gName 2) gNil))) (tt := tYes) rfl scDeedsOf.nd
        (pi_list (pe_call G1 hr (by rfl) F1.g F1.fn.kp b1 .nil pass0 (pa_cons (pe_fld (pv 0) rfl) (pa_cons (pe_fld (pv 0) rfl) pa_nil))))
        (blkOk_by (N := ["word", "deed", "after"]) (sc := defScope sDeedsOf) (by decide +kernel))
        (fun _ _ _ _ _ => pg_tup rfl (pgs_cons (pg_name (i := 1) scDeedsOf.nd rfl (Or.inl rfl)) (pgs_cons (pg_name (i := 2) scDeedsOf.nd rfl (Or.inl rfl)) pgs_nil)))
        (fun _ _ _ _ _ => pts_nil) (fun _ _ _ _ _ => pv 1)) pa_nil)) pa_nil))), ?_⟩
    obtain ⟨dx, t, h1, h2⟩ := W.ob
    refine ⟨_, rfl, a, C, dx, _, _, rfl, h1, T.cl, T.nS, wf_size _ _, _, rfl, a, C, dx, _, _, rfl, h1, T.cl, T.nL, wf_letters _ _, t, size, l, rfl, h2, W.ls.len, W.ls.s0, W.ls.s1, fun q ps H1 s1 eq pr => ?_⟩
    have sl := sd_len l (size - 1).toNat
    have s6 := W.ls.s1
    refine ⟨q, rfl, ⟨_, SqL.of eq⟩, fun D hD => lc_list (K := K) (a := q) (xs := ps.map V.ref) (fun i H2 => Same H1 H2 ∧ H2 D = some (.lst (nums ((sd l (size - 1).toNat).take i)))) ⟨same_new hD, upd_same⟩ (fun i H2 _ ⟨s2, _⟩ => SqL.of (s2 _ _ eq)) ?_ ?_⟩
    · rintro i x H2 hx ⟨s2, e2⟩
      rw [List.getElem?_map] at hx
      obtain ⟨p, hp, rfl⟩ := Option.map_eq_some_iff.mp hx
      obtain ⟨d, y, hd, ep⟩ := pr.2 i p hp
      refine ⟨p, _, rfl, SqT.of (s2 _ _ ep), rfl, _, _, rfl, _, _, rfl, rfl, rfl, ?_⟩
      unfold tYes
      refine iteT ⟨_, rfl, _, e2, ?_, fun b o e => ?_, ?_⟩
      · rw [List.length_map, List.length_take]
        exact small1000 (by omega)
      · rw [upd_ne (ne_of_none e hD)]
        exact s2 _ _ e
      · rw [upd_same, List.take_succ, hd]
        simp [nums]
    · rintro H2 ⟨s2, e2⟩
      rw [List.length_map, pr.1, List.take_length] at e2
      refine ⟨D, _, rfl, SqL.of e2, fun ns u pm so hu => ?_⟩
      have s3 := same_new (o := .lst (ns.map V.int)) hu
      refine ⟨u, _, rfl, .inl ⟨SqL.of upd_same, fun v hv => ?_⟩⟩
      rw [show ns = dsf size l from sd_sort W.ls.s0 pm so] at hv ⊢
      exact k v _ (((s1.trans s2).trans (same_new hu)).trans (same_new hv)) upd_same
end
end Lw
/-! Iw. Is it the word; are two tuples alike. -/
namespace Lw
open PySem L2 LwE LwM
section
variable {P : Program} {w : World} {K : PySem.W.Frag} {mg : Str → Option Value} {base : Heap}
theorem dep_ints (l : List Int) : PyData.depthAll (l.map PyData.int) = 0 := (lay_nums l).2
def spIsWord (C : Addr) : Sp := fun vs H Q _ => ∃ (a b : Addr) (size : Int) (l : List Int), vs = [.ref a, .int size, .ref b] ∧ WAt C H a size l ∧ H b = some (.lst (nums l)) ∧ ∀ H', Same H H' → Q (.bl true) H'
theorem scIsWord : FnScope ["told", "size", "letters"] ["told", "size", "letters"] (defScope sIsWord) := ⟨rfl, rfl, rfl, by decide +kernel, rfl, by decide +kernel, by decide +kernel⟩
theorem ok_isword {f C : Addr} {fd : FuncData} (B : Bare mg) (T : Cw K mg C) (F : Df K mg "_law_is_word" sIsWord f fd) : FnG P w K mg base 1 f fd ["told", "size", "letters"] (spIsWord C) := by
  refine okG F.fn scIsWord (fun vs H Q E h => ?_) (fun cdv A outer s H vs Q E hg hr h => ?_)
  · obtain ⟨a, b, size, l, rfl, _⟩ := h
    rfl
  · obtain ⟨a, b, size, l, rfl, W, hb, k⟩ := h
    obtain ⟨dx, t, h1, h2⟩ := W.ob
    refine ⟨_, pss_one (ps_ret (pe_and (pe_callB call_isi (by rfl) B.isinstance (by decide +kernel) (pa_cons (pv 0) (pa_cons (pe_glob (v := .ref C) (by rfl) T.mgC rfl) pa_nil)))
      (pe_one (pe_cmpR op_eq (pe_callB (call_reprS (by exact hg) hr.units) (by rfl) B.repr (by decide +kernel) (pa_cons (pe_tup (pa_cons (pe_fld (pv 0) rfl) (pa_cons (pe_fld (pv 0) rfl) pa_nil))) pa_nil))
        (pe_callB (call_reprS (by exact hg) hr.units) (by rfl) B.repr (by decide +kernel) (pa_cons (pe_tup (pa_cons (pv 1) (pa_cons (pe_callTy call_tuple_of (by rfl) B.tuple (by decide +kernel) (pa_cons (pv 2) pa_nil)) pa_nil))) pa_nil)) (nomark _))))), ?_⟩
    have ls := W.ls
    have s0 := ls.s0
    have s1 := ls.s1
    have sm : smD (.tuple [.int size, .tuple (l.map PyData.int)]) = true := by
      have := sm_ints l fun x hx => by have := ls.bd x hx; omega
      have h2 : size.natAbs ≤ 100000 := by omega
      simp [smD, smA, this, h2]
    have wt : wtD (.tuple [.int size, .tuple (l.map PyData.int)]) ≤ 1000000 := by
      have := wt_ints l
      have := ls.len
      simp only [wtD, wtA]
      omega
    have dp : (PyData.tuple [.int size, .tuple (l.map PyData.int)]).depth ≤ 8 := by
      have := dep_ints l
      simp [PyData.depth, PyData.depthAll, this]
    refine ⟨_, rfl, _, _, .ref C, .ref C, true, rfl, ClsV.own C, ty_word T W, kit_word, true, rfl, iteT ?_⟩
    refine ⟨_, rfl, a, C, dx, _, _, rfl, h1, T.cl, T.nS, wf_size _ _, _, rfl, a, C, dx, _, _, rfl, h1, T.cl, T.nL, wf_letters _ _, (by show 2 ≤ sizeLine; decide), fun p hp => ?_⟩
    have s1 : Same H (upd H p (.tup [.int size, .ref t])) := same_new hp
    have ep : (upd H p (.tup [.int size, .ref t])) p = some (.tup [.int size, .ref t]) := upd_same
    generalize upd H p (.tup [.int size, .ref t]) = H1 at s1 ep ⊢
    refine ⟨p, _, rfl, .tup (SqT.of ep) (.cons (.int size) (.cons (.tup (SqT.of (s1 _ _ h2)) (dp_nums l)) .nil)), sm, dp, wt, ?_⟩
    refine ⟨_, rfl, _, rfl, b, _, rfl, .inl ⟨SqL.of (s1 _ _ hb), fun u hu => ⟨(by show 2 ≤ sizeLine; decide), fun q hq => ?_⟩⟩⟩
    have s2 : Same H1 (upd H1 u (.tup (nums l))) := same_new hu
    have eu : (upd H1 u (.tup (nums l))) u = some (.tup (nums l)) := upd_same
    generalize upd H1 u (.tup (nums l)) = H2 at s2 eu hq ⊢
    have s3 : Same H2 (upd H2 q (.tup [.int size, .ref u])) := same_new hq
    have eq : (upd H2 q (.tup [.int size, .ref u])) q = some (.tup [.int size, .ref u]) := upd_same
    generalize upd H2 q (.tup [.int size, .ref u]) = H3 at s3 eq ⊢
    refine ⟨q, _, rfl, .tup (SqT.of eq) (.cons (.int size) (.cons (.tup (SqT.of (s3 _ _ eu)) (dp_nums l)) .nil)), sm, dp, wt, rfl, ?_⟩
    rw [decide_eq_true rfl]
    exact k H3 ((s1.trans s2).trans s3)
end
end Lw
/-! Rr. Is a row of deeds done, or stuck, as it should be. -/
namespace LwE
open PySem PySem.Spec PyProof.Rows L2 LamX Lw
/-- a def whose code object stands at c -/
structure FunR (K : PySem.W.Frag) (x qual : Str) (st : Stmt) (c f : Addr) (fd : FuncData) : Prop where
  ex : ∃ (oc : Value) (od : Option Addr) (kV doc pm : Value) (an : Option Addr) (ct : Value) (osl : Array (Option Value)),
    fd = PySem.W.fnOf x qual (defArgs st) (defBody st) (defScope st) .none kV doc pm an (.ref c) ct ∧ K.lookup f = some ⟨oc, od, .func fd, osl⟩ ∧ PySem.W.codeIn K (.ref c) qual = true
  kp : PySem.W.keepIn K (.ref f) = true
theorem FunR.fn {K : PySem.W.Frag} {x qual : Str} {st : Stmt} {c f : Addr} {fd : FuncData} (F : FunR K x qual st c f fd) : Fun K x qual st f fd :=
  ⟨let ⟨oc, od, kV, doc, pm, an, ct, osl, h⟩ := F.ex; ⟨oc, od, kV, doc, pm, an, .ref c, ct, osl, h⟩, F.kp⟩
section
variable {P : Program} {w : World} {K : PySem.W.Frag} {mg : Str → Option Value} {base : Heap}
theorem okGR {x qual : Str} {st : Stmt} {c f : Addr} {fd : FuncData} {N ps : List Str} {k : Nat} {sp : Sp} (F : FunR K x qual st c f fd) (S : FnScope N ps (defScope st)) (len : ∀ vs H Q E, sp vs H Q E → vs.length = ps.length)
    (hbody : ∀ (A : Around) (outer : List Env) (s : Shared) (H : Hp) (vs : List V) (Q : VK) (E : XK), A.guards = some [] → Room k (A.deeper (PyProof.Rows.envOfC qual (defScope st) s.heap.objs.size f (.ref c))) → sp vs H Q E →
      ∃ t, PSs (cxOf CX0 P w K mg base N qual (defScope st) f (.ref c) A outer s H E).nox (defBody st) t ∧ t { nx := fun _ H' => Q .non H', rt := Q } (L2.start N vs) H) : FnG P w K mg base (k + 1) f fd ps sp := by
  obtain ⟨oc, od, kV, doc, pm, an, ct, osl, rfl, lk, hcd⟩ := F.ex
  refine ⟨len, fun A outer s H args us vs Q E hg hr e0 hb r h => ?_⟩
  have old : ∀ b o, base.get? b = some o → s.heap.get? b = some o := fun b o e => (e0.bs b o e).1
  have Ks : K.In s.heap := e0.mod.kin.keeps old
  have free : s.heap.NoLimit := e0.mod.nolimit.keeps old
  have kinds : ∀ y ∈ ps.zip us, (defScope st).names.lookup y.1 = some .local ∨
      ((defScope st).names.lookup y.1 = some .cell ∧ ((cellsFrom (s.heap.objs.size + 1) (defScope st).names []).lookup y.1).isSome = true) := by
    rintro ⟨n, v⟩ hy
    rcases S.par n (List.of_mem_zip hy).1 with z | z
    · exact .inl z
    · exact .inr ⟨z, PySem.W.cellsFrom_some _ _ _ (.inl z)⟩
  refine codeAny_call_function hr.depth (Ks _ _ lk) rfl S.co S.gen rfl (PySem.W.codeRec_of Ks hcd) (hb _ _ _ _ ?_)
  refine wpAny_newFunctionEnv_cells S.kind kinds fun env eq s1 entry => ?_
  subst eq
  refine ⟨free.keeps entry.toInCall.keep, codeAny_func ?_⟩
  obtain ⟨t, ht, q⟩ := hbody A outer s H vs Q E hg (hr.deeper _) h
  have I := inv_start (CX := CX0) (E := E) S hr.hd e0 (len _ _ _ _ h) r entry
  refine wpAny_mono (ht.nox.run [] s1 (L2.start N vs) H _ I q) (fun fl s' z => ?_) fun _ _ z => z
  cases fl with
  | brk =>
    obtain ⟨_, _, _, z⟩ := z
    exact z.elim
  | cont =>
    obtain ⟨_, _, _, z⟩ := z
    exact z.elim
  | next =>
    obtain ⟨σ', H', J, z⟩ := z
    exact ⟨.non, H', J.os, J.bare, J.base, J.hok, rfl, z⟩
  | ret u =>
    obtain ⟨v, σ', H', J, rv, z⟩ := z
    exact ⟨v, H', J.os, J.bare, J.base, J.hok, rv, z⟩
end
section
/-- _law_heard(lambda: ..) -/
theorem pe_heard {X : Cx} {fH c Pt : Addr} {dH : FuncData} {k : Nat} {e : Eca} {params : Arguments} {body : Expr} {scope : Scope} {t : XK → TE} {p lpos pos : Pos} (EC : Ec X.K X.mg e) (FH : Df X.K X.mg "_law_heard" sHeard fH dH) (bH : L2.Binds X.K dH ["call"] [])
    (TB : TabB X.base X.mg c Pt) (hcode : X.env.code = .ref c) (hr : Room (k + 2) X.A) (hg : Gl X "_law_heard") (L : LamS X.env.scope scope) (hdef : defaultsOf params X.env = ([], []))
    (hbind : ∀ (q : Str) (cl : List (Str × Addr)) (pm cv ctv : Value), bindArgs (PySem.W.kla_fn "<lambda>" q params body scope cl pm cv ctv) ⟨[], []⟩ = pure [])
    (hbody : ∀ (A : Around) (outer : List Env) (s : Shared) (H : Hp) (E : XK) (f c' : Addr), Room k (A.deeper (lamEnv X scope s.heap.objs.size f c')) → PE (lamCx X A outer s H E scope f c') body (t E)) :
    PE X (.Call (.Name "_law_heard" p) [.Lambda params body scope lpos] [] pos) (tLam [(Pt, X.env.qual ++ "<lambda>")] (TTheard X.K e) t) := by
  obtain ⟨oc, od, kV, doc, pm, an, cdv, ct, osl, rfl, lk, hcd⟩ := FH.fn.ex
  exact pe_lamcall (a := "call") hg FH.g FH.fn.kp lk hcd bH scHeard rfl (Or.inl rfl) (heard_gives EC) TB hcode (List.mem_singleton.mpr rfl) (fun p hp _ => by rw [List.mem_singleton.mp hp]) hr L hdef hbind hbody (by decide +kernel) (by decide +kernel) (by decide +kernel)
end
end LwE
namespace LwM
theorem stL_lt : ∀ {row l z : List Int} {k n : Nat}, stL row l k = (z, some n) → n < k + row.length
  | [], l, z, k, n, h => by
    cases h
  | d :: row, l, z, k, n, h => by
    unfold stL at h
    cases e : doneL d l with
    | none =>
      rw [e] at h
      have h' : (l, some k) = (z, some n) := h
      cases h'
      simp
    | some r =>
      rw [e] at h
      have := stL_lt (show stL row r (k + 1) = (z, some n) from h)
      simp only [List.length_cons]
      omega
end LwM
namespace Lw
open PySem L2 LwE LwM LamX
/-- what is refused comes back as a word and its field -/
theorem rf_ref {K : PySem.W.Frag} {e : Eca} {k : Kd} {H : Hp} {v : V} {Q : VK} (E : Ek K e k) (q : ∀ p H', Same H H' → H' p = some (.tup [.str k.word, v]) → Q (.ref p) H') : Ref1 (e.of k) k.field v H (Rf K e Q) :=
  fun H1 s1 d hd => ⟨k, d, v, E, rfl, rfl, upd_same, fun p H2 s2 hp => q p H2 ((s1.trans (same_new hd)).trans s2) hp⟩
section
variable {P : Program} {w : World} {K : PySem.W.Frag} {mg : Str → Option Value} {base : Heap}
/-- a text that can be made -/
structure Tx (d : PyData) : Prop where
  sh : d.showable = true
  nd : d.hasDict = false
  dp : d.depth ≤ 8
  len : d.shown.length ≤ sizeLine
theorem tx_sm {d : PyData} (h : smD d = true) (hd : d.depth ≤ 8) (hw : wtD d ≤ 1000000) : Tx d := by
  obtain ⟨a, b, c⟩ := sm_all d h
  exact ⟨a, b, hd, by rw [sizeLine_eq]; omega⟩
theorem tx_ints {l : List Int} (h : ∀ x ∈ l, x.natAbs ≤ 100000) (hl : l.length ≤ 10000) : Tx (.tuple (l.map PyData.int)) := by
  refine tx_sm (by simpa [smD] using sm_ints l h) (by have := dep_ints l; simp [PyData.depth, this]) ?_
  have := wt_ints l
  simp only [wtD]
  omega
theorem tx_stuck {n : Nat} (h : n ≤ 1000) : Tx (.tuple [.str "stuck", .int (n : Nat)]) := by
  have hl := log_small (n : Int) (by omega)
  have h2 := PySem.int_text_length_le (by decide : 0 < 17) hl
  have hl' : n.log2 < 17 := by simpa using hl
  refine ⟨?_, by simp [PyData.hasDict, PyData.hasDictAll], by simp [PyData.depth, PyData.depthAll], ?_⟩
  · simp [PyData.showable, PyData.showableAll]
    omega
  · simp only [PyData.shown, PyData.shownAll]
    have h3 := tupleText_le [reprText "stuck", toString (n : Int)]
    rw [piled_cons, piled_cons, piled_nil] at h3
    have h4 : (reprText "stuck").length ≤ 100 := by decide +kernel
    have h5 : (Str.ofString (toString (n : Int))).length ≤ 18 := by
      rw [PySem.ofString_length]
      omega
    have h6 : ((toString (n : Int) : String) : Str).length ≤ 18 := h5
    rw [sizeLine_eq]
    omega
def spLike (K : PySem.W.Frag) : Sp := fun vs H Q _ => ∃ (a b : Addr) (d : PyData), vs = [.ref a, .ref b] ∧ Dp K H (.ref a) d ∧ Dp K H (.ref b) d ∧ Tx d ∧ Q (.bl true) H
theorem scLike : FnScope ["told", "due"] ["told", "due"] (defScope sLike) := ⟨rfl, rfl, rfl, by decide +kernel, rfl, by decide +kernel, by decide +kernel⟩
theorem ok_like {f : Addr} {fd : FuncData} (B : Bare mg) (F : Df K mg "_law_like" sLike f fd) : FnG P w K mg base 1 f fd ["told", "due"] (spLike K) := by
  refine okG F.fn scLike (fun vs H Q E h => ?_) (fun cdv A outer s H vs Q E hg hr h => ?_)
  · obtain ⟨a, b, d, rfl, _⟩ := h
    rfl
  · obtain ⟨a, b, d, rfl, d1, d2, t, k⟩ := h
    refine ⟨_, pss_one (ps_ret (pe_cmpR op_eq (pe_callB (call_reprD (by exact hg) hr.units) (by rfl) B.repr (by decide +kernel) (pa_cons (pv 0) pa_nil))
      (pe_callB (call_reprD (by exact hg) hr.units) (by rfl) B.repr (by decide +kernel) (pa_cons (pv 1) pa_nil)) (nomark _))), ?_⟩
    refine ⟨_, rfl, a, d, rfl, d1, t.sh, t.nd, t.dp, t.len, ?_⟩
    refine ⟨_, rfl, b, d, rfl, d2, t.sh, t.nd, t.dp, t.len, ?_⟩
    refine ⟨rfl, ?_⟩
    rw [decide_eq_true rfl]
    exact k
def plD : Option Nat → PyData
  | none => .none
  | some n => .int (n : Nat)
theorem dp_pl {H : Hp} (o : Option Nat) : Dp K H (plV o) (plD o) := by
  cases o with
  | none => exact .non
  | some n => exact .int _
theorem tx_pl {o : Option Nat} {b : Bool} (h : ∀ n, o = some n → n ≤ 1000) : Tx (.list [.bool b, plD o]) := by
  cases o with
  | none => exact tx_sm (by simp [smD, smA, plD]) (by simp [PyData.depth, PyData.depthAll, plD]) (by simp [wtD, wtA, plD])
  | some n =>
    have := h n rfl
    exact tx_sm (by simp [smD, smA, plD]; omega) (by simp [PyData.depth, PyData.depthAll, plD]) (by simp [wtD, wtA, plD])
def lamQ : Str := (PyProof.Rows.envOfC "_law_right" (defScope sRight) 0 0 .none).qual ++ "<lambda>"
/-- what it reads -/
structure OwR (P : Program) (w : World) (K : PySem.W.Frag) (mg : Str → Option Value) (base : Heap) (C : Addr) (e : Eca) (fH fL fK fU fC fF fW : Addr) (dH dL dK dU dC dF dW : FuncData) : Prop where
  ec : Ec K mg e
  kT : Ek K e .stuck
  gH : Df K mg "_law_heard" sHeard fH dH
  bH : Binds K dH ["call"] []
  gL : Df K mg "_law_run" sLawRun fL dL
  L : FnOk P w K mg base CX0 3 fL dL ["letters", "row"] spLawRun
  bL : Binds K dL ["letters", "row"] []
  gK : Df K mg "_law_like" sLike fK dK
  K_ : FnG P w K mg base 1 fK dK ["told", "due"] (spLike K)
  bK : Binds K dK ["told", "due"] []
  gU : Df K mg "run" sRun fU dU
  U : FnOk P w K mg base (L2.CX P w) 9 fU dU ["word", "row"] (spRunX C (e.of .stuck))
  bU : Binds K dU ["word", "row"] []
  gC : Df K mg "can" sCan fC dC
  C_ : FnOk P w K mg base CX0 6 fC dC ["word", "row"] (spCan C)
  bC : Binds K dC ["word", "row"] []
  gF : Df K mg "first_stuck" sFirst fF dF
  F_ : FnOk P w K mg base CX0 5 fF dF ["word", "row"] (spFirst C)
  bF : Binds K dF ["word", "row"] []
  gW : Df K mg "_law_is_word" sIsWord fW dW
  W_ : FnG P w K mg base 1 fW dW ["told", "size", "letters"] (spIsWord C)
  bW : Binds K dW ["told", "size", "letters"] []
def spRight (C Pt : Addr) : Sp := fun vs H Q _ => ∃ (wd a r : Addr) (size : Int) (l row : List Int), vs = [.ref wd, .int size, .ref a, .ref r] ∧ WAt C H wd size l ∧ H a = some (.lst (nums l)) ∧ Seq H r row ∧ row.length ≤ 1000 ∧ (∀ d ∈ row, Deed size d) ∧ Tabs [(Pt, lamQ)] H ∧
  ∀ H', ExtN H H' → Tabs [(Pt, lamQ)] H' → Q (.bl true) H'
theorem scRight : FnScope ["word", "size", "letters", "row", "due", "place", "told"] ["word", "size", "letters", "row"] (defScope sRight) := ⟨rfl, rfl, rfl, by decide +kernel, rfl, by decide +kernel, by decide +kernel⟩
theorem seq_ext {H H' : Hp} {a : Addr} {ls : List Int} (h : Seq H a ls) (x : ExtN H H') : Seq H' a ls := h.elim (fun e => .inl (x _ _ e fun ps z => by cases z)) fun e => .inr (x _ _ e fun ps z => by cases z)
theorem WAt.ext {C : Addr} {H H' : Hp} {p : Addr} {size : Int} {ls : List Int} (W : WAt C H p size ls) (x : ExtN H H') : WAt C H' p size ls :=
  ⟨let ⟨dx, t, a, b⟩ := W.ob; ⟨dx, t, x _ _ a (fun ps z => by cases z), x _ _ b (fun ps z => by cases z)⟩, W.ls⟩
variable {C c0 Pt fH fL fK fU fC fF fW : Addr} {e : Eca} {dH dL dK dU dC dF dW : FuncData}
set_option maxHeartbeats 4000000 in
theorem ok_right {f : Addr} {fd : FuncData} (B : Bare mg) (F : FunR K "_law_right" "_law_right" sRight c0 f fd) (TB : TabB base mg c0 Pt) (O : OwR P w K mg base C e fH fL fK fU fC fF fW dH dL dK dU dC dF dW) :
    FnG P w K mg base 12 f fd ["word", "size", "letters", "row"] (spRight C Pt) := by
  refine okGR F scRight (fun vs H Q E h => ?_) (fun A outer s H vs Q E hg hr h => ?_)
  · obtain ⟨wd, a, r, size, l, row, rfl, _⟩ := h
    rfl
  · obtain ⟨wd, a, r, size, l, row, rfl, W, ha, hq, hlen, hd, hT, k⟩ := h
    have hr1 : Room 1 _ := hr.mono (by decide)
    have hr3 : Room 3 _ := hr.mono (by decide)
    have hr5 : Room 5 _ := hr.mono (by decide)
    have hr6 : Room 6 _ := hr.mono (by decide)
    refine ⟨_, pss_cons (ps_asg (pe_call O.L hr3 (by rfl) O.gL.g O.gL.fn.kp O.bL .nil pass0 (pa_cons (pv 2) (pa_cons (pv 3) pa_nil))) (pg_unl rfl (pgs_cons (pg_name (i := 4) scRight.nd rfl (Or.inl rfl)) (pgs_cons (pg_name (i := 5) scRight.nd rfl (Or.inl rfl)) pgs_nil))))
      (pss_cons (ps_set (i := 6) scRight.nd rfl (Or.inl rfl) (pe_heard (k := 9) (X := (cxOf CX0 P w K mg base ["word", "size", "letters", "row", "due", "place", "told"] "_law_right" (defScope sRight) f (.ref c0) A outer s H E).nox) O.ec O.gH O.bH TB rfl hr (by rfl) (lamS_by (sc := defScope sRight) (by decide +kernel)) rfl (fun _ _ _ _ _ => rfl)
          (fun A' outer' s' H' E' f' c' hr' => pe_call (E := E') O.U hr' (by rfl) O.gU.g O.gU.fn.kp O.bU .nil (passes_call (takes_of rfl rfl rfl rfl) (fun _ _ _ _ z => z)) (pa_cons (pv 0) (pa_cons (pv 3) pa_nil)))))
      (pss_cons (ps_if (pt_not (pt_val (pe_callG (by exact hg) O.K_ hr1 (by rfl) O.gK.g O.gK.fn.kp O.bK
          (pa_cons (pe_lst (pa_cons (pe_call O.C_ hr6 (by rfl) O.gC.g O.gC.fn.kp O.bC .nil pass0 (pa_cons (pv 0) (pa_cons (pv 3) pa_nil))) (pa_cons (pe_call O.F_ hr5 (by rfl) O.gF.g O.gF.fn.kp O.bF .nil pass0 (pa_cons (pv 0) (pa_cons (pv 3) pa_nil))) pa_nil)))
            (pa_cons (pe_lst (pa_cons (pe_cmp (pc_isN (pv 5))) (pa_cons (pv 5) pa_nil))) pa_nil))))) pss_never pss_nil)
      (pss_cons (ps_if (pt_cmp (pc_notN (pv 5))) (pss_one (ps_ret (pe_callG (by exact hg) O.K_ hr1 (by rfl) O.gK.g O.gK.fn.kp O.bK (pa_cons (pv 6) (pa_cons (pe_tup (pa_cons pe_str (pa_cons (pv 5) pa_nil))) pa_nil))))) pss_nil)
      (pss_one (ps_ret (pe_and (pe_callB call_isi (by rfl) B.isinstance (by decide +kernel) (pa_cons (pv 6) (pa_cons (pe_bltn (v := .ty "list") (by rfl) B.list (by decide +kernel) rfl) pa_nil)))
        (pe_one (pe_callG (by exact hg) O.W_ hr1 (by rfl) O.gW.g O.gW.fn.kp O.bW (pa_cons (pe_ix ix_list (pv 6) pe_int (fun _ _ => rfl)) (pa_cons (pv 1) (pa_cons (pv 4) pa_nil))))))))))), ?_⟩
    have n0 : ∀ d ∈ row, d ≠ 0 := fun d h => (hd d h).1
    refine ⟨_, rfl, _, rfl, a, r, l, row, rfl, ha, by have := W.ls.len; omega, hq, n0, fun q b H1 s1 eq eb => ?_⟩
    have hst : ∃ z o, stL row l 0 = (z, o) := ⟨_, _, rfl⟩
    obtain ⟨z, o, hst⟩ := hst
    rw [hst] at eq eb
    have on : ∀ n, o = some n → n ≤ 1000 := fun n e => by
      subst e
      have := stL_lt hst
      omega
    refine ⟨q, _, rfl, SqL.of eq, rfl, _, _, rfl, _, _, rfl, rfl, ?_⟩
    have W1 := W.same s1
    have q1 := hq.same s1
    have T1 : Tabs [(Pt, lamQ)] H1 := hT.ext s1
    have ex1 : ExtN H H1 := .of s1
    have llen := W.ls.len
    have dueL : ∀ {H' : Hp}, Same H1 H' → H' b = some (.lst (nums z)) := fun s => s _ _ eb
    -- can, first_stuck
    have looks : ∀ {Hx : Hp}, WAt C Hx wd size l → Seq Hx r row → Tabs [(Pt, lamQ)] Hx → ExtN H Hx → True := fun _ _ _ _ => trivial
    cases o with
    | none =>
      refine ⟨T1, fun H2 x2 T2 l1 hl1 => ⟨_, rfl, _, rfl, wd, r, size, l, row, rfl, (W1.ext x2).same (same_new hl1), (seq_ext q1 x2).same (same_new hl1), hlen, hd, .inl ⟨z, hst, fun c H3 s3 W3 => fun p hp => ?_⟩⟩⟩
      have s23 : Same H2 H3 := (same_new hl1).trans s3
      have s4 : Same H3 (upd H3 p (.lst [.ref c])) := same_new hp
      have e4 : (upd H3 p (.lst [.ref c])) p = some (.lst [.ref c]) := upd_same
      generalize upd H3 p (.lst [.ref c]) = H4 at s4 e4 ⊢
      have s24 := s23.trans s4
      have W4 := (W1.ext x2).same s24
      have q4 := (seq_ext q1 x2).same s24
      have T4 : Tabs [(Pt, lamQ)] H4 := T2.ext s24
      have x4 : ExtN H H4 := (ex1.trans x2).trans (.of s24)
      have b4 := s24 _ _ (x2 _ _ eb (fun ps z => by cases z))
      refine ⟨_, rfl, _, rfl, wd, r, size, l, row, rfl, W4, q4, hlen, hd, fun H5 s5 => ⟨_, rfl, _, rfl, wd, r, size, l, row, rfl, W4.same s5, q4.same s5, hlen, hd, fun H6 s6 => ?_⟩⟩
      rw [hst]
      refine ⟨(by show 2 ≤ sizeLine; decide), fun u hu => ⟨_, rfl, _, rfl, (by show 2 ≤ sizeLine; decide), fun v hv => ?_⟩⟩
      have s7 : Same H6 (upd H6 u (.lst [.bl true, .non])) := same_new hu
      have e7 : (upd H6 u (.lst [.bl true, .non])) u = some (.lst [.bl true, .non]) := upd_same
      have s8 := same_new (o := .lst [.bl true, .non]) hv
      have e8 : (upd (upd H6 u (.lst [.bl true, .non])) v (.lst [.bl true, .non])) v = some (.lst [.bl true, .non]) := upd_same
      have sAll := ((s5.trans s6).trans s7).trans s8
      refine ⟨u, v, .list [.bool true, plD none], rfl, .lst (SqL.of (s8 _ _ e7)) (.cons (.bl true) (.cons .non .nil)), .lst (SqL.of e8) (.cons (.bl true) (.cons .non .nil)), tx_pl on, _, rfl, iteF ?_⟩
      refine ⟨_, rfl, _, rfl, iteF ?_⟩
      refine ⟨_, rfl, _, _, _, _, true, rfl, ClsV.ty _, TyX.base (TyOf.lst (sAll _ _ e4)), kit_ty (by decide +kernel), _, rfl, iteT ?_⟩
      refine ⟨_, rfl, p, _, 0, .ref c, rfl, rfl, SqL.of (sAll _ _ e4), at_of (j := 0) rfl rfl, _, rfl, _, rfl, c, b, size, z, rfl, (W3.same s4).same sAll, sAll _ _ b4, fun H9 s9 => ?_⟩
      exact k H9 ((x4.trans (.of sAll)).trans (.of s9)) ((T4.ext sAll).ext s9)
    | some n =>
      refine ⟨T1, fun H2 x2 T2 l1 hl1 => ⟨_, rfl, _, rfl, wd, r, size, l, row, rfl, (W1.ext x2).same (same_new hl1), (seq_ext q1 x2).same (same_new hl1), hlen, hd, .inr ⟨z, n, hst, rf_ref O.kT fun p H4 s3 e4 => ?_⟩⟩⟩
      have s24 : Same H2 H4 := (same_new hl1).trans s3
      have W4 := (W1.ext x2).same s24
      have q4 := (seq_ext q1 x2).same s24
      have T4 : Tabs [(Pt, lamQ)] H4 := T2.ext s24
      have x4 : ExtN H H4 := (ex1.trans x2).trans (.of s24)
      refine ⟨_, rfl, _, rfl, wd, r, size, l, row, rfl, W4, q4, hlen, hd, fun H5 s5 => ⟨_, rfl, _, rfl, wd, r, size, l, row, rfl, W4.same s5, q4.same s5, hlen, hd, fun H6 s6 => ?_⟩⟩
      rw [hst]
      refine ⟨(by show 2 ≤ sizeLine; decide), fun u hu => ⟨_, rfl, _, rfl, (by show 2 ≤ sizeLine; decide), fun v hv => ?_⟩⟩
      have s7 : Same H6 (upd H6 u (.lst [.bl false, .int (n : Nat)])) := same_new hu
      have e7 : (upd H6 u (.lst [.bl false, .int (n : Nat)])) u = some (.lst [.bl false, .int (n : Nat)]) := upd_same
      have s8 := same_new (o := .lst [.bl false, .int (n : Nat)]) hv
      have e8 : (upd (upd H6 u (.lst [.bl false, .int (n : Nat)])) v (.lst [.bl false, .int (n : Nat)])) v = some (.lst [.bl false, .int (n : Nat)]) := upd_same
      have sAll := ((s5.trans s6).trans s7).trans s8
      refine ⟨u, v, .list [.bool false, plD (some n)], rfl, .lst (SqL.of (s8 _ _ e7)) (.cons (.bl false) (.cons (.int _) .nil)), .lst (SqL.of e8) (.cons (.bl false) (.cons (.int _) .nil)), tx_pl on, _, rfl, iteF ?_⟩
      refine ⟨_, rfl, _, rfl, iteT ?_⟩
      refine ⟨_, rfl, _, rfl, (by show 2 ≤ sizeLine; decide), fun y hy => ?_⟩
      have s9 := same_new (o := .tup [.str "stuck", .int (n : Nat)]) hy
      refine ⟨p, y, .tuple [.str "stuck", .int (n : Nat)], rfl, .tup (SqT.of (s9 _ _ (sAll _ _ e4))) (.cons (.str _) (.cons (.int _) .nil)), .tup (SqT.of upd_same) (.cons (.str _) (.cons (.int _) .nil)), tx_stuck (on n rfl), ?_⟩
      exact k _ ((x4.trans (.of sAll)).trans (.of s9)) ((T4.ext sAll).ext s9)
end
end Lw
/-! Oq. a == b by the class's own __eq__. -/
namespace LwE
open PySem PySem.Spec PyProof.Rows L2
section
variable {X : Cx} {k : Nat} {f C : Addr} {fd : FuncData} {ps : List Str} {sp : Sp}
def rEqO (C : Addr) (sp : Sp) : R2 := fun x y H Q => ∃ a dx fs b dy gs, x = .ref a ∧ y = .ref b ∧ H a = some (.ins C dx fs) ∧ H b = some (.ins C dy gs) ∧ sp [x, y] H (fun z H' => ∃ c : Bool, z = .bl c ∧ Q (.bl c) H') E0
theorem op_eqO (hs : PySem.W.findIn X.K (.ref C) "__eq__" = some (some (.ref f))) (hf : PySem.W.isFn X.K (.ref f) = true)
    (F : FnOk X.prog X.w X.K X.mg X.base CX0 k f fd ps sp) (hb : Binds X.K fd ps []) (hr : Room k X.A) : OpR X (compareOp .Eq) (rEqO C sp) := by
  intro pins s σ H x y v u Q I rx ry h
  obtain ⟨a, dx, fs, b, dy, gs, rfl, rfl, ea, eb, q⟩ := h
  obtain rfl : v = Value.ref a := rx
  obtain rfl : u = Value.ref b := ry
  obtain ⟨ox, od, J⟩ := inst_of I ea
  obtain ⟨oy, oe, J'⟩ := inst_of I eb
  have Xk := I.kIn
  have h1 : X.A.units < cLine := hr.units0
  have hcall : wpAny (model X.prog X.w) X.A (call (.ref f) [.ref a, .ref b]) (fun w s' => ∃ c, w = .bool c ∧ EP X pins σ Q (.bool c) s') X.xe s :=
    wpAny_mono (run_below (vs := [.ref a, .ref b]) F hr I.env0 hb I (.cons rfl (.cons rfl .nil)) q) (fun w s' z => by
      obtain ⟨z', H', I', rz, c, rfl, qz⟩ := z
      obtain rfl : w = Value.bool c := rz
      exact ⟨c, rfl, .bl c, H', I', rfl, qz⟩) fun _ _ x => x
  have one : wpAny (model X.prog X.w) X.A (tryCompare (.ref a) "__eq__" (.ref b)) (fun r s' => ∃ c : Bool, r = some (.bool c) ∧ EP X pins σ Q (.bool c) s') X.xe s := by
    simp only [tryCompare]
    refine wpAny_bind (PySem.W.ifBound_K Xk J hs hf (wpAny_mono hcall (fun r s' hq => ?_) fun _ _ e => e))
    obtain ⟨c, rfl, qz⟩ := hq
    first | exact ⟨c, rfl, qz⟩ | exact wpAny_pure ⟨c, rfl, qz⟩
  show wpAny _ _ (richCompare .Eq (.ref a) (.ref b)) _ _ _
  unfold richCompare
  simp only [oneThing_ref]
  refine wpAny_holding (wpAny_bind (wpAny_cRoomFor h1 ?_))
  rw [cmpInfo_Eq]
  dsimp only
  refine wpAny_bind (J.type.here (wpAny_bind (J'.type.here ?_)))
  rw [show (Value.ref C != Value.ref C) = false from by simp]
  simp only [Bool.false_eq_true, if_false]
  refine wpAny_bind (wpAny_pure ?_)
  simp only [Bool.false_eq_true, if_false]
  refine wpAny_bind (wpAny_mono one (fun r s' z => ?_) fun _ _ e => e)
  obtain ⟨c, rfl, qz⟩ := z
  first | exact wpAny_pure qz | exact wpAny_pure (wpAny_pure qz)
end
end LwE
/-! T. The law. -/
namespace LwM
theorem runL_twice {r l : List Int} (h : runL r l = some l) : ∀ n, runL (List.replicate n r).flatten l = some l
  | 0 => rfl
  | n + 1 => by
    rw [List.replicate_succ, List.flatten_cons, runL_app, h]
    exact runL_twice h n
def one40 : List Int := List.replicate 40 1
theorem back40 : runL [1, -1] one40 = some one40 := by decide +kernel
theorem long_ok : stL (List.replicate 500 [1, -1]).flatten one40 0 = (one40, none) := stL_end (runL_twice back40 500)
theorem long_no : (stL (List.replicate 500 [(1 : Int), -1]).flatten [] 0).2 = some 0 := by decide +kernel
theorem can_no : (stL (List.replicate 41 1) one40 0).2.isNone = false := by decide +kernel
end LwM
namespace Lw
open PySem L2 LwE LwM LamX
/-- what the law reads -/
structure Ow (P : Program) (w : World) (K : PySem.W.Frag) (mg : Str → Option Value) (base : Heap) (C Pt CT : Addr) (fB fZ fL fD fY fS fR fO fG fK fW fU fF fC fE : Addr) (dB dZ dL dD dY dS dR dO dG dK dW dU dF dC dE : FuncData) : Prop where
  gB : Df K mg "_law_begun" sBegun fB dB
  B : FnOk P w K mg base CX0 2 fB dB ["script"] (spBegun K)
  bB : Binds K dB ["script"] []
  gZ : Df K mg "_law_size" sSize fZ dZ
  Z : FnOk P w K mg base CX0 3 fZ dZ ["m"] spSize
  bZ : Binds K dZ ["m"] []
  gL : Df K mg "_law_letters" sLetters fL dL
  L : FnOk P w K mg base CX0 3 fL dL ["m", "size", "most"] spLetters
  bL : Binds K dL ["m", "size", "most"] []
  gD : Df K mg "_law_draw" sDraw fD dD
  D : FnOk P w K mg base CX0 2 fD dD ["m", "limit"] spDraw
  bD : Binds K dD ["m", "limit"] []
  gY : Df K mg "_law_way" sWay fY dY
  Y : FnOk P w K mg base CX0 3 fY dY ["m", "size", "letters", "many"] spWay
  bY : Binds K dY ["m", "size", "letters", "many"] []
  gS : Df K mg "_law_deeds" sDeeds fS dS
  S : FnOk P w K mg base CX0 3 fS dS ["m", "size", "many"] spDeeds
  bS : Binds K dS ["m", "size", "many"] []
  gR : Df K mg "_law_right" sRight fR dR
  R : FnG P w K mg base 12 fR dR ["word", "size", "letters", "row"] (spRight C Pt)
  bR : Binds K dR ["word", "size", "letters", "row"] []
  gO : Df K mg "_law_done" sDone fO dO
  O_ : FnOk P w K mg base CX0 2 fO dO ["letters", "deed"] spDone
  bO : Binds K dO ["letters", "deed"] []
  gG : Df K mg "deeds_of" sDeedsOf fG dG
  G : FnOk P w K mg base CX0 3 fG dG ["word"] (spDeedsOf C)
  bG : Binds K dG ["word"] []
  gK : Df K mg "_law_like" sLike fK dK
  K_ : FnG P w K mg base 1 fK dK ["told", "due"] (spLike K)
  bK : Binds K dK ["told", "due"] []
  gW : Df K mg "_law_is_word" sIsWord fW dW
  W_ : FnG P w K mg base 1 fW dW ["told", "size", "letters"] (spIsWord C)
  bW : Binds K dW ["told", "size", "letters"] []
  gU : Df K mg "run" sRun fU dU
  U : FnOk P w K mg base (L2.CX P w) 9 fU dU ["word", "row"] (spRunX C CT)
  bU : Binds K dU ["word", "row"] []
  gF : Df K mg "first_stuck" sFirst fF dF
  F_ : FnOk P w K mg base CX0 5 fF dF ["word", "row"] (spFirst C)
  bF : Binds K dF ["word", "row"] []
  gC : Df K mg "can" sCan fC dC
  C_ : FnOk P w K mg base CX0 6 fC dC ["word", "row"] (spCan C)
  bC : Binds K dC ["word", "row"] []
  mE : Meth K C "__eq__" fE
  E : FnOk P w K mg base CX0 1 fE dE ["self", "other"] (spEq C)
  bE : Binds K dE ["self", "other"] []
section
variable {P : Program} {w : World} {K : PySem.W.Frag} {mg : Str → Option Value} {base : Heap} {C Pt CT fI fB fZ fL fD fY fS fR fO fG fK fW fU fF fC fE : Addr} {dI dB dZ dL dD dY dS dR dO dG dK dW dU dF dC dE : FuncData}
def spLaw (K : PySem.W.Frag) (Pt : Addr) : Sp := fun vs H Q _ => ∃ (a : Addr) (ns : List Int), vs = [.ref a] ∧ SqL K H a (nums ns) ∧ ns.length ≤ 63 ∧ Tabs [(Pt, lamQ)] H ∧ ∀ H', Q (.bl true) H'
abbrev Nlw : List Str := ["script", "m", "turn", "size", "letters", "word", "row", "at", "fresh", "rows", "one", "kept", "some", "long", "deed"]
theorem scLaw : FnScope Nlw ["script"] (defScope sLaw) := ⟨rfl, rfl, rfl, by decide +kernel, rfl, by decide +kernel, by decide +kernel⟩
theorem Dr.extN {H H' : Hp} {m g c : Addr} {n : Int} (d : Dr H m g c n) (e : ExtN H H') : Dr H' m g c n := by
  obtain ⟨a, ⟨cs, b1, b2⟩, ⟨gs, c1, c2⟩, ne, n0⟩ := d
  exact ⟨e _ _ a (fun ps z => by cases z), ⟨cs, b1, e _ _ b2 (fun ps z => by cases z)⟩, ⟨gs, c1, e _ _ c2 (fun ps z => by cases z)⟩, ne, n0⟩
theorem tabs_keep {T : List (Addr × Str)} {H H' : Hp} {m g c : Addr} {n : Int} (t : Tabs T H) (d : Dr H m g c n) (k : Keep m g H H') : Tabs T H' := fun p hp => by
  obtain ⟨ps, h1, h2, h3⟩ := t p hp
  obtain ⟨gs, _, eg⟩ := d.hg
  refine ⟨ps, k _ _ h1 (ne_of h1 d.hm (by intro z; cases z)) (ne_of h1 eg (by intro z; cases z)), h2, fun pos cv hc => ?_⟩
  obtain ⟨cc, e1, e2⟩ := h3 pos cv hc
  exact ⟨cc, e1, k _ _ e2 (ne_of e2 d.hm (by intro z; unfold CodeO at z; cases z)) (ne_of e2 eg (by intro z; unfold CodeO at z; cases z))⟩
/-- a row that the law tries -/
structure RowOk (H : Hp) (m g : Addr) (size : Int) (p : Addr) : Prop where
  at_ : ∃ ds : List Int, Seq H p ds ∧ ds.length ≤ 100 ∧ ∀ d ∈ ds, Deed size d
  m : p ≠ m
  g : p ≠ g
theorem RowOk.keep {H H' : Hp} {m g p : Addr} {size : Int} (r : RowOk H m g size p) (k : Keep m g H H') : RowOk H' m g size p :=
  ⟨let ⟨ds, s, l, b⟩ := r.at_; ⟨ds, s.elim (fun e => .inl (k _ _ e r.m r.g)) (fun e => .inr (k _ _ e r.m r.g)), l, b⟩, r.m, r.g⟩
theorem RowOk.ext {H H' : Hp} {m g p : Addr} {size : Int} (r : RowOk H m g size p) (x : ExtN H H') : RowOk H' m g size p :=
  ⟨let ⟨ds, s, l, b⟩ := r.at_; ⟨ds, seq_ext s x, l, b⟩, r.m, r.g⟩
theorem tx_intsL {l : List Int} (h : ∀ x ∈ l, x.natAbs ≤ 100000) (hl : l.length ≤ 10000) : Tx (.list (l.map PyData.int)) := by
  refine tx_sm (by simpa [smD] using sm_ints l h) (by have := dep_ints l; simp [PyData.depth, this]) ?_
  have := wt_ints l
  simp only [wtD]
  omega
theorem seq_dp {H : Hp} {p : Addr} {ds : List Int} (h : Seq H p ds) (hd : ∀ x ∈ ds, x.natAbs ≤ 100000) (hl : ds.length ≤ 10000) : ∃ d : PyData, Tx d ∧ ∀ H', (H' p = H p) → Dp K H' (.ref p) d := by
  rcases h with e | e
  · exact ⟨_, tx_intsL hd hl, fun H' q => .lst (SqL.of (q.trans e)) (dp_nums ds)⟩
  · exact ⟨_, tx_ints hd hl, fun H' q => .tup (SqT.of (q.trans e)) (dp_nums ds)⟩
theorem nums_app (a b : List Int) : nums a ++ nums b = nums (a ++ b) := by simp [nums]
theorem flat_nums (n : Nat) (r : List Int) : (List.replicate n (nums r)).flatten = nums (List.replicate n r).flatten := by
  induction n with
  | zero => rfl
  | succ n ih => rw [List.replicate_succ, List.flatten_cons, ih, nums_app, List.replicate_succ, List.flatten_cons]
theorem dsf_succ (size : Int) (l : List Int) (j : Nat) : (ff size (j + 1)).filter (okD l) = (ff size j).filter (okD l) ++ if 1 - size + (j : Int) ≠ 0 ∧ okD l (1 - size + (j : Int)) = true then [1 - size + (j : Int)] else [] := by
  rw [ff_succ, List.filter_append]
  congr 1
  by_cases h : 1 - size + (j : Int) = 0
  · rw [if_neg (by simpa using h), if_neg (fun z => z.1 h)]
    rfl
  · rw [if_pos h]
    by_cases o : okD l (1 - size + (j : Int)) = true
    · rw [if_pos ⟨h, o⟩]
      simp [o]
    · rw [if_neg (fun z => o z.2)]
      simp [o]
set_option maxHeartbeats 4000000 in
theorem ok_law {f : Addr} {fd : FuncData} (B : Bare mg) (T : Cw K mg C) (F : Df K mg "law" sLaw f fd) (I : In_ P w K mg base C fI dI)
    (O : Ow P w K mg base C Pt CT fB fZ fL fD fY fS fR fO fG fK fW fU fF fC fE dB dZ dL dD dY dS dR dO dG dK dW dU dF dC dE) : FnG P w K mg base 13 f fd ["script"] (spLaw K Pt) := by
  refine okG F.fn scLaw (fun vs H Q E h => ?_) (fun cdv A outer s H vs Q E hg hr h => ?_)
  · obtain ⟨a, ns, rfl, _⟩ := h
    rfl
  · obtain ⟨a, ns, rfl, hS, hlen, hT, k⟩ := h
    have hr1 : Room 1 _ := hr.mono (by decide)
    have hr2 : Room 2 _ := hr.mono (by decide)
    have hr3 : Room 3 _ := hr.mono (by decide)
    have hr5 : Room 5 _ := hr.mono (by decide)
    have hr6 : Room 6 _ := hr.mono (by decide)
    have hr9 : Room 9 _ := hr.mono (by decide)
    refine ⟨_, pss_cons (ps_set (i := 1) scLaw.nd rfl (Or.inl rfl) (pe_call O.B hr2 (by rfl) O.gB.g O.gB.fn.kp O.bB .nil pass0 (pa_cons (pv 0) pa_nil)))
      (pss_cons (ps_for PassesOwn.never rfl (pi_range1 (by rfl) B.range (pa_cons pe_int pa_nil)) (pg_name (i := 2) scLaw.nd rfl (Or.inl rfl))
        (pss_cons (ps_set (i := 3) scLaw.nd rfl (Or.inl rfl) (pe_call O.Z hr3 (by rfl) O.gZ.g O.gZ.fn.kp O.bZ .nil pass0 (pa_cons (pv 1) pa_nil)))
        (pss_cons (ps_set (i := 4) scLaw.nd rfl (Or.inr rfl) (pe_call O.L hr3 (by rfl) O.gL.g O.gL.fn.kp O.bL .nil pass0 (pa_cons (pv 1) (pa_cons (pv 3) (pa_cons pe_int pa_nil)))))
        (pss_cons (ps_set (i := 5) scLaw.nd rfl (Or.inl rfl) (pe_make I.m I.ok hr5 (by rfl) T.mgC I.b .nil pass0 (pa_cons (pv 3) (pa_cons (pv 4) pa_nil))))
        (pss_cons (ps_set (i := 6) scLaw.nd rfl (Or.inl rfl) (pe_ix ix_list (pe_call O.Y hr3 (by rfl) O.gY.g O.gY.fn.kp O.bY .nil pass0 (pa_cons (pv 1) (pa_cons (pv 3) (pa_cons (pv 4) (pa_cons (pe_call O.D hr2 (by rfl) O.gD.g O.gD.fn.kp O.bD .nil pass0 (pa_cons (pv 1) (pa_cons pe_int pa_nil))) pa_nil))))) pe_int (fun _ _ => rfl)))
        (pss_cons (ps_par (i := 7) (j := 8) (by rfl) scLaw.nd rfl rfl (by decide) rfl rfl (pa_cons (pe_call O.D hr2 (by rfl) O.gD.g O.gD.fn.kp O.bD .nil pass0 (pa_cons (pv 1) (pa_cons (pe_op op_add (pe_callB call_len_seq (by rfl) B.len PySem.boot_len (pa_cons (pv 6) pa_nil)) pe_int) pa_nil)))
            (pa_cons (pe_call O.S hr3 (by rfl) O.gS.g O.gS.fn.kp O.bS .nil pass0 (pa_cons (pv 1) (pa_cons (pv 3) (pa_cons pe_int pa_nil)))) pa_nil)) (by rfl))
        (pss_cons (ps_set (i := 9) scLaw.nd rfl (Or.inl rfl) (pe_lst (pa_cons (pv 6) (pa_cons (pe_callTy call_tuple_of (by rfl) B.tuple (by decide +kernel) (pa_cons (pv 6) pa_nil))
          (pa_cons (pe_op op_cat (pe_op op_cat (pe_slice sl_list (pv 6) po_none (po_some (pv 7))) (pv 8)) (pe_slice sl_list (pv 6) (po_some (pv 7)) po_none))
          (pa_cons (pe_op op_cat (pe_slice sl_list (pv 6) po_none (po_some (pv 7))) (pe_slice sl_list (pv 6) (po_some (pe_op op_add (pv 7) pe_int)) po_none))
          (pa_cons (pe_op op_cat (pe_op op_cat (pe_slice sl_list (pv 6) po_none (po_some (pv 7))) (pv 8)) (pe_slice sl_list (pv 6) (po_some (pe_op op_add (pv 7) pe_int)) po_none)) pa_nil)))))))
        (pss_cons (ps_set (i := 9) scLaw.nd rfl (Or.inl rfl) (pe_op op_cat (pv 9) (pe_lst (pa_cons (pe_call O.S hr3 (by rfl) O.gS.g O.gS.fn.kp O.bS .nil pass0 (pa_cons (pv 1) (pa_cons (pv 3) (pa_cons (pe_call O.D hr2 (by rfl) O.gD.g O.gD.fn.kp O.bD .nil pass0 (pa_cons (pv 1) (pa_cons pe_int pa_nil))) pa_nil)))) (pa_cons (pe_lst pa_nil) pa_nil)))))
        (pss_cons (ps_for PassesOwn.never rfl (pi_list (pv 9)) (pg_name (i := 10) scLaw.nd rfl (Or.inl rfl))
          (pss_cons (ps_set (i := 11) scLaw.nd rfl (Or.inl rfl) (pe_callB (call_reprD (by exact hg) hr.units) (by rfl) B.repr (by decide +kernel) (pa_cons (pv 10) pa_nil)))
          (pss_one (ps_if (PW.pt (pw_or (pt_not (pt_val (pe_callG (by exact hg) O.R hr (by rfl) O.gR.g O.gR.fn.kp O.bR (pa_cons (pv 5) (pa_cons (pv 3) (pa_cons (pv 4) (pa_cons (pv 10) pa_nil)))))))
            (pw_or1 (pt_cmpR op_ne (pe_callB (call_reprD (by exact hg) hr.units) (by rfl) B.repr (by decide +kernel) (pa_cons (pv 10) pa_nil)) (pv 11) (nomark _))))) pss_never pss_nil))))
        (pss_cons (ps_setLc (i := 12) (own := [("deed", 14)]) (g := gName 14) rfl scLaw.nd rfl rfl (sw_true rfl rfl rfl (by decide +kernel)) (pi_range2 (by rfl) B.range (pa_cons (pe_op op_sub pe_int (pv 3)) (pa_cons (pv 3) pa_nil)))
          (blkOk_by (N := Nlw) (sc := defScope sLaw) (by decide +kernel))
          (fun _ _ _ _ _ => pg_name (i := 14) scLaw.nd rfl (Or.inl rfl))
          (fun _ _ _ _ _ => pts_one (PW.pt (pw_and (pt_cmpR op_ne (pv 14) pe_int (nomark _)) (pw_and1 (pt_cmp (pc_notN (pe_call O.O_ hr2 (by rfl) O.gO.g O.gO.fn.kp O.bO .nil pass0 (pa_cons (pv 4) (pa_cons (pv 14) pa_nil)))))))))
          (fun _ _ _ _ _ => pv 14))
        (pss_one (ps_if (PW.pt (pw_or (pt_not (pt_val (pe_callG (by exact hg) O.K_ hr1 (by rfl) O.gK.g O.gK.fn.kp O.bK (pa_cons (pe_call O.G hr3 (by rfl) O.gG.g O.gG.fn.kp O.bG .nil pass0 (pa_cons (pv 5) pa_nil)) (pa_cons (pe_callTy call_tuple_of (by rfl) B.tuple (by decide +kernel) (pa_cons (pv 12) pa_nil)) pa_nil)))))
            (pw_or1 (pt_not (pt_val (pe_callG (by exact hg) O.W_ hr1 (by rfl) O.gW.g O.gW.fn.kp O.bW (pa_cons (pv 5) (pa_cons (pv 3) (pa_cons (pv 4) pa_nil))))))))) pss_never pss_nil))))))))))))
      (pss_cons (ps_set (i := 5) scLaw.nd rfl (Or.inl rfl) (pe_make I.m I.ok hr5 (by rfl) T.mgC I.b .nil pass0 (pa_cons pe_int (pa_cons (pe_op op_rep (pe_lst (pa_cons pe_int pa_nil)) pe_int) pa_nil))))
      (pss_cons (ps_set (i := 13) scLaw.nd rfl (Or.inl rfl) (pe_op op_rep (pe_lst (pa_cons pe_int (pa_cons (pe_un un_neg pe_int) pa_nil))) pe_int))
      (pss_one (ps_ret (pe_and (pe_cmpR (op_eqO O.mE.at_ O.mE.fn O.E O.bE hr1) (pe_call (E := E0) O.U hr9 (by rfl) O.gU.g O.gU.fn.kp O.bU .nil passL (pa_cons (pv 5) (pa_cons (pv 13) pa_nil))) (pv 5) (nomark _))
        (pe_and (pe_cmpR op_eq (pe_call O.F_ hr5 (by rfl) O.gF.g O.gF.fn.kp O.bF .nil pass0 (pa_cons (pe_make I.m I.ok hr5 (by rfl) T.mgC I.b .nil pass0 (pa_cons pe_int (pa_cons (pe_tup pa_nil) pa_nil))) (pa_cons (pv 13) pa_nil))) pe_int (nomark _))
        (pe_one (pe_cmpR op_isBl (pe_call O.C_ hr6 (by rfl) O.gC.g O.gC.fn.kp O.bC .nil pass0 (pa_cons (pv 5) (pa_cons (pe_op op_rep (pe_lst (pa_cons pe_int pa_nil)) pe_int) pa_nil))) pe_bl (nomark _)))))))))), ?_⟩
    refine ⟨_, rfl, a, ns, rfl, hS, hlen, fun m g c H0 s0 d0 => ?_⟩
    have off : ∀ {q : Addr} {n : Int} {X : Hp}, Dr X m g c n → X q = none → q ≠ m ∧ q ≠ g := fun {q n X} d hq => by
      obtain ⟨gs, _, eg⟩ := d.hg
      exact ⟨fun z => (ne_of_none d.hm hq) z.symm, fun z => (ne_of_none eg hq) z.symm⟩
    refine ⟨4, rfl, by decide, by decide, for_range (lo := 0) (n := 4) (fun j σ H' => ∃ (v2 v3 v4 v5 v6 v7 v8 v9 v10 v11 v12 v13 : Option V) (n : Int),
      σ = [some (.ref a), some (.ref m), v2, v3, v4, v5, v6, v7, v8, v9, v10, v11, v12, v13, none] ∧ Dr H' m g c n ∧ n ≤ 1000 * (j : Int) ∧ Tabs [(Pt, lamQ)] H')
      ⟨_, _, _, _, _, _, _, _, _, _, _, _, 0, rfl, d0, by omega, hT.ext s0⟩ ?_ ?_⟩
    · rintro j σ H' hj ⟨v2, v3, v4, v5, v6, v7, v8, v9, v10, v11, v12, v13, n, rfl, d, hn, TT⟩
      have nn0 := d.n0
      refine ⟨_, rfl, m, g, c, n, rfl, d, by omega, fun size H1 z0 z1 d1 k1 => ?_⟩
      refine ⟨_, rfl, _, rfl, m, g, c, n + 1, size, 20, rfl, d1, by omega, z0, z1, by decide, by decide, fun p ls n2 H2 l1 bd l3 l4 d2 k2 nf ep => ?_⟩
      have op := off d1 nf
      have L0 : Ls size ls := ⟨z0, z1, by omega, bd⟩
      have T2 : Tabs [(Pt, lamQ)] H2 := tabs_keep (tabs_keep TT d k1) d1 k2
      refine ⟨_, rfl, _, rfl, fun x dx nx ndx ne => ⟨x, dx, size, p, ls, rfl, upd_same, .inl (made_same nx ndx _ _ ep), L0, fun H3 kp W3 => ⟨rfl, ?_⟩⟩⟩
      have s3 : Same H2 H3 := Same.made nx ndx kp
      have d3 := d2.same s3
      -- row
      refine ⟨_, rfl, _, rfl, _, rfl, _, rfl, m, g, c, n2, 25, rfl, d3, by omega, by decide, by decide, fun y H4 y0 y1 d4 k4 => ?_⟩
      have ep4 := k4 _ _ (s3 _ _ ep) op.1 op.2
      refine ⟨m, g, c, p, n2 + 1, size, y, ls, rfl, d4, by omega, z0, z1, y0, by omega, ep4, op.2, by omega, fun pp rw b ds z n5 H5 w1 w2 _ w4 w5 d5 k5 _ rg e5p e5r _ => ⟨pp, _, 0, _, rfl, rfl, SqL.of e5p, at_of (j := 0) rfl rfl, ?_⟩⟩
      have rm : rw ≠ m := ne_of e5r d5.hm (by intro z; cases z)
      -- at, fresh
      refine ⟨_, rfl, _, rfl, rw, _, rfl, .inl (SqL.of e5r), _, _, rfl, rfl, m, g, c, n5, _, rfl, d5, by omega, by omega, by rw [List.length_map]; omega, fun t H6 t0 t1 d6 k6 => ?_⟩
      refine ⟨_, rfl, _, rfl, m, g, c, n5 + 1, size, 1, rfl, d6, by omega, z0, z1, by decide, by decide, fun fp fs n7 H7 f1 f2 f3 f4 d7 k7 fnf ef => ⟨_, _, rfl, ?_⟩⟩
      have ofp := off d6 fnf
      have e7r := k7 _ _ (k6 _ _ e5r rm rg) rm rg
      have fl : fs.length = 1 := by omega
      -- rows
      refine ⟨_, rfl, _, rfl, rw, _, rfl, .inl ⟨SqL.of e7r, fun tp htp => ?_⟩⟩
      have s8 : Same H7 (upd H7 tp (.tup (nums ds))) := same_new htp
      have e8 : (upd H7 tp (.tup (nums ds))) tp = some (.tup (nums ds)) := upd_same
      have otp := off d7 htp
      generalize upd H7 tp (.tup (nums ds)) = H8 at s8 e8 ⊢
      have e8r := s8 _ _ e7r
      refine ⟨_, rfl, _, rfl, _, rfl, rw, _, rfl, SqL.of e8r, fun p1 h1 => ?_⟩
      rw [cut_take ds t0]
      have s9 : Same H8 (upd H8 p1 (.lst (nums (ds.take t.toNat)))) := same_new h1
      have e9 : (upd H8 p1 (.lst (nums (ds.take t.toNat)))) p1 = some (.lst (nums (ds.take t.toNat))) := upd_same
      generalize upd H8 p1 (.lst (nums (ds.take t.toNat))) = H9 at s9 e9 ⊢
      have lt : (ds.take t.toNat).length ≤ 25 := by rw [List.length_take]; omega
      have ld : (ds.drop t.toNat).length ≤ 25 := by rw [List.length_drop]; omega
      have ld2 : (ds.drop (t + 1).toNat).length ≤ 25 := by rw [List.length_drop]; omega
      refine ⟨_, rfl, p1, fp, _, _, rfl, rfl, e9, (s8.trans s9) _ _ ef, by rw [List.length_map, List.length_map, sizeLine_eq]; omega, fun p2 h2 => ?_⟩
      rw [nums_app]
      have s10 : Same H9 (upd H9 p2 (.lst (nums (ds.take t.toNat ++ fs)))) := same_new h2
      have e10 : (upd H9 p2 (.lst (nums (ds.take t.toNat ++ fs)))) p2 = some (.lst (nums (ds.take t.toNat ++ fs))) := upd_same
      generalize upd H9 p2 (.lst (nums (ds.take t.toNat ++ fs))) = H10 at s10 e10 ⊢
      refine ⟨_, rfl, _, rfl, _, rfl, rw, _, rfl, SqL.of ((s9.trans s10) _ _ e8r), fun p3 h3 => ?_⟩
      rw [cut_drop ds t0]
      have s11 : Same H10 (upd H10 p3 (.lst (nums (ds.drop t.toNat)))) := same_new h3
      have e11 : (upd H10 p3 (.lst (nums (ds.drop t.toNat)))) p3 = some (.lst (nums (ds.drop t.toNat))) := upd_same
      generalize upd H10 p3 (.lst (nums (ds.drop t.toNat))) = H11 at s11 e11 ⊢
      refine ⟨p2, p3, _, _, rfl, rfl, s11 _ _ e10, e11, by rw [List.length_map, List.length_map, sizeLine_eq, List.length_append]; omega, fun p4 h4 => ?_⟩
      rw [nums_app]
      have s811 := (s9.trans s10).trans s11
      have op4 := off ((d7.same s8).same s811) h4
      have s12 : Same H11 (upd H11 p4 (.lst (nums (ds.take t.toNat ++ fs ++ ds.drop t.toNat)))) := same_new h4
      have e12 : (upd H11 p4 (.lst (nums (ds.take t.toNat ++ fs ++ ds.drop t.toNat)))) p4 = some (.lst (nums (ds.take t.toNat ++ fs ++ ds.drop t.toNat))) := upd_same
      generalize upd H11 p4 (.lst (nums (ds.take t.toNat ++ fs ++ ds.drop t.toNat))) = H12 at s12 e12 ⊢
      have s812 := s811.trans s12
      -- the fourth
      refine ⟨_, rfl, _, rfl, _, rfl, rw, _, rfl, SqL.of (s812 _ _ e8r), fun q1 g1 => ?_⟩
      rw [cut_take ds t0]
      have s13 : Same H12 (upd H12 q1 (.lst (nums (ds.take t.toNat)))) := same_new g1
      have e13 : (upd H12 q1 (.lst (nums (ds.take t.toNat)))) q1 = some (.lst (nums (ds.take t.toNat))) := upd_same
      generalize upd H12 q1 (.lst (nums (ds.take t.toNat))) = H13 at s13 e13 ⊢
      refine ⟨_, rfl, _, rfl, _, _, rfl, rfl, _, rfl, rw, _, rfl, SqL.of (s13 _ _ (s812 _ _ e8r)), fun q2 g2 => ?_⟩
      rw [cut_drop ds (show 0 ≤ t + 1 by omega)]
      have s14 : Same H13 (upd H13 q2 (.lst (nums (ds.drop (t + 1).toNat)))) := same_new g2
      have e14 : (upd H13 q2 (.lst (nums (ds.drop (t + 1).toNat)))) q2 = some (.lst (nums (ds.drop (t + 1).toNat))) := upd_same
      generalize upd H13 q2 (.lst (nums (ds.drop (t + 1).toNat))) = H14 at s14 e14 ⊢
      refine ⟨q1, q2, _, _, rfl, rfl, s14 _ _ e13, e14, by rw [List.length_map, List.length_map, sizeLine_eq]; omega, fun q3 g3 => ?_⟩
      rw [nums_app]
      have s814 := (s812.trans s13).trans s14
      have oq3 := off ((d7.same s8).same s814) g3
      have s15 : Same H14 (upd H14 q3 (.lst (nums (ds.take t.toNat ++ ds.drop (t + 1).toNat)))) := same_new g3
      have e15 : (upd H14 q3 (.lst (nums (ds.take t.toNat ++ ds.drop (t + 1).toNat)))) q3 = some (.lst (nums (ds.take t.toNat ++ ds.drop (t + 1).toNat))) := upd_same
      generalize upd H14 q3 (.lst (nums (ds.take t.toNat ++ ds.drop (t + 1).toNat))) = H15 at s15 e15 ⊢
      have s815 := s814.trans s15
      -- the fifth
      refine ⟨_, rfl, _, rfl, _, rfl, rw, _, rfl, SqL.of (s815 _ _ e8r), fun r1 i1 => ?_⟩
      rw [cut_take ds t0]
      have s16 : Same H15 (upd H15 r1 (.lst (nums (ds.take t.toNat)))) := same_new i1
      have e16 : (upd H15 r1 (.lst (nums (ds.take t.toNat)))) r1 = some (.lst (nums (ds.take t.toNat))) := upd_same
      generalize upd H15 r1 (.lst (nums (ds.take t.toNat))) = H16 at s16 e16 ⊢
      refine ⟨_, rfl, r1, fp, _, _, rfl, rfl, e16, ((s8.trans s815).trans s16) _ _ ef, by rw [List.length_map, List.length_map, sizeLine_eq]; omega, fun r2 i2 => ?_⟩
      rw [nums_app]
      have s17 : Same H16 (upd H16 r2 (.lst (nums (ds.take t.toNat ++ fs)))) := same_new i2
      have e17 : (upd H16 r2 (.lst (nums (ds.take t.toNat ++ fs)))) r2 = some (.lst (nums (ds.take t.toNat ++ fs))) := upd_same
      generalize upd H16 r2 (.lst (nums (ds.take t.toNat ++ fs))) = H17 at s17 e17 ⊢
      refine ⟨_, rfl, _, rfl, _, _, rfl, rfl, _, rfl, rw, _, rfl, SqL.of ((s16.trans s17) _ _ (s815 _ _ e8r)), fun r3 i3 => ?_⟩
      rw [cut_drop ds (show 0 ≤ t + 1 by omega)]
      have s18 : Same H17 (upd H17 r3 (.lst (nums (ds.drop (t + 1).toNat)))) := same_new i3
      have e18 : (upd H17 r3 (.lst (nums (ds.drop (t + 1).toNat)))) r3 = some (.lst (nums (ds.drop (t + 1).toNat))) := upd_same
      generalize upd H17 r3 (.lst (nums (ds.drop (t + 1).toNat))) = H18 at s18 e18 ⊢
      refine ⟨r2, r3, _, _, rfl, rfl, s18 _ _ e17, e18, by rw [List.length_map, List.length_map, sizeLine_eq, List.length_append]; omega, fun r4 i4 => ?_⟩
      rw [nums_app]
      have s818 := ((s815.trans s16).trans s17).trans s18
      have or4 := off ((d7.same s8).same s818) i4
      have s19 : Same H18 (upd H18 r4 (.lst (nums (ds.take t.toNat ++ fs ++ ds.drop (t + 1).toNat)))) := same_new i4
      have e19 : (upd H18 r4 (.lst (nums (ds.take t.toNat ++ fs ++ ds.drop (t + 1).toNat)))) r4 = some (.lst (nums (ds.take t.toNat ++ fs ++ ds.drop (t + 1).toNat))) := upd_same
      generalize upd H18 r4 (.lst (nums (ds.take t.toNat ++ fs ++ ds.drop (t + 1).toNat))) = H19 at s19 e19 ⊢
      have s819 := s818.trans s19
      refine ⟨(by show 5 ≤ sizeLine; decide), fun rp hrp => ?_⟩
      have s20 : Same H19 (upd H19 rp (.lst [.ref rw, .ref tp, .ref p4, .ref q3, .ref r4])) := same_new hrp
      have e20 : (upd H19 rp (.lst [.ref rw, .ref tp, .ref p4, .ref q3, .ref r4])) rp = some (.lst [.ref rw, .ref tp, .ref p4, .ref q3, .ref r4]) := upd_same
      have orp := off ((d7.same s8).same s819) hrp
      generalize upd H19 rp (.lst [.ref rw, .ref tp, .ref p4, .ref q3, .ref r4]) = H20 at s20 e20 ⊢
      have s820 := s819.trans s20
      have d20 := (d7.same s8).same s820
      have bt : ∀ e ∈ ds.take t.toNat, Deed size e := fun e h => w2 e (List.mem_of_mem_take h)
      have bd0 : ∀ e ∈ ds.drop t.toNat, Deed size e := fun e h => w2 e (List.mem_of_mem_drop h)
      have bd2 : ∀ e ∈ ds.drop (t + 1).toNat, Deed size e := fun e h => w2 e (List.mem_of_mem_drop h)
      have bap : ∀ {x y : List Int}, (∀ e ∈ x, Deed size e) → (∀ e ∈ y, Deed size e) → ∀ e ∈ x ++ y, Deed size e := fun hx hy e h => (List.mem_append.mp h).elim (hx e) (hy e)
      have R1 : RowOk H20 m g size rw := ⟨⟨ds, .inl (s820 _ _ e8r), by omega, w2⟩, rm, rg⟩
      have R2 : RowOk H20 m g size tp := ⟨⟨ds, .inr (s820 _ _ e8), by omega, w2⟩, otp.1, otp.2⟩
      have s1220 := ((s13.trans s14).trans s15).trans (((s16.trans s17).trans s18).trans (s19.trans s20))
      have s1520 := ((s16.trans s17).trans s18).trans (s19.trans s20)
      have R3 : RowOk H20 m g size p4 := ⟨⟨_, .inl (s1220 _ _ e12), by rw [List.length_append, List.length_append]; omega, bap (bap bt f2) bd0⟩, op4.1, op4.2⟩
      have R4 : RowOk H20 m g size q3 := ⟨⟨_, .inl (s1520 _ _ e15), by rw [List.length_append]; omega, bap bt bd2⟩, oq3.1, oq3.2⟩
      have R5 : RowOk H20 m g size r4 := ⟨⟨_, .inl (s20 _ _ e19), by rw [List.length_append, List.length_append]; omega, bap (bap bt f2) bd2⟩, or4.1, or4.2⟩
      -- more rows
      refine ⟨_, rfl, _, rfl, _, rfl, _, rfl, m, g, c, n7, 12, rfl, d20, by omega, by decide, by decide, fun u H21 u0 u1 d21 k21 => ?_⟩
      refine ⟨m, g, c, n7 + 1, size, u, rfl, d21, by omega, z0, z1, u0, by omega, fun dq es n22 H22 y1' y2' y3' y4' d22 k22 dnf edq => ?_⟩
      have odq := off d21 dnf
      refine ⟨Nat.zero_le _, fun eq0 he0 => ?_⟩
      have s23 : Same H22 (upd H22 eq0 (.lst [])) := same_new he0
      have e23 : (upd H22 eq0 (.lst [])) eq0 = some (.lst []) := upd_same
      have oe0 := off d22 he0
      generalize upd H22 eq0 (.lst []) = H23 at s23 e23 ⊢
      refine ⟨(by show 2 ≤ sizeLine; decide), fun lp hlp => ?_⟩
      have s24 : Same H23 (upd H23 lp (.lst [.ref dq, .ref eq0])) := same_new hlp
      have e24 : (upd H23 lp (.lst [.ref dq, .ref eq0])) lp = some (.lst [.ref dq, .ref eq0]) := upd_same
      generalize upd H23 lp (.lst [.ref dq, .ref eq0]) = H24 at s24 e24 ⊢
      have K24 : Keep m g H20 H24 := ((k21.trans k22).trans (.of s23)).trans (.of s24)
      refine ⟨rp, lp, _, _, rfl, rfl, K24 _ _ e20 orp.1 orp.2, e24, (by show 7 ≤ sizeLine; decide), fun fp2 hfp => ?_⟩
      have s25 : Same H24 (upd H24 fp2 (.lst ([V.ref rw, .ref tp, .ref p4, .ref q3, .ref r4] ++ [V.ref dq, .ref eq0]))) := same_new hfp
      have e25 : (upd H24 fp2 (.lst ([V.ref rw, .ref tp, .ref p4, .ref q3, .ref r4] ++ [V.ref dq, .ref eq0]))) fp2 = some (.lst ([V.ref rw, .ref tp, .ref p4, .ref q3, .ref r4] ++ [V.ref dq, .ref eq0])) := upd_same
      generalize upd H24 fp2 (.lst ([V.ref rw, .ref tp, .ref p4, .ref q3, .ref r4] ++ [V.ref dq, .ref eq0])) = H25 at s25 e25 ⊢
      have K25 : Keep m g H20 H25 := K24.trans (.of s25)
      have d25 : Dr H25 m g c n22 := ((d22.same s23).same s24).same s25
      have R6 : RowOk H25 m g size dq := ⟨⟨es, .inl (((s23.trans s24).trans s25) _ _ edq), by omega, y2'⟩, odq.1, odq.2⟩
      have R7 : RowOk H25 m g size eq0 := ⟨⟨[], .inl ((s24.trans s25) _ _ e23), Nat.zero_le _, fun e h => by cases h⟩, oe0.1, oe0.2⟩
      have rows : ∀ (i : Nat) (v : V), ([V.ref rw, .ref tp, .ref p4, .ref q3, .ref r4] ++ [V.ref dq, .ref eq0])[i]? = some v → ∃ q, v = .ref q ∧ RowOk H25 m g size q := fun i v h => by
        have hm := List.mem_of_getElem? h
        simp only [List.cons_append, List.nil_append, List.mem_cons, List.not_mem_nil, or_false] at hm
        rcases hm with rfl | rfl | rfl | rfl | rfl | rfl | rfl
        · exact ⟨_, rfl, R1.keep K25⟩
        · exact ⟨_, rfl, R2.keep K25⟩
        · exact ⟨_, rfl, R3.keep K25⟩
        · exact ⟨_, rfl, R4.keep K25⟩
        · exact ⟨_, rfl, R5.keep K25⟩
        · exact ⟨_, rfl, R6⟩
        · exact ⟨_, rfl, R7⟩
      have K225 : Keep m g H2 H25 := ((((((Keep.of s3).trans k4).trans k5).trans k6).trans k7).trans (.of (s8.trans s820))).trans K25
      have T25 : Tabs [(Pt, lamQ)] H25 := tabs_keep T2 d2 K225
      have K325 : Keep m g H3 H25 := (((((k4.trans k5).trans k6).trans k7).trans (.of (s8.trans s820))).trans K25)
      have W25 := W3.keep d3 K325
      have ep25 := K325 _ _ (s3 _ _ ep) op.1 op.2
      refine ⟨_, rfl, fp2, rfl, ⟨_, SqL.of e25⟩, for_list (K := K) (a := fp2) (xs := [V.ref rw, .ref tp, .ref p4, .ref q3, .ref r4] ++ [V.ref dq, .ref eq0]) (fun i σ H' => ∃ (v10 v11 : Option V),
        σ = [some (.ref a), some (.ref m), some (.int (0 + (j : Int))), some (.int size), some (.ref p), some (.ref x), some (.ref rw), some (.int t), some (.ref fp), some (.ref fp2), v10, v11, v12, v13, none] ∧ ExtN H25 H' ∧ Tabs [(Pt, lamQ)] H')
        ⟨_, _, rfl, ExtN.refl _, T25⟩ (fun i σ H' _ ⟨_, _, _, e, _⟩ => SqL.of (e _ _ e25 (fun ps z => by cases z))) ?_ ?_⟩
      · rintro i v σ H' hv ⟨v10, v11, rfl, x5, T5⟩
        obtain ⟨q, rfl, Rq⟩ := rows i v hv
        obtain ⟨es', sq, el, ed⟩ := (Rq.ext x5).at_
        have esm : ∀ e ∈ es', e.natAbs ≤ 100000 := fun e h => by
          obtain ⟨_, a1, a2⟩ := ed e h
          omega
        obtain ⟨dd, tx, dpq⟩ := seq_dp (K := K) sq esm (by omega)
        refine ⟨_, rfl, q, dd, rfl, dpq _ rfl, tx.sh, tx.nd, tx.dp, tx.len, ?_⟩
        have W' := W25.ext x5
        have ep' := x5 _ _ ep25 (fun ps z => by cases z)
        refine ⟨_, rfl, _, rfl, _, rfl, _, rfl, x, p, q, size, ls, es', rfl, W', ep', sq, by omega, ed, T5, fun H6 x6 T6 => ⟨_, rfl, iteF ?_⟩⟩
        have same6 : H6 q = H' q := by
          rcases sq with e | e
          · rw [e]
            exact x6 _ _ e (fun ps z => by cases z)
          · rw [e]
            exact x6 _ _ e (fun ps z => by cases z)
        refine ⟨_, rfl, q, dd, rfl, dpq _ same6, tx.sh, tx.nd, tx.dp, tx.len, _, rfl, rfl, _, rfl, ?_⟩
        rw [decide_eq_true rfl]
        exact iteF ⟨_, _, rfl, x5.trans x6, T6⟩
      rintro σ H26 ⟨v10, v11, rfl, x26, T26⟩
      have W26 := W25.ext x26
      have ep26 := x26 _ _ ep25 (fun ps z => by cases z)
      have d26 := d25.extN x26
      have llen := L0.len
      refine ⟨_, rfl, _, _, rfl, rfl, _, rfl, 1 - size, size, rfl, ⟨by omega, by omega, by omega, by omega⟩, fun D hD => ?_⟩
      refine lc_range (lo := 1 - size) (n := (size - (1 - size)).toNat) (fun j H' => Same H26 H' ∧ H' D = some (.lst (nums ((ff size j).filter (okD ls))))) ⟨same_new hD, upd_same⟩ ?_ ?_
      · rintro i H27 hi ⟨s27, e27⟩
        refine ⟨rfl, _, rfl, rfl, _, rfl, ?_⟩
        rw [dsf_succ]
        by_cases c0 : 1 - size + (i : Int) = 0
        · rw [if_neg (fun z => z.1 c0), List.append_nil]
          have e : (!decide (V.int (1 - size + (i : Int)) = V.int 0)) = false := by simp [c0]
          rw [e]
          exact iteF (iteF ⟨s27, e27⟩)
        · have e : (!decide (V.int (1 - size + (i : Int)) = V.int 0)) = true := by simp [c0]
          rw [e]
          refine iteT ⟨_, rfl, _, rfl, p, 1 - size + (i : Int), ls, rfl, s27 _ _ ep26, by omega, c0, fun e H28 s28 => ?_, fun r e q5 H28 s28 nq e5 => ?_⟩
          · have o : okD ls (1 - size + (i : Int)) = false := by
              unfold okD
              rw [e]
              rfl
            refine ⟨_, rfl, iteF ⟨s27.trans s28, ?_⟩⟩
            rw [if_neg (fun z => by rw [o] at z; cases z.2), List.append_nil]
            exact s28 _ _ e27
          · have o : okD ls (1 - size + (i : Int)) = true := by
              unfold okD
              rw [e]
              rfl
            refine ⟨_, rfl, iteT ⟨_, rfl, _, s28 _ _ e27, ?_, fun b o e => ?_, by rw [upd_same, if_pos ⟨c0, o⟩]; simp [nums]⟩⟩
            · rw [List.length_map]
              have h1 := List.length_filter_le (okD ls) (ff size i)
              have h2 := ff_len size i
              exact small1000 (by omega)
            · rw [upd_ne (ne_of_none e hD)]
              exact s28 _ _ (s27 _ _ e)
      rintro H27 ⟨s27, e27⟩
      -- deeds_of
      refine ⟨_, rfl, x, size, ls, rfl, W26.same s27, fun dp H28 s28 edp => ⟨_, rfl, D, _, rfl, .inl ⟨SqL.of (s28 _ _ e27), fun tq htq => ?_⟩⟩⟩
      have s29 : Same H28 (upd H28 tq (.tup (nums ((ff size (size - (1 - size)).toNat).filter (okD ls))))) := same_new htq
      have e29 : (upd H28 tq (.tup (nums ((ff size (size - (1 - size)).toNat).filter (okD ls))))) tq = some (.tup (nums ((ff size (size - (1 - size)).toNat).filter (okD ls)))) := upd_same
      generalize upd H28 tq (.tup (nums ((ff size (size - (1 - size)).toNat).filter (okD ls)))) = H29 at s29 e29 ⊢
      have sm : ∀ e ∈ dsf size ls, e.natAbs ≤ 100000 := fun e h => by
        obtain ⟨a1, a2, a3⟩ := ff_mem.mp (List.mem_filter.mp h).1
        omega
      have dl : (dsf size ls).length ≤ 10000 := by
        have h1 := List.length_filter_le (okD ls) (ff size (size - (1 - size)).toNat)
        have h2 := ff_len size (size - (1 - size)).toNat
        show ((ff size (size - (1 - size)).toNat).filter (okD ls)).length ≤ 10000
        omega
      refine ⟨dp, tq, .tuple ((dsf size ls).map PyData.int), rfl, .tup (SqT.of (s29 _ _ edp)) (dp_nums _), .tup (SqT.of e29) (dp_nums _), tx_ints sm dl, _, rfl, iteF ?_⟩
      have s2629 := (s27.trans s28).trans s29
      refine ⟨_, rfl, _, rfl, _, rfl, x, p, size, ls, rfl, W26.same s2629, s2629 _ _ ep26, fun H30 s30 => ⟨_, rfl, iteF ?_⟩⟩
      exact ⟨_, _, _, _, _, _, _, _, _, _, _, _, n22, rfl, (d26.same s2629).same s30, by omega, (T26.ext s2629).ext s30⟩
    · rintro σ H' ⟨v2, v3, v4, v5, v6, v7, v8, v9, v10, v11, v12, v13, n, rfl, d, hn, TT⟩
      refine ⟨(by show 1 ≤ sizeLine; decide), fun p3 hp3 => ?_⟩
      have e3' : (upd H' p3 (.lst [.int 1])) p3 = some (.lst [.int 1]) := upd_same
      generalize upd H' p3 (.lst [.int 1]) = H3 at e3' ⊢
      refine ⟨p3, 40, [.int 1], rfl, rfl, e3', by decide, by decide, (by rw [sizeLine_eq]; decide), fun p4 hp4 => ?_⟩
      have e4 : (upd H3 p4 (.lst (List.replicate (40 : Int).toNat [V.int 1]).flatten)) p4 = some (.lst (nums one40)) := upd_same
      generalize upd H3 p4 (.lst (List.replicate (40 : Int).toNat [V.int 1]).flatten) = H4 at e4 ⊢
      have L40 : Ls 2 one40 := ⟨by decide, by decide, by decide, fun y hy => by have := List.eq_of_mem_replicate hy; omega⟩
      refine fun x dx nx ndx ne => ⟨x, dx, 2, p4, one40, rfl, upd_same, .inl (made_same nx ndx _ _ e4), L40, fun H5 kp W5 => ⟨rfl, ?_⟩⟩
      refine ⟨1, rfl, (by show 2 ≤ sizeLine; decide), fun l1 hl1 => ?_⟩
      have s6 : Same H5 (upd H5 l1 (.lst [.int 1, .int (-1)])) := same_new hl1
      have e6 : (upd H5 l1 (.lst [.int 1, .int (-1)])) l1 = some (.lst (nums [1, -1])) := upd_same
      generalize upd H5 l1 (.lst [.int 1, .int (-1)]) = H6 at s6 e6 ⊢
      refine ⟨l1, 500, nums [1, -1], rfl, rfl, e6, by decide, by decide, (by rw [sizeLine_eq]; decide), fun l2 hl2 => ?_⟩
      have s7 := same_new (o := .lst (List.replicate (500 : Int).toNat (nums [1, -1])).flatten) hl2
      have e7 : (upd H6 l2 (.lst (List.replicate (500 : Int).toNat (nums [1, -1])).flatten)) l2 = some (.lst (nums (List.replicate 500 [1, -1]).flatten)) := by
        rw [upd_same, flat_nums]
        rfl
      generalize upd H6 l2 (.lst (List.replicate (500 : Int).toNat (nums [1, -1])).flatten) = H7 at s7 e7 ⊢
      have W7 := (W5.same s6).same s7
      have llen : (List.replicate 500 [(1 : Int), -1]).flatten.length ≤ 1000 := by decide +kernel
      have ldd : ∀ e ∈ (List.replicate 500 [(1 : Int), -1]).flatten, Deed 2 e := fun e h => by
        obtain ⟨r, hr, he⟩ := List.mem_flatten.mp h
        rw [List.eq_of_mem_replicate hr] at he
        rcases List.mem_cons.mp he with rfl | he
        · exact ⟨by decide, by decide, by decide⟩
        · rw [List.mem_singleton.mp he]
          exact ⟨by decide, by decide, by decide⟩
      refine ⟨_, rfl, _, rfl, x, l2, 2, one40, _, rfl, W7, .inl e7, llen, ldd, .inl ⟨one40, long_ok, fun b H8 s8 Wb => ?_⟩⟩
      have W8 := W7.same s8
      obtain ⟨db, tb, b1, b2⟩ := Wb.ob
      obtain ⟨dw, tw, w1, w2⟩ := W8.ob
      refine ⟨_, rfl, b, db, _, x, dw, _, rfl, rfl, b1, w1, b, x, 2, 2, one40, one40, rfl, Wb, W8, _, rfl, ?_⟩
      refine ⟨_, rfl, iteT ?_⟩
      -- first_stuck of the empty word
      refine ⟨Nat.zero_le _, fun e he => ?_⟩
      have s9 : Same H8 (upd H8 e (.tup [])) := same_new he
      have e9 : (upd H8 e (.tup [])) e = some (.tup (nums [])) := upd_same
      generalize upd H8 e (.tup []) = H9 at s9 e9 ⊢
      refine fun y dy ny ndy ne2 => ⟨y, dy, 2, e, [], rfl, upd_same, .inr (made_same ny ndy _ _ e9), ⟨by decide, by decide, by decide, fun x hx => by simp at hx⟩, fun H10 kp2 Wy => ⟨rfl, ?_⟩⟩
      have s10 : Same H9 H10 := Same.made ny ndy kp2
      have s8_10 := (s8.trans s9).trans s10
      refine ⟨_, rfl, y, l2, 2, [], _, rfl, Wy, .inl (s8_10 _ _ e7), llen, ldd, fun H11 s11 => ?_⟩
      rw [long_no]
      refine ⟨rfl, ⟨_, rfl, ?_⟩⟩
      rw [show decide (plV (some 0) = V.int 0) = true from rfl]
      refine iteT ?_
      -- can
      refine ⟨_, rfl, (by show 1 ≤ sizeLine; decide), fun l5 h5 => ⟨l5, 41, nums [1], rfl, rfl, upd_same, by decide, by decide, (by rw [sizeLine_eq]; decide), fun l6 h6 => ?_⟩⟩
      have s12 : Same H11 (upd H11 l5 (.lst [.int 1])) := same_new h5
      have s13 := same_new (o := .lst (List.replicate (41 : Int).toNat (nums [1])).flatten) h6
      have e13 : (upd (upd H11 l5 (.lst [.int 1])) l6 (.lst (List.replicate (41 : Int).toNat (nums [1])).flatten)) l6 = some (.lst (nums (List.replicate 41 1))) := by
        rw [upd_same, flat_nums]
        rfl
      refine ⟨x, l6, 2, one40, List.replicate 41 1, rfl, (((W8.same (s9.trans s10)).same s11).same s12).same s13, .inl e13, by decide, fun e h => ?_, fun H14 s14 => ?_⟩
      · rw [List.eq_of_mem_replicate h]
        exact ⟨by decide, by decide, by decide⟩
      · rw [can_no]
        refine ⟨false, false, rfl, rfl, ?_⟩
        exact k _
end
end Lw
/-! Gt. The end of a law one of whose defs makes lambdas: its code object's table is known, and no guard stands. -/
namespace LwE
open PySem PySem.Spec PyProof.Rows L2 LamX
/-- the law's call; the code object at c has its table at T -/
theorem call_lawT {P : Program} {w : World} {K : PySem.W.Frag} {mg mb : Str → Option Value} {k : Nat} {fa a c T : Addr} {fd : FuncData} {x : Str} {sp : Sp} {s₁ : Shared} {vs : List Value} {ns : List Int}
    (KX : K.In s₁.heap) (hns : s₁.heap.Ns mainGlobals mg) (hb : s₁.heap.Ns builtinsNs mb) (hbb : ∀ x : Str, x ≠ "__name__" → mb x = bootBuiltins x) (hlim : s₁.heap.NoLimit) (hgen : s₁.gens = #[])
    (hT : s₁.heap.get? T = some { cls := .none, data := .fields #[] }) (nT : K.lookup T = none) (hC : PySem.W.CodeHd s₁.heap c T)
    (hbm : ∃ (bm : Addr) (ob : Obj), mg "__builtins__" = some (.ref bm) ∧ bm ≠ builtinsNs ∧ s₁.heap.get? bm = some ob ∧ ob.cls = .type "module" ∧ ob.dict = some builtinsNs ∧ ob.data = .plain)
    (ha : s₁.heap.get? a = some { cls := .type "list", data := .seq vs.toArray }) (hi : IntsAre vs ns) (hl : ns.length ≤ sizeLine) (hr : Room k callerA)
    (F : ∀ base : Heap, K.In base → base.Ns mainGlobals mg → TabB base mg c T → FnG P w K mg base k fa fd [x] sp) (hbind : ∀ (s : Shared) (u : Value), BindsTo s fd ⟨[u], []⟩ [(x, u)])
    (hsp : ∀ H : Hp, H T = some (.tbl #[]) → SqL K H a (ns.map V.int) → sp [.ref a] H (fun v _ => v = .bl true) fun _ _ _ => False) :
    codeAny (model P w) callerA (.call (.ref fa) ⟨[.ref a], []⟩) (fun r s' => r = .ok (.ret (.bool true)) ∧ OldK s₁.heap s'.heap ∧ s'.os = s₁.os ∧ AllBare s'.gens) s₁ := by
  have rv := vals_ints hi
  have nlen := hi.length
  have aT : a ≠ T := fun z => by
    rw [z, hT] at ha
    cases ha
  have core : ∀ H : Hp, H T = some (.tbl #[]) → (∀ b, H b = none ∨ b = T ∨ ∃ o xs, H b = some (.frz o (.lst xs))) → SqL K H a (ns.map V.int) → HOk P w H s₁.heap → (∀ b, H b ≠ none → b = a ∨ b = T) → (H a ≠ none → K.lookup a = none) →
      codeAny (model P w) callerA (.call (.ref fa) ⟨[.ref a], []⟩) (fun r s' => r = .ok (.ret (.bool true)) ∧ OldK s₁.heap s'.heap ∧ s'.os = s₁.os ∧ AllBare s'.gens) s₁ := by
    intro H hHT hO hS hok only unk
    -- what is neither a list nor the table is not tracked
    have off : ∀ {b : Addr} {o : Obj}, s₁.heap.get? b = some o → (∀ us n, o.data ≠ .seq us n) → o.data ≠ .fields #[] → H b = none := by
      intro b o e h1 h2
      cases q : H b with
      | none => rfl
      | some u =>
        exfalso
        rcases only b (by rw [q]; simp) with z | z
        · rw [z, ha] at e
          cases e
          exact h1 _ _ rfl
        · rw [z, hT] at e
          cases e
          exact h2 rfl
    have offD : ∀ {b : Addr} {o : Obj} {es : Array DictEntry} {ep : Nat}, s₁.heap.get? b = some o → o.data = .dict es ep → H b = none := fun e d => off e (fun us n z => by rw [d] at z; cases z) fun z => by rw [d] at z; cases z
    have offP : ∀ {b : Addr} {o : Obj}, s₁.heap.get? b = some o → o.data = .plain → H b = none := fun e d => off e (fun us n z => by rw [d] at z; cases z) fun z => by rw [d] at z; cases z
    have keepsNs : ∀ {b : Addr} {m : Str → Option Value}, s₁.heap.Ns b m → (hidT s₁.heap H).Ns b m := by
      rintro b m ⟨o, es, ep, e, d, r⟩
      exact ⟨o, es, ep, hidT_get e (offD e d), d, r⟩
    have inK : K.In (hidT s₁.heap H) := by
      intro b o e
      refine hidT_get (KX b o e) ?_
      cases q : H b with
      | none => rfl
      | some u =>
        rcases only b (by rw [q]; simp) with z | z
        · subst z
          rw [unk (by rw [q]; simp)] at e
          cases e
        · rw [z, nT] at e
          cases e
    have M : Mod K mg (hidT s₁.heap H) := ⟨inK, keepsNs hns, ⟨mb, keepsNs hb, hbb⟩, by
      obtain ⟨mc, z1, z2⟩ := hlim
      exact ⟨mc, keepsNs z1, z2⟩⟩
    have nmT : mainGlobals ≠ T := fun z => by
      obtain ⟨o, es, ep, e, d, _⟩ := hns
      rw [z, hT] at e
      cases e
      cases d
    have TB : TabB (hidT s₁.heap H) mg c T := by
      refine ⟨?_, ?_, nmT⟩
      · obtain ⟨o, us, file, tf, flags, tg, inF, text, tt, e1, r1, r2, r3, r4⟩ := hC
        refine ⟨o, us, file, tf, flags, tg, inF, text, tt, hidT_get e1 (off e1 (fun ws n z => ?_) fun z => ?_), r1, r2, r3, r4⟩
        · rw [r2] at z
          cases z
        · rw [r2] at z
          cases z
          simp at r3
      · obtain ⟨bm, ob, b1, b2, b3, b4, b5, b6⟩ := hbm
        refine ⟨bm, ob, b1, b2, fun z => ?_, fun z => ?_, hidT_get b3 (offP b3 b6), b4, b5, b6⟩
        · obtain ⟨o, es, ep, e, d, _⟩ := hns
          rw [z, e] at b3
          cases b3
          rw [d] at b6
          cases b6
        · rw [z, hT] at b3
          cases b3
          cases b6
    have e0 : Env0 P w K mg (hidT s₁.heap H) callerA [] s₁ H := by
      refine ⟨rfl, M, fun b o e => of_hidT e, Nat.le_of_eq (hidT_size _ _), trivial, fun b hb => ?_, hok, .of_eq hgen⟩
      exact absurd (show b ∈ ([] : List Addr) from hb) (by simp)
    refine codeAny_mono ((F _ inK (keepsNs hns) TB).run callerA [] s₁ H ⟨[.ref a], []⟩ [.ref a] [.ref a] _ _ rfl hr e0 (hbind s₁ (.ref a)) (.cons rfl .nil) (hsp H hHT hS)) fun r s' z => ?_
    cases r with
    | error e => exact (show False from z).elim
    | ok fl =>
      cases fl with
      | ret u =>
        obtain ⟨v, H', os, bare, un, hok', r', q⟩ := z
        obtain rfl : v = .bl true := q
        obtain rfl : u = Value.bool true := r'
        have same : ∀ b o, b ≠ T → s₁.heap.get? b = some o → s'.heap.get? b = some o := fun b o nb e => by
          cases q : H b with
          | none => exact un.keep b o e q (fun z => absurd (show b ∈ ([] : List Addr) from z) (by simp)) (by simp)
          | some u =>
            rcases hO b with z | z | ⟨ob, xs, z⟩
            · rw [q] at z
              cases z
            · exact absurd z nb
            · obtain ⟨z1, _⟩ := hok b _ z
              obtain ⟨z2, _⟩ := hok' b _ (un.frzs b ob _ z)
              rw [e] at z1
              cases z1
              exact z2
        obtain ⟨more, hm⟩ := un.tbls T #[] hHT
        have hm' : s'.heap.get? T = some { cls := .none, data := .fields (#[] ++ more) } := hok' T _ hm
        refine ⟨rfl, ⟨fun b o e => ?_, fun b o e => ?_⟩, os, bare⟩
        · by_cases nb : b = T
          · subst nb
            rw [hT] at e
            cases e
            exact .inr (.inl ⟨(hC.tab hT).isCodeTable, rfl, #[], more, rfl, hm'⟩)
          · exact .inl (same b o nb e)
        · by_cases nb : b = T
          · subst nb
            exact ⟨_, hm'⟩
          · exact ⟨o, same b o nb e⟩
      | next => exact False.elim z
      | brk => exact False.elim z
      | cont => exact False.elim z
  cases hk : K.lookup a with
  | some o =>
    have e := KX a o hk
    rw [ha] at e
    cases e
    refine core (fun b => if b = T then some (.tbl #[]) else none) (if_pos rfl) (fun b => ?_) ?_ (fun b u z => ?_) (fun b z => ?_) fun z => absurd (if_neg aT) z
    · by_cases h : b = T
      · exact .inr (.inl h)
      · exact .inl (if_neg h)
    · exact .inr ⟨_, vs.toArray, _, hk, rfl, rfl, rfl, by rw [List.size_toArray, nlen]; exact hl, by simpa using rv⟩
    · by_cases h : b = T
      · cases (if_pos h).symm.trans z
        rw [h]
        exact hT
      · cases (if_neg h).symm.trans z
    · by_cases h : b = T
      · exact .inr h
      · exact absurd (if_neg h) z
  | none =>
    refine core (fun b => if b = a then some (.frz { cls := .type "list", data := .seq vs.toArray } (.lst (ns.map V.int))) else if b = T then some (.tbl #[]) else none) ?_ (fun b => ?_) ?_ (fun b u z => ?_) (fun b z => ?_) fun _ => hk
    · rw [if_neg (Ne.symm aT), if_pos rfl]
    · by_cases h1 : b = a
      · exact .inr (.inr ⟨_, _, if_pos h1⟩)
      · by_cases h2 : b = T
        · exact .inr (.inl h2)
        · exact .inl (by rw [if_neg h1, if_neg h2])
    · exact .inl (.inr ⟨_, if_pos rfl⟩)
    · by_cases h1 : b = a
      · cases (if_pos h1).symm.trans z
        subst h1
        exact ⟨ha, by rw [List.length_map]; exact hl, vs, _, rv, ha⟩
      · by_cases h2 : b = T
        · cases ((if_neg h1).trans (if_pos h2)).symm.trans z
          rw [h2]
          exact hT
        · cases ((if_neg h1).trans (if_neg h2)).symm.trans z
    · by_cases h1 : b = a
      · exact .inl h1
      · by_cases h2 : b = T
        · exact .inr h2
        · exact absurd ((if_neg h1).trans (if_neg h2)) z
/-- what the top tells of the law -/
def TellsT (l : PySem.W.OpenLaw) (w : World) (K : PySem.W.Frag) (k : Nat) (x : Str) (sp : Addr → Sp) (mg : Str → Option Value) (fa : Addr) (h : Heap) : Prop :=
  ∃ (fd : FuncData) (c T : Addr), h.get? T = some { cls := .none, data := .fields #[] } ∧ K.lookup T = none ∧ PySem.W.CodeHd h c T ∧ (∀ (s : Shared) (u : Value), BindsTo s fd ⟨[u], []⟩ [(x, u)]) ∧
    ∀ base : Heap, K.In base → base.Ns mainGlobals mg → TabB base mg c T → FnG l.prog w K mg base k fa fd [x] (sp T)
/-- the goal behind the head -/
theorem walkGT {l : PySem.W.OpenLaw} {n k : Nat} {q : Program} {loose : List Str} {XP : (Str → Option Value) → Heap → Prop} {YP : World → Heap → Prop} {d : DefRec} {K : Params → PySem.W.Frag} {sp : World → Addr → Sp} {x : Str}
    (hn : l.most = some n) (hn2 : n ≤ sizeLine) (hdf : d.params.defaults = []) (hr : Room k callerA) (hY : ∀ (w : World) (h : Heap), YP w h → (K w.params).In h)
    (F : ∀ (w : World) (mg : Str → Option Value) (fa : Addr) (h : Heap), YP w h → (K w.params).In h → h.Ns mainGlobals mg → mg d.name = some (.ref fa) → TellsT l w (K w.params) k x (sp w) mg fa h)
    (hsp : ∀ (w : World) (H : Hp) (a T : Addr) (ns : List Int), ns.length ≤ n → H T = some (.tbl #[]) → SqL (K w.params) H a (ns.map V.int) → sp w T [.ref a] H (fun v _ => v = .bl true) fun _ _ _ => False) :
    PySem.W.WalkO q loose XP YP l.row.toRowW d [] (fun f vs => PySem.call f vs) := by
  refine Att.attach_call hn hdf fun w s₀ s₁ mg mb fa o pm cd doc a vs ns G Y ho hd hcd hmg hobj hints hlen hg => ?_
  have KX := hY w _ Y
  obtain ⟨fd, c, T, hT, nT, hC, hb, hF⟩ := F w mg fa _ Y KX G.T.g hmg
  exact call_lawT KX G.T.g G.T.b G.T.builtins G.T.nolimit hg hT nT hC G.T.bmain hobj hints (Nat.le_trans hlen hn2) hr hF hb fun H hH hS => hsp w H a T ns hlen hH hS
end LwE
/-! Zb. What a class is, and is not, as the written part tells it. -/
namespace Lw
open PySem L2 LwE
section
variable {K : PySem.W.Frag} {a b : Addr}
theorem kitCls_ref {t : Value} {r : Bool} (i : PySem.W.isClsIn K b = true) (y : PySem.W.typeIn K (.ref b) = some (.type "type")) (s : PySem.W.subIn K t (.ref b) = some r) : PySem.W.kitCls K t (.ref b) = some r := by
  have c : ((PySem.W.clsIn K b).isSome && PySem.W.typeIn K (.ref b) == some (.type "type")) = true := by
    rw [show (PySem.W.clsIn K b).isSome = true from i, y]
    rfl
  show (if ((PySem.W.clsIn K b).isSome && PySem.W.typeIn K (.ref b) == some (.type "type")) = true then PySem.W.subIn K t (.ref b) else none) = some r
  rw [if_pos c]
  exact s
theorem kit_self : PySem.W.kitOne K (.ref a) (.ref a) = some true := by
  unfold PySem.W.kitOne
  simp
theorem kit_no (s : PySem.W.subIn K (.ref a) (.ref a) = some true) (n : PySem.W.subIn K (.ref a) (.ref b) = some false) (i : PySem.W.isClsIn K b = true) (y : PySem.W.typeIn K (.ref b) = some (.type "type")) : PySem.W.kitOne K (.ref a) (.ref b) = some false := by
  have ne : ¬ ((Value.ref a == Value.ref b) = true) := fun z => by
    have e : a = b := by simpa using z
    rw [← e, s] at n
    cases n
  unfold PySem.W.kitOne
  rw [if_neg ne]
  exact kitCls_ref i y n
theorem kit_ve {r : Bool} (s : PySem.W.subIn K (.ref a) (.type "ValueError") = some r) : PySem.W.kitOne K (.ref a) (.type "ValueError") = some r := by
  have m : PySem.W.kitMeta "ValueError" = true := by decide +kernel
  unfold PySem.W.kitOne
  rw [if_neg (fun z => by simp at z)]
  show (if PySem.W.kitMeta "ValueError" = true then PySem.W.subIn K (.ref a) (.type "ValueError") else none) = some r
  rw [if_pos m]
  exact s
theorem exm_is {r : Bool} (e : PySem.W.subIn K (.ref b) (.type "BaseException") = some true) (i : PySem.W.isClsIn K b = true) (y : PySem.W.typeIn K (.ref b) = some (.type "type")) (s : PySem.W.subIn K (.ref a) (.ref b) = some r) : PySem.W.exmOne K (.ref a) (.ref b) = some r := by
  unfold PySem.W.exmOne
  rw [e, if_pos (by rfl)]
  exact kitCls_ref i y s
theorem exm3 {t x1 x2 x3 : Value} {b1 b2 b3 : Bool} (h1 : PySem.W.exmOne K t x1 = some b1) (h2 : PySem.W.exmOne K t x2 = some b2) (h3 : PySem.W.exmOne K t x3 = some b3) (h : (b1 || (b2 || (b3 || false))) = true) : PySem.W.exmAny K t [x1, x2, x3] = some true := by
  unfold PySem.W.exmAny
  rw [h1]
  unfold PySem.W.exmAny
  rw [h2]
  unfold PySem.W.exmAny
  rw [h3]
  unfold PySem.W.exmAny
  show some (b1 || (b2 || (b3 || false))) = some true
  rw [h]
end
theorem pass_R (self : Value) : refuseLoop self "__setattr__" bmR = pure () := by rfl
end Lw
/-! Za. What the top has written. -/
namespace Lw
open PySem L2 LwE LwM LamX
set_option maxHeartbeats 16000000 in
theorem all_mk {l : PySem.W.OpenLaw} {w : World} {K : PySem.W.Frag} {h : Heap} {mg : Str → Option Value} {fa C D cR Pt f0 f1 f2 f3 f4 f5 f6 f7 f8 f9 f10 f11 f12 f13 f14 f15 f16 f17 f18 f19 f20 f21 f22 f23 f24 f25 f26 f27 f28 f29 f30 f31 f32 f33 f34 f35 q0 q1 q2 q3 q4 q5 q6 q7 q8 q9 q10 q11 q12 q13 : Addr} {t2 t6 t40 t1000 : Tok} (X : K.In h) (G : h.Ns mainGlobals mg) (hfa : mg "law" = some (.ref fa))
    {od0 an0 : Option Addr} {sl0 : Array (Option Value)} {oc0 kV0 dc0 pm0 cd0 ct0 : Value}
    {od1 an1 : Option Addr} {sl1 : Array (Option Value)} {oc1 kV1 dc1 pm1 cd1 ct1 : Value}
    {od2 an2 : Option Addr} {sl2 : Array (Option Value)} {oc2 kV2 dc2 pm2 cd2 ct2 : Value}
    {od3 an3 : Option Addr} {sl3 : Array (Option Value)} {oc3 kV3 dc3 pm3 cd3 ct3 : Value}
    {od4 an4 : Option Addr} {sl4 : Array (Option Value)} {oc4 kV4 dc4 pm4 cd4 ct4 : Value}
    {od5 an5 : Option Addr} {sl5 : Array (Option Value)} {oc5 kV5 dc5 pm5 cd5 ct5 : Value}
    {od6 an6 : Option Addr} {sl6 : Array (Option Value)} {oc6 kV6 dc6 pm6 cd6 ct6 : Value}
    {od7 an7 : Option Addr} {sl7 : Array (Option Value)} {oc7 kV7 dc7 pm7 cd7 ct7 : Value}
    {od8 an8 : Option Addr} {sl8 : Array (Option Value)} {oc8 kV8 dc8 pm8 cd8 ct8 : Value}
    {od9 an9 : Option Addr} {sl9 : Array (Option Value)} {oc9 kV9 dc9 pm9 cd9 ct9 : Value}
    {od10 an10 : Option Addr} {sl10 : Array (Option Value)} {oc10 kV10 dc10 pm10 cd10 ct10 : Value}
    {od11 an11 : Option Addr} {sl11 : Array (Option Value)} {oc11 kV11 dc11 pm11 cd11 ct11 : Value}
    {od12 an12 : Option Addr} {sl12 : Array (Option Value)} {oc12 kV12 dc12 pm12 cd12 ct12 : Value}
    {od13 an13 : Option Addr} {sl13 : Array (Option Value)} {oc13 kV13 dc13 pm13 cd13 ct13 : Value}
    {od14 an14 : Option Addr} {sl14 : Array (Option Value)} {oc14 kV14 dc14 pm14 cd14 ct14 : Value}
    {od15 an15 : Option Addr} {sl15 : Array (Option Value)} {oc15 kV15 dc15 pm15 cd15 ct15 : Value}
    {od16 an16 : Option Addr} {sl16 : Array (Option Value)} {oc16 kV16 dc16 pm16 cd16 ct16 : Value}
    {od17 an17 : Option Addr} {sl17 : Array (Option Value)} {oc17 kV17 dc17 pm17 cd17 ct17 : Value}
    {od18 an18 : Option Addr} {sl18 : Array (Option Value)} {oc18 kV18 dc18 pm18 cd18 ct18 : Value}
    {od19 an19 : Option Addr} {sl19 : Array (Option Value)} {oc19 kV19 dc19 pm19 cd19 ct19 : Value}
    {od20 an20 : Option Addr} {sl20 : Array (Option Value)} {oc20 kV20 dc20 pm20 cd20 ct20 : Value}
    {od21 an21 : Option Addr} {sl21 : Array (Option Value)} {oc21 kV21 dc21 pm21 cd21 ct21 : Value}
    {od22 an22 : Option Addr} {sl22 : Array (Option Value)} {oc22 kV22 dc22 pm22 cd22 ct22 : Value}
    {od23 an23 : Option Addr} {sl23 : Array (Option Value)} {oc23 kV23 dc23 pm23 cd23 ct23 : Value}
    {od24 an24 : Option Addr} {sl24 : Array (Option Value)} {oc24 kV24 dc24 pm24 cd24 ct24 : Value}
    {od25 an25 : Option Addr} {sl25 : Array (Option Value)} {oc25 kV25 dc25 pm25 cd25 ct25 : Value}
    {od26 an26 : Option Addr} {sl26 : Array (Option Value)} {oc26 kV26 dc26 pm26 cd26 ct26 : Value}
    {od27 an27 : Option Addr} {sl27 : Array (Option Value)} {oc27 kV27 dc27 pm27 ct27 : Value}
    {od28 an28 : Option Addr} {sl28 : Array (Option Value)} {oc28 kV28 dc28 pm28 cd28 ct28 : Value}
    {od29 an29 : Option Addr} {sl29 : Array (Option Value)} {oc29 kV29 dc29 pm29 cd29 ct29 : Value}
    {od30 an30 : Option Addr} {sl30 : Array (Option Value)} {oc30 kV30 dc30 pm30 cd30 ct30 : Value}
    {od31 an31 : Option Addr} {sl31 : Array (Option Value)} {oc31 kV31 dc31 pm31 cd31 ct31 : Value}
    {od32 an32 : Option Addr} {sl32 : Array (Option Value)} {oc32 kV32 dc32 pm32 cd32 ct32 : Value}
    {od33 an33 : Option Addr} {sl33 : Array (Option Value)} {oc33 kV33 dc33 pm33 cd33 ct33 : Value}
    {od34 an34 : Option Addr} {sl34 : Array (Option Value)} {oc34 kV34 dc34 pm34 cd34 ct34 : Value}
    {od35 an35 : Option Addr} {sl35 : Array (Option Value)} {oc35 kV35 dc35 pm35 cd35 ct35 : Value}
    {xn12 xq12 : Str} {xN12 : Addr} {xs12 xu12 : List Value} {xm12 : List Str} {xb12 : Bool} {xc12 : Option Bool} {xd12 : Option Addr} {x012 x112 x212 x312 x512 : Option Value}
    (tab : h.get? Pt = some { cls := .none, data := .fields #[] }) (aC : PySem.W.nsIn K mainGlobals "Word" = some (some (.ref C))) (aD : PySem.W.nsIn K mainGlobals "Walk" = some (some (.ref D)))
    (cl0 : PySem.W.nsIn K mainGlobals "LiftError" = some (some (.ref q0)))
    (cl1 : PySem.W.nsIn K mainGlobals "BadSize" = some (some (.ref q1)))
    (cl2 : PySem.W.nsIn K mainGlobals "BadLetters" = some (some (.ref q2)))
    (cl3 : PySem.W.nsIn K mainGlobals "BadIndex" = some (some (.ref q3)))
    (cl4 : PySem.W.nsIn K mainGlobals "BadNumber" = some (some (.ref q4)))
    (cl5 : PySem.W.nsIn K mainGlobals "BadDeed" = some (some (.ref q5)))
    (cl6 : PySem.W.nsIn K mainGlobals "BadTable" = some (some (.ref q6)))
    (cl7 : PySem.W.nsIn K mainGlobals "BadMove" = some (some (.ref q7)))
    (cl8 : PySem.W.nsIn K mainGlobals "BadShape" = some (some (.ref q8)))
    (cl9 : PySem.W.nsIn K mainGlobals "BadRecording" = some (some (.ref q9)))
    (cl10 : PySem.W.nsIn K mainGlobals "OtherSize" = some (some (.ref q10)))
    (cl11 : PySem.W.nsIn K mainGlobals "OtherHouse" = some (some (.ref q11)))
    (cl12 : PySem.W.nsIn K mainGlobals "Stuck" = some (some (.ref q12)))
    (cl13 : PySem.W.nsIn K mainGlobals "TooGreat" = some (some (.ref q13)))
    (a0 : PySem.W.nsIn K mainGlobals "is_between" = some (some (.ref f0)))
    (l0 : K.lookup f0 = some ⟨oc0, od0, .func (PySem.W.fnOf "is_between" "is_between" (defArgs sBetween) (defBody sBetween) (defScope sBetween) .none kV0 dc0 pm0 an0 cd0 ct0), sl0⟩)
    (c0 : PySem.W.codeIn K cd0 "is_between" = true)
    (k0 : PySem.W.keepIn K (.ref f0) = true)
    (a1 : PySem.W.nsIn K mainGlobals "is_listing" = some (some (.ref f1)))
    (l1 : K.lookup f1 = some ⟨oc1, od1, .func (PySem.W.fnOf "is_listing" "is_listing" (defArgs sListing) (defBody sListing) (defScope sListing) .none kV1 dc1 pm1 an1 cd1 ct1), sl1⟩)
    (c1 : PySem.W.codeIn K cd1 "is_listing" = true)
    (k1 : PySem.W.keepIn K (.ref f1) = true)
    (a2 : PySem.W.nsIn K mainGlobals "check_size" = some (some (.ref f2)))
    (l2 : K.lookup f2 = some ⟨oc2, od2, .func (PySem.W.fnOf "check_size" "check_size" (defArgs sCkSize) (defBody sCkSize) (defScope sCkSize) .none kV2 dc2 pm2 an2 cd2 ct2), sl2⟩)
    (c2 : PySem.W.codeIn K cd2 "check_size" = true)
    (k2 : PySem.W.keepIn K (.ref f2) = true)
    (a3 : PySem.W.nsIn K mainGlobals "check_letters" = some (some (.ref f3)))
    (l3 : K.lookup f3 = some ⟨oc3, od3, .func (PySem.W.fnOf "check_letters" "check_letters" (defArgs sCkLetters) (defBody sCkLetters) (defScope sCkLetters) .none kV3 dc3 pm3 an3 cd3 ct3), sl3⟩)
    (c3 : PySem.W.codeIn K cd3 "check_letters" = true)
    (k3 : PySem.W.keepIn K (.ref f3) = true)
    (a4 : PySem.W.nsIn K mainGlobals "bracketed" = some (some (.ref f4)))
    (l4 : K.lookup f4 = some ⟨oc4, od4, .func (PySem.W.fnOf "bracketed" "bracketed" (defArgs sBrack) (defBody sBrack) (defScope sBrack) .none kV4 dc4 pm4 an4 cd4 ct4), sl4⟩)
    (c4 : PySem.W.codeIn K cd4 "bracketed" = true)
    (k4 : PySem.W.keepIn K (.ref f4) = true)
    (a5 : PySem.W.nsIn K mainGlobals "is_deed" = some (some (.ref f5)))
    (l5 : K.lookup f5 = some ⟨oc5, od5, .func (PySem.W.fnOf "is_deed" "is_deed" (defArgs sIsDeed) (defBody sIsDeed) (defScope sIsDeed) .none kV5 dc5 pm5 an5 cd5 ct5), sl5⟩)
    (c5 : PySem.W.codeIn K cd5 "is_deed" = true)
    (k5 : PySem.W.keepIn K (.ref f5) = true)
    (a6 : PySem.W.nsIn K mainGlobals "check_row" = some (some (.ref f6)))
    (l6 : K.lookup f6 = some ⟨oc6, od6, .func (PySem.W.fnOf "check_row" "check_row" (defArgs sCkRow) (defBody sCkRow) (defScope sCkRow) .none kV6 dc6 pm6 an6 cd6 ct6), sl6⟩)
    (c6 : PySem.W.codeIn K cd6 "check_row" = true)
    (k6 : PySem.W.keepIn K (.ref f6) = true)
    (a7 : PySem.W.nsIn K mainGlobals "steps_from" = some (some (.ref f7)))
    (l7 : K.lookup f7 = some ⟨oc7, od7, .func (PySem.W.fnOf "steps_from" "steps_from" (defArgs sSteps) (defBody sSteps) (defScope sSteps) .none kV7 dc7 pm7 an7 cd7 ct7), sl7⟩)
    (c7 : PySem.W.codeIn K cd7 "steps_from" = true)
    (k7 : PySem.W.keepIn K (.ref f7) = true)
    (a8 : PySem.W.nsIn K mainGlobals "followed" = some (some (.ref f8)))
    (l8 : K.lookup f8 = some ⟨oc8, od8, .func (PySem.W.fnOf "followed" "followed" (defArgs sFollowed) (defBody sFollowed) (defScope sFollowed) .none kV8 dc8 pm8 an8 cd8 ct8), sl8⟩)
    (c8 : PySem.W.codeIn K cd8 "followed" = true)
    (k8 : PySem.W.keepIn K (.ref f8) = true)
    (a9 : PySem.W.nsIn K mainGlobals "run" = some (some (.ref f9)))
    (l9 : K.lookup f9 = some ⟨oc9, od9, .func (PySem.W.fnOf "run" "run" (defArgs sRun) (defBody sRun) (defScope sRun) .none kV9 dc9 pm9 an9 cd9 ct9), sl9⟩)
    (c9 : PySem.W.codeIn K cd9 "run" = true)
    (k9 : PySem.W.keepIn K (.ref f9) = true)
    (a10 : PySem.W.nsIn K mainGlobals "can" = some (some (.ref f10)))
    (l10 : K.lookup f10 = some ⟨oc10, od10, .func (PySem.W.fnOf "can" "can" (defArgs sCan) (defBody sCan) (defScope sCan) .none kV10 dc10 pm10 an10 cd10 ct10), sl10⟩)
    (c10 : PySem.W.codeIn K cd10 "can" = true)
    (k10 : PySem.W.keepIn K (.ref f10) = true)
    (a11 : PySem.W.nsIn K mainGlobals "first_stuck" = some (some (.ref f11)))
    (l11 : K.lookup f11 = some ⟨oc11, od11, .func (PySem.W.fnOf "first_stuck" "first_stuck" (defArgs sFirst) (defBody sFirst) (defScope sFirst) .none kV11 dc11 pm11 an11 cd11 ct11), sl11⟩)
    (c11 : PySem.W.codeIn K cd11 "first_stuck" = true)
    (k11 : PySem.W.keepIn K (.ref f11) = true)
    (a12 : PySem.W.nsIn K mainGlobals "deeds_of" = some (some (.ref f12)))
    (l12 : K.lookup f12 = some ⟨oc12, od12, .func (PySem.W.fnOf "deeds_of" "deeds_of" (defArgs sDeedsOf) (defBody sDeedsOf) (defScope sDeedsOf) .none kV12 dc12 pm12 an12 cd12 ct12), sl12⟩)
    (c12 : PySem.W.codeIn K cd12 "deeds_of" = true)
    (k12 : PySem.W.keepIn K (.ref f12) = true)
    (a13 : PySem.W.nsIn K mainGlobals "_law_mixed" = some (some (.ref f13)))
    (l13 : K.lookup f13 = some ⟨oc13, od13, .func (PySem.W.fnOf "_law_mixed" "_law_mixed" (defArgs sMixed) (defBody sMixed) (defScope sMixed) .none kV13 dc13 pm13 an13 cd13 ct13), sl13⟩)
    (c13 : PySem.W.codeIn K cd13 "_law_mixed" = true)
    (k13 : PySem.W.keepIn K (.ref f13) = true)
    (a14 : PySem.W.nsIn K mainGlobals "_law_folded" = some (some (.ref f14)))
    (l14 : K.lookup f14 = some ⟨oc14, od14, .func (PySem.W.fnOf "_law_folded" "_law_folded" (defArgs sFolded) (defBody sFolded) (defScope sFolded) .none kV14 dc14 pm14 an14 cd14 ct14), sl14⟩)
    (c14 : PySem.W.codeIn K cd14 "_law_folded" = true)
    (k14 : PySem.W.keepIn K (.ref f14) = true)
    (a15 : PySem.W.nsIn K mainGlobals "_law_draw" = some (some (.ref f15)))
    (l15 : K.lookup f15 = some ⟨oc15, od15, .func (PySem.W.fnOf "_law_draw" "_law_draw" (defArgs sDraw) (defBody sDraw) (defScope sDraw) .none kV15 dc15 pm15 an15 cd15 ct15), sl15⟩)
    (c15 : PySem.W.codeIn K cd15 "_law_draw" = true)
    (k15 : PySem.W.keepIn K (.ref f15) = true)
    (a16 : PySem.W.nsIn K mainGlobals "_law_begun" = some (some (.ref f16)))
    (l16 : K.lookup f16 = some ⟨oc16, od16, .func (PySem.W.fnOf "_law_begun" "_law_begun" (defArgs sBegun) (defBody sBegun) (defScope sBegun) .none kV16 dc16 pm16 an16 cd16 ct16), sl16⟩)
    (c16 : PySem.W.codeIn K cd16 "_law_begun" = true)
    (k16 : PySem.W.keepIn K (.ref f16) = true)
    (a17 : PySem.W.nsIn K mainGlobals "_law_left" = some (some (.ref f17)))
    (l17 : K.lookup f17 = some ⟨oc17, od17, .func (PySem.W.fnOf "_law_left" "_law_left" (defArgs sLeft) (defBody sLeft) (defScope sLeft) .none kV17 dc17 pm17 an17 cd17 ct17), sl17⟩)
    (c17 : PySem.W.codeIn K cd17 "_law_left" = true)
    (k17 : PySem.W.keepIn K (.ref f17) = true)
    (a18 : PySem.W.nsIn K mainGlobals "_law_done" = some (some (.ref f18)))
    (l18 : K.lookup f18 = some ⟨oc18, od18, .func (PySem.W.fnOf "_law_done" "_law_done" (defArgs sDone) (defBody sDone) (defScope sDone) .none kV18 dc18 pm18 an18 cd18 ct18), sl18⟩)
    (c18 : PySem.W.codeIn K cd18 "_law_done" = true)
    (k18 : PySem.W.keepIn K (.ref f18) = true)
    (a19 : PySem.W.nsIn K mainGlobals "_law_run" = some (some (.ref f19)))
    (l19 : K.lookup f19 = some ⟨oc19, od19, .func (PySem.W.fnOf "_law_run" "_law_run" (defArgs sLawRun) (defBody sLawRun) (defScope sLawRun) .none kV19 dc19 pm19 an19 cd19 ct19), sl19⟩)
    (c19 : PySem.W.codeIn K cd19 "_law_run" = true)
    (k19 : PySem.W.keepIn K (.ref f19) = true)
    (a20 : PySem.W.nsIn K mainGlobals "_law_size" = some (some (.ref f20)))
    (l20 : K.lookup f20 = some ⟨oc20, od20, .func (PySem.W.fnOf "_law_size" "_law_size" (defArgs sSize) (defBody sSize) (defScope sSize) .none kV20 dc20 pm20 an20 cd20 ct20), sl20⟩)
    (c20 : PySem.W.codeIn K cd20 "_law_size" = true)
    (k20 : PySem.W.keepIn K (.ref f20) = true)
    (a21 : PySem.W.nsIn K mainGlobals "_law_letters" = some (some (.ref f21)))
    (l21 : K.lookup f21 = some ⟨oc21, od21, .func (PySem.W.fnOf "_law_letters" "_law_letters" (defArgs sLetters) (defBody sLetters) (defScope sLetters) .none kV21 dc21 pm21 an21 cd21 ct21), sl21⟩)
    (c21 : PySem.W.codeIn K cd21 "_law_letters" = true)
    (k21 : PySem.W.keepIn K (.ref f21) = true)
    (a22 : PySem.W.nsIn K mainGlobals "_law_is_word" = some (some (.ref f22)))
    (l22 : K.lookup f22 = some ⟨oc22, od22, .func (PySem.W.fnOf "_law_is_word" "_law_is_word" (defArgs sIsWord) (defBody sIsWord) (defScope sIsWord) .none kV22 dc22 pm22 an22 cd22 ct22), sl22⟩)
    (c22 : PySem.W.codeIn K cd22 "_law_is_word" = true)
    (k22 : PySem.W.keepIn K (.ref f22) = true)
    (a23 : PySem.W.nsIn K mainGlobals "_law_heard" = some (some (.ref f23)))
    (l23 : K.lookup f23 = some ⟨oc23, od23, .func (PySem.W.fnOf "_law_heard" "_law_heard" (defArgs sHeard) (defBody sHeard) (defScope sHeard) .none kV23 dc23 pm23 an23 cd23 ct23), sl23⟩)
    (c23 : PySem.W.codeIn K cd23 "_law_heard" = true)
    (k23 : PySem.W.keepIn K (.ref f23) = true)
    (a24 : PySem.W.nsIn K mainGlobals "_law_like" = some (some (.ref f24)))
    (l24 : K.lookup f24 = some ⟨oc24, od24, .func (PySem.W.fnOf "_law_like" "_law_like" (defArgs sLike) (defBody sLike) (defScope sLike) .none kV24 dc24 pm24 an24 cd24 ct24), sl24⟩)
    (c24 : PySem.W.codeIn K cd24 "_law_like" = true)
    (k24 : PySem.W.keepIn K (.ref f24) = true)
    (a25 : PySem.W.nsIn K mainGlobals "_law_deeds" = some (some (.ref f25)))
    (l25 : K.lookup f25 = some ⟨oc25, od25, .func (PySem.W.fnOf "_law_deeds" "_law_deeds" (defArgs sDeeds) (defBody sDeeds) (defScope sDeeds) .none kV25 dc25 pm25 an25 cd25 ct25), sl25⟩)
    (c25 : PySem.W.codeIn K cd25 "_law_deeds" = true)
    (k25 : PySem.W.keepIn K (.ref f25) = true)
    (a26 : PySem.W.nsIn K mainGlobals "_law_way" = some (some (.ref f26)))
    (l26 : K.lookup f26 = some ⟨oc26, od26, .func (PySem.W.fnOf "_law_way" "_law_way" (defArgs sWay) (defBody sWay) (defScope sWay) .none kV26 dc26 pm26 an26 cd26 ct26), sl26⟩)
    (c26 : PySem.W.codeIn K cd26 "_law_way" = true)
    (k26 : PySem.W.keepIn K (.ref f26) = true)
    (a27 : PySem.W.nsIn K mainGlobals "_law_right" = some (some (.ref f27)))
    (l27 : K.lookup f27 = some ⟨oc27, od27, .func (PySem.W.fnOf "_law_right" "_law_right" (defArgs sRight) (defBody sRight) (defScope sRight) .none kV27 dc27 pm27 an27 (.ref cR) ct27), sl27⟩)
    (c27 : PySem.W.codeIn K (.ref cR) "_law_right" = true)
    (k27 : PySem.W.keepIn K (.ref f27) = true)
    (a28 : PySem.W.nsIn K mainGlobals "law" = some (some (.ref f28)))
    (l28 : K.lookup f28 = some ⟨oc28, od28, .func (PySem.W.fnOf "law" "law" (defArgs sLaw) (defBody sLaw) (defScope sLaw) .none kV28 dc28 pm28 an28 cd28 ct28), sl28⟩)
    (c28 : PySem.W.codeIn K cd28 "law" = true)
    (k28 : PySem.W.keepIn K (.ref f28) = true)
    (a29 : PySem.W.findIn K (.ref C) "__init__" = some (some (.ref f29)))
    (i29 : PySem.W.isFn K (.ref f29) = true)
    (l29 : K.lookup f29 = some ⟨oc29, od29, .func (PySem.W.fnOf "__init__" "Word.__init__" (defArgs sInit) (defBody sInit) (defScope sInit) .none kV29 dc29 pm29 an29 cd29 ct29), sl29⟩)
    (c29 : PySem.W.codeIn K cd29 "Word.__init__" = true)
    (k29 : PySem.W.keepIn K (.ref f29) = true)
    (a30 : PySem.W.findIn K (.ref C) "__eq__" = some (some (.ref f30)))
    (i30 : PySem.W.isFn K (.ref f30) = true)
    (l30 : K.lookup f30 = some ⟨oc30, od30, .func (PySem.W.fnOf "__eq__" "Word.__eq__" (defArgs sEq) (defBody sEq) (defScope sEq) .none kV30 dc30 pm30 an30 cd30 ct30), sl30⟩)
    (c30 : PySem.W.codeIn K cd30 "Word.__eq__" = true)
    (k30 : PySem.W.keepIn K (.ref f30) = true)
    (a31 : PySem.W.findIn K (.ref D) "__init__" = some (some (.ref f31)))
    (i31 : PySem.W.isFn K (.ref f31) = true)
    (l31 : K.lookup f31 = some ⟨oc31, od31, .func (PySem.W.fnOf "__init__" "Walk.__init__" (defArgs sWInit) (defBody sWInit) (defScope sWInit) .none kV31 dc31 pm31 an31 cd31 ct31), sl31⟩)
    (c31 : PySem.W.codeIn K cd31 "Walk.__init__" = true)
    (k31 : PySem.W.keepIn K (.ref f31) = true)
    (a32 : PySem.W.findIn K (.ref D) "look" = some (some (.ref f32)))
    (i32 : PySem.W.isFn K (.ref f32) = true)
    (l32 : K.lookup f32 = some ⟨oc32, od32, .func (PySem.W.fnOf "look" "Walk.look" (defArgs sLook) (defBody sLook) (defScope sLook) .none kV32 dc32 pm32 an32 cd32 ct32), sl32⟩)
    (c32 : PySem.W.codeIn K cd32 "Walk.look" = true)
    (k32 : PySem.W.keepIn K (.ref f32) = true)
    (a33 : PySem.W.findIn K (.ref D) "go" = some (some (.ref f33)))
    (i33 : PySem.W.isFn K (.ref f33) = true)
    (l33 : K.lookup f33 = some ⟨oc33, od33, .func (PySem.W.fnOf "go" "Walk.go" (defArgs sGo) (defBody sGo) (defScope sGo) .none kV33 dc33 pm33 an33 cd33 ct33), sl33⟩)
    (c33 : PySem.W.codeIn K cd33 "Walk.go" = true)
    (k33 : PySem.W.keepIn K (.ref f33) = true)
    (a34 : PySem.W.findIn K (.ref D) "reached" = some (some (.ref f34)))
    (i34 : PySem.W.isFn K (.ref f34) = true)
    (l34 : K.lookup f34 = some ⟨oc34, od34, .func (PySem.W.fnOf "reached" "Walk.reached" (defArgs sReached) (defBody sReached) (defScope sReached) .none kV34 dc34 pm34 an34 cd34 ct34), sl34⟩)
    (c34 : PySem.W.codeIn K cd34 "Walk.reached" = true)
    (k34 : PySem.W.keepIn K (.ref f34) = true)
    (a35 : PySem.W.findIn K (.ref q12) "__init__" = some (some (.ref f35)))
    (i35 : PySem.W.isFn K (.ref f35) = true)
    (t35 : PySem.W.typeIn K (.ref f35) = some (.type "function"))
    (l35 : K.lookup f35 = some ⟨oc35, od35, .func (PySem.W.fnOf "__init__" "Stuck.__init__" (defArgs sEStuck) (defBody sEStuck) (defScope sEStuck) .none kV35 dc35 pm35 an35 cd35 ct35), sl35⟩)
    (c35 : PySem.W.codeIn K cd35 "Stuck.__init__" = true)
    (k35 : PySem.W.keepIn K (.ref f35) = true)
    (pgC : PySem.W.plainGet K C Str.empty = true)
    (hdC : PySem.W.hasDictIn K C = true)
    (poC : PySem.W.plainOver K C = true)
    (saC : PySem.W.findIn K (.ref C) "__setattr__" = some (some (.builtin "object.__setattr__")))
    (mkC : PySem.W.makesIn K C = true)
    (kcC : PySem.W.keepIn K (.ref C) = true)
    (nC_size : PySem.W.findIn K (.ref C) "size" = some none)
    (nC_letters : PySem.W.findIn K (.ref C) "letters" = some none)
    (ca : PySem.W.findIn K (.ref C) "__class__" = some (some (.builtin "object.__class__")))
    (cn : PySem.W.specialIn K (.builtin "object.__class__") "__get__" = some (some (.builtin "getset_descriptor.__get__")))
    (ct : PySem.W.takesIn K (.builtin "object.__class__") = some true)
    (cm : PySem.W.mroIn K C (.type "object") = some true)
    (pgD : PySem.W.plainGet K D Str.empty = true)
    (hdD : PySem.W.hasDictIn K D = true)
    (poD : PySem.W.plainOver K D = true)
    (saD : PySem.W.findIn K (.ref D) "__setattr__" = some (some (.builtin "object.__setattr__")))
    (mkD : PySem.W.makesIn K D = true)
    (kcD : PySem.W.keepIn K (.ref D) = true)
    (nD_size : PySem.W.findIn K (.ref D) "size" = some none)
    (nD_held : PySem.W.findIn K (.ref D) "held" = some none)
    (nD_free : PySem.W.findIn K (.ref D) "free" = some none)
    (nD_low : PySem.W.findIn K (.ref D) "low" = some none)
    (n2 : PySem.W.nsIn K mainGlobals "LEAST_SIZE" = some (some (.int 2 t2)))
    (n6 : PySem.W.nsIn K mainGlobals "MOST_SIZE" = some (some (.int 6 t6)))
    (n40 : PySem.W.nsIn K mainGlobals "MOST_LETTERS" = some (some (.int 40 t40)))
    (n1000 : PySem.W.nsIn K mainGlobals "MOST_DEEDS" = some (some (.int 1000 t1000)))
    (z_isinstance : PySem.W.nsIn K mainGlobals "isinstance" = some none)
    (z_int : PySem.W.nsIn K mainGlobals "int" = some none)
    (z_bool : PySem.W.nsIn K mainGlobals "bool" = some none)
    (z_list : PySem.W.nsIn K mainGlobals "list" = some none)
    (z_tuple : PySem.W.nsIn K mainGlobals "tuple" = some none)
    (z_len : PySem.W.nsIn K mainGlobals "len" = some none)
    (z_range : PySem.W.nsIn K mainGlobals "range" = some none)
    (z_enumerate : PySem.W.nsIn K mainGlobals "enumerate" = some none)
    (z_sorted : PySem.W.nsIn K mainGlobals "sorted" = some none)
    (z_min : PySem.W.nsIn K mainGlobals "min" = some none)
    (z_repr : PySem.W.nsIn K mainGlobals "repr" = some none)
    (z_any : PySem.W.nsIn K mainGlobals "any" = some none)
    (z_max : PySem.W.nsIn K mainGlobals "max" = some none)
    (z_abs : PySem.W.nsIn K mainGlobals "abs" = some none)
    (z_zip : PySem.W.nsIn K mainGlobals "zip" = some none)
    (z_ValueError : PySem.W.nsIn K mainGlobals "ValueError" = some none)
    (ic0 : PySem.W.isClsIn K q0 = true)
    (ty0 : PySem.W.typeIn K (.ref q0) = some (.type "type"))
    (ic1 : PySem.W.isClsIn K q1 = true)
    (ty1 : PySem.W.typeIn K (.ref q1) = some (.type "type"))
    (ic2 : PySem.W.isClsIn K q2 = true)
    (ty2 : PySem.W.typeIn K (.ref q2) = some (.type "type"))
    (ic3 : PySem.W.isClsIn K q3 = true)
    (ty3 : PySem.W.typeIn K (.ref q3) = some (.type "type"))
    (ic4 : PySem.W.isClsIn K q4 = true)
    (ty4 : PySem.W.typeIn K (.ref q4) = some (.type "type"))
    (ic5 : PySem.W.isClsIn K q5 = true)
    (ty5 : PySem.W.typeIn K (.ref q5) = some (.type "type"))
    (ic6 : PySem.W.isClsIn K q6 = true)
    (ty6 : PySem.W.typeIn K (.ref q6) = some (.type "type"))
    (ic7 : PySem.W.isClsIn K q7 = true)
    (ty7 : PySem.W.typeIn K (.ref q7) = some (.type "type"))
    (ic8 : PySem.W.isClsIn K q8 = true)
    (ty8 : PySem.W.typeIn K (.ref q8) = some (.type "type"))
    (ic9 : PySem.W.isClsIn K q9 = true)
    (ty9 : PySem.W.typeIn K (.ref q9) = some (.type "type"))
    (ic10 : PySem.W.isClsIn K q10 = true)
    (ty10 : PySem.W.typeIn K (.ref q10) = some (.type "type"))
    (ic11 : PySem.W.isClsIn K q11 = true)
    (ty11 : PySem.W.typeIn K (.ref q11) = some (.type "type"))
    (ic12 : PySem.W.isClsIn K q12 = true)
    (ty12 : PySem.W.typeIn K (.ref q12) = some (.type "type"))
    (ic13 : PySem.W.isClsIn K q13 = true)
    (ty13 : PySem.W.typeIn K (.ref q13) = some (.type "type"))
    (eb0 : PySem.W.subIn K (.ref q0) (.type "BaseException") = some true)
    (eb12 : PySem.W.subIn K (.ref q12) (.type "BaseException") = some true)
    (eb13 : PySem.W.subIn K (.ref q13) (.type "BaseException") = some true)
    (xl12 : K.lookup q12 = some (excClassObj xn12 xq12 q12 xN12 xs12 [.type "RuntimeError", .type "Exception", .type "BaseException", .type "object"] true xm12 xu12 xb12 xc12 xd12 x012 x112 x212 x312 x512 "RuntimeError.__new__"))
    (sa12 : PySem.W.findIn K (.ref q12) "__setattr__" = some (some (.builtin "object.__setattr__")))
    (ga12 : PySem.W.findIn K (.ref q12) "__getattribute__" = some (some (.builtin "BaseException.__getattribute__")))
    (gg12 : PySem.W.findIn K (.ref q12) "__getattr__" = some none)
    (hd12 : PySem.W.hasDictIn K q12 = true)
    (ca12 : PySem.W.findIn K (.ref q12) "__class__" = some (some (.builtin "object.__class__")))
    (cm12 : PySem.W.mroIn K q12 (.type "object") = some true)
    (kq12 : PySem.W.keepIn K (.ref q12) = true)
    (no12 : PySem.W.findIn K (.ref q12) "place" = some none)
    (su12_0 : PySem.W.subIn K (.ref q12) (.ref q0) = some false)
    (su12_1 : PySem.W.subIn K (.ref q12) (.ref q1) = some false)
    (su12_2 : PySem.W.subIn K (.ref q12) (.ref q2) = some false)
    (su12_3 : PySem.W.subIn K (.ref q12) (.ref q3) = some false)
    (su12_4 : PySem.W.subIn K (.ref q12) (.ref q4) = some false)
    (su12_5 : PySem.W.subIn K (.ref q12) (.ref q5) = some false)
    (su12_6 : PySem.W.subIn K (.ref q12) (.ref q6) = some false)
    (su12_7 : PySem.W.subIn K (.ref q12) (.ref q7) = some false)
    (su12_8 : PySem.W.subIn K (.ref q12) (.ref q8) = some false)
    (su12_9 : PySem.W.subIn K (.ref q12) (.ref q9) = some false)
    (su12_10 : PySem.W.subIn K (.ref q12) (.ref q10) = some false)
    (su12_11 : PySem.W.subIn K (.ref q12) (.ref q11) = some false)
    (su12_12 : PySem.W.subIn K (.ref q12) (.ref q12) = some true)
    (su12_13 : PySem.W.subIn K (.ref q12) (.ref q13) = some false)
    (ve12 : PySem.W.subIn K (.ref q12) (.type "ValueError") = some false)
    (out : K.lookup Pt = none) (hdT : PySem.W.codeHdIn K cR Pt = true) :
    TellsT l w K 13 "script" (fun T => spLaw K T) mg fa h := by
  have e := hfa.symm.trans (PySem.W.mg_of X G a28)
  cases e
  have B : Bare mg := ⟨PySem.W.mg_none_of X G z_isinstance, PySem.W.mg_none_of X G z_int, PySem.W.mg_none_of X G z_bool, PySem.W.mg_none_of X G z_list, PySem.W.mg_none_of X G z_tuple, PySem.W.mg_none_of X G z_len, PySem.W.mg_none_of X G z_range, PySem.W.mg_none_of X G z_enumerate, PySem.W.mg_none_of X G z_sorted, PySem.W.mg_none_of X G z_min, PySem.W.mg_none_of X G z_repr, PySem.W.mg_none_of X G z_any, PySem.W.mg_none_of X G z_max, PySem.W.mg_none_of X G z_abs, PySem.W.mg_none_of X G z_zip, PySem.W.mg_none_of X G z_ValueError⟩
  have N : Nums mg := ⟨⟨_, PySem.W.mg_of X G n2⟩, ⟨_, PySem.W.mg_of X G n6⟩, ⟨_, PySem.W.mg_of X G n40⟩⟩
  have N2 : Nums2 mg := ⟨⟨_, PySem.W.mg_of X G n1000⟩⟩
  have T : Cw K mg C := ⟨⟨pgC, hdC, poC, saC⟩, nC_size, nC_letters, PySem.W.mg_of X G aC, ca, cn, ct, cm⟩
  have T2 : Cwk K mg D := ⟨⟨pgD, hdD, poD, saD⟩, nD_size, nD_held, nD_free, nD_low, PySem.W.mg_of X G aD⟩
  have F0 := fun_mk (st := sBetween) l0 c0 k0
  have b0 := F0.binds (ps := ["value", "least", "most"]) fun _ _ _ _ _ _ us hl => match us, hl with | [_, _, _], _ => rfl
  have D0 : Df K mg "is_between" sBetween f0 _ := ⟨F0, PySem.W.mg_of X G a0⟩
  have F1 := fun_mk (st := sListing) l1 c1 k1
  have b1 := F1.binds (ps := ["value"]) fun _ _ _ _ _ _ us hl => match us, hl with | [_], _ => rfl
  have D1 : Df K mg "is_listing" sListing f1 _ := ⟨F1, PySem.W.mg_of X G a1⟩
  have F2 := fun_mk (st := sCkSize) l2 c2 k2
  have b2 := F2.binds (ps := ["size"]) fun _ _ _ _ _ _ us hl => match us, hl with | [_], _ => rfl
  have D2 : Df K mg "check_size" sCkSize f2 _ := ⟨F2, PySem.W.mg_of X G a2⟩
  have F3 := fun_mk (st := sCkLetters) l3 c3 k3
  have b3 := F3.binds (ps := ["size", "letters"]) fun _ _ _ _ _ _ us hl => match us, hl with | [_, _], _ => rfl
  have D3 : Df K mg "check_letters" sCkLetters f3 _ := ⟨F3, PySem.W.mg_of X G a3⟩
  have F4 := fun_mk (st := sBrack) l4 c4 k4
  have b4 := F4.binds (ps := ["letters", "i"]) fun _ _ _ _ _ _ us hl => match us, hl with | [_, _], _ => rfl
  have D4 : Df K mg "bracketed" sBrack f4 _ := ⟨F4, PySem.W.mg_of X G a4⟩
  have F5 := fun_mk (st := sIsDeed) l5 c5 k5
  have b5 := F5.binds (ps := ["size", "value"]) fun _ _ _ _ _ _ us hl => match us, hl with | [_, _], _ => rfl
  have D5 : Df K mg "is_deed" sIsDeed f5 _ := ⟨F5, PySem.W.mg_of X G a5⟩
  have F6 := fun_mk (st := sCkRow) l6 c6 k6
  have b6 := F6.binds (ps := ["size", "row"]) fun _ _ _ _ _ _ us hl => match us, hl with | [_, _], _ => rfl
  have D6 : Df K mg "check_row" sCkRow f6 _ := ⟨F6, PySem.W.mg_of X G a6⟩
  have F7 := fun_mk (st := sSteps) l7 c7 k7
  have b7 := F7.binds (ps := ["size", "letters"]) fun _ _ _ _ _ _ us hl => match us, hl with | [_, _], _ => rfl
  have D7 : Df K mg "steps_from" sSteps f7 _ := ⟨F7, PySem.W.mg_of X G a7⟩
  have F8 := fun_mk (st := sFollowed) l8 c8 k8
  have b8 := F8.binds (ps := ["word", "row"]) fun _ _ _ _ _ _ us hl => match us, hl with | [_, _], _ => rfl
  have D8 : Df K mg "followed" sFollowed f8 _ := ⟨F8, PySem.W.mg_of X G a8⟩
  have F9 := fun_mk (st := sRun) l9 c9 k9
  have b9 := F9.binds (ps := ["word", "row"]) fun _ _ _ _ _ _ us hl => match us, hl with | [_, _], _ => rfl
  have D9 : Df K mg "run" sRun f9 _ := ⟨F9, PySem.W.mg_of X G a9⟩
  have F10 := fun_mk (st := sCan) l10 c10 k10
  have b10 := F10.binds (ps := ["word", "row"]) fun _ _ _ _ _ _ us hl => match us, hl with | [_, _], _ => rfl
  have D10 : Df K mg "can" sCan f10 _ := ⟨F10, PySem.W.mg_of X G a10⟩
  have F11 := fun_mk (st := sFirst) l11 c11 k11
  have b11 := F11.binds (ps := ["word", "row"]) fun _ _ _ _ _ _ us hl => match us, hl with | [_, _], _ => rfl
  have D11 : Df K mg "first_stuck" sFirst f11 _ := ⟨F11, PySem.W.mg_of X G a11⟩
  have F12 := fun_mk (st := sDeedsOf) l12 c12 k12
  have b12 := F12.binds (ps := ["word"]) fun _ _ _ _ _ _ us hl => match us, hl with | [_], _ => rfl
  have D12 : Df K mg "deeds_of" sDeedsOf f12 _ := ⟨F12, PySem.W.mg_of X G a12⟩
  have F13 := fun_mk (st := sMixed) l13 c13 k13
  have b13 := F13.binds (ps := ["cell", "n"]) fun _ _ _ _ _ _ us hl => match us, hl with | [_, _], _ => rfl
  have D13 : Df K mg "_law_mixed" sMixed f13 _ := ⟨F13, PySem.W.mg_of X G a13⟩
  have F14 := fun_mk (st := sFolded) l14 c14 k14
  have b14 := F14.binds (ps := ["script"]) fun _ _ _ _ _ _ us hl => match us, hl with | [_], _ => rfl
  have D14 : Df K mg "_law_folded" sFolded f14 _ := ⟨F14, PySem.W.mg_of X G a14⟩
  have F15 := fun_mk (st := sDraw) l15 c15 k15
  have b15 := F15.binds (ps := ["m", "limit"]) fun _ _ _ _ _ _ us hl => match us, hl with | [_, _], _ => rfl
  have D15 : Df K mg "_law_draw" sDraw f15 _ := ⟨F15, PySem.W.mg_of X G a15⟩
  have F16 := fun_mk (st := sBegun) l16 c16 k16
  have b16 := F16.binds (ps := ["script"]) fun _ _ _ _ _ _ us hl => match us, hl with | [_], _ => rfl
  have D16 : Df K mg "_law_begun" sBegun f16 _ := ⟨F16, PySem.W.mg_of X G a16⟩
  have F17 := fun_mk (st := sLeft) l17 c17 k17
  have b17 := F17.binds (ps := ["letters", "i"]) fun _ _ _ _ _ _ us hl => match us, hl with | [_, _], _ => rfl
  have D17 : Df K mg "_law_left" sLeft f17 _ := ⟨F17, PySem.W.mg_of X G a17⟩
  have F18 := fun_mk (st := sDone) l18 c18 k18
  have b18 := F18.binds (ps := ["letters", "deed"]) fun _ _ _ _ _ _ us hl => match us, hl with | [_, _], _ => rfl
  have D18 : Df K mg "_law_done" sDone f18 _ := ⟨F18, PySem.W.mg_of X G a18⟩
  have F19 := fun_mk (st := sLawRun) l19 c19 k19
  have b19 := F19.binds (ps := ["letters", "row"]) fun _ _ _ _ _ _ us hl => match us, hl with | [_, _], _ => rfl
  have D19 : Df K mg "_law_run" sLawRun f19 _ := ⟨F19, PySem.W.mg_of X G a19⟩
  have F20 := fun_mk (st := sSize) l20 c20 k20
  have b20 := F20.binds (ps := ["m"]) fun _ _ _ _ _ _ us hl => match us, hl with | [_], _ => rfl
  have D20 : Df K mg "_law_size" sSize f20 _ := ⟨F20, PySem.W.mg_of X G a20⟩
  have F21 := fun_mk (st := sLetters) l21 c21 k21
  have b21 := F21.binds (ps := ["m", "size", "most"]) fun _ _ _ _ _ _ us hl => match us, hl with | [_, _, _], _ => rfl
  have D21 : Df K mg "_law_letters" sLetters f21 _ := ⟨F21, PySem.W.mg_of X G a21⟩
  have F22 := fun_mk (st := sIsWord) l22 c22 k22
  have b22 := F22.binds (ps := ["told", "size", "letters"]) fun _ _ _ _ _ _ us hl => match us, hl with | [_, _, _], _ => rfl
  have D22 : Df K mg "_law_is_word" sIsWord f22 _ := ⟨F22, PySem.W.mg_of X G a22⟩
  have F23 := fun_mk (st := sHeard) l23 c23 k23
  have b23 := F23.binds (ps := ["call"]) fun _ _ _ _ _ _ us hl => match us, hl with | [_], _ => rfl
  have D23 : Df K mg "_law_heard" sHeard f23 _ := ⟨F23, PySem.W.mg_of X G a23⟩
  have F24 := fun_mk (st := sLike) l24 c24 k24
  have b24 := F24.binds (ps := ["told", "due"]) fun _ _ _ _ _ _ us hl => match us, hl with | [_, _], _ => rfl
  have D24 : Df K mg "_law_like" sLike f24 _ := ⟨F24, PySem.W.mg_of X G a24⟩
  have F25 := fun_mk (st := sDeeds) l25 c25 k25
  have b25 := F25.binds (ps := ["m", "size", "many"]) fun _ _ _ _ _ _ us hl => match us, hl with | [_, _, _], _ => rfl
  have D25 : Df K mg "_law_deeds" sDeeds f25 _ := ⟨F25, PySem.W.mg_of X G a25⟩
  have F26 := fun_mk (st := sWay) l26 c26 k26
  have b26 := F26.binds (ps := ["m", "size", "letters", "many"]) fun _ _ _ _ _ _ us hl => match us, hl with | [_, _, _, _], _ => rfl
  have D26 : Df K mg "_law_way" sWay f26 _ := ⟨F26, PySem.W.mg_of X G a26⟩
  have F27 := fun_mk (st := sRight) l27 c27 k27
  have b27 := F27.binds (ps := ["word", "size", "letters", "row"]) fun _ _ _ _ _ _ us hl => match us, hl with | [_, _, _, _], _ => rfl
  have D27 : Df K mg "_law_right" sRight f27 _ := ⟨F27, PySem.W.mg_of X G a27⟩
  have F28 := fun_mk (st := sLaw) l28 c28 k28
  have b28 := F28.binds (ps := ["script"]) fun _ _ _ _ _ _ us hl => match us, hl with | [_], _ => rfl
  have D28 : Df K mg "law" sLaw fa _ := ⟨F28, PySem.W.mg_of X G a28⟩
  have F29 := fun_mk (st := sInit) l29 c29 k29
  have b29 := F29.binds (ps := ["self", "size", "letters"]) fun _ _ _ _ _ _ us hl => match us, hl with | [_, _, _], _ => rfl
  have M29 : Meth K C "__init__" f29 := ⟨a29, i29, k29⟩
  have F30 := fun_mk (st := sEq) l30 c30 k30
  have b30 := F30.binds (ps := ["self", "other"]) fun _ _ _ _ _ _ us hl => match us, hl with | [_, _], _ => rfl
  have M30 : Meth K C "__eq__" f30 := ⟨a30, i30, k30⟩
  have F31 := fun_mk (st := sWInit) l31 c31 k31
  have b31 := F31.binds (ps := ["self", "word"]) fun _ _ _ _ _ _ us hl => match us, hl with | [_, _], _ => rfl
  have M31 : Meth K D "__init__" f31 := ⟨a31, i31, k31⟩
  have F32 := fun_mk (st := sLook) l32 c32 k32
  have b32 := F32.binds (ps := ["self", "i"]) fun _ _ _ _ _ _ us hl => match us, hl with | [_, _], _ => rfl
  have M32 : Meth K D "look" f32 := ⟨a32, i32, k32⟩
  have F33 := fun_mk (st := sGo) l33 c33 k33
  have b33 := F33.binds (ps := ["self", "deed"]) fun _ _ _ _ _ _ us hl => match us, hl with | [_, _], _ => rfl
  have M33 : Meth K D "go" f33 := ⟨a33, i33, k33⟩
  have F34 := fun_mk (st := sReached) l34 c34 k34
  have b34 := F34.binds (ps := ["self"]) fun _ _ _ _ _ _ us hl => match us, hl with | [_], _ => rfl
  have M34 : Meth K D "reached" f34 := ⟨a34, i34, k34⟩
  have F35 := fun_mk (st := sEStuck) l35 c35 k35
  have b35 := F35.binds (ps := ["self", "place"]) fun _ _ _ _ _ _ us hl => match us, hl with | [_, _], _ => rfl
  have FR : FunR K "_law_right" "_law_right" sRight cR f27 _ := ⟨⟨_, _, _, _, _, _, _, _, rfl, l27, c27⟩, k27⟩
  let e : Eca := { lift := q0, of := fun k => match k with | .size => q1 | .letters => q2 | .index => q3 | .number => q4 | .deed => q5 | .table => q6 | .move => q7 | .shape => q8 | .stuck => q12 | .great => q13, recd := q9, osize := q10, ohouse := q11 }
  have EC : Ec K mg e := ⟨PySem.W.mg_none_of X G z_isinstance, PySem.W.mg_none_of X G z_zip, PySem.W.mg_none_of X G z_len, PySem.W.mg_none_of X G z_ValueError, PySem.W.mg_of X G cl0, PySem.W.mg_of X G cl1, PySem.W.mg_of X G cl2, PySem.W.mg_of X G cl3, PySem.W.mg_of X G cl4, PySem.W.mg_of X G cl5, PySem.W.mg_of X G cl6, PySem.W.mg_of X G cl7, PySem.W.mg_of X G cl8, PySem.W.mg_of X G cl9, PySem.W.mg_of X G cl10, PySem.W.mg_of X G cl11, PySem.W.mg_of X G cl12, PySem.W.mg_of X G cl13, ⟨cn, ct⟩⟩
  have TE12 : OexG K q12 "RuntimeError.__new__" bmR := ⟨⟨_, _, _, _, _, _, _, _, _, _, _, _, _, _, _, xl12, pass_R, fun _ => rfl, by decide +kernel⟩, sa12, eb12, ty12, kq12⟩
  have EK12 : Ek K e .stuck := ⟨⟨ga12, gg12, eb12, hd12, ca12, cm12⟩, no12, exm3 (exm_is eb0 ic0 ty0 su12_0) (exm_is eb12 ic12 ty12 su12_12) (exm_is eb13 ic13 ty13 su12_13) rfl, fun k' => match k' with | .size => kit_no su12_12 su12_1 ic1 ty1 | .letters => kit_no su12_12 su12_2 ic2 ty2 | .index => kit_no su12_12 su12_3 ic3 ty3 | .number => kit_no su12_12 su12_4 ic4 ty4 | .deed => kit_no su12_12 su12_5 ic5 ty5 | .table => kit_no su12_12 su12_6 ic6 ty6 | .move => kit_no su12_12 su12_7 ic7 ty7 | .shape => kit_no su12_12 su12_8 ic8 ty8 | .stuck => kit_self | .great => kit_no su12_12 su12_13 ic13 ty13, kit_no su12_12 su12_9 ic9 ty9, kit_no su12_12 su12_10 ic10 ty10, kit_no su12_12 su12_11 ic11 ty11, kit_ve ve12⟩
  refine ⟨PySem.W.fnOf "law" "law" (defArgs sLaw) (defBody sLaw) (defScope sLaw) .none kV28 dc28 pm28 an28 cd28 ct28, cR, Pt, tab, out, PySem.W.codeHd_of_K X hdT, fun s v => .of_eq rfl, fun base _ _ TB => ?_⟩
  have R12 : Er l.prog w K mg base "Stuck" q12 "RuntimeError" "RuntimeError.__new__" "RuntimeError.__init__" bmR "place" f35 _ := ⟨PySem.F.excBase_RuntimeError, TE12, PySem.W.mg_of X G cl12, a35, t35, ok_estuck F35 TE12 no12, b35⟩
  have Gbet := ok_between (P := l.prog) (w := w) (base := base) B D0
  have Glist := ok_listing (P := l.prog) (w := w) (base := base) B D1
  have Gcs := ok_cksize (P := l.prog) (w := w) (base := base) N D2 D0 b0 Gbet
  have Gcl := ok_ckletters (P := l.prog) (w := w) (base := base) B N D3 D0 b0 Gbet D1 b1 Glist
  have Gbr := ok_brack (P := l.prog) (w := w) (base := base) B D4
  have Gin := ok_init (P := l.prog) (w := w) (base := base) B T F29 D2 b2 Gcs D3 b3 Gcl
  have I : In_ l.prog w K mg base C f29 _ := ⟨⟨mkC, a29, i29, kcC⟩, Gin, b29⟩
  have Geq := ok_eq (P := l.prog) (w := w) (base := base) B T F30
  have Gisd := ok_isdeed (P := l.prog) (w := w) (base := base) D5 D0 b0 Gbet
  have Gckr := ok_ckrowS (P := l.prog) (w := w) (base := base) B N2 D6 D1 b1 Glist D5 b5 Gisd
  have Gwk := ok_walk (P := l.prog) (w := w) (base := base) B T T2 F31
  have Wi : Wi_ l.prog w K mg base C D f31 _ := ⟨⟨mkD, a31, i31, kcD⟩, Gwk, b31⟩
  have Glk := ok_look (P := l.prog) (w := w) (base := base) B T2 F32 D4 b4 Gbr
  have Lk : Lk_ l.prog w K mg base D f32 _ := ⟨M32, Glk, b32⟩
  have Ggo := ok_go (P := l.prog) (w := w) (base := base) B T2 F33 Lk
  have Go : Go_ l.prog w K mg base D f33 _ := ⟨M33, Ggo, b33⟩
  have Gfl := ok_followedX (P := l.prog) (w := w) (base := base) B T2 D8 Wi Go
  have Gre := ok_reached (P := l.prog) (w := w) (base := base) T T2 F34 I
  have Re : Re_ l.prog w K mg base C D f34 _ := ⟨M34, Gre, b34⟩
  have Gfi := ok_first (P := l.prog) (w := w) (base := base) T D11 D6 b6 Gckr D8 b8 Gfl
  have Gca := ok_can (P := l.prog) (w := w) (base := base) D10 D11 b11 Gfi
  have Grun := ok_runX (P := l.prog) (w := w) (base := base) T T2 D9 D6 b6 Gckr D8 b8 Gfl Re R12
  have Gst := ok_steps (P := l.prog) (w := w) (base := base) B D7 D4 b4 Gbr
  have Gdo := ok_deedsof (P := l.prog) (w := w) (base := base) B T D12 D7 b7 Gst
  have Gmix := ok_mixed (P := l.prog) (w := w) (base := base) B D13
  have Gfol := ok_folded (P := l.prog) (w := w) (base := base) B D14
  have Gdr := ok_draw (P := l.prog) (w := w) (base := base) B D15 D13 b13 Gmix
  have Gbe := ok_begun (P := l.prog) (w := w) (base := base) D16 D14 b14 Gfol
  have Gsz := ok_size (P := l.prog) (w := w) (base := base) D20 D15 b15 Gdr
  have Gle := ok_letters (P := l.prog) (w := w) (base := base) B D21 D15 b15 Gdr
  have Glf := ok_left (P := l.prog) (w := w) (base := base) B D17
  have Gdn := ok_done (P := l.prog) (w := w) (base := base) D18 D17 b17 Glf
  have Glr := ok_lrun (P := l.prog) (w := w) (base := base) B D19 D18 b18 Gdn
  have Gds := ok_deeds (P := l.prog) (w := w) (base := base) B D25 D15 b15 Gdr
  have Gwy := ok_way (P := l.prog) (w := w) (base := base) B D26 D15 b15 Gdr D18 b18 Gdn
  have Giw := ok_isword (P := l.prog) (w := w) (base := base) B T D22
  have Gli := ok_like (P := l.prog) (w := w) (base := base) B D24
  have OR : OwR l.prog w K mg base C e f23 f19 f24 f9 f10 f11 f22 _ _ _ _ _ _ _ := ⟨EC, EK12, D23, b23, D19, Glr, b19, D24, Gli, b24, D9, Grun, b9, D10, Gca, b10, D11, Gfi, b11, D22, Giw, b22⟩
  have Gri := ok_right B FR TB OR
  have O : Ow l.prog w K mg base C Pt q12 f16 f20 f21 f15 f26 f25 f27 f18 f12 f24 f22 f9 f11 f10 f30 _ _ _ _ _ _ _ _ _ _ _ _ _ _ _ := ⟨D16, Gbe, b16, D20, Gsz, b20, D21, Gle, b21, D15, Gdr, b15, D26, Gwy, b26, D25, Gds, b25, D27, Gri, b27, D18, Gdn, b18, D12, Gdo, b12, D24, Gli, b24, D22, Giw, b22, D9, Grun, b9, D11, Gfi, b11, D10, Gca, b10, M30, Geq, b30⟩
  exact ok_law B T D28 I O
theorem walk {l : PySem.W.OpenLaw} {q : Program} {loose : List Str} {XP : (Str → Option Value) → Heap → Prop} {YP : World → Heap → Prop} {d : DefRec} {K : Params → PySem.W.Frag} (hn : l.most = some 63) (hdf : d.params.defaults = [])
    (hY : ∀ (w : World) (h : Heap), YP w h → (K w.params).In h)
    (F : ∀ (w : World) (mg : Str → Option Value) (fa : Addr) (h : Heap), YP w h → (K w.params).In h → h.Ns mainGlobals mg → mg d.name = some (.ref fa) → TellsT l w (K w.params) 13 "script" (fun T => spLaw (K w.params) T) mg fa h) :
    PySem.W.WalkO q loose XP YP l.row.toRowW d [] (fun f vs => PySem.call f vs) :=
  LwE.walkGT (n := 63) (k := 13) (x := "script") (sp := fun w T => spLaw (K w.params) T) hn (by decide) hdf ⟨rfl, by decide, by decide⟩ hY F fun _ _ a T ns hl hT hS => ⟨a, ns, rfl, hS, hl, (fun p hp => by rw [List.mem_singleton.mp hp]; exact TabS.nil hT), fun _ => rfl⟩
end Lw
open PySem PySem.W PyProof.Rows
set_option maxRecDepth 100000 in
set_option maxHeartbeats 0 in
theorem PySem.Challenge.cw_liftwords_k07_rows_of_deeds_done_holds : PySem.Challenge.rw_liftwords_k07_rows_of_deeds_done.Holds := by
  w_on; o_law; k_head; (case hw => w_witness2)
  k_fill
  refine Lw.walk (l := PySem.Challenge.rw_liftwords_k07_rows_of_deeds_done) rfl rfl (fun w h Y => PySem.W.km_in_of Y) ?F
  case F =>
    intro w mg fa h Y KX G hmg
    refine' Lw.all_mk KX G hmg ?tab ?aC ?aD ?cl0 ?cl1 ?cl2 ?cl3 ?cl4 ?cl5 ?cl6 ?cl7 ?cl8 ?cl9 ?cl10 ?cl11 ?cl12 ?cl13 ?a0 ?l0 ?c0 ?k0 ?a1 ?l1 ?c1 ?k1 ?a2 ?l2 ?c2 ?k2 ?a3 ?l3 ?c3 ?k3 ?a4 ?l4 ?c4 ?k4 ?a5 ?l5 ?c5 ?k5 ?a6 ?l6 ?c6 ?k6 ?a7 ?l7 ?c7 ?k7 ?a8 ?l8 ?c8 ?k8 ?a9 ?l9 ?c9 ?k9 ?a10 ?l10 ?c10 ?k10 ?a11 ?l11 ?c11 ?k11 ?a12 ?l12 ?c12 ?k12 ?a13 ?l13 ?c13 ?k13 ?a14 ?l14 ?c14 ?k14 ?a15 ?l15 ?c15 ?k15 ?a16 ?l16 ?c16 ?k16 ?a17 ?l17 ?c17 ?k17 ?a18 ?l18 ?c18 ?k18 ?a19 ?l19 ?c19 ?k19 ?a20 ?l20 ?c20 ?k20 ?a21 ?l21 ?c21 ?k21 ?a22 ?l22 ?c22 ?k22 ?a23 ?l23 ?c23 ?k23 ?a24 ?l24 ?c24 ?k24 ?a25 ?l25 ?c25 ?k25 ?a26 ?l26 ?c26 ?k26 ?a27 ?l27 ?c27 ?k27 ?a28 ?l28 ?c28 ?k28 ?a29 ?i29 ?l29 ?c29 ?k29 ?a30 ?i30 ?l30 ?c30 ?k30 ?a31 ?i31 ?l31 ?c31 ?k31 ?a32 ?i32 ?l32 ?c32 ?k32 ?a33 ?i33 ?l33 ?c33 ?k33 ?a34 ?i34 ?l34 ?c34 ?k34 ?a35 ?i35 ?t35 ?l35 ?c35 ?k35 ?pgC ?hdC ?poC ?saC ?mkC ?kcC ?nC_size ?nC_letters ?ca ?cn ?ct ?cm ?pgD ?hdD ?poD ?saD ?mkD ?kcD ?nD_size ?nD_held ?nD_free ?nD_low ?n2 ?n6 ?n40 ?n1000 ?z_isinstance ?z_int ?z_bool ?z_list ?z_tuple ?z_len ?z_range ?z_enumerate ?z_sorted ?z_min ?z_repr ?z_any ?z_max ?z_abs ?z_zip ?z_ValueError ?ic0 ?ty0 ?ic1 ?ty1 ?ic2 ?ty2 ?ic3 ?ty3 ?ic4 ?ty4 ?ic5 ?ty5 ?ic6 ?ty6 ?ic7 ?ty7 ?ic8 ?ty8 ?ic9 ?ty9 ?ic10 ?ty10 ?ic11 ?ty11 ?ic12 ?ty12 ?ic13 ?ty13 ?eb0 ?eb12 ?eb13 ?xl12 ?sa12 ?ga12 ?gg12 ?hd12 ?ca12 ?cm12 ?kq12 ?no12 ?su12_0 ?su12_1 ?su12_2 ?su12_3 ?su12_4 ?su12_5 ?su12_6 ?su12_7 ?su12_8 ?su12_9 ?su12_10 ?su12_11 ?su12_12 ?su12_13 ?ve12 ?out ?hdT
    (case tab => exact (List.forall_mem_cons.mp (PySem.W.km_tabs_of Y)).1)
    (case aC => k_is)
    (case aD => k_is)
    (case cl0 => k_is)
    (case cl1 => k_is)
    (case cl2 => k_is)
    (case cl3 => k_is)
    (case cl4 => k_is)
    (case cl5 => k_is)
    (case cl6 => k_is)
    (case cl7 => k_is)
    (case cl8 => k_is)
    (case cl9 => k_is)
    (case cl10 => k_is)
    (case cl11 => k_is)
    (case cl12 => k_is)
    (case cl13 => k_is)
    (case a0 => k_is)
    (case l0 => k_is)
    (case c0 => k_is)
    (case k0 => k_is)
    (case a1 => k_is)
    (case l1 => k_is)
    (case c1 => k_is)
    (case k1 => k_is)
    (case a2 => k_is)
    (case l2 => k_is)
    (case c2 => k_is)
    (case k2 => k_is)
    (case a3 => k_is)
    (case l3 => k_is)
    (case c3 => k_is)
    (case k3 => k_is)
    (case a4 => k_is)
    (case l4 => k_is)
    (case c4 => k_is)
    (case k4 => k_is)
    (case a5 => k_is)
    (case l5 => k_is)
    (case c5 => k_is)
    (case k5 => k_is)
    (case a6 => k_is)
    (case l6 => k_is)
    (case c6 => k_is)
    (case k6 => k_is)
    (case a7 => k_is)
    (case l7 => k_is)
    (case c7 => k_is)
    (case k7 => k_is)
    (case a8 => k_is)
    (case l8 => k_is)
    (case c8 => k_is)
    (case k8 => k_is)
    (case a9 => k_is)
    (case l9 => k_is)
    (case c9 => k_is)
    (case k9 => k_is)
    (case a10 => k_is)
    (case l10 => k_is)
    (case c10 => k_is)
    (case k10 => k_is)
    (case a11 => k_is)
    (case l11 => k_is)
    (case c11 => k_is)
    (case k11 => k_is)
    (case a12 => k_is)
    (case l12 => k_is)
    (case c12 => k_is)
    (case k12 => k_is)
    (case a13 => k_is)
    (case l13 => k_is)
    (case c13 => k_is)
    (case k13 => k_is)
    (case a14 => k_is)
    (case l14 => k_is)
    (case c14 => k_is)
    (case k14 => k_is)
    (case a15 => k_is)
    (case l15 => k_is)
    (case c15 => k_is)
    (case k15 => k_is)
    (case a16 => k_is)
    (case l16 => k_is)
    (case c16 => k_is)
    (case k16 => k_is)
    (case a17 => k_is)
    (case l17 => k_is)
    (case c17 => k_is)
    (case k17 => k_is)
    (case a18 => k_is)
    (case l18 => k_is)
    (case c18 => k_is)
    (case k18 => k_is)
    (case a19 => k_is)
    (case l19 => k_is)
    (case c19 => k_is)
    (case k19 => k_is)
    (case a20 => k_is)
    (case l20 => k_is)
    (case c20 => k_is)
    (case k20 => k_is)
    (case a21 => k_is)
    (case l21 => k_is)
    (case c21 => k_is)
    (case k21 => k_is)
    (case a22 => k_is)
    (case l22 => k_is)
    (case c22 => k_is)
    (case k22 => k_is)
    (case a23 => k_is)
    (case l23 => k_is)
    (case c23 => k_is)
    (case k23 => k_is)
    (case a24 => k_is)
    (case l24 => k_is)
    (case c24 => k_is)
    (case k24 => k_is)
    (case a25 => k_is)
    (case l25 => k_is)
    (case c25 => k_is)
    (case k25 => k_is)
    (case a26 => k_is)
    (case l26 => k_is)
    (case c26 => k_is)
    (case k26 => k_is)
    (case a27 => k_is)
    (case l27 => k_is)
    (case c27 => k_is)
    (case k27 => k_is)
    (case a28 => k_is)
    (case l28 => k_is)
    (case c28 => k_is)
    (case k28 => k_is)
    (case a29 => k_is)
    (case i29 => k_is)
    (case l29 => k_is)
    (case c29 => k_is)
    (case k29 => k_is)
    (case a30 => k_is)
    (case i30 => k_is)
    (case l30 => k_is)
    (case c30 => k_is)
    (case k30 => k_is)
    (case a31 => k_is)
    (case i31 => k_is)
    (case l31 => k_is)
    (case c31 => k_is)
    (case k31 => k_is)
    (case a32 => k_is)
    (case i32 => k_is)
    (case l32 => k_is)
    (case c32 => k_is)
    (case k32 => k_is)
    (case a33 => k_is)
    (case i33 => k_is)
    (case l33 => k_is)
    (case c33 => k_is)
    (case k33 => k_is)
    (case a34 => k_is)
    (case i34 => k_is)
    (case l34 => k_is)
    (case c34 => k_is)
    (case k34 => k_is)
    (case a35 => k_is)
    (case i35 => k_is)
    (case t35 => k_is)
    (case l35 => k_is)
    (case c35 => k_is)
    (case k35 => k_is)
    (case pgC => k_is)
    (case hdC => k_is)
    (case poC => k_is)
    (case saC => k_is)
    (case mkC => k_is)
    (case kcC => k_is)
    (case nC_size => k_is)
    (case nC_letters => k_is)
    (case ca => k_is)
    (case cn => k_is)
    (case ct => k_is)
    (case cm => k_is)
    (case pgD => k_is)
    (case hdD => k_is)
    (case poD => k_is)
    (case saD => k_is)
    (case mkD => k_is)
    (case kcD => k_is)
    (case nD_size => k_is)
    (case nD_held => k_is)
    (case nD_free => k_is)
    (case nD_low => k_is)
    (case n2 => k_is)
    (case n6 => k_is)
    (case n40 => k_is)
    (case n1000 => k_is)
    (case z_isinstance => k_is)
    (case z_int => k_is)
    (case z_bool => k_is)
    (case z_list => k_is)
    (case z_tuple => k_is)
    (case z_len => k_is)
    (case z_range => k_is)
    (case z_enumerate => k_is)
    (case z_sorted => k_is)
    (case z_min => k_is)
    (case z_repr => k_is)
    (case z_any => k_is)
    (case z_max => k_is)
    (case z_abs => k_is)
    (case z_zip => k_is)
    (case z_ValueError => k_is)
    (case ic0 => k_is)
    (case ty0 => k_is)
    (case ic1 => k_is)
    (case ty1 => k_is)
    (case ic2 => k_is)
    (case ty2 => k_is)
    (case ic3 => k_is)
    (case ty3 => k_is)
    (case ic4 => k_is)
    (case ty4 => k_is)
    (case ic5 => k_is)
    (case ty5 => k_is)
    (case ic6 => k_is)
    (case ty6 => k_is)
    (case ic7 => k_is)
    (case ty7 => k_is)
    (case ic8 => k_is)
    (case ty8 => k_is)
    (case ic9 => k_is)
    (case ty9 => k_is)
    (case ic10 => k_is)
    (case ty10 => k_is)
    (case ic11 => k_is)
    (case ty11 => k_is)
    (case ic12 => k_is)
    (case ty12 => k_is)
    (case ic13 => k_is)
    (case ty13 => k_is)
    (case eb0 => k_is)
    (case eb12 => k_is)
    (case eb13 => k_is)
    (case xl12 => k_is)
    (case sa12 => k_is)
    (case ga12 => k_is)
    (case gg12 => k_is)
    (case hd12 => k_is)
    (case ca12 => k_is)
    (case cm12 => k_is)
    (case kq12 => k_is)
    (case no12 => k_is)
    (case su12_0 => k_is)
    (case su12_1 => k_is)
    (case su12_2 => k_is)
    (case su12_3 => k_is)
    (case su12_4 => k_is)
    (case su12_5 => k_is)
    (case su12_6 => k_is)
    (case su12_7 => k_is)
    (case su12_8 => k_is)
    (case su12_9 => k_is)
    (case su12_10 => k_is)
    (case su12_11 => k_is)
    (case su12_12 => k_is)
    (case su12_13 => k_is)
    (case ve12 => k_is)
    (case out => first | rfl | kernel_rfl)
    (case hdT => first | rfl | kernel_rfl)
