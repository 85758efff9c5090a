import PyProof.Rows.All
import Wide.All
import OpenK.AllK
import Wide.FinOn
import HandS.ForMost
import HandS.IsInst
import HandS.Conv
import HandS.Sort
import HandS.Style
import HandS.Flow
import KE.GoesEnum
import HandS.SlotsOwn
import PyProof.InstNe
import PyProof.ReprRoads
import HandS.ForExc
import HandS.ExcField
import KE.KExcIs
import KE.KTryMore
import HandS.ExcInit
import KE.KExcInit
import PyProof.ExcBaseAll.OverflowError
import PyProof.ExcBaseAll.RuntimeError
import HandS.Wide
import HandS.TupAny
import HandS.Lambda
import HandS.Zip
import HandS.Dict
import HandS.RevRange
import HandS.EndTab
import PySem.Challenge.RW_liftwords_k01_words_made
set_option Elab.async false
set_option linter.all false
set_option maxRecDepth 100000
/-! A. The text by places; numbers judged; sizes, indexes and letters checked. -/
namespace Lw
open PySem L2
def top (i : Nat) : Stmt := PySem.Challenge.pw_liftwords_k01_words_made.main.body.getD i (.Pass ⟨0, 0, 0, 0⟩)
abbrev sWhole : Stmt := top 17
abbrev sBetween : Stmt := top 18
abbrev sListing : Stmt := top 19
abbrev sCkSize : Stmt := top 24
abbrev sCkLetters : Stmt := top 25
abbrev sMixed : Stmt := top 28
abbrev sFolded : Stmt := top 29
abbrev sDraw : Stmt := top 30
abbrev sBegun : Stmt := top 31
abbrev sSize : Stmt := top 32
abbrev sLetters : Stmt := top 33
abbrev sIsWord : Stmt := top 34
abbrev sHeard : Stmt := top 35
abbrev sOdd : Stmt := top 36
abbrev sLike : Stmt := top 37
abbrev sRefused : Stmt := top 38
abbrev sLaw : Stmt := top 39
abbrev sInit : Stmt := inClass (top 26) 0
abbrev sLen : Stmt := inClass (top 26) 1
/-- the built-in names that the text doesn't cover -/
structure Bare (mg : Str → Option Value) : Prop where
  isinstance : mg "isinstance" = none
  int : mg "int" = none
  bool : mg "bool" = none
  list : mg "list" = none
  tuple : mg "tuple" = none
  len : mg "len" = none
  range : mg "range" = none
  enumerate : mg "enumerate" = none
  sorted : mg "sorted" = none
  min : mg "min" = none
  repr : mg "repr" = none
  zip : mg "zip" = none
  ve : mg "ValueError" = none
/-- a def of the top -/
structure Df (K : PySem.W.Frag) (mg : Str → Option Value) (x : Str) (st : Stmt) (f : Addr) (fd : FuncData) : Prop where
  fn : Fun K x x st f fd
  g : mg x = some (.ref f)
section
variable {P : Program} {w : World} {K : PySem.W.Frag} {mg : Str → Option Value} {base : Heap}
/-! is_whole -/
def spWhole : Sp := fun vs H Q _ => ∃ i : Int, vs = [.int i] ∧ Q (.bl true) H
theorem scWhole : FnScope ["value"] ["value"] (defScope sWhole) := ⟨rfl, rfl, rfl, by decide +kernel, rfl, by decide +kernel, by decide +kernel⟩
theorem ok_whole {f : Addr} {fd : FuncData} (B : Bare mg) (F : Df K mg "is_whole" sWhole f fd) : FnOk P w K mg base CX0 1 f fd ["value"] spWhole := by
  refine F.fn.ok scWhole (fun vs H Q E h => ?_) (fun cdv A outer s H vs Q E hr h => ?_)
  · obtain ⟨i, rfl, _⟩ := h
    rfl
  · obtain ⟨i, rfl, k⟩ := h
    refine ⟨_, pss_one (ps_ret (pe_and (pe_callB call_isi (by rfl) B.isinstance (by decide +kernel) (pa_cons (pv 0) (pa_cons (pe_bltn (v := .ty "int") (by rfl) B.int (by decide +kernel) rfl) pa_nil)))
      (pe_one (pe_not (pe_callB call_isi (by rfl) B.isinstance (by decide +kernel) (pa_cons (pv 0) (pa_cons (pe_bltn (v := .ty "bool") (by rfl) B.bool (by decide +kernel) rfl) pa_nil))))))), ?_⟩
    refine ⟨_, rfl, _, _, _, _, true, rfl, ClsV.ty _, TyX.base (TyOf.int _), kit_ty (by decide +kernel), _, rfl, ?_⟩
    refine iteT ?_
    refine ⟨_, rfl, _, _, _, _, false, rfl, ClsV.ty _, TyX.base (TyOf.int _), kit_ty (by decide +kernel), _, rfl, ?_⟩
    exact k
end
end Lw
/-! enumerate over a tuple. -/
namespace LwE
open PySem PySem.Spec PyProof.Rows L2
set_option maxHeartbeats 1000000 in
theorem enum_new1 {v : Value} {o : Obj} {H : Heap → Prop} (B : Begins v o H) :
    Meets (Builtin.«enumerate.__new__» ⟨[.type "enumerate", v], []⟩) (fun _ R s => H s.heap ∧
      R (.ok (.ret (.ref (s.heap.push o).objs.size)))
        { s with heap := (s.heap.push o).push { cls := .type "enumerate", data := .fields #[.none, .bool false, .ref s.heap.objs.size, rawInt 0, .none, .none] } }) :=
  .of_wp fun prog w A R s z => by
    obtain ⟨hp, gn, dr, tk, os⟩ := s
    obtain ⟨z1, z2⟩ := z
    have hsub := sub_enumerate
    have start : ∀ {A' : Around} {E : Value → Shared → Prop} {Q : Value → Shared → Prop}, Q (.ref hp.objs.size) ⟨hp.push o, gn, dr, tk, os⟩ →
        wpAny (model prog w) A' (pyIter v) Q E ⟨hp, gn, dr, tk, os⟩ := fun q => B.iter prog w _ _ ⟨hp, gn, dr, tk, os⟩ _ z1 q
    wp_walk using start
    refine wpAny_stack_any fun st => wpAny_pure ?_
    split
    next c _ _ _ _ _ =>
      cases (c == Value.type "enumerate") <;> (wp_walk using start; exact ⟨_, rfl, z2⟩)
    next =>
      wp_walk using start
      exact ⟨_, rfl, z2⟩
section
variable {prog : Program} {w : World} {A : Around} {E : Value → Shared → Prop} {s : Shared}
theorem enum_begins1 {v : Value} {o : Obj} {H : Heap → Prop} {Q : Value → Shared → Prop} (B : Begins v o H) (z : H s.heap)
    (q : ∀ h', IsEnum h' (s.heap.objs.size + 1) s.heap.objs.size 0 .none → h'.get? s.heap.objs.size = some o →
      (∀ b u, s.heap.get? b = some u → h'.get? b = some u) → Q (.ref (s.heap.objs.size + 1)) { s with heap := h' }) :
    wpAny (model prog w) A (call (.type "enumerate") [v]) Q E s := by
  refine callType_new F.called_enumerate (by decide) (F.typeCall_enumerate_1 _) (F.newCall_enumerate_1 _) (fun obj => F.args_object_init_2 obj _) F.entry_enumerate_new (enum_new1 B) ⟨z, ?_⟩
  have ez : (s.heap.push o).objs.size = s.heap.objs.size + 1 := by rw [Heap.size_push]
  show _ ∧ _
  rw [ez]
  have ee : IsEnum ((s.heap.push o).push { cls := .type "enumerate", data := .fields #[.none, .bool false, .ref s.heap.objs.size, rawInt 0, .none, .none] })
      (s.heap.objs.size + 1) s.heap.objs.size 0 .none := by
    have u := Heap.get?_push_size (s.heap.push o) (o := { cls := .type "enumerate", data := .fields #[.none, .bool false, .ref s.heap.objs.size, rawInt 0, .none, .none] }) rfl
    rw [ez] at u
    exact u
  exact ⟨⟨_, ee, rfl⟩, q _ ee (Heap.get?_push_of_some _ (Heap.get?_push_size _ B.free)) fun b u x => Heap.get?_push_of_some _ (Heap.get?_push_of_some _ x)⟩
end
/-- the tuple at a, each item with its place in a new pair -/
def Ien (K : PySem.W.Frag) (a : Addr) : It where
  go := fun i H => ∃ (xs : List V) (x : V), SqT K H a xs ∧ xs[i]? = some x
  yld := fun i H v H' => ∃ T x, v = .ref T ∧ H T = none ∧ H' = upd H T (.tup [.int (i : Nat), x]) ∧ ∀ xs, SqT K H a xs → xs[i]? = some x
  stop := fun i H => ∃ xs : List V, SqT K H a xs ∧ xs.length ≤ i
theorem apart_it {h : Heap} {it a : Addr} {i : Nat} {its : Array Value} (st : h.IsTupleIter it a i) (p : h.IsTuple a its) : a ≠ it := fun z => by
  obtain ⟨o, e1, c1, _⟩ := st
  obtain ⟨o2, e2, c2, _⟩ := p
  rw [z, e1] at e2
  cases e2
  rw [c1] at c2
  exact absurd c2 (by decide)
theorem turn_ien {P : Program} {w : World} {K : PySem.W.Frag} {elts : List Expr} {kk : Nat} {tpos : Pos} (a e it : Addr) :
    Turn P w K (.Tuple elts kk tpos) (Ien K a) [e, it] e (fun i h => (∃ old, IsEnum h e it ((i : Nat) : Int) old) ∧ h.IsTupleIter it a i ∧ e ≠ it ∧ e ≠ a) where
  mem := by simp
  obj := fun i h st b hb => by
    obtain ⟨⟨old, he⟩, ⟨o, ho, hc, hd⟩, _⟩ := st
    rcases (show b = e ∨ b = it by simpa using hb) with z | z <;> subst z
    · exact ⟨_, he, fun v q => nomatch q⟩
    · exact ⟨o, ho, fun v q => by rw [hd] at q; cases q⟩
  keep := fun i h h' st k => by
    obtain ⟨⟨old, he⟩, hi, n1, n2⟩ := st
    exact ⟨⟨old, k e (by simp) _ he⟩, hi.at fun o q => k it (by simp) o q, n1, n2⟩
  item := by
    intro X hP hw hK hc i pins s σ H E I hf st hg
    subst hP hw hK
    obtain ⟨⟨old, he⟩, hit, n1, n2⟩ := st
    obtain ⟨xs, x, hq, hx⟩ := hg
    obtain ⟨its, rv, p, hz⟩ := I.tuple hq
    obtain ⟨u, hu, ru⟩ := rv.get hx
    have lt1 : e < s.heap.objs.size := Heap.lt_size he
    have lt2 : it < s.heap.objs.size := by
      obtain ⟨_, q, _⟩ := hit
      exact Heap.lt_size q
    have pT : s.heap.IsTuple a its.toArray := p
    have hlt : i < its.toArray.size := by
      have q := (List.getElem?_eq_some_iff.mp hu).1
      simpa using q
    have D := Draws.tuple (prog := X.prog) (w := X.w) (A := X.A.in1) (I.ok.hd hc) it a (apart_it hit pT) its.toArray
    refine wpAny_pyNext_enum_itemC D he ⟨hit, pT⟩ hlt n1 (by simp [n1, n2]) fun y h' tk hy ho hs' hT hsz hk => ?_
    have ey : y = u := by
      have q : its.toArray[i]? = some y := hy
      rw [show its.toArray[i]? = its[i]? from by simp, hu] at q
      exact (Option.some.inj q).symm
    subst ey
    refine ⟨_, rfl, wpAny_letOwnedTupleGo_enum (s := { s with heap := h', toks := tk + 1 }) ho fun h'' he' sb => ?_⟩
    have hT2 := (sb.2 _ (Nat.ne_of_gt lt1)).trans hT
    have made : ObjOk X.prog X.w (upd H s.heap.objs.size (.tup [.int (i : Nat), x])) h'' s.heap.objs.size (.tup [.int (i : Nat), x]) :=
      ⟨(by decide : 2 ≤ sizeLine), [.int i tk, y], .cons ⟨_, rfl⟩ (.cons ru .nil), _, hT2, rfl, _, rfl⟩
    have J : Inv X pins σ (upd H s.heap.objs.size (.tup [.int (i : Nat), x])) { s with heap := h'', toks := tk + 1 } :=
      I.turnedNew (ch := [e, it]) (fun b ob hb q => (sb.2 b (fun z => hb (by simp [z]))).trans (hk b ob (fun z => hb (by simp [z])) (fun z => hb (by simp [z])) q)) hf (Nat.le_refl _) made
    refine ⟨.ref s.heap.objs.size, _, J, rfl, ⟨_, x, rfl, I.hok.fresh (Nat.le_refl _), rfl, fun ys hy2 => by rw [I.tuple_inj hy2 hq]; exact hx⟩,
      ⟨⟨y, ?_⟩, hs'.1.at fun o q => (sb.2 it (Ne.symm n1)).trans q, n1, n2⟩, fun b hb => ?_⟩
    · rw [show ((i + 1 : Nat) : Int) = (i : Int) + 1 by omega]
      exact he'
    · have hlt3 : b < s.heap.objs.size := by
        rcases (show b = e ∨ b = it by simpa using hb) with z | z <;> (rw [z]; assumption)
      rw [upd_ne (Nat.ne_of_lt hlt3)]
      exact (hf b hb).1
  done := by
    intro X hP hw hK hc i pins s σ H E I hf st hg
    subst hP hw hK
    obtain ⟨⟨old, he⟩, hit, n1, n2⟩ := st
    obtain ⟨xs, hq, hx⟩ := hg
    obtain ⟨its, rv, p, hz⟩ := I.tuple hq
    obtain ⟨f0, f1, f2, f3, f4, f5⟩ := hf it (by simp)
    have pT : s.heap.IsTuple a its.toArray := p
    have hT : s.TypeIs (.ref e) "enumerate" := ⟨_, he, rfl⟩
    unfold pyNext
    refine wpAny_bind (wpAny_attempt (wpAny_callSpecial?_slot (name := Str.ofString "__next__") hT F.slot_enumerate_next
      (wpAny_call_entry F.slot_enumerate_next hT F.entry_enumerate_next ?_ (F.args_enumerate_next_1 _))))
    show wpAny _ _ (field (.ref e) 2 >>= _) _ _ _
    refine wpAny_bind (wpAny_field he rfl (x := .ref it) rfl ?_)
    have hl := rv.length
    refine wpAny_bind (wpAny_nextOf_tuple_end (I.ok.hd hc) hit pT (by simp; omega) fun h' x he' hx' => ?_)
    obtain ⟨o, ho, hcl⟩ := hx'
    refine wpAny_bind (wpAny_isInstance (T := "StopIteration") (b := true) ⟨o, ho, hcl⟩ isSubtype_stop ?_)
    exact wpAny_pure ⟨rfl, I.turned (t' := s.toks) (fun b o hb q => he' b o hb q) f0 f1 f3 f4 f5⟩
  self := fun A i s Q E st h => by
    obtain ⟨⟨_, he⟩, _⟩ := st
    exact wpAny_pyIter_enum he h
/-- enumerate(t), t a tuple -/
def iEnT (K : PySem.W.Frag) (ta : TA) : TI := fun σ H R => ta σ H fun vs H1 => ∃ a xs, vs = [.ref a] ∧ SqT K H1 a xs ∧ R (Ien K a) H1
theorem pi_enT {X : Cx} {e : Expr} {ta : TA} {p pos tpos : Pos} {elts : List Expr} {kk : Nat} (hg : Gl X "enumerate") (hm : X.mg "enumerate" = none) (ha : PA X [e] ta)
    (hs : starEach [e] X.env = [(false, eval e X.env)] := by rfl) : PI X (.Tuple elts kk tpos) (.Call (.Name "enumerate" p) [e] [] pos) (iEnT X.K ta) := by
  refine ⟨fun pins s σ H R I h => ?_⟩
  refine Call_ (ld_blt I hg hm boot_enumerate (PyProof.Rows.callWith_type1 (thn (ha.run pos pins s σ H _ I h) fun us s1 ⟨vs, H1, I1, r1, q1⟩ => ?_) hs rfl))
  obtain ⟨a, xs, rfl, hq, q⟩ := q1
  obtain ⟨u, rfl, ru⟩ : ∃ u, us = [u] ∧ RelV (.ref a) u := by
    cases r1 with
    | cons r rr =>
      cases rr
      exact ⟨_, rfl, r⟩
  obtain rfl : u = Value.ref a := ru
  obtain ⟨its, rv, p', hz⟩ := I1.tuple hq
  have pT : s1.heap.IsTuple a its.toArray := p'
  refine enum_begins1 (begins_tuple a its.toArray) pT fun h' he hit hk => wpAny_pyIter_enum he ?_
  have I2 : Inv X pins σ H1 { s1 with heap := h' } := I1.kept (t' := s1.toks) hk
  have lta : a < s1.heap.objs.size := by
    obtain ⟨o, e1, _⟩ := pT
    exact Heap.lt_size e1
  refine ⟨s1.heap.objs.size + 1, [s1.heap.objs.size + 1, s1.heap.objs.size], _, _, H1, rfl, I2, turn_ien a (s1.heap.objs.size + 1) s1.heap.objs.size,
    ⟨⟨.none, he⟩, ⟨_, hit, rfl, rfl⟩, Nat.succ_ne_self _, Nat.ne_of_gt (Nat.lt_succ_of_lt lta)⟩, fun b hb => ?_, q⟩
  have le1 : s1.heap.objs.size ≤ b := by
    rcases (show b = s1.heap.objs.size + 1 ∨ b = s1.heap.objs.size by simpa using hb) with z | z
    · rw [z]
      exact Nat.le_succ _
    · rw [z]
      exact Nat.le_refl _
  exact I1.fpOk le1 (I1.hok.fresh le1)
/-- the walk's word -/
theorem for_enT {K : PySem.W.Frag} {a : Addr} {xs : List V} {g : TG} {tb : TS} {D : Ends} {σ : L2.St} {H : Hp} (Pv : Nat → L2.St → Hp → Prop) (h0 : Pv 0 σ H) (hl : ∀ i σ H, i ≤ xs.length → Pv i σ H → SqT K H a xs)
    (hs : ∀ i x T σ H, xs[i]? = some x → Pv i σ H → H T = none → g (.ref T) σ (upd H T (.tup [.int (i : Nat), x])) fun σ2 H2 => tb { D with nx := Pv (i + 1), ct := Pv (i + 1), bk := D.nx } σ2 H2)
    (hd : ∀ σ H, Pv xs.length σ H → D.nx σ H) :
    ∃ W : Nat → Nat → L2.St → Hp → Prop, (∃ m, W 0 m σ H) ∧ ∀ i m σ H, W i m σ H →
      ((Ien K a).stop i H ∧ D.nx σ H) ∨ ((Ien K a).go i H ∧ ∃ N : L2.St → Hp → Prop, (∀ σ' H', N σ' H' → ∃ m', m' < m ∧ W (i + 1) m' σ' H') ∧
        ∀ x H', (Ien K a).yld i H x H' → g x σ H' fun σ2 H2 => tb { D with nx := N, ct := N, bk := D.nx } σ2 H2) := by
  refine ⟨fun i m σ H => m = xs.length - i ∧ i ≤ xs.length ∧ Pv i σ H, ⟨xs.length, by simp, Nat.zero_le _, h0⟩, ?_⟩
  intro i m σ H hW
  obtain ⟨rfl, hi, p⟩ := hW
  have q := hl i σ H hi p
  by_cases hlt : i < xs.length
  · refine .inr ⟨⟨xs, xs[i], q, by simp [hlt]⟩, Pv (i + 1), fun σ' H' p' => ⟨xs.length - (i + 1), by omega, rfl, hlt, p'⟩, fun x H' y => ?_⟩
    obtain ⟨T, v, rfl, hT, rfl, y2⟩ := y
    exact hs i v T σ H (y2 xs q) p hT
  · obtain rfl : i = xs.length := by omega
    exact .inl ⟨⟨xs, q, Nat.le_refl _⟩, hd σ H p⟩
/-- the same over a list -/
theorem for_enL {K : PySem.W.Frag} {a : Addr} {xs : List V} {g : TG} {tb : TS} {D : Ends} {σ : L2.St} {H : Hp} (Pv : Nat → L2.St → Hp → Prop) (h0 : Pv 0 σ H) (hl : ∀ i σ H, i ≤ xs.length → Pv i σ H → SqL K H a xs)
    (hs : ∀ i x T σ H, xs[i]? = some x → Pv i σ H → H T = none → g (.ref T) σ (upd H T (.tup [.int (i : Nat), x])) fun σ2 H2 => tb { D with nx := Pv (i + 1), ct := Pv (i + 1), bk := D.nx } σ2 H2)
    (hd : ∀ σ H, Pv xs.length σ H → D.nx σ H) :
    ∃ W : Nat → Nat → L2.St → Hp → Prop, (∃ m, W 0 m σ H) ∧ ∀ i m σ H, W i m σ H →
      ((Ite K a).stop i H ∧ D.nx σ H) ∨ ((Ite K a).go i H ∧ ∃ N : L2.St → Hp → Prop, (∀ σ' H', N σ' H' → ∃ m', m' < m ∧ W (i + 1) m' σ' H') ∧
        ∀ x H', (Ite K a).yld i H x H' → g x σ H' fun σ2 H2 => tb { D with nx := N, ct := N, bk := D.nx } σ2 H2) := by
  refine ⟨fun i m σ H => m = xs.length - i ∧ i ≤ xs.length ∧ Pv i σ H, ⟨xs.length, by simp, Nat.zero_le _, h0⟩, ?_⟩
  intro i m σ H hW
  obtain ⟨rfl, hi, p⟩ := hW
  have q := hl i σ H hi p
  by_cases hlt : i < xs.length
  · refine .inr ⟨⟨xs, xs[i], q, by simp [hlt]⟩, Pv (i + 1), fun σ' H' p' => ⟨xs.length - (i + 1), by omega, rfl, hlt, p'⟩, fun x H' y => ?_⟩
    obtain ⟨T, v, rfl, hT, rfl, y2⟩ := y
    exact hs i v T σ H (y2 xs q) p hT
  · obtain rfl : i = xs.length := by omega
    exact .inl ⟨⟨xs, q, Nat.le_refl _⟩, hd σ H p⟩
end LwE
/-! list(range(a, b, -1)). -/
namespace LwE
open PySem PySem.Spec PyProof.Rows L2
/-- the ints a, a - 1, .. above b -/
def dnV (a b : Int) : List Int := (List.range (a - b).toNat).map fun i => a - (i : Nat)
theorem dnV_length (a b : Int) : (dnV a b).length = (a - b).toNat := by
  unfold dnV
  rw [List.length_map, List.length_range]
theorem dnV_mem {a b x : Int} (h : x ∈ dnV a b) : b < x ∧ x ≤ a := by
  unfold dnV at h
  obtain ⟨i, hi, rfl⟩ := List.mem_map.mp h
  have := List.mem_range.mp hi
  omega
theorem vals_dn {a b : Int} {acc : Array Value} (h : ItemsOf (fun i v => ∃ t, v = .int (a + i * (-1)) t) acc (a - b).toNat) : Vals ((dnV a b).map V.int) acc.toList := by
  have e : acc.toList.length = (a - b).toNat := by
    rw [Array.length_toList]
    exact h.1
  have e2 : (dnV a b).map V.int = (List.range acc.toList.length).map fun i => V.int (a - (i : Nat)) := by
    unfold dnV
    rw [e, List.map_map]
    rfl
  rw [e2]
  refine vals_of_get acc.toList _ fun j u hj => ?_
  obtain ⟨t, rfl⟩ := h.2 j u (by rw [← hj, Array.getElem?_toList])
  exact ⟨t, by rw [Int.mul_neg, Int.mul_one, Int.sub_eq_add_neg]⟩
section
variable {X : Cx} {a b : Expr} {ta : TA}
/-- bounds of such a range -/
def DnOk (a b : Int) : Prop := -1000 ≤ a ∧ a ≤ 1000 ∧ -1000 ≤ b ∧ b ≤ 1000
def tLstDn (ta : TA) : TE := fun σ H Q => ta σ H fun vs H1 => ∃ a b : Int, vs = [.int a, .int b, .int (-1)] ∧ DnOk a b ∧ ∀ q, H1 q = none → Q (.ref q) (upd H1 q (.lst ((dnV a b).map V.int)))
theorem pe_listDn {c : Expr} {p p' pos pos' : Pos} (hc : X.calm = true) (hg : Gl X "list") (hm : X.mg "list" = none) (hgr : Gl X "range") (hmr : X.mg "range" = none) (ha : PA X [a, b, c] ta)
    (hs : starEach [a, b, c] X.env = (false, eval a X.env) :: starEach [b, c] X.env := by rfl) (hpl : (backTo pos' (starEach [b, c] X.env)).any (·.1) = false := by rfl)
    (na : starEach [.Call (.Name "range" p') [a, b, c] [] pos'] X.env = (false, eval (.Call (.Name "range" p') [a, b, c] [] pos') X.env) :: starEach [] X.env := by rfl) :
    PE X (.Call (.Name "list" p) [.Call (.Name "range" p') [a, b, c] [] pos'] [] pos) (tLstDn ta) := by
  refine ⟨fun pins s σ H Q I h => ?_⟩
  have inner : wpAny (model X.prog X.w) X.A (eval (.Call (.Name "range" p') [a, b, c] [] pos') X.env)
      (fun x s' => ∃ r i j t u v H', x = .ref r ∧ IsRange s'.heap r i j (-1) t u v ∧ Inv X pins σ H' s' ∧ DnOk i j ∧ ∀ q, H' q = none → Q (.ref q) (upd H' q (.lst ((dnV i j).map V.int)))) X.xe s := by
    refine Call_ (ld_blt I hgr hmr boot_range (PyProof.Rows.callWith_type1 (thn (ha.run pos' pins s σ H _ I h) fun us s1 ⟨vs, H1, I1, r1, q1⟩ => ?_) hs hpl))
    obtain ⟨i, j, rfl, ok, q⟩ := q1
    obtain ⟨u1, u2, u3, rfl, ⟨t1, rfl⟩, ⟨t2, rfl⟩, ⟨t3, rfl⟩⟩ : ∃ u1 u2 u3, us = [u1, u2, u3] ∧ RelV (.int i) u1 ∧ RelV (.int j) u2 ∧ RelV (.int (-1)) u3 := by
      cases r1 with
      | cons x1 r1 =>
        cases r1 with
        | cons x2 r1 =>
          cases r1 with
          | cons x3 r1 =>
            cases r1
            exact ⟨_, _, _, rfl, x1, x2, x3⟩
    exact call_range_3 (by decide) ⟨_, i, j, _, _, _, H1, rfl, IsRange.new _ _ _ _ _ _ _, I1.kept (t' := s1.toks) fun b u e => Heap.get?_push_of_some _ e, ok, q⟩
      (Or.inl (PyProof.noPylong_small (by decide)))
  refine Call_ (ld_blt I hg hm boot_list (PyProof.Rows.callWith_type1 (args_cons (thn inner fun x s1 ⟨r, i, j, t, u, v, H1, ex, hr, I1, ok, q⟩ => args_nil ?_) na) na))
  subst ex
  obtain ⟨b1, b2, b3, b4⟩ := ok
  refine call_list_range (n := (i - j).toNat) (I1.ok.hd hc) hr (PySem.W.small_down (by omega) (by omega) (by omega) (by omega)) (PySem.W.rangeSize_downNat i j) (by omega) fun h' tk acc c' hk e' hi => ?_
  refine ⟨.ref s1.heap.objs.size, upd H1 s1.heap.objs.size (.lst ((dnV i j).map V.int)), I1.laid hk (Nat.le_refl _)
    (show ObjOk X.prog X.w _ _ _ (.lst ((dnV i j).map V.int)) from ⟨?_, acc.toList, c', vals_dn hi, ?_⟩), rfl, q _ (I1.hok.fresh (Nat.le_refl _))⟩
  · rw [List.length_map, dnV_length, sizeLine_eq]
    omega
  · rw [Array.toArray_toList]
    exact e'
end
/-- the ints a .. b - 1 -/
def upV (a b : Int) : List Int := (List.range (b - a).toNat).map fun i => a + (i : Nat)
theorem upV_eq (a b : Int) : rgV a b = (upV a b).map V.int := by
  unfold rgV upV
  rw [List.map_map]
  rfl
theorem upV_length (a b : Int) : (upV a b).length = (b - a).toNat := by
  unfold upV
  rw [List.length_map, List.length_range]
theorem upV_mem {a b x : Int} (h : x ∈ upV a b) : a ≤ x ∧ x < b := by
  unfold upV at h
  obtain ⟨i, hi, rfl⟩ := List.mem_map.mp h
  have := List.mem_range.mp hi
  omega
end LwE
/-! M. Brackets, in plain lists. -/
namespace LwM
/-- one letter x at the place p: the i left over so far, the i + 1 that wait -/
def stp (i : Int) (s : List Int × List Int) (p x : Int) : List Int × List Int :=
  if x = i + 1 then (s.1, s.2 ++ [p]) else if x = i then (if s.2 = [] then (s.1 ++ [p], s.2) else (s.1, s.2.dropLast)) else s
/-- letters from the place k on -/
def go (i : Int) : List Int × List Int → Int → List Int → List Int × List Int
  | s, _, [] => s
  | s, k, x :: l => go i (stp i s k x) (k + 1) l
def br (i : Int) (l : List Int) : List Int × List Int := go i ([], []) 0 l
def lows (i : Int) (l : List Int) : List Int := (br i l).1
def highs (i : Int) (l : List Int) : List Int := (br i l).2
theorem go_app (i : Int) : ∀ (l r : List Int) (s : List Int × List Int) (k : Int), go i s k (l ++ r) = go i (go i s k l) (k + l.length) r
  | [], r, s, k => by simp [go]
  | x :: l, r, s, k => by
    show go i (stp i s k x) (k + 1) (l ++ r) = go i (go i (stp i s k x) (k + 1) l) (k + ((x :: l).length : Nat)) r
    rw [go_app i l r, List.length_cons]
    congr 1
    omega
theorem br_snoc (i : Int) (l : List Int) (x : Int) : br i (l ++ [x]) = stp i (br i l) l.length x := by
  unfold br
  rw [go_app]
  show stp i _ (0 + (l.length : Int)) x = _
  rw [Int.zero_add]
/-- the lists get no longer than the letters -/
theorem go_len (i : Int) : ∀ (l : List Int) (s : List Int × List Int) (k : Int), (go i s k l).1.length + (go i s k l).2.length ≤ s.1.length + s.2.length + l.length
  | [], s, k => by simp [go]
  | x :: l, s, k => by
    have h := go_len i l (stp i s k x) (k + 1)
    have h2 : (stp i s k x).1.length + (stp i s k x).2.length ≤ s.1.length + s.2.length + 1 := by
      unfold stp
      split
      · simp; omega
      · split
        · split
          · simp; omega
          · simp; omega
        · omega
    show (go i (stp i s k x) (k + 1) l).1.length + (go i (stp i s k x) (k + 1) l).2.length ≤ _
    rw [List.length_cons]
    omega
theorem br_len (i : Int) (l : List Int) : (lows i l).length ≤ l.length ∧ (highs i l).length ≤ l.length := by
  have h := go_len i l ([], []) 0
  unfold lows highs br
  simp at h
  omega
/-- all places lie among the letters, and hold i, or i + 1 -/
theorem go_bd (i : Int) : ∀ (l : List Int) (s : List Int × List Int) (k : Int), ∀ p, p ∈ (go i s k l).1 ∨ p ∈ (go i s k l).2 → (p ∈ s.1 ∨ p ∈ s.2) ∨ (k ≤ p ∧ p < k + l.length)
  | [], s, k, p, h => .inl h
  | x :: l, s, k, p, h => by
    have ih := go_bd i l (stp i s k x) (k + 1) p h
    rw [List.length_cons]
    rcases ih with ih | ih
    · have e : p ∈ s.1 ∨ p ∈ s.2 ∨ p = k := by
        unfold stp at ih
        split at ih
        · rcases ih with ih | ih
          · exact .inl ih
          · rcases List.mem_append.mp ih with z | z
            · exact .inr (.inl z)
            · exact .inr (.inr (List.mem_singleton.mp z))
        · split at ih
          · split at ih
            · rcases ih with ih | ih
              · rcases List.mem_append.mp ih with z | z
                · exact .inl z
                · exact .inr (.inr (List.mem_singleton.mp z))
              · exact .inr (.inl ih)
            · rcases ih with ih | ih
              · exact .inl ih
              · exact .inr (.inl ((List.dropLast_sublist _).subset ih))
          · rcases ih with ih | ih
            · exact .inl ih
            · exact .inr (.inl ih)
      rcases e with e | e | e
      · exact .inl (.inl e)
      · exact .inl (.inr e)
      · exact .inr ⟨by omega, by omega⟩
    · exact .inr ⟨by omega, by omega⟩
theorem br_bd {i : Int} {l : List Int} {p : Int} (h : p ∈ lows i l ∨ p ∈ highs i l) : 0 ≤ p ∧ p < l.length := by
  rcases go_bd i l ([], []) 0 p h with z | z
  · rcases z with z | z <;> simp at z
  · omega
/-! ### words put together -/
/-- from an empty stack, and from one with things waiting: the first i + 1 that wait are taken by the i left over, from the last -/
theorem go_from (i : Int) : ∀ (l : List Int) (L W : List Int) (k : Int) (A B : List Int),
    go i (L ++ A.drop W.length, W.take (W.length - A.length) ++ B) k l =
      (L ++ (go i (A, B) k l).1.drop W.length, W.take (W.length - (go i (A, B) k l).1.length) ++ (go i (A, B) k l).2)
  | [], L, W, k, A, B => rfl
  | x :: l, L, W, k, A, B => by
    have step : stp i (L ++ A.drop W.length, W.take (W.length - A.length) ++ B) k x =
        (L ++ (stp i (A, B) k x).1.drop W.length, W.take (W.length - (stp i (A, B) k x).1.length) ++ (stp i (A, B) k x).2) := by
      unfold stp
      by_cases h1 : x = i + 1
      · simp only [h1, if_true]
        simp [List.append_assoc]
      · rw [if_neg h1, if_neg h1]
        by_cases h2 : x = i
        · rw [if_pos h2, if_pos h2]
          by_cases hB : B = []
          · subst hB
            simp only [List.append_nil, if_true]
            by_cases hW : W.take (W.length - A.length) = []
            · have hl : W.length ≤ A.length := by
                have := congrArg List.length hW
                rw [List.length_take] at this
                simp at this
                omega
              rw [if_pos hW]
              have e1 : (A ++ [k]).drop W.length = A.drop W.length ++ [k] := List.drop_append_of_le_length hl
              have e2 : W.length - (A ++ [k]).length = 0 := by
                rw [List.length_append, List.length_singleton]
                omega
              have e3 : W.length - A.length = 0 := by omega
              simp only [e1, e2, e3, List.take_zero, List.append_assoc]
            · have hl : A.length < W.length := by
                rcases Nat.lt_or_ge A.length W.length with z | z
                · exact z
                · exact absurd (by rw [Nat.sub_eq_zero_of_le z, List.take_zero]) hW
              rw [if_neg hW]
              have e1 : (A ++ [k]).drop W.length = A.drop W.length := by
                rw [List.drop_of_length_le (by rw [List.length_append, List.length_singleton]; omega), List.drop_of_length_le (by omega)]
              have e2 : (W.take (W.length - A.length)).dropLast = W.take (W.length - (A ++ [k]).length) := by
                rw [List.dropLast_eq_take, List.take_take, List.length_take, List.length_append, List.length_singleton]
                congr 1
                omega
              rw [e1, e2]
          · rw [if_neg (by simp [hB]), if_neg hB, List.dropLast_append_of_ne_nil hB]
        · rw [if_neg h2, if_neg h2]
    show go i (stp i _ k x) (k + 1) l = _
    rw [step]
    exact go_from i l L W (k + 1) _ _
/-- places moved on -/
theorem go_shift (i d : Int) : ∀ (l : List Int) (A B : List Int) (k : Int), go i (A.map (· + d), B.map (· + d)) (k + d) l = ((go i (A, B) k l).1.map (· + d), (go i (A, B) k l).2.map (· + d))
  | [], A, B, k => rfl
  | x :: l, A, B, k => by
    have step : stp i (A.map (· + d), B.map (· + d)) (k + d) x = ((stp i (A, B) k x).1.map (· + d), (stp i (A, B) k x).2.map (· + d)) := by
      unfold stp
      split
      · simp
      · split
        · by_cases hB : B = []
          · subst hB
            simp
          · rw [if_neg (by simp [hB]), if_neg hB]
            simp [List.map_dropLast]
        · rfl
    show go i (stp i _ (k + d) x) (k + d + 1) l = _
    rw [step]
    have e : k + d + 1 = k + 1 + d := by omega
    rw [e]
    exact go_shift i d l _ _ (k + 1)
theorem br_app (i : Int) (l r : List Int) :
    br i (l ++ r) = (lows i l ++ ((lows i r).map (· + (l.length : Int))).drop (highs i l).length, (highs i l).take ((highs i l).length - (lows i r).length) ++ (highs i r).map (· + (l.length : Int))) := by
  have h1 := go_from i r (lows i l) (highs i l) (0 + (l.length : Int)) [] []
  have h2 := go_shift i (l.length : Int) r [] [] 0
  unfold br
  rw [go_app]
  have e0 : go i ([], []) 0 l = (lows i l ++ ([] : List Int).drop (highs i l).length, (highs i l).take ((highs i l).length - ([] : List Int).length) ++ []) := by
    simp [lows, highs, br]
  rw [e0, h1]
  have e1 : go i (([] : List Int), ([] : List Int)) (0 + (l.length : Int)) r = ((lows i r).map (· + (l.length : Int)), (highs i r).map (· + (l.length : Int))) := h2
  rw [e1, List.length_map]
theorem lows_app (i : Int) (l r : List Int) : lows i (l ++ r) = lows i l ++ ((lows i r).map (· + (l.length : Int))).drop (highs i l).length := by
  show (br i (l ++ r)).1 = _
  rw [br_app]
theorem highs_app (i : Int) (l r : List Int) : highs i (l ++ r) = (highs i l).take ((highs i l).length - (lows i r).length) ++ (highs i r).map (· + (l.length : Int)) := by
  show (br i (l ++ r)).2 = _
  rw [br_app]
/-- how many are left over -/
def up (i : Int) (l : List Int) : Nat := (lows i l).length
def dn (i : Int) (l : List Int) : Nat := (highs i l).length
theorem up_app (i : Int) (l r : List Int) : up i (l ++ r) = up i l + (up i r - dn i l) := by
  unfold up dn
  rw [lows_app, List.length_append, List.length_drop, List.length_map]
theorem dn_app (i : Int) (l r : List Int) : dn i (l ++ r) = (dn i l - up i r) + dn i r := by
  unfold up dn
  rw [highs_app, List.length_append, List.length_take, List.length_map]
  omega
end LwM
/-! An own class's +, !=, len; the text of a list of numbers. -/
namespace LwE
open PySem PySem.Spec PyProof.Rows L2
section
variable {X : Cx} {pins : List (Addr × Obj)} {σ : L2.St} {H : Hp} {s : Shared} {k : Nat} {f C : Addr} {fd : FuncData} {ps : List Str} {sp : Sp}
/-- a def called anywhere below the running body -/
theorem run_below {A : Around} {Q : VK} {us : List Value} {vs : List V} (F : FnOk X.prog X.w X.K X.mg X.base CX0 k f fd ps sp) (hr : Room k A) (e0 : Env0 X.prog X.w X.K X.mg X.base A X.stack s H) (hb : Binds X.K fd ps [])
    (I : Inv X pins σ H s) (r : Vals vs us) (h : sp vs H Q E0) : wpAny (model X.prog X.w) A (call (.ref f) us) (EP X pins σ Q) X.xe s := by
  have hl : (us ++ []).length = ps.length := by
    rw [List.append_nil, ← r.length]
    exact F.len _ _ _ _ h
  have b0 := hb s us I.kIn hl
  rw [List.append_nil] at b0
  refine wpAny_call (codeAny_mono (F.run A X.stack s H ⟨us, []⟩ us vs Q E0 hr e0 b0 r h) fun r s' hq => ?_)
  cases r with
  | error e => exact (show False from hq).elim
  | ok fl =>
    cases fl with
    | ret u => exact I.after hq
    | next => exact False.elim hq
    | brk => exact False.elim hq
    | cont => exact False.elim hq
theorem inst_of {dx a : Addr} {fs : List (Str × V)} (I : Inv X pins σ H s) (e : H a = some (.ins C dx fs)) : ∃ ox od, PySem.W.InstAt s.heap a ox C (some od) := by
  obtain ⟨mA, O, _⟩ := ins_get I.hok e
  obtain ⟨od, J, _⟩ := O.look
  exact ⟨_, od, J⟩
/-- len(o) -/
def rLenO (C : Addr) (sp : Sp) : List V → Hp → VK → Prop := fun xs H Q => ∃ a dx fs, xs = [V.ref a] ∧ H a = some (.ins C dx fs) ∧ sp [.ref a] H (fun z H' => ∃ i : Int, z = .int i ∧ (0 ≤ i ∧ i < 2 ^ 63) ∧ Q (.int i) H') E0
theorem call_lenO (hs : PySem.W.findIn X.K (.ref C) "__len__" = some (some (.ref f))) (hf : PySem.W.isFn X.K (.ref f) = true) (F : FnOk X.prog X.w X.K X.mg X.base CX0 k f fd ps sp) (hb : Binds X.K fd ps []) (hr : Room (k + 1) X.A) :
    CallR X (.builtin "len") (rLenO C sp) := by
  intro pins s σ H xs us Q I r h
  obtain ⟨a, dx, fs, rfl, e, q⟩ := h
  obtain ⟨u, rfl, ru⟩ := vals1 r
  obtain rfl : u = Value.ref a := ru
  obtain ⟨ox, od, J⟩ := inst_of I e
  obtain ⟨m, hF⟩ := I.fr
  refine PySem.W.len_K hF I.ok.mod.kin J hs hf (wpAny_mono (run_below (vs := [.ref a]) F hr.in1 I.env0.in1 hb I (.cons rfl .nil) q) (fun v s' z => ?_) fun _ _ x => x)
  obtain ⟨z', H', I', rz, i, rfl, hi, q'⟩ := z
  obtain ⟨t, rfl⟩ := (show ∃ t, v = Value.int i t from rz)
  exact ⟨hi, .int i, H', I'.tok _, ⟨_, rfl⟩, q'⟩
/-- a + b, two of one class -/
def rTwoO (C : Addr) (sp : Sp) : R2 := fun x y H Q => ∃ a dx fs b dy gs, x = .ref a ∧ y = .ref b ∧ H a = some (.ins C dx fs) ∧ H b = some (.ins C dy gs) ∧ sp [x, y] H Q E0
theorem op_addO (hs : PySem.W.findIn X.K (.ref C) "__add__" = some (some (.ref f))) (hf : PySem.W.isFn X.K (.ref f) = true) (hc : PySem.W.selfFirst X.K C = true) (F : FnOk X.prog X.w X.K X.mg X.base CX0 k f fd ps sp) (hb : Binds X.K fd ps [])
    (hr : Room k X.A) : OpR X (binaryOp .Add) (rTwoO C sp) := by
  intro pins s σ H x y v u Q I rx ry h
  obtain ⟨a, dx, fs, b, dy, gs, rfl, rfl, ea, eb, q⟩ := h
  obtain rfl : v = Value.ref a := rx
  obtain rfl : u = Value.ref b := ry
  obtain ⟨ox, od, J⟩ := inst_of I ea
  obtain ⟨oy, oe, J'⟩ := inst_of I eb
  obtain ⟨m, hF⟩ := I.fr
  refine PySem.W.binop_K hF I.ok.mod.kin J J'.type hc hs hf (wpAny_mono (run_below (vs := [.ref a, .ref b]) F hr I.env0 hb I (.cons rfl (.cons rfl .nil)) q) (fun w s' z => ?_) fun _ _ x => x)
  obtain ⟨z', H', I', rz, qz⟩ := z
  exact SlX.cmpback rz ⟨z', H', I', rz, qz⟩
/-- a special method that is a built-in's, bound and called -/
theorem bound_slot {M : Model} {A : Around} {E : Value → Shared → Prop} {K : PySem.W.Frag} {x : Addr} {ox : Obj} {od : Option Obj} {name : Str} {B id : String} {args : List Value} {Q : Option Value → Shared → Prop} (Xk : K.In s.heap) (I : PySem.W.InstAt s.heap x ox C od)
    (hs : PySem.W.findIn K (.ref C) name = some (some (.builtin id))) (S : Slot B name id) (h : wpAny M A (call (.builtin id) (.ref x :: args)) (fun v => Q (some v)) E s) : wpAny M A (callSpecialIfBound? (.ref x) name args) Q E s := by
  simp only [callSpecialIfBound?, bindSpecialIfBound?]
  refine wpAny_holding (wpAny_bind (wpAny_bind (wpAny_bind (I.type.here ((PySem.W.looks_findIn Xk hs).here ?_)))))
  simp only [S.bind]
  refine wpAny_bind (wpAny_askSetting (wpAny_ite ?_))
  have fin : wpAny M A (call (.builtin id) ([.ref x] ++ args) >>= fun v => pure (some v)) Q E s := wpAny_bind (wpAny_mono h (fun v s' z => wpAny_pure z) fun _ _ z => z)
  split
  · exact wpAny_bind (wpAny_pure (wpAny_pure fin))
  · exact wpAny_tryCatch (wpAny_bind (wpAny_pure (wpAny_pure fin)))
/-- a != b by the class's own == -/
def rNeO (C : Addr) (sp : Sp) : R2 := fun x y H Q => ∃ a dx fs b dy gs, x = .ref a ∧ y = .ref b ∧ H a = some (.ins C dx fs) ∧ H b = some (.ins C dy gs) ∧ sp [x, y] H (fun z H' => ∃ c : Bool, z = .bl c ∧ Q (.bl (!c)) H') E0
theorem op_neO (hs : PySem.W.findIn X.K (.ref C) "__eq__" = some (some (.ref f))) (hf : PySem.W.isFn X.K (.ref f) = true) (hn : PySem.W.findIn X.K (.ref C) "__ne__" = some (some (.builtin "object.__ne__"))) (hm : PySem.W.mroIn X.K C (.type "object") = some true)
    (F : FnOk X.prog X.w X.K X.mg X.base CX0 k f fd ps sp) (hb : Binds X.K fd ps []) (hr : Room (k + 1) X.A) : OpR X (compareOp .NotEq) (rNeO C sp) := by
  intro pins s σ H x y v u Q I rx ry h
  obtain ⟨a, dx, fs, b, dy, gs, rfl, rfl, ea, eb, q⟩ := h
  obtain rfl : v = Value.ref a := rx
  obtain rfl : u = Value.ref b := ry
  obtain ⟨ox, od, J⟩ := inst_of I ea
  obtain ⟨oy, oe, J'⟩ := inst_of I eb
  have Xk := I.kIn
  have hcall : wpAny (model X.prog X.w) X.A.in1 (call (.ref f) [.ref a, .ref b]) (fun w s' => ∃ c, w = .bool c ∧ EP X pins σ Q (.bool (!c)) s') X.xe s :=
    wpAny_mono (run_below (vs := [.ref a, .ref b]) F hr.in1 I.env0.in1 hb I (.cons rfl (.cons rfl .nil)) q) (fun w s' z => by
      obtain ⟨z', H', I', rz, c, rfl, qz⟩ := z
      obtain rfl : w = Value.bool c := rz
      exact ⟨c, rfl, .bl (!c), H', I', rfl, qz⟩) fun _ _ x => x
  have h1 : X.A.units < cLine := hr.units0
  have h2 : X.A.in1.units < cLine := by
    have := hr.units
    show X.A.units + 1 < cLine
    omega
  have sub : PySem.W.Looks (model X.prog X.w) s.heap (isInstance (.ref a) (.type "object")) true := J.type.andThen (PySem.W.looks_mroIn Xk hm)
  have body : wpAny (model X.prog X.w) X.A.in1 (Builtin.«object.__ne__» ⟨[.ref a, .ref b], []⟩) (fun fin s' => ∃ c, fin = .done (.ret (.bool (!c))) ∧ EP X pins σ Q (.bool (!c)) s') X.xe s := by
    unfold Builtin.«object.__ne__»
    repeat (first
      | with_reducible refine wpAny_cRoomFor h2 ?_
      | (refine wpAny_bind (m := callSpecialIfBound? (.ref a) (Str.ofString "__eq__") [.ref b]) (PySem.W.ifBound_K Xk J hs hf (wpAny_mono hcall (fun r s' hq => by
          obtain ⟨c, rfl, qz⟩ := hq
          repeat (first | exact ⟨c, rfl, qz⟩ | exact wpAny_pure ⟨c, rfl, qz⟩ | exact wpAny_truthy_bool ⟨c, rfl, qz⟩ | (refine wpAny_bind (m := truthy (.bool _)) (wpAny_truthy_bool ?_)) | wp_step)) fun _ _ e => e)))
      | wp_step)
  have one : wpAny (model X.prog X.w) X.A (tryCompare (.ref a) "__ne__" (.ref b)) (fun r s' => ∃ c : Bool, r = some (.bool (!c)) ∧ EP X pins σ Q (.bool (!c)) s') X.xe s := by
    simp only [tryCompare]
    refine wpAny_bind (bound_slot (B := "object") Xk J hn PySem.F.cmp_object.ne (wpAny_call (codeAny_call_builtin PySem.F.cmp_object.ne.plain PySem.F.cmpEntry_ne
      (@PySem.W.check_slot (model X.prog X.w) _ _ s "object.__ne__" "object" "__ne__" (.ref a) [.ref b] [] _ PySem.F.cmpKind_ne PySem.F.cmpSplit_ne sub (PySem.F.cmpArgs_ne _ _) ?_))))
    refine wpAny_mono body (fun fin s' z => ?_) fun _ _ e => e
    obtain ⟨c, rfl, qz⟩ := z
    first | exact ⟨c, rfl, qz⟩ | exact wpAny_pure ⟨c, rfl, qz⟩
  show wpAny _ _ (richCompare .NotEq (.ref a) (.ref b)) _ _ _
  unfold richCompare
  simp only [oneThing_ref]
  refine wpAny_holding (wpAny_bind (wpAny_cRoomFor h1 ?_))
  rw [cmpInfo_NotEq]
  dsimp only
  refine wpAny_bind (J.type.here (wpAny_bind (J'.type.here ?_)))
  rw [show (Value.ref C != Value.ref C) = false from by simp]
  simp only [Bool.false_eq_true, if_false]
  refine wpAny_bind (wpAny_pure ?_)
  simp only [Bool.false_eq_true, if_false]
  refine wpAny_bind (wpAny_mono one (fun r s' z => ?_) fun _ _ e => e)
  obtain ⟨c, rfl, qz⟩ := z
  first | exact wpAny_pure qz | exact wpAny_pure (wpAny_pure qz)
/-- repr(x), x a list or tuple of what is data -/
def rReprD (K : PySem.W.Frag) : List V → Hp → VK → Prop := fun xs H Q => ∃ (a : Addr) (d : PyData), xs = [V.ref a] ∧ Dp K H (.ref a) d ∧ d.showable = true ∧ d.hasDict = false ∧ d.depth ≤ 8 ∧ d.shown.length ≤ sizeLine ∧ Q (.str d.shown) H
theorem call_reprD (hg : X.A.guards = some []) (hu : X.A.units + 64 < cLine) : CallR X (.builtin "repr") (rReprD X.K) := by
  intro pins s σ H xs us Q I r h
  obtain ⟨a, d, rfl, hd, h1, h2, h3, h4, q⟩ := h
  obtain ⟨u, rfl, ru⟩ := vals1 r
  obtain ⟨as, rd⟩ := Dp.reads I d _ _ hd ru
  obtain rfl : u = Value.ref a := ru
  refine repr_of_reads' rd h1 (fun z => by rw [h2] at z; cases z) hg (by omega) (fun b o e => e) (fun h' t tk kp => ?_) h4
  exact ⟨.str d.shown, H, I.kept kp, ⟨_, rfl⟩, q⟩
end
end LwE
/-! Kx. An exception that was caught by one of three classes, noted under a name, and is held behind the try. -/
namespace LwE
open PySem PySem.Spec PyProof.Rows L2
/-- an exception that was caught, at a -/
def ExK (cls : Value) (d : Option Addr) (a : Addr) : HO := .ext fun h => ∃ (oe : Obj) (vs : Array Value), h.get? a = some oe ∧ Zc cls d oe ∧ oe.data = .fields vs
theorem exK_at {P : Program} {w : World} {H : Hp} {h : Heap} {a : Addr} {cls : Value} {d : Option Addr} (hok : HOk P w H h) (e : H a = some (ExK cls d a)) : ∃ (oe : Obj) (vs : Array Value), h.get? a = some oe ∧ Zc cls d oe ∧ oe.data = .fields vs :=
  (show ObjOk P w H h a (ExK cls d a) from hok a _ e).1
section
variable {X : Cx} {pins : List (Addr × Obj)} {σ : L2.St} {H : Hp} {s : Shared}
/-- an object that is new here and was not told of is told of from now on -/
theorem inv_track {a : Addr} {o : HO} (I : Inv X pins σ H s) (ok : ObjOk X.prog X.w (upd H a o) s.heap a o) (na : H a = none) (nL : a ≠ X.env.locals) (nC : ∀ x c, X.env.cells.lookup x = some c → c ≠ a)
    (new : X.s_0.heap.get? a = none) (np : ∀ p ∈ X.pn ++ pins, p.1 ≠ a) : Inv X pins σ (upd H a o) s := by
  have old : ∀ {b u}, H b = some u → upd H a o b = some u := fun {b u} e => by
    rw [upd_ne (ne_of_none e na)]
    exact e
  have out : ∀ {b}, b ≠ a → H b = none → upd H a o b = none := fun {b} n e => by
    rw [upd_ne n]
    exact e
  have U : Un X.fs X.ex X.H_0 (upd H a o) X.s_0.heap s.heap :=
    { keep := I.base.keep, slot := I.base.slot, there := I.base.there
      free := fun b u e n hx => out (fun z => by rw [z, new] at e; cases e) (I.base.free b u e n hx)
      tups := fun b xs e => old (I.base.tups b xs e)
      frzs := fun b u v e => old (I.base.frzs b u v e)
      tbls := fun b ps e => let ⟨more, q⟩ := I.base.tbls b ps e; ⟨more, old q⟩ }
  refine ⟨I.ok, I.os, I.bare, U, I.loc, I.cell, out nL.symm I.free, fun x c e => out (nC x c e) (I.freeC x c e), fun p hp => ?_, fun b u e => ?_, I.len⟩
  · obtain ⟨h1, h2, h3⟩ := I.pin p hp
    exact ⟨h1, out (np p hp) h2, h3⟩
  · by_cases hb : b = a
    · rw [hb] at e ⊢
      rw [upd_same] at e
      cases e
      exact ok
    · rw [upd_ne hb] at e
      exact (I.hok b u e).stay (fun _ _ _ q => q) (fun _ q => old q) fun _ _ q => old q
/-- what was caught is known from now on -/
theorem inv_hold {a : Addr} {oe : Obj} {vs : Array Value} {cls : Value} {d : Option Addr} (I : Inv X pins σ H s) (ha : s.heap.get? a = some oe) (hz : Zc cls d oe) (hd : oe.data = .fields vs) (na : H a = none)
    (nL : a ≠ X.env.locals) (new : X.s_0.heap.get? a = none) (np : ∀ p ∈ X.pn ++ pins, p.1 ≠ a) : Inv X pins σ (upd H a (ExK cls d a)) s := by
  refine inv_track I ⟨⟨oe, vs, ha, hz, hd⟩, ⟨oe, ha⟩, fun _ _ ⟨o, v, q, r⟩ k => ⟨o, v, k o q, r⟩⟩ na nL (fun x c e z => ?_) new np
  obtain ⟨v, o, ho, hv⟩ := I.cell x c e
  rw [z, ha] at ho
  cases ho
  rw [hd] at hv
  cases hv
/-- an exception in flight, while more is laid -/
theorem flyingZ_keeps {B h h' : Heap} {l : List Env} {a : Addr} {Z : Obj → Prop} (f : HandSPX.FlyingZ B l a Z h) (k : ∀ b o, h.get? b = some o → h'.get? b = some o) : HandSPX.FlyingZ B l a Z h' := by
  obtain ⟨f1, f2, f3, oe, vs, T, oT, ts, g1, g2, g3, g4, g5, g6, g7, g8⟩ := f
  exact ⟨fun b o q => k _ _ (f1 b o q), f2, f3.of_keeps fun b o q _ => ⟨o, k _ _ q, rfl⟩, oe, vs, T, oT, ts, k _ _ g1, g2, g3, g4, g5, g6, k _ _ g7, g8⟩
end
/-- what the clause wishes of an exception of the body: slot i is its name's, which goes behind the suite; the exception stays known -/
def wHold (K : PySem.W.Frag) (cs : List Value) (i : Nat) (ts : Addr → Value → Option Addr → TS) (D : Ends) : WX := fun cls d σ H =>
  PySem.W.exmAny K cls cs = some true ∧ ∀ a, H a = none → ts a cls d { nx := fun σ' H' => D.nx (σ'.set i none) (upd H' a (ExK cls d a)), rt := fun _ _ => False, bk := fun _ _ => False, ct := fun _ _ => False } (σ.set i (some (.ref a))) H
section
variable {X : Cx} {x1 x2 x3 n : Str} {c1 c2 c3 : Value} {i : Nat} {body suite : List Stmt} {b₀ : Stmt} {q1 q2 q3 tp pos pos' : Pos} {kk : Nat} {tb : WX → TS} {ts : Addr → Value → Option Addr → TS}
/-- three classes in a tuple, looked up while an exception is at hand -/
theorem tup3_ok {pins : List (Addr × Obj)} {σ : L2.St} {H : Hp} {s : Shared} {Q : Value → Shared → Prop} {E : Value → Shared → Prop} (I : Inv X pins σ H s) (n1 : Gl X x1 ∧ X.mg x1 = some c1) (n2 : Gl X x2 ∧ X.mg x2 = some c2) (n3 : Gl X x3 ∧ X.mg x3 = some c3)
    (d1 : (x1 == ("__debug__" : Str)) = false) (d2 : (x2 == ("__debug__" : Str)) = false) (d3 : (x3 == ("__debug__" : Str)) = false)
    (h : Q (.ref s.heap.objs.size) { s with heap := s.heap.push { cls := .type "tuple", data := .seq [c1, c2, c3].toArray } }) : wpAny (model X.prog X.w) X.A (eval (.Tuple [.Name x1 q1, .Name x2 q2, .Name x3 q3] kk tp) X.env) Q E s := by
  refine wpAny_Tuple (wpAny_items_cons (ld_glob I n1.1 n1.2 (wpAny_items_cons (ld_glob I n2.1 n2.2 (wpAny_items_cons (ld_glob I n3.1 n3.2 (wpAny_items_nil ⟨?_, h⟩) d3)) d2)) d1))
  show 3 ≤ sizeLine
  decide
theorem ps_try_hold (hs : X.stack = X.env :: X.outer) (hf : X.env.frame = some X.env.locals) (hex : X.ex = []) (hN : X.N.Nodup) (hi : X.N[i]? = some n) (hln : X.env.kindOf n = some .local)
    (n1 : Gl X x1 ∧ X.mg x1 = some c1) (n2 : Gl X x2 ∧ X.mg x2 = some c2) (n3 : Gl X x3 ∧ X.mg x3 = some c3)
    (hb : ∀ (W : WX) (pn : List (Addr × Obj)) (xe : Value → Shared → Prop), Takes (X.tr pn xe) W → PassesOwn (model X.prog X.w) X.A X.env xe → PSs (X.tr pn xe) body (tb W))
    (hsu : ∀ (a : Addr) (oe : Obj) (cls : Value) (d : Option Addr) (pn : List (Addr × Obj)), Zc cls d oe → (∃ vs, oe.data = .fields vs) → PSs (X.suite a ((a, oe) :: pn)) (b₀ :: suite) (ts a cls d))
    (d1 : (x1 == ("__debug__" : Str)) = false := by decide) (d2 : (x2 == ("__debug__" : Str)) = false := by decide) (d3 : (x3 == ("__debug__" : Str)) = false := by decide) :
    PS X (.Try body [.ExceptHandler (some (.Tuple [.Name x1 q1, .Name x2 q2, .Name x3 q3] kk tp)) (some n) (b₀ :: suite) pos'] [] [] pos) (fun D σ H => tb (wHold X.K [c1, c2, c3] i ts D) D σ H) := by
  constructor
  intro pins s σ H D I h
  have ok := I.ok
  refine wpAny_Try_except (wpAny_mono ((hb (wHold X.K [c1, c2, c3] i ts D) (X.pn ++ pins) (fun e r => wpAny (model X.prog X.w) X.A (noteFrame e X.env) (fun _ r => wpAny (model X.prog X.w) X.A (setFlight e none) (fun _ r =>
      wpAny (model X.prog X.w) X.A (handleBy e X.env [.ExceptHandler (some (.Tuple [.Name x1 q1, .Name x2 q2, .Name x3 q3] kk tp)) (some n) (b₀ :: suite) pos']) (SP X pins D) X.xe r) X.xe r) X.xe r) ?_ PassesOwn.looking).run [] s σ H D (I.toTry _) h)
      (fun f r hr => ?_) fun _ _ z => z)
  · rintro u r ⟨a, B, sI, pins', σ', H', cls, d, rfl, J', nb, up, sky, na, os, ag, hit, yes⟩
    have J : Inv X pins σ' H' sI := J'.ofTry ok
    rw [show (X.tr (X.pn ++ pins) _).stack = X.env :: X.outer from hs] at sky
    have hfr : X.A.frames = some (X.env :: X.outer) := by rw [ok.frames, hs]
    show wpAny (model X.prog X.w) X.A (noteFrame (.ref a) X.env) _ _ _
    refine Sky.land Zc.steady hfr hf sky fun h3 fl up3 => ?_
    have I3 : Inv X pins σ' H' { r with heap := h3 } := J.landed nb fl.1 (up.trans up3) os ag
    obtain ⟨oe, vs, ge, ze, de⟩ := fl.there
    -- where a stands not
    have nfr : a ∉ frs (X.env :: X.outer) := fun hm => by
      obtain ⟨_, o, e, no⟩ := fl.2.2.1.mem hm
      rw [ge] at e
      cases e
      exact no _ de
    have nL : a ≠ X.env.locals := fun z => nfr (List.mem_filterMap.mpr ⟨X.env, List.mem_cons_self, by rw [hf, z]⟩)
    have nF : a ∉ X.fs := fun hm => by
      obtain ⟨e, he, q⟩ := List.mem_filterMap.mp hm
      exact nfr (List.mem_filterMap.mpr ⟨e, List.mem_cons_of_mem _ he, q⟩)
    have gone : sI.heap.get? a = none := by
      cases e : sI.heap.get? a with
      | none => rfl
      | some o =>
        have z := nb a o e (by rw [hs]; exact nfr)
        rw [fl.2.1] at z
        cases z
    have new : X.s_0.heap.get? a = none := by
      cases e : X.s_0.heap.get? a with
      | none => rfl
      | some o =>
        obtain ⟨o', z⟩ := J.base.there a o e (by rw [hex]; simp)
        rw [gone] at z
        cases z
    have np : ∀ p ∈ X.pn ++ pins, p.1 ≠ a := fun p hp z => by
      have := (J.pin p hp).1
      rw [z, gone] at this
      cases this
    have S3 := I3.suite ge de na nL nF
    -- the test
    refine wpAny_handleBy_cons (codeAny_handlers_test ?_) (by intro q; cases q)
    refine tup3_ok (X := X.suite a ((a, oe) :: (X.pn ++ pins))) S3 n1 n2 n3 d1 d2 d3 ?_
    have kp : ∀ b o, h3.get? b = some o → (h3.push { cls := .type "tuple", data := .seq [c1, c2, c3].toArray }).get? b = some o := fun _ _ z => Heap.get?_push_of_some _ z
    have ty : PySem.W.Looks (model X.prog X.w) h3 (typeOf (.ref a)) cls := fun _ _ _ _ k q => wpAny_typeOf_ref (k _ _ ge) (by rw [ze.1]; exact q)
    refine (PySem.W.exm_tup3 (M := model X.prog X.w) (I3.kIn.keeps kp) (ty.keeps kp) (Heap.get?_push_size h3 rfl) hit).here ?_
    have fl4 := flyingZ_keeps fl kp
    have up4 : h3.UpToSlots (h3.push { cls := .type "tuple", data := .seq [c1, c2, c3].toArray }) := Heap.UpToSlots.of_keeps kp
    -- the suite
    refine codeAny_handlers_suite_as (HandSPX.lands_againZ fl4 fun h5 fl5 up5 => ?_)
    have I5 : Inv X pins σ' H' { r with heap := h5 } := J.landed nb fl5.1 (((up.trans up3).trans up4).trans up5) os ag
    obtain ⟨oe5, vs5, ge5, ze5, de5⟩ := fl5.there
    refine store_ok (X := X.suite a ((a, oe5) :: (X.pn ++ pins))) (v := .ref a) (I5.suite ge5 de5 na nL nF) hN hi (.inl hln) rfl (fun s6 S6 => ?_) (.inr hln)
    refine wpAny_mono ((hsu a oe5 cls d (X.pn ++ pins) ze5 ⟨_, de5⟩).run [] s6 _ H' _ S6 (yes a na)) (fun f s7 hr => ?_) fun _ _ z => z.elim
    cases f with
    | next =>
      obtain ⟨σ7, H7, S7, q7⟩ := hr
      obtain ⟨p1, p2, p3, p4, _⟩ := S7.pin (a, oe5) (List.mem_append_left _ List.mem_cons_self)
      exact gone_ok (inv_hold (S7.unsuite ok) p1 ze5 de5 p2 p3 new np) hN hi hln fun s8 J8 => ⟨_, _, J8, q7⟩
    | brk =>
      obtain ⟨_, _, _, z⟩ := hr
      exact z.elim
    | cont =>
      obtain ⟨_, _, _, z⟩ := hr
      exact z.elim
    | ret u =>
      obtain ⟨_, _, _, _, _, z⟩ := hr
      exact z.elim
  · cases f with
    | next =>
      obtain ⟨σ', H', J', q⟩ := hr
      exact wpAny_execs_nil ⟨σ', H', J'.ofTry ok, q⟩
    | brk =>
      obtain ⟨σ', H', J', q⟩ := hr
      exact ⟨σ', H', J'.ofTry ok, q⟩
    | cont =>
      obtain ⟨σ', H', J', q⟩ := hr
      exact ⟨σ', H', J'.ofTry ok, q⟩
    | ret u =>
      obtain ⟨v, σ', H', J', rv, q⟩ := hr
      exact ⟨v, σ', H', J'.ofTry ok, rv, q⟩
end
/-! ### isinstance of it, its field -/
/-- what the class of a held exception must say -/
structure HeldC (K : PySem.W.Frag) (C : Addr) : Prop where
  ga : PySem.W.findIn K (.ref C) "__getattribute__" = some (some (.builtin "BaseException.__getattribute__"))
  gg : PySem.W.findIn K (.ref C) "__getattr__" = some none
  exC : PySem.W.subIn K (.ref C) (.type "BaseException") = some true
  hd : PySem.W.hasDictIn K C = true
  ca : PySem.W.findIn K (.ref C) "__class__" = some (some (.builtin "object.__class__"))
  cm : PySem.W.mroIn K C (.type "object") = some true
structure HeldK (K : PySem.W.Frag) : Prop where
  cn : PySem.W.specialIn K (.builtin "object.__class__") "__get__" = some (some (.builtin "getset_descriptor.__get__"))
  ct : PySem.W.takesIn K (.builtin "object.__class__") = some true
def rIsHeld (K : PySem.W.Frag) : List V → Hp → VK → Prop := fun xs H Q => ∃ (a C : Addr) (d : Addr) (fs : List (Str × V)) (c : V) (u : Value) (b : Bool), xs = [.ref a, c] ∧ HeldC K C ∧ H a = some (ExK (.ref C) (some d) a) ∧ H d = some (.xd fs) ∧ ClsV c u ∧
  PySem.W.kitOne K (.ref C) u = some b ∧ Q (.bl b) H
section
variable {X : Cx}
theorem held_inst {pins : List (Addr × Obj)} {σ : L2.St} {H : Hp} {s : Shared} {a C d : Addr} {fs : List (Str × V)} (I : Inv X pins σ H s) (ha : H a = some (ExK (.ref C) (some d) a)) (hd : H d = some (.xd fs)) :
    ∃ (oe od : Obj) (mA : Str → Option Value), PySem.W.InstAt s.heap a oe C (some od) ∧ (∀ y, PySem.W.lookIn y od = some (mA y)) ∧ ∀ f, RelO (fs.lookup f) (mA f) := by
  obtain ⟨oe, vs, ge, ze, de⟩ := exK_at I.hok ha
  obtain ⟨mA, hns, hr⟩ := (show ObjOk X.prog X.w H s.heap d (.xd fs) from I.hok d _ hd)
  obtain ⟨od, ho, hl⟩ := lookIn_ns hns
  exact ⟨oe, od, mA, ⟨ge, ze.1, by unfold PySem.W.notCls; rw [de] <;> rfl, by rw [ze.2]; exact ho⟩, hl, hr⟩
theorem call_isHeld (T : HeldK X.K) : CallR X (.builtin "isinstance") (rIsHeld X.K) := by
  intro pins s σ H xs us Q I r h
  obtain ⟨a, C, d, fs, c, u, b, rfl, Cl, ha, hd, k, e, q⟩ := h
  obtain ⟨u1, u2, rfl, r1, r2⟩ := vals2 r
  have e2 := k.eq r2
  subst e2
  obtain rfl : u1 = Value.ref a := r1
  obtain ⟨oe, od, mA, J, _, _⟩ := held_inst I ha hd
  have hcl : (PySem.W.clsIn X.K C).isSome = true := by
    obtain ⟨cd, hc, _⟩ := PySem.W.any_some Cl.hd
    rw [hc]
    rfl
  exact PySem.W.kia_one (PySem.W.kitx_exc hcl Cl.ga Cl.gg Cl.exC Cl.ca T.cn T.ct Cl.cm) I.kIn J e (fun z => nomatch z) fun tk => ⟨.bl b, H, I.tok tk, rfl, q⟩
/-- held.f -/
def tFldHeld (K : PySem.W.Frag) (f : Str) (te : TE) : TE := fun σ H Q => te σ H fun x H1 => ∃ (a C d : Addr) (fs : List (Str × V)) (v : V), x = .ref a ∧ HeldC K C ∧ PySem.W.findIn K (.ref C) f = some none ∧ H1 a = some (ExK (.ref C) (some d) a) ∧ H1 d = some (.xd fs) ∧ fs.lookup f = some v ∧ Q v H1
theorem pe_fldHeld {e : Expr} {te : TE} {pos : Pos} {f : Str} (he : PE X e te) (hb : attributeBase e f X.env (eval e X.env) = eval e X.env := by rfl) : PE X (.Attribute e f pos) (tFldHeld X.K f te) := by
  constructor
  intro pins s σ H Q I h
  refine attr_of hb (thn (he.run pins s σ H _ I h) fun u s1 hh => ?_)
  obtain ⟨x, H1, I1, rx, a, C, d, fs, v, rfl, Cl, hno, ha, hd, l, q⟩ := hh
  obtain rfl : u = Value.ref a := rx
  obtain ⟨oe, od, mA, J, hl, hr⟩ := held_inst I1 ha hd
  obtain ⟨u, hu, ru⟩ := RelO.some_of (v := v) (o := mA f) (by rw [← l]; exact hr f)
  exact HandSPX.exc_get I1.kIn J Cl.ga Cl.gg Cl.exC (PySem.W.findObj_own Cl.hd hno rfl (by rw [hl, hu])) (handed_of ru) ⟨v, H1, I1.tok _, ru, q⟩
end
end LwE
/-! Ex. An own exception class, over any built-in one, whose __init__ notes one field. -/
namespace LwE
open PySem PySem.Spec PyProof.Rows L2
/-- what the written part says of the class; bm: what stands behind it in its order -/
structure OexG (K : PySem.W.Frag) (C : Addr) (newId : String) (bmB : List Value) : Prop where
  cls : ∃ nm q N bs bm sn sub ab col dd k0 k1 k2 k3 k5, K.lookup C = some (excClassObj nm q C N bs bm true sn sub ab col dd k0 k1 k2 k3 k5 newId) ∧
    (∀ self : Value, refuseLoop self "__setattr__" bm = pure ()) ∧ (∀ Y : String, bm.contains (.type Y) = bmB.contains (.type Y)) ∧ bm.contains (.type "object") = true
  sa : PySem.W.findIn K (.ref C) "__setattr__" = some (some (.builtin "object.__setattr__"))
  exC : PySem.W.subIn K (.ref C) (.type "BaseException") = some true
  tyC : PySem.W.typeIn K (.ref C) = some (.type "type")
  kC : PySem.W.keepIn K (.ref C) = true
abbrev bmV : List Value := [.type "ValueError", .type "Exception", .type "BaseException", .type "object"]
abbrev bmO : List Value := [.type "OverflowError", .type "ArithmeticError", .type "Exception", .type "BaseException", .type "object"]
abbrev bmR : List Value := [.type "RuntimeError", .type "Exception", .type "BaseException", .type "object"]
theorem oexG_V {K : PySem.W.Frag} {C : Addr} (T : OexC K C) : OexG K C "ValueError.__new__" bmV := by
  obtain ⟨nm, q, N, bs, bm, sn, sub, ab, col, dd, k0, k1, k2, k3, k5, h, hb⟩ := T.cls
  exact ⟨⟨nm, q, N, bs, bm, sn, sub, ab, col, dd, k0, k1, k2, k3, k5, h, fun self => PySem.HandSPX.refsVE_pass self bm hb, fun Y => PySem.HandSPX.refsVE_contains Y bm hb, (PySem.HandSPX.refsVE_contains "object" bm hb).trans (by decide +kernel)⟩, T.sa, T.exC, T.tyC, T.kC⟩
section
open Builtin Builtin.ObjectAttr PySem.W PySem.HandSPX
variable {prog : Program} {w : World} {A : Around} {R : Result → Shared → Prop} {hp : Heap} {g : Array GenState} {d : Drawn} {t : Nat} {os : OsState} {K : Frag} {name : Str} {tk : Tok} {v : Value} {x C : Addr} {fv : Array Value} {cd : ClassData}
/-- the first field of an exception that has no dict -/
theorem first_field (X : K.In hp) (hx : hp.get? x = some { cls := .ref C, data := .fields fv }) (hcd : clsIn K C = some cd) (hpass : ∀ self : Value, refuseLoop self "__setattr__" cd.mro = pure ()) (hne : cd.mro.isEmpty = false) (hob : cd.mro.contains (.type "object") = true)
    (hh : cd.hasDict = true) (ha : findIn K (.ref C) name = some none)
    (hq : ∀ h' tk' dx, (∀ b o, b ≠ x → hp.get? b = some o → h'.get? b = some o) → hp.objs.size ≤ dx → dx ≠ x → h'.get? x = some { cls := .ref C, dict := some dx, data := .fields fv } → h'.Ns1 dx (fun y => if y = name then some v else none) → R (.ok (.ret .none)) ⟨h', g, d, tk', os⟩) :
    codeAny (model prog w) A (.call (.builtin "object.__setattr__") ⟨[.ref x, .str name tk, v], []⟩) R ⟨hp, g, d, t, os⟩ := by
  have inst : InstAt hp x { cls := .ref C, data := .fields fv } C none := ⟨hx, rfl, rfl, trivial⟩
  have far : hp.objs.size ≠ x := Nat.ne_of_gt (Heap.lt_size hx)
  have mro1 : mroIn K C (.type "object") = some true := by
    unfold mroIn
    rw [hcd, Option.bind_some, hne, hob]
    rfl
  have mro2 : Looks (model prog w) hp (mroOf (.ref C)) cd.mro := (looks_clsIn X hcd).andThen .now
  have cls2 : Looks (model prog w) hp (classData C) cd := looks_clsIn X hcd
  have taker : Looks (model prog w) hp (storeTaker? none) none := .now
  have S := F.store_object
  refine codeAny_call_builtin S.slot.plain S.entry (@check_slot (model prog w) _ _ ⟨hp, g, d, t, os⟩ _ _ _ (.ref x) [.str name tk, v] [] _ S.kind S.split (inst.type.andThen (looks_mroIn X mro1)) (S.args (.ref x) (.str name tk) v) ?_)
  rw [osa_eq, refuse_eq]
  refine wpAny_bind (wpAny_bind (inst.type.at (wpAny_bind (mro2.at ?_))))
  rw [hpass]
  refine wpAny_pure (wpAny_bind (inst.type.at (wpAny_bind ((looks_findIn X ha).at (wpAny_bind (taker.at ?_))))))
  change wpAny _ _ (storeInOwnDict (.ref x) (.ref C) (.str name tk) name v false) _ _ _
  obtain ⟨_, _, _, _, _, hd, _, _, _, _, _⟩ := cd
  obtain rfl : hd = true := hh
  unfold storeInOwnDict ownDictForStores
  repeat (first | with_reducible refine store_in_new ?_ ?_ | with_reducible refine wpAny_loadPart_at hx ?_ | with_reducible refine cls2.at ?_ | wp_step)
  · exact ⟨_, #[], _, (Heap.get?_update_ne _ _ _ _ far).trans (Heap.get?_push_at rfl rfl), rfl, fun e he => absurd he (by simp), fun _ => rfl⟩
  · intro h' tk' ns sb
    have keep : ∀ {b o}, b ≠ hp.objs.size → (hp.push { cls := .type "dict", data := .dict #[] }).get? b = some o → b ≠ x → h'.get? b = some o := fun {b o} n e nx => (sb.2 b n).trans ((Heap.get?_update_ne _ _ _ _ nx).trans e)
    refine hq h' tk' hp.objs.size (fun b o nx e => keep (Nat.ne_of_lt (Heap.lt_size e)) (Heap.get?_push_of_some _ e) nx) (Nat.le_refl _) far ?_ ns
    exact (sb.2 x far.symm).trans (Heap.get?_update_self _ (Heap.get?_push_of_some _ hx) rfl)
end
section
variable {X : Cx} {pins : List (Addr × Obj)} {σ : L2.St} {H : Hp} {s : Shared} {a C : Addr} {f : Str} {y : V} {u : Value} {newId : String} {bmB : List Value}
theorem note_first {Q : Unit → Shared → Prop} {E : Value → Shared → Prop} {A : Around} (hex : X.ex = []) (T : OexG X.K C newId bmB) (I : Inv X pins σ H s) (e : H a = some (exo a C none)) (hno : PySem.W.findIn X.K (.ref C) f = some none) (ry : RelV y u)
    (h : ∀ dx s', H dx = none → dx ≠ a → Inv X pins σ (upd (upd H dx (exd dx [(f, y)])) a (exo a C (some dx))) s' → Q () s') : wpAny (model X.prog X.w) A (setAttr (.ref a) f u) Q E s := by
  obtain ⟨nm, q, N, bs, bm, sn, sub, ab, col, dd, k0, k1, k2, k3, k5, hC, hpass, hcon, hob⟩ := T.cls
  have hcl : PySem.W.clsIn X.K C = some { name := nm, bases := bs, mro := .ref C :: bm, ns := N, qualname := q, hasDict := true, slotNames := sn, subclasses := sub, abstract := ab, collection := col, hasDel := false } := by
    unfold PySem.W.clsIn
    rw [hC] <;> rfl
  obtain ⟨t1, ho⟩ := exo_at I.hok e
  obtain ⟨hp, g, d, t, os⟩ := s
  refine PySem.W.set_plain I.kIn (od := none) ⟨ho, rfl, rfl, trivial⟩ T.sa (first_field I.kIn ho hcl (fun self => by rw [refuseLoop_ref]; exact hpass self) rfl (by rw [List.contains_cons, hob, Bool.or_true]) rfl hno fun h' tk' dx k dn dne hx hn => ?_)
  have hnd : H dx = none := I.hok.fresh dn
  have I1 : Inv X pins σ (upd H a (exo a C (some dx))) ⟨h', g, d, tk', os⟩ := I.write (t' := tk') (x := a) (e := a) (by rw [e]; exact True.intro) (.inl rfl) k ⟨_, hx⟩ (exo_ok hx)
  have old : ∀ {b o}, hp.get? b = some o → b ≠ dx := fun {b o} q => Nat.ne_of_lt (Nat.lt_of_lt_of_le (Heap.lt_size q) dn)
  have I2 : Inv X pins σ (upd (upd H a (exo a C (some dx))) dx (exd dx [(f, y)])) ⟨h', g, d, tk', os⟩ := by
    refine inv_track I1 (exd_ok hn (relO_put (fs := []) ry fun _ => True.intro)) (by rw [upd_ne dne]; exact hnd) ?_ (fun x c q => ?_) ?_ fun p hp' => ?_
    · obtain ⟨m, ⟨o, _, _, z, _⟩, _⟩ := I.loc
      exact (old z).symm
    · obtain ⟨w, o, z, _⟩ := I.cell x c q
      exact old z
    · cases z : X.s_0.heap.get? dx with
      | none => rfl
      | some o =>
        obtain ⟨o', z'⟩ := I.base.there dx o z (by rw [hex]; simp)
        exact absurd rfl (old z')
    · exact old (I.pin p hp').1
  refine h dx _ hnd dne ?_
  have sw : upd (upd H a (exo a C (some dx))) dx (exd dx [(f, y)]) = upd (upd H dx (exd dx [(f, y)])) a (exo a C (some dx)) := by
    funext b
    by_cases h1 : b = a
    · rw [h1, upd_same, upd_ne dne.symm, upd_same]
    · by_cases h2 : b = dx
      · rw [h2, upd_same, upd_ne dne, upd_same]
      · rw [upd_ne h2, upd_ne h1, upd_ne h1, upd_ne h2]
  rw [sw] at I2
  exact I2
/-- self.f = e, self an exception that is being made -/
def tNote (K : PySem.W.Frag) (f : Str) (to te : TE) : TS := fun D σ H => te σ H fun y H1 => to σ H1 fun x H2 => ∃ (a C : Addr) (newId : String) (bmB : List Value), x = .ref a ∧ OexG K C newId bmB ∧ PySem.W.findIn K (.ref C) f = some none ∧ H2 a = some (exo a C none) ∧
  ∀ dx, H2 dx = none → dx ≠ a → D.nx σ (upd (upd H2 dx (exd dx [(f, y)])) a (exo a C (some dx)))
theorem ps_note {o e : Expr} {to te : TE} {p' pos : Pos} (hex : X.ex = []) (ho : PE X o to) (he : PE X e te) (hs : swapsWith e (some (.Attribute o f p')) pos.line X.env = pure false := by rfl) : PS X (.Assign [.Attribute o f p'] e pos) (tNote X.K f to te) := by
  constructor
  intro pins s σ H D I h
  refine plainObj_wpAny_Assign_Attribute (thn (he.run pins s σ H _ I h) fun v s1 ⟨y, H1, I1, r1, q1⟩ => thn (ho.run pins s1 σ H1 _ I1 q1) fun u s2 ⟨x, H2, I2, r2, a, C, newId, bmB, ex, T, hno, ea, q⟩ => ?_) hs
  subst ex
  obtain rfl : u = Value.ref a := r2
  exact note_first hex T I2 ea hno r1 fun dx s' n ne J => ⟨σ, _, J, q dx n ne⟩
/-- C(e, ..), C's __init__ keeping sp -/
theorem pmk_note {B initId : String} {CX : CXT} {x : Str} {fI : Addr} {k : Nat} {fd : FuncData} {ps : List Str} {sp : Sp} {e : Expr} {es : List Expr} {ta : TA} {p pos : Pos} (Fa : ExcBaseFacts B newId initId bmB) (T : OexG X.K C newId bmB)
    (iC : PySem.W.findIn X.K (.ref C) "__init__" = some (some (.ref fI))) (tI : PySem.W.typeIn X.K (.ref fI) = some (.type "function")) (F1 : FnOk X.prog X.w X.K X.mg X.base CX k fI fd ps sp) (hr : Room (k + 1) X.A) (hb : Binds X.K fd ps [])
    (hx : Passes CX X (fun _ _ _ => False)) (hg : Gl X x) (hm : X.mg x = some (.ref C)) (ha : PA X (e :: es) ta) (hdb : (x == ("__debug__" : Str)) = false := by decide)
    (he : starEach (e :: es) X.env = (false, eval e X.env) :: starEach es X.env := by rfl) (hpl : (backTo pos (starEach es X.env)).any (·.1) = false := by rfl) :
    PMk X (.Call (.Name x p) (e :: es) [] pos) (tMkO C sp [] ta) := by
  intro pins s σ H Q I h
  obtain ⟨nm, q, N, bs, bm, sn, sub, ab, col, dd, k0, k1, k2, k3, k5, hC, hpass, hcon, hob⟩ := T.cls
  refine wpAny_Call_Name_kw (ld_glob I hg hm (PySem.W.callWith_K (h₀ := X.base) I.ok.mod.kin T.kC (thn (ha.run pos pins s σ H _ I h) fun us s1 ⟨vs, H1, I1, r1, hz, q1⟩ => ⟨I1.kIn, ?_⟩) he hpl) hdb)
  obtain ⟨hp, g, dr, tk, os⟩ := s1
  have keep : ∀ b o, hp.get? b = some o → ((hp.push (PySem.W.kdv_tup us)).push (PySem.HandSPX.excO C hp.objs.size)).get? b = some o := fun b o e => Heap.get?_push_of_some _ (Heap.get?_push_of_some _ e)
  have here : ((hp.push (PySem.W.kdv_tup us)).push (PySem.HandSPX.excO C hp.objs.size)).get? (hp.objs.size + 1) = some (PySem.HandSPX.excO C hp.objs.size) := by heap_get
  have hn : H1 (hp.objs.size + 1) = none := I1.hok.fresh (Nat.le_succ _)
  have sp1 := q1 _ hn
  have I2 := I1.laid (t' := tk) (o := exo (hp.objs.size + 1) C none) keep (Nat.le_succ _) (exo_ok here)
  have len : us.length ≤ sizeLine := by
    rw [← Paired.length r1, sizeLine_eq]
    omega
  rw [List.append_nil] at sp1
  have r2 : Vals (V.ref (hp.objs.size + 1) :: vs) (Value.ref (hp.objs.size + 1) :: us) := .cons rfl r1
  have lp : ((Value.ref (hp.objs.size + 1) :: us) ++ ([] : List Value)).length = ps.length := by
    rw [List.append_nil, ← r2.length]
    exact F1.len _ _ _ _ sp1
  have bd := hb _ (Value.ref (hp.objs.size + 1) :: us) I2.kIn lp
  rw [List.append_nil] at bd
  show wpAny _ _ (call (.ref C) us) _ _ _
  refine wpAny_call (PySem.HandSPX.call_own Fa hcon (I1.kIn _ _ hC) (PySem.W.looks_findIn I1.kIn iC) (fun self => PySem.W.bind_fn I1.kIn self tI) len
    (codeAny_mono (F1.run _ X.stack _ _ ⟨Value.ref (hp.objs.size + 1) :: us, []⟩ _ _ _ (fun _ _ _ => False) (hr.make C us []) (I2.env0.make C us []) bd r2 sp1) fun r s' hq => ?_))
  cases r with
  | error er => exact hx pins σ _ _ er s' I2 hq
  | ok fl =>
    cases fl with
    | ret u =>
      obtain ⟨v, H2, os2, bare2, un2, hok2, rv, ev, d, fs, ea, ed, hd1, q2⟩ := hq
      subst ev
      obtain ⟨h2, g2, d2, t2, os'⟩ := s'
      exact ⟨rv, mk_end (raises_own T.exC T.tyC) I1 (Nat.le_succ _) keep un2 hok2 os2 bare2 ea ed hd1 q2⟩
    | next => exact hq.elim
    | brk => exact hq.elim
    | cont => exact hq.elim
end
end LwE
/-! B. Bounds, kinds, sizes, indexes, letters. -/
namespace Lw
open PySem L2
/-- the numbers of the module words -/
structure Nums (mg : Str → Option Value) : Prop where
  least : ∃ t, mg "LEAST_SIZE" = some (.int 2 t)
  mostS : ∃ t, mg "MOST_SIZE" = some (.int 6 t)
  mostL : ∃ t, mg "MOST_LETTERS" = some (.int 40 t)
abbrev nums (l : List Int) : List V := l.map V.int
theorem nums_get {l : List Int} {i : Nat} {x : V} (h : (nums l)[i]? = some x) : ∃ z, x = .int z ∧ l[i]? = some z ∧ z ∈ l := by
  rw [List.getElem?_map] at h
  cases e : l[i]? with
  | none =>
    rw [e] at h
    cases h
  | some z =>
    rw [e] at h
    exact ⟨z, (Option.some.inj h).symm, rfl, List.mem_of_getElem? e⟩
section
variable {P : Program} {w : World} {K : PySem.W.Frag} {mg : Str → Option Value} {base : Heap}
/-! is_between -/
def spBetween : Sp := fun vs H Q _ => ∃ v a b : Int, vs = [.int v, .int a, .int b] ∧ Q (.bl (decide (a ≤ v ∧ v ≤ b))) H
theorem scBetween : FnScope ["value", "least", "most"] ["value", "least", "most"] (defScope sBetween) := ⟨rfl, rfl, rfl, by decide +kernel, rfl, by decide +kernel, by decide +kernel⟩
theorem ok_between {f : Addr} {fd : FuncData} (B : Bare mg) (F : Df K mg "is_between" sBetween f fd) : FnOk P w K mg base CX0 2 f fd ["value", "least", "most"] spBetween := by
  refine F.fn.ok scBetween (fun vs H Q E h => ?_) (fun cdv A outer s H vs Q E hr h => ?_)
  · obtain ⟨v, a, b, rfl, _⟩ := h
    rfl
  · obtain ⟨v, a, b, rfl, k⟩ := h
    refine ⟨_, pss_one (ps_ret (pe_and (pe_callB call_isi (by rfl) B.isinstance (by decide +kernel) (pa_cons (pv 0) (pa_cons (pe_bltn (v := .ty "int") (by rfl) B.int (by decide +kernel) rfl) pa_nil)))
      (pe_and (pe_not (pe_callB call_isi (by rfl) B.isinstance (by decide +kernel) (pa_cons (pv 0) (pa_cons (pe_bltn (v := .ty "bool") (by rfl) B.bool (by decide +kernel) rfl) pa_nil))))
      (pe_one (pe_chain op_le op_le (pv 1) (pv 0) (pv 2)))))), ?_⟩
    refine ⟨_, rfl, _, _, _, _, true, rfl, ClsV.ty _, TyX.base (TyOf.int _), kit_ty (by decide +kernel), _, rfl, ?_⟩
    refine iteT ?_
    refine ⟨_, rfl, _, _, _, _, false, rfl, ClsV.ty _, TyX.base (TyOf.int _), kit_ty (by decide +kernel), _, rfl, _, rfl, ?_⟩
    refine iteT ?_
    refine ⟨_, rfl, _, rfl, _, _, rfl, rfl, _, rfl, ?_⟩
    by_cases h1 : a ≤ v
    · rw [decide_eq_true h1]
      refine iteT ⟨_, rfl, _, _, rfl, rfl, ?_⟩
      have e : decide (a ≤ v ∧ v ≤ b) = decide (v ≤ b) := by simp [h1]
      rw [e] at k
      exact k
    · rw [decide_eq_false h1]
      refine iteF ?_
      have e : decide (a ≤ v ∧ v ≤ b) = false := by simp [h1]
      rw [e] at k
      exact k
/-! is_listing -/
def spListing : Sp := fun vs H Q _ => ∃ a : Addr, vs = [.ref a] ∧ ((∃ xs, H a = some (.lst xs)) ∨ ∃ xs, H a = some (.tup xs)) ∧ ∀ H', Same H H' → Q (.bl true) H'
theorem scListing : FnScope ["value"] ["value"] (defScope sListing) := ⟨rfl, rfl, rfl, by decide +kernel, rfl, by decide +kernel, by decide +kernel⟩
theorem same_new {H : Hp} {p : Addr} {o : HO} (h : H p = none) : Same H (upd H p o) := fun b u e => by
  rw [upd_ne (ne_of_none e h)]
  exact e
theorem ok_listing {f : Addr} {fd : FuncData} (B : Bare mg) (F : Df K mg "is_listing" sListing f fd) : FnOk P w K mg base CX0 1 f fd ["value"] spListing := by
  refine F.fn.ok scListing (fun vs H Q E h => ?_) (fun cdv A outer s H vs Q E hr h => ?_)
  · obtain ⟨a, rfl, _⟩ := h
    rfl
  · obtain ⟨a, rfl, hk, k⟩ := h
    refine ⟨_, pss_one (ps_ret (pe_callB call_isiT (by rfl) B.isinstance (by decide +kernel) (pa_cons (pv 0) (pa_cons (pe_tup (pa_cons (pe_bltn (v := .ty "list") (by rfl) B.list (by decide +kernel) rfl)
      (pa_cons (pe_bltn (v := .ty "tuple") (by rfl) B.tuple (by decide +kernel) rfl) pa_nil))) pa_nil)))), ?_⟩
    refine ⟨_, rfl, (by show 2 ≤ sizeLine; decide), fun t ht => ?_⟩
    have kk := k _ (same_new (o := .tup [.ty "list", .ty "tuple"]) ht)
    rcases hk with ⟨xs, e⟩ | ⟨xs, e⟩
    · exact ⟨_, _, _, _, _, true, rfl, upd_same, .cons (ClsV.ty _) (.cons (ClsV.ty _) .nil), TyX.base (TyOf.lst (by rw [upd_ne (ne_of_none e ht)]; exact e)),
        kitAny_cons (b := true) (kit_ty (by decide +kernel)) (fun z => by cases z) (fun _ => rfl), kk⟩
    · exact ⟨_, _, _, _, _, true, rfl, upd_same, .cons (ClsV.ty _) (.cons (ClsV.ty _) .nil), TyX.base (TyOf.tup (by rw [upd_ne (ne_of_none e ht)]; exact e)),
        kitAny_cons (b := false) (kit_ty (by decide +kernel)) (fun _ => kitAny_cons (b := true) (kit_ty (by decide +kernel)) (fun z => by cases z) (fun _ => rfl)) (fun z => by cases z), kk⟩
/-! check_size, check_index -/
def spCkSize : Sp := fun vs H Q _ => ∃ n : Int, vs = [.int n] ∧ 2 ≤ n ∧ n ≤ 6 ∧ Q .non H
theorem scCkSize : FnScope ["size"] ["size"] (defScope sCkSize) := ⟨rfl, rfl, rfl, by decide +kernel, rfl, by decide +kernel, by decide +kernel⟩
theorem ok_cksize {f f1 : Addr} {fd fd1 : FuncData} (N : Nums mg) (F : Df K mg "check_size" sCkSize f fd) (F1 : Df K mg "is_between" sBetween f1 fd1) (b1 : Binds K fd1 ["value", "least", "most"] [])
    (G1 : FnOk P w K mg base CX0 2 f1 fd1 ["value", "least", "most"] spBetween) : FnOk P w K mg base CX0 3 f fd ["size"] spCkSize := by
  refine F.fn.ok scCkSize (fun vs H Q E h => ?_) (fun cdv A outer s H vs Q E hr h => ?_)
  · obtain ⟨n, rfl, _⟩ := h
    rfl
  · obtain ⟨n, rfl, h1, h2, k⟩ := h
    obtain ⟨t1, e1⟩ := N.least
    obtain ⟨t2, e2⟩ := N.mostS
    refine ⟨_, pss_one (ps_if (pt_not (pt_val (pe_call G1 hr (by rfl) F1.g F1.fn.kp b1 .nil pass0 (pa_cons (pv 0) (pa_cons (pe_glob (v := .int 2) (by rfl) e1 ⟨_, rfl⟩) (pa_cons (pe_glob (v := .int 6) (by rfl) e2 ⟨_, rfl⟩) pa_nil))))))
      pss_never pss_nil), ?_⟩
    refine ⟨_, rfl, n, 2, 6, rfl, _, rfl, ?_⟩
    rw [decide_eq_true (show 2 ≤ n ∧ n ≤ 6 from ⟨h1, h2⟩)]
    exact iteF k
end
end Lw
/-! Gd. Defs that are called where no text is being made: the guards are known to be none. -/
namespace LwE
open PySem PySem.Spec PyProof.Rows L2
/-- a def's promise where no guard stands -/
structure FnG (P : Program) (w : World) (K : PySem.W.Frag) (mg : Str → Option Value) (base : Heap) (k : Nat) (f : Addr) (fd : FuncData) (ps : List Str) (sp : Sp) : Prop where
  len : ∀ vs H Q E, sp vs H Q E → vs.length = ps.length
  run : ∀ (A : Around) (outer : List Env) (s : Shared) (H : Hp) (args : Args) (us : List Value) (vs : List V) (Q : VK) (E : XK), A.guards = some [] → Room k A →
    Env0 P w K mg base A outer s H → BindsTo s fd args (ps.zip us) → Vals vs us → sp vs H Q E → codeAny (model P w) A (.call (.ref f) args) (CR CX0 outer P w H s Q E) s
section
variable {P : Program} {w : World} {K : PySem.W.Frag} {mg : Str → Option Value} {base : Heap}
theorem okG {x qual : Str} {st : Stmt} {f : Addr} {fd : FuncData} {N ps : List Str} {k : Nat} {sp : Sp} (F : Fun K x qual st f fd) (S : FnScope N ps (defScope st)) (len : ∀ vs H Q E, sp vs H Q E → vs.length = ps.length)
    (hbody : ∀ (cdv : Value) (A : Around) (outer : List Env) (s : Shared) (H : Hp) (vs : List V) (Q : VK) (E : XK), A.guards = some [] → Room k (A.deeper (PyProof.Rows.envOfC qual (defScope st) s.heap.objs.size f cdv)) → sp vs H Q E →
      ∃ t, PSs (cxOf CX0 P w K mg base N qual (defScope st) f cdv A outer s H E).nox (defBody st) t ∧ t { nx := fun _ H' => Q .non H', rt := Q } (L2.start N vs) H) : FnG P w K mg base (k + 1) f fd ps sp := by
  obtain ⟨oc, od, kV, doc, pm, an, cdv, ct, osl, rfl, lk, hcd⟩ := F.ex
  refine ⟨len, fun A outer s H args us vs Q E hg hr e0 hb r h => ?_⟩
  have old : ∀ b o, base.get? b = some o → s.heap.get? b = some o := fun b o e => (e0.bs b o e).1
  have Ks : K.In s.heap := e0.mod.kin.keeps old
  have free : s.heap.NoLimit := e0.mod.nolimit.keeps old
  have kinds : ∀ y ∈ ps.zip us, (defScope st).names.lookup y.1 = some .local ∨
      ((defScope st).names.lookup y.1 = some .cell ∧ ((cellsFrom (s.heap.objs.size + 1) (defScope st).names []).lookup y.1).isSome = true) := by
    rintro ⟨n, v⟩ hy
    rcases S.par n (List.of_mem_zip hy).1 with z | z
    · exact .inl z
    · exact .inr ⟨z, PySem.W.cellsFrom_some _ _ _ (.inl z)⟩
  refine codeAny_call_function hr.depth (Ks _ _ lk) rfl S.co S.gen rfl (PySem.W.codeRec_of Ks hcd) (hb _ _ _ _ ?_)
  refine wpAny_newFunctionEnv_cells S.kind kinds fun env eq s1 entry => ?_
  subst eq
  refine ⟨free.keeps entry.toInCall.keep, codeAny_func ?_⟩
  obtain ⟨t, ht, q⟩ := hbody cdv A outer s H vs Q E hg (hr.deeper _) h
  have I := inv_start (CX := CX0) (E := E) S hr.hd e0 (len _ _ _ _ h) r entry
  refine wpAny_mono (ht.nox.run [] s1 (L2.start N vs) H _ I q) (fun fl s' z => ?_) fun _ _ z => z
  cases fl with
  | brk =>
    obtain ⟨_, _, _, z⟩ := z
    exact z.elim
  | cont =>
    obtain ⟨_, _, _, z⟩ := z
    exact z.elim
  | next =>
    obtain ⟨σ', H', J, z⟩ := z
    exact ⟨.non, H', J.os, J.bare, J.base, J.hok, rfl, z⟩
  | ret u =>
    obtain ⟨v, σ', H', J, rv, z⟩ := z
    exact ⟨v, H', J.os, J.bare, J.base, J.hok, rv, z⟩
end
section
variable {X : Cx} {x : Str} {p pos : Pos} {e : Expr} {es : List Expr} {t : TA} {k : Nat} {f : Addr} {fd : FuncData} {ps : List Str} {sp : Sp}
/-- f(e, ..) where no guard stands -/
theorem pe_callG (hg : X.A.guards = some []) (F : FnG X.prog X.w X.K X.mg X.base k f fd ps sp) (hr : Room k X.A) (gx : Gl X x) (hm : X.mg x = some (.ref f)) (hk : PySem.W.keepIn X.K (.ref f) = true) (hb : Binds X.K fd ps [])
    (ha : PA X (e :: es) t) (hdb : (x == ("__debug__" : Str)) = false := by decide) (he : starEach (e :: es) X.env = (false, eval e X.env) :: starEach es X.env := by rfl)
    (hpl : (backTo pos (starEach es X.env)).any (·.1) = false := by rfl) : PE X (.Call (.Name x p) (e :: es) [] pos) (tCall sp [] E0 t) := by
  refine ⟨fun pins s σ H Q I h => ?_⟩
  refine wpAny_Call_Name_kw (ld_glob I gx hm ?_ hdb)
  refine PySem.W.callWith_K (h₀ := X.base) I.ok.mod.kin hk (thn (ha.run pos pins s σ H _ I h) fun us s1 ⟨vs, H1, I1, r, q⟩ => ⟨I1.kIn, ?_⟩) he hpl
  have q' : sp vs H1 Q E0 := by
    have z : sp (vs ++ []) H1 Q E0 := q
    rw [List.append_nil] at z
    exact z
  have hl : (us ++ []).length = ps.length := by
    rw [List.append_nil, ← r.length]
    exact F.len _ _ _ _ q'
  have b0 := hb s1 us I1.kIn hl
  rw [List.append_nil] at b0
  refine wpAny_call (codeAny_mono (F.run X.A X.stack s1 H1 ⟨us, []⟩ us vs Q E0 hg hr I1.env0 b0 r q') fun r s' z => ?_)
  cases r with
  | error e => exact (show False from z).elim
  | ok fl =>
    cases fl with
    | ret u => exact I1.after z
    | next => exact False.elim z
    | brk => exact False.elim z
    | cont => exact False.elim z
end
/-- the law's call -/
theorem call_law {P : Program} {w : World} {K : PySem.W.Frag} {mg mb : Str → Option Value} {k : Nat} {fa a : Addr} {fd : FuncData} {x : Str} {sp : Sp} {s₁ : Shared} {vs : List Value} {ns : List Int}
    (KX : K.In s₁.heap) (hns : s₁.heap.Ns mainGlobals mg) (hb : s₁.heap.Ns builtinsNs mb) (hbb : ∀ x : Str, x ≠ "__name__" → mb x = bootBuiltins x) (hlim : s₁.heap.NoLimit) (hgen : s₁.gens = #[])
    (ha : s₁.heap.get? a = some { cls := .type "list", data := .seq vs.toArray }) (hi : IntsAre vs ns) (hl : ns.length ≤ sizeLine) (hr : Room k callerA)
    (F : ∀ base : Heap, K.In base → base.Ns mainGlobals mg → FnG P w K mg base k fa fd [x] sp) (hbind : ∀ (s : Shared) (u : Value), BindsTo s fd ⟨[u], []⟩ [(x, u)])
    (hsp : ∀ H : Hp, Only H → SqL K H a (ns.map V.int) → sp [.ref a] H (fun v _ => v = .bl true) fun _ _ _ => False) :
    codeAny (model P w) callerA (.call (.ref fa) ⟨[.ref a], []⟩) (fun r s' => r = .ok (.ret (.bool true)) ∧ OldK s₁.heap s'.heap ∧ s'.os = s₁.os ∧ AllBare s'.gens) s₁ := by
  have rv := vals_ints hi
  have nlen := hi.length
  have core : ∀ H : Hp, Only H → SqL K H a (ns.map V.int) → HOk P w H s₁.heap → (∀ b, H b ≠ none → b = a) → (H a ≠ none → K.lookup a = none) →
      codeAny (model P w) callerA (.call (.ref fa) ⟨[.ref a], []⟩) (fun r s' => r = .ok (.ret (.bool true)) ∧ OldK s₁.heap s'.heap ∧ s'.os = s₁.os ∧ AllBare s'.gens) s₁ := by
    intro H hO hS hok only unk
    have keepsNs : ∀ {b : Addr} {m : Str → Option Value}, s₁.heap.Ns b m → (hidT s₁.heap H).Ns b m := by
      rintro b m ⟨o, es, ep, e, d, r⟩
      refine ⟨o, es, ep, hidT_get e ?_, d, r⟩
      cases q : H b with
      | none => rfl
      | some u =>
        have z := only b (by rw [q]; simp)
        rw [z, ha] at e
        cases e
        cases d
    have inK : K.In (hidT s₁.heap H) := by
      intro b o e
      refine hidT_get (KX b o e) ?_
      cases q : H b with
      | none => rfl
      | some u =>
        have z := only b (by rw [q]; simp)
        subst z
        rw [unk (by rw [q]; simp)] at e
        cases e
    have M : Mod K mg (hidT s₁.heap H) := ⟨inK, keepsNs hns, ⟨mb, keepsNs hb, hbb⟩, by
      obtain ⟨mc, z1, z2⟩ := hlim
      exact ⟨mc, keepsNs z1, z2⟩⟩
    have e0 : Env0 P w K mg (hidT s₁.heap H) callerA [] s₁ H := by
      refine ⟨rfl, M, fun b o e => of_hidT e, Nat.le_of_eq (hidT_size _ _), trivial, fun b hb => ?_, hok, .of_eq hgen⟩
      exact absurd (show b ∈ ([] : List Addr) from hb) (by simp)
    refine codeAny_mono ((F _ inK (keepsNs hns)).run callerA [] s₁ H ⟨[.ref a], []⟩ [.ref a] [.ref a] _ _ rfl hr e0 (hbind s₁ (.ref a)) (.cons rfl .nil) (hsp H hO hS)) fun r s' z => ?_
    cases r with
    | error e => exact (show False from z).elim
    | ok fl =>
      cases fl with
      | ret u =>
        obtain ⟨v, H', os, bare, un, hok', r', q⟩ := z
        obtain rfl : v = .bl true := q
        obtain rfl : u = Value.bool true := r'
        refine ⟨rfl, OldK.of_keep fun b o e => ?_, os, bare⟩
        cases q : H b with
        | none => exact un.keep b o e q (fun z => absurd (show b ∈ ([] : List Addr) from z) (by simp)) (by simp)
        | some u =>
          rcases hO b with z | ⟨ob, xs, z⟩
          · rw [q] at z
            cases z
          · obtain ⟨z1, _⟩ := hok b _ z
            obtain ⟨z2, _⟩ := hok' b _ (un.frzs b ob _ z)
            rw [e] at z1
            cases z1
            exact z2
      | next => exact False.elim z
      | brk => exact False.elim z
      | cont => exact False.elim z
  cases hk : K.lookup a with
  | some o =>
    have e := KX a o hk
    rw [ha] at e
    cases e
    refine core (fun _ => none) (fun _ => .inl rfl) ?_ (fun b u z => by cases (show (none : Option HO) = some u from z)) (fun b z => absurd rfl z) fun z => absurd rfl z
    exact .inr ⟨_, vs.toArray, _, hk, rfl, rfl, rfl, by rw [List.size_toArray, nlen]; exact hl, by simpa using rv⟩
  | none =>
    refine core (fun b => if b = a then some (.frz { cls := .type "list", data := .seq vs.toArray } (.lst (ns.map V.int))) else none) (fun b => ?_) ?_ (fun b u z => ?_) (fun b z => ?_) fun _ => hk
    · by_cases hb : b = a
      · exact .inr ⟨_, _, if_pos hb⟩
      · exact .inl (if_neg hb)
    · exact .inl (.inr ⟨_, if_pos rfl⟩)
    · by_cases hb : b = a
      · cases (if_pos hb).symm.trans z
        subst hb
        exact ⟨ha, by rw [List.length_map]; exact hl, vs, _, rv, ha⟩
      · cases (if_neg hb).symm.trans z
    · by_cases hb : b = a
      · exact hb
      · exact absurd (if_neg hb) z
/-- the goal behind the head -/
theorem walkG {l : PySem.W.OpenLaw} {n k : Nat} {q : Program} {loose : List Str} {XP : (Str → Option Value) → Heap → Prop} {YP : World → Heap → Prop} {d : DefRec} {K : Params → PySem.W.Frag} {sp : World → Sp} {x : Str}
    (hn : l.most = some n) (hn2 : n ≤ sizeLine) (hdf : d.params.defaults = []) (hr : Room k callerA) (hY : ∀ (w : World) (h : Heap), YP w h → (K w.params).In h)
    (F : ∀ (w : World) (mg : Str → Option Value) (fa : Addr) (h : Heap), (K w.params).In h → h.Ns mainGlobals mg → mg d.name = some (.ref fa) →
      ∃ fd : FuncData, (∀ (s : Shared) (u : Value), BindsTo s fd ⟨[u], []⟩ [(x, u)]) ∧ ∀ base : Heap, (K w.params).In base → base.Ns mainGlobals mg → FnG l.prog w (K w.params) mg base k fa fd [x] (sp w))
    (hsp : ∀ (w : World) (H : Hp) (a : Addr) (ns : List Int), ns.length ≤ n → Only H → SqL (K w.params) H a (ns.map V.int) → sp w [.ref a] H (fun v _ => v = .bl true) fun _ _ _ => False) :
    PySem.W.WalkO q loose XP YP l.row.toRowW d [] (fun f vs => PySem.call f vs) := by
  refine Att.attach_call hn hdf fun w s₀ s₁ mg mb fa o pm cd doc a vs ns G Y ho hd hcd hmg hobj hints hlen hg => ?_
  have KX := hY w _ Y
  obtain ⟨fd, hb, hF⟩ := F w mg fa _ KX G.T.g hmg
  exact call_law KX G.T.g G.T.b G.T.builtins G.T.nolimit hg hobj hints (Nat.le_trans hlen hn2) hr hF hb fun H hO hS => hsp w H a ns hlen hO hS
end LwE
/-! C. The draws: mixed, folded, draw, begun, size. -/
namespace Lw
open PySem L2 LwE
/-- sixty-four cells -/
structure Cells (cs : List Int) : Prop where
  len : cs.length = 64
  bd : ∀ x ∈ cs, 0 ≤ x ∧ x < 2147483647
theorem Cells.set {cs : List Int} (c : Cells cs) (j : Nat) {z : Int} (h0 : 0 ≤ z) (h1 : z < 2147483647) : Cells (cs.set j z) :=
  ⟨by rw [List.length_set]; exact c.len, fun x hx => by
    rcases List.mem_or_eq_of_mem_set hx with q | q
    · exact c.bd x q
    · rw [q]
      exact ⟨h0, h1⟩⟩
theorem Cells.at {cs : List Int} (c : Cells cs) {j : Nat} (hj : j < 64) : ∃ x, (nums cs)[j]? = some (.int x) ∧ 0 ≤ x ∧ x < 2147483647 := by
  have hl : j < cs.length := by rw [c.len]; exact hj
  refine ⟨cs[j], by simp [hl], c.bd _ (List.getElem_mem hl)⟩
theorem set_nums (cs : List Int) (j : Nat) (z : Int) : (nums cs).set j (.int z) = nums (cs.set j z) := by
  show _ = (cs.set j z).map V.int
  rw [List.map_set]
theorem ixN_lt {n j : Nat} (h : j < n) : ixN n (j : Int) = some j := by
  unfold ixN
  rw [if_pos (by omega), if_pos (by omega)]
  simp
section
variable {P : Program} {w : World} {K : PySem.W.Frag} {mg : Str → Option Value} {base : Heap}
/-! _law_mixed -/
def spMixed : Sp := fun vs H Q _ => ∃ c n : Int, vs = [.int c, .int n] ∧ 0 ≤ n ∧ n ≤ 1000000 ∧ ∀ z : Int, 0 ≤ z → z < 2147483647 → Q (.int z) H
theorem scMixed : FnScope ["cell", "n", "blend"] ["cell", "n"] (defScope sMixed) := ⟨rfl, rfl, rfl, by decide +kernel, rfl, by decide +kernel, by decide +kernel⟩
theorem ok_mixed {f : Addr} {fd : FuncData} (B : Bare mg) (F : Df K mg "_law_mixed" sMixed f fd) : FnOk P w K mg base CX0 1 f fd ["cell", "n"] spMixed := by
  refine F.fn.ok scMixed (fun vs H Q E h => ?_) (fun cdv A outer s H vs Q E hr h => ?_)
  · obtain ⟨c, n, rfl, _⟩ := h
    rfl
  · obtain ⟨c, n, rfl, h0, h1, k⟩ := h
    refine ⟨_, pss_cons (ps_set (i := 2) scMixed.nd rfl (Or.inl rfl)
        (pe_op op_add (pe_op op_add (pe_op op_mod (pe_callTy call_int1 (by rfl) B.int (by decide +kernel) (pa_cons (pe_op op_mul (pe_op op_mul (pv 0) (pe_op op_add pe_int (pe_op op_mul pe_int (pv 1)))) pe_int) pa_nil)) pe_int)
          (pe_op op_mul (pe_op op_mul pe_int (pv 1)) (pv 1))) (pe_op op_mul pe_int (pv 1))))
      (pss_one (ps_ret (pe_op op_fdiv (pe_op op_mod (pe_callTy call_int1 (by rfl) B.int (by decide +kernel) (pa_cons (pe_op op_mul (pv 2) pe_int) pa_nil)) pe_int) pe_int))), ?_⟩
    refine ⟨_, rfl, _, rfl, _, _, rfl, rfl, .inl ⟨by decide, by decide⟩, _, _, rfl, rfl, _, _, rfl, rfl, .inr ⟨by omega, by omega⟩, _, _, rfl, rfl, .inr ⟨by decide, by decide⟩,
      .inl ⟨_, rfl, _, _, rfl, rfl, (by show (0 : Int) < 2147483647; decide), _, rfl, _, _, rfl, rfl, .inl ⟨by decide, by decide⟩, _, rfl, _, _, rfl, rfl, .inr ⟨by omega, by omega⟩,
        _, _, rfl, rfl, _, rfl, _, _, rfl, rfl, .inl ⟨by decide, by decide⟩, _, _, rfl, rfl, ?_⟩⟩
    refine ⟨_, rfl, _, _, rfl, rfl, .inr ⟨by decide, by decide⟩, .inl ⟨_, rfl, _, _, rfl, rfl, (by show (0 : Int) < 2147483629; decide), _, _, rfl, rfl, ⟨by decide, by decide⟩, ?_⟩⟩
    refine k _ ?_ ?_ <;> omega
end
end Lw
/-! D. The sixty-four cells. -/
namespace Lw
open PySem L2 LwE
section
variable {P : Program} {w : World} {K : PySem.W.Frag} {mg : Str → Option Value} {base : Heap}
/-- behind H: a list of cells at D that was not there -/
structure FAt (H H' : Hp) (D : Addr) : Prop where
  same : Same H H'
  free : H D = none
  cells : ∃ cs, Cells cs ∧ H' D = some (.lst (nums cs))
theorem FAt.pair {H H' : Hp} {D T : Addr} {o : HO} (f : FAt H H' D) (h : H' T = none) : FAt H (upd H' T o) D :=
  ⟨f.same.trans (same_new h), f.free, let ⟨cs, c, e⟩ := f.cells; ⟨cs, c, (same_new h) _ _ e⟩⟩
theorem FAt.put {H H' : Hp} {D : Addr} {cs : List Int} (f : FAt H H' D) (c : Cells cs) : FAt H (upd H' D (.lst (nums cs))) D :=
  ⟨fun b o e => by
    rw [upd_ne (ne_of_none e f.free)]
    exact f.same _ _ e, f.free, cs, c, upd_same⟩
def spFolded (K : PySem.W.Frag) : Sp := fun vs H Q _ => ∃ (a : Addr) (ns : List Int), vs = [.ref a] ∧ SqL K H a (nums ns) ∧ ∀ D H', FAt H H' D → Q (.ref D) H'
theorem scFolded : FnScope ["script", "n", "found", "cell"] ["script"] (defScope sFolded) := ⟨rfl, rfl, rfl, by decide +kernel, rfl, by decide +kernel, by decide +kernel⟩
theorem ok_folded {f : Addr} {fd : FuncData} (B : Bare mg) (F : Df K mg "_law_folded" sFolded f fd) : FnOk P w K mg base CX0 1 f fd ["script"] (spFolded K) := by
  refine F.fn.ok scFolded (fun vs H Q E h => ?_) (fun cdv A outer s H vs Q E hr h => ?_)
  · obtain ⟨a, ns, rfl, _⟩ := h
    rfl
  · obtain ⟨a, ns, rfl, hS, k⟩ := h
    refine ⟨_, pss_cons (ps_setLc (i := 2) (own := [("n", 1)]) (g := gName 1) (tt := tYes) rfl scFolded.nd rfl rfl (sw_true rfl rfl rfl (by decide +kernel)) (pi_range1 (by rfl) B.range (pa_cons pe_int pa_nil))
        (blkOk_by (N := ["script", "n", "found", "cell"]) (sc := defScope sFolded) (by decide +kernel)) (fun _ _ _ _ _ => pg_name (i := 1) scFolded.nd rfl (Or.inl rfl)) (fun _ _ _ _ _ => pts_nil)
        (fun _ _ _ _ _ => pe_op op_add pe_int (pv 1)))
      (pss_cons (ps_for PassesOwn.never rfl (pi_enum (by rfl) B.enumerate (pa_cons (pv 0) pa_nil)) (pg_tup rfl (pgs_cons (pg_name (i := 1) scFolded.nd rfl (Or.inl rfl)) (pgs_cons (pg_name (i := 3) scFolded.nd rfl (Or.inl rfl)) pgs_nil)))
        (pss_one (ps_asg (pe_op op_mod (pe_callTy call_int1 (by rfl) B.int (by decide +kernel) (pa_cons (pe_op op_add (pe_op op_mul (pe_ix ix_list (pv 2)
            (pe_op op_mod (pe_callTy call_int1 (by rfl) B.int (by decide +kernel) (pa_cons (pv 1) pa_nil)) pe_int) (fun _ _ => rfl)) pe_int) (pv 3)) pa_nil)) pe_int)
          (pg_sub (pv 2) (pe_op op_mod (pe_callTy call_int1 (by rfl) B.int (by decide +kernel) (pa_cons (pv 1) pa_nil)) pe_int) set_list))))
      (pss_cons (ps_for PassesOwn.never rfl (pi_range2 (by rfl) B.range (pa_cons pe_int (pa_cons pe_int pa_nil))) (pg_name (i := 1) scFolded.nd rfl (Or.inl rfl))
        (pss_one (ps_asg (pe_op op_mod (pe_callTy call_int1 (by rfl) B.int (by decide +kernel) (pa_cons (pe_op op_add (pe_ix ix_list (pv 2) (pv 1) (fun _ _ => rfl))
            (pe_op op_mul (pe_ix ix_list (pv 2) (pe_op op_sub (pv 1) pe_int) (fun _ _ => rfl)) pe_int)) pa_nil)) pe_int)
          (pg_sub (pv 2) (pv 1) set_list))))
      (pss_one (ps_ret (pv 2))))), ?_⟩
    refine ⟨64, rfl, by decide, by decide, fun D hD => lc_range (lo := 0) (n := 64)
      (fun i H' => Same H H' ∧ ∃ cs : List Int, cs.length = i ∧ (∀ x ∈ cs, 0 ≤ x ∧ x < 2147483647) ∧ H' D = some (.lst (nums cs))) ⟨same_new hD, [], rfl, fun x hx => by simp at hx, upd_same⟩ ?_ ?_⟩
    · intro i H' hi ⟨h1, cs, h2, h3, h4⟩
      refine ⟨rfl, ?_⟩
      unfold tYes
      refine iteT ?_
      refine ⟨_, rfl, _, _, rfl, rfl, nums cs, h4, by rw [List.length_map]; exact small1000 (by omega), ?_, cs ++ [17 + (0 + (i : Int))], by simp [h2], fun x hx => ?_, by rw [upd_same]; simp [nums]⟩
      · intro b o e
        rw [upd_ne (ne_of_none e hD)]
        exact h1 _ _ e
      · rcases List.mem_append.mp hx with q | q
        · exact h3 x q
        · have e := List.mem_singleton.mp q
          omega
    · intro H' ⟨h1, cs, h2, h3, h4⟩
      have F0 : FAt H H' D := ⟨h1, hD, cs, ⟨h2, h3⟩, h4⟩
      refine ⟨_, rfl, a, _, rfl, h1.seq hS, for_enL (K := K) (a := a) (xs := nums ns) (fun i σ H'' => ∃ v1 v3 : Option V, σ = [some (.ref a), v1, some (.ref D), v3] ∧ FAt H H'' D) ⟨_, _, rfl, F0⟩ (fun i σ H'' _ ⟨_, _, _, f⟩ => f.same.seq hS) ?_ ?_⟩
      · rintro i x T σ H'' hx ⟨v1, v3, rfl, f⟩ hT
        obtain ⟨z, rfl, _, _⟩ := nums_get hx
        have f2 : FAt H (upd H'' T (.tup [.int (i : Nat), .int z])) D := f.pair hT
        obtain ⟨cs, cc, eD⟩ := f2.cells
        have hj : i % 64 < 64 := Nat.mod_lt _ (by decide)
        obtain ⟨y, hy, hy0, hy1⟩ := cc.at hj
        have ei : ((i : Nat) : Int) % 64 = ((i % 64 : Nat) : Int) := by omega
        refine ⟨T, _, rfl, SqT.of upd_same, rfl, _, _, rfl, _, _, rfl, rfl, ?_⟩
        refine ⟨_, rfl, _, rfl, .inl ⟨_, rfl, _, _, rfl, rfl, (by show (0 : Int) < 64; decide), D, _, _, _, rfl, rfl, SqL.of eD, at_of ei hy, _, _, rfl, rfl, .inr ⟨by decide, by decide⟩, _, rfl, _, _, rfl, rfl,
          .inl ⟨_, rfl, _, _, rfl, rfl, (by show (0 : Int) < 2147483647; decide), ?_⟩⟩⟩
        refine ⟨_, rfl, _, rfl, .inl ⟨_, rfl, _, _, rfl, rfl, (by show (0 : Int) < 64; decide), D, _, _, i % 64, rfl, rfl, eD, ?_, ?_⟩⟩
        · rw [ei]
          refine ixN_lt ?_
          rw [List.length_map, cc.len]
          exact hj
        · refine ⟨_, _, rfl, ?_⟩
          rw [set_nums]
          exact f2.put (cc.set _ (by omega) (by omega))
      · rintro σ H'' ⟨v1, v3, rfl, f⟩
        refine ⟨1, 64, rfl, ⟨by decide, by decide, by decide, by decide⟩, for_range (lo := 1) (n := 63) (fun i σ H'' => ∃ v1 v3 : Option V, σ = [some (.ref a), v1, some (.ref D), v3] ∧ FAt H H'' D) ⟨_, _, rfl, f⟩ ?_ ?_⟩
        · rintro i σ H3 hi ⟨v1, v3, rfl, f⟩
          obtain ⟨cs, cc, eD⟩ := f.cells
          obtain ⟨y, hy, hy0, hy1⟩ := cc.at (show i + 1 < 64 by omega)
          obtain ⟨z, hz, hz0, hz1⟩ := cc.at (show i < 64 by omega)
          have e1 : (1 + (i : Int)) = ((i + 1 : Nat) : Int) := by omega
          have e0 : (1 + (i : Int)) - 1 = ((i : Nat) : Int) := by omega
          refine ⟨_, rfl, _, rfl, D, _, _, _, rfl, rfl, SqL.of eD, at_of e1 hy, _, rfl, _, rfl, _, _, rfl, rfl, D, _, _, _, rfl, rfl, SqL.of eD, at_of e0 hz, _, _, rfl, rfl, .inr ⟨by decide, by decide⟩, _, _, rfl, rfl,
            .inl ⟨_, rfl, _, _, rfl, rfl, (by show (0 : Int) < 2147483647; decide), ?_⟩⟩
          refine ⟨_, rfl, _, rfl, D, _, _, i + 1, rfl, rfl, eD, ?_, ?_⟩
          · rw [e1]
            refine ixN_lt ?_
            rw [List.length_map, cc.len]
            omega
          · refine ⟨_, _, rfl, ?_⟩
            rw [set_nums]
            exact f.put (cc.set _ (by omega) (by omega))
        · rintro σ H3 ⟨v1, v3, rfl, f⟩
          exact ⟨_, rfl, k D H3 f⟩
end
end Lw
/-! F. The dict of the draws, one draw. -/
namespace Lw
open PySem L2 LwE
theorem nums_at {l : List Int} {i : Nat} (h : i < l.length) : (nums l)[i]? = some (.int l[i]) := by
  rw [List.getElem?_map, List.getElem?_eq_getElem h]
  rfl
abbrev kC : Key := Sum.inr "cells"
abbrev kG : Key := Sum.inr "great"
abbrev kS : Key := Sum.inr "spot"
theorem kCG : ¬ (("cells" : Str) = "great") := by decide +kernel
theorem kCS : ¬ (("cells" : Str) = "spot") := by decide +kernel
theorem kGS : ¬ (("great" : Str) = "spot") := by decide +kernel
theorem kSG : ¬ (("spot" : Str) = "great") := by decide +kernel
def mkd (c g : Addr) (n : Int) : List (Key × V) := [(kC, .ref c), (kG, .ref g), (kS, .int n)]
theorem mkd_c (c g : Addr) (n : Int) : valV (mkd c g n) kC = some (.ref c) := by
  simp [mkd, valV, List.find?_cons, kC, kG, kS, kCG, kCS, kGS, kSG]
theorem mkd_g (c g : Addr) (n : Int) : valV (mkd c g n) kG = some (.ref g) := by
  simp [mkd, valV, List.find?_cons, kC, kG, kS, kCG, kCS, kGS, kSG]
theorem mkd_s (c g : Addr) (n : Int) : valV (mkd c g n) kS = some (.int n) := by
  simp [mkd, valV, List.find?_cons, kC, kG, kS, kCG, kCS, kGS, kSG]
theorem mkd_ps (c g : Addr) (n z : Int) : putK (mkd c g n) kS (.int z) = mkd c g z := by
  simp [mkd, putK, kC, kG, kS, kCG, kCS, kGS, kSG]
theorem mkd_pg (c g h : Addr) (n : Int) : putK (mkd c g n) kG (.ref h) = mkd c h n := by
  simp [mkd, putK, kC, kG, kS, kCG, kCS, kGS, kSG]
/-- the dict of the draws at m, n of them drawn -/
structure Dr (H : Hp) (m g c : Addr) (n : Int) : Prop where
  hm : H m = some (.dK (mkd c g n))
  hc : ∃ cs, Cells cs ∧ H c = some (.lst (nums cs))
  hg : ∃ gs : List Int, gs.length ≤ 63 ∧ H g = some (.lst (nums gs))
  ne : c ≠ g
  n0 : 0 ≤ n
/-- all but the dict and its great cells stands -/
def Keep (m g : Addr) (H H' : Hp) : Prop := ∀ b o, H b = some o → b ≠ m → b ≠ g → H' b = some o
theorem Keep.refl (m g : Addr) (H : Hp) : Keep m g H H := fun _ _ e _ _ => e
theorem Keep.trans {m g : Addr} {H H1 H2 : Hp} (a : Keep m g H H1) (b : Keep m g H1 H2) : Keep m g H H2 := fun x o e h1 h2 => b x o (a x o e h1 h2) h1 h2
theorem Keep.of {m g : Addr} {H H1 : Hp} (a : Same H H1) : Keep m g H H1 := fun x o e _ _ => a x o e
theorem Dr.mg {H : Hp} {m g c : Addr} {n : Int} (d : Dr H m g c n) : m ≠ g := by
  obtain ⟨gs, _, e⟩ := d.hg
  exact ne_of d.hm e (by intro z; cases z)
theorem Dr.mc {H : Hp} {m g c : Addr} {n : Int} (d : Dr H m g c n) : m ≠ c := by
  obtain ⟨cs, _, e⟩ := d.hc
  exact ne_of d.hm e (by intro z; cases z)
theorem Dr.same {H H' : Hp} {m g c : Addr} {n : Int} (d : Dr H m g c n) (s : Same H H') : Dr H' m g c n :=
  ⟨s _ _ d.hm, let ⟨cs, a, b⟩ := d.hc; ⟨cs, a, s _ _ b⟩, let ⟨cs, a, b⟩ := d.hg; ⟨cs, a, s _ _ b⟩, d.ne, d.n0⟩
theorem Dr.next {H : Hp} {m g c : Addr} {n : Int} (d : Dr H m g c n) : Dr (upd H m (.dK (mkd c g (n + 1)))) m g c (n + 1) :=
  ⟨upd_same, let ⟨cs, a, b⟩ := d.hc; ⟨cs, a, by rw [upd_ne d.mc.symm]; exact b⟩, let ⟨cs, a, b⟩ := d.hg; ⟨cs, a, by rw [upd_ne d.mg.symm]; exact b⟩, d.ne, by have := d.n0; omega⟩
theorem Dr.great {H : Hp} {m g c : Addr} {n : Int} (d : Dr H m g c n) {gs : List Int} (h : gs.length ≤ 63) : Dr (upd H g (.lst (nums gs))) m g c n :=
  ⟨by rw [upd_ne d.mg]; exact d.hm, let ⟨cs, a, b⟩ := d.hc; ⟨cs, a, by rw [upd_ne d.ne]; exact b⟩, ⟨gs, h, upd_same⟩, d.ne, d.n0⟩
theorem dp_nums {K : PySem.W.Frag} {H : Hp} : ∀ l : List Int, DpAll K H (nums l) (l.map PyData.int)
  | [] => .nil
  | x :: l => .cons (.int x) (dp_nums l)
theorem lay_nums : ∀ l : List Int, PyData.canLayAll0 (l.map PyData.int) = true ∧ PyData.depthAll (l.map PyData.int) = 0
  | [] => by simp [PyData.canLayAll0, PyData.depthAll]
  | x :: l => by
    have ih := lay_nums l
    simp [PyData.canLayAll0, PyData.depthAll, PyData.canLay0, PyData.depth, ih.1, ih.2]
theorem shaped_nums (l : List Int) : SeqAt.shaped (.list (l.map PyData.int)) = true := by
  have h := lay_nums l
  unfold SeqAt.shaped
  simp [PyData.canLay0, PyData.depth, h.1, h.2]
theorem Dr.getS {H : Hp} {m g c : Addr} {n : Int} (d : Dr H m g c n) : DGet H m (.str "spot") (some (.int n)) := by
  have q := DGet.k (k := kS) d.hm
  rw [mkd_s] at q
  exact q
theorem Dr.getG {H : Hp} {m g c : Addr} {n : Int} (d : Dr H m g c n) : DGet H m (.str "great") (some (.ref g)) := by
  have q := DGet.k (k := kG) d.hm
  rw [mkd_g] at q
  exact q
theorem Dr.getC {H : Hp} {m g c : Addr} {n : Int} (d : Dr H m g c n) : DGet H m (.str "cells") (some (.ref c)) := by
  have q := DGet.k (k := kC) d.hm
  rw [mkd_c] at q
  exact q
section
variable {P : Program} {w : World} {K : PySem.W.Frag} {mg : Str → Option Value} {base : Heap}
def spDraw : Sp := fun vs H Q _ => ∃ (m g c : Addr) (n lim : Int), vs = [.ref m, .int lim] ∧ Dr H m g c n ∧ n ≤ 100000 ∧ 1 ≤ lim ∧ lim ≤ 1000 ∧
  ∀ (z : Int) (H' : Hp), 0 ≤ z → z < lim → Dr H' m g c (n + 1) → Keep m g H H' → Q (.int z) H'
theorem scDraw : FnScope ["m", "limit", "n", "lot", "here", "cell"] ["m", "limit"] (defScope sDraw) := ⟨rfl, rfl, rfl, by decide +kernel, rfl, by decide +kernel, by decide +kernel⟩
theorem ok_draw {f f1 : Addr} {fd fd1 : FuncData} (B : Bare mg) (F : Df K mg "_law_draw" sDraw f fd) (F1 : Df K mg "_law_mixed" sMixed f1 fd1) (b1 : Binds K fd1 ["cell", "n"] [])
    (G1 : FnOk P w K mg base CX0 1 f1 fd1 ["cell", "n"] spMixed) : FnOk P w K mg base CX0 2 f fd ["m", "limit"] spDraw := by
  refine F.fn.ok scDraw (fun vs H Q E h => ?_) (fun cdv A outer s H vs Q E hr h => ?_)
  · obtain ⟨m, g, c, n, lim, rfl, _⟩ := h
    rfl
  · obtain ⟨m, g, c, n, lim, rfl, d, hn, hl1, hl2, k⟩ := h
    have hu := hu_of hr
    refine ⟨_, pss_cons (ps_set (i := 2) scDraw.nd rfl (Or.inl rfl) (pe_dget hu (pv 0) pe_str (fun _ _ => rfl)))
      (pss_cons (ps_dput hu (pv 0) pe_str (pe_op op_add (pv 2) pe_int) rfl)
      (pss_cons (ps_if (pt_cmpR (op_neD hr.units) (pe_dget hu (pv 0) pe_str (fun _ _ => rfl)) (pe_lst pa_nil) (nomark _))
        (pss_cons (ps_set (i := 3) scDraw.nd rfl (Or.inl rfl) (pe_dget hu (pv 0) pe_str (fun _ _ => rfl)))
        (pss_cons (ps_set (i := 4) scDraw.nd rfl (Or.inl rfl) (pe_op op_mod (pe_callTy call_int1 (by rfl) B.int (by decide +kernel) (pa_cons (pv 2) pa_nil)) (pe_callB call_len_seq (by rfl) B.len PySem.boot_len (pa_cons (pv 3) pa_nil))))
        (pss_cons (ps_set (i := 5) scDraw.nd rfl (Or.inl rfl) (pe_ix ix_list (pv 3) (pv 4) (fun _ _ => rfl)))
        (pss_one (ps_if (pt_cmpR op_gt (pv 5) pe_int (nomark _))
          (pss_cons (ps_asg (pe_op op_fdiv (pv 5) (pv 1)) (pg_sub (pv 3) (pv 4) set_list))
          (pss_one (ps_ret (pe_op op_mod (pe_callTy call_int1 (by rfl) B.int (by decide +kernel) (pa_cons (pv 5) pa_nil)) (pv 1)))))
          pss_nil))))) pss_nil)
      (pss_cons (ps_set (i := 3) scDraw.nd rfl (Or.inl rfl) (pe_dget hu (pv 0) pe_str (fun _ _ => rfl)))
      (pss_one (ps_ret (pe_op op_mod (pe_callTy call_int1 (by rfl) B.int (by decide +kernel) (pa_cons
        (pe_call G1 hr (by rfl) F1.g F1.fn.kp b1 .nil pass0 (pa_cons (pe_call G1 hr (by rfl) F1.g F1.fn.kp b1 .nil pass0 (pa_cons
            (pe_op op_add (pe_ix ix_list (pv 3) (pe_op op_mod (pe_callTy call_int1 (by rfl) B.int (by decide +kernel) (pa_cons (pv 2) pa_nil)) pe_int) (fun _ _ => rfl)) (pe_op op_mul pe_int (pe_op op_fdiv (pv 2) pe_int)))
            (pa_cons (pv 2) pa_nil)))
          (pa_cons (pe_op op_add (pv 2) pe_int) pa_nil))) pa_nil)) (pv 1))))))), ?_⟩
    have n0 := d.n0
    -- n = m['spot']; m['spot'] = n + 1
    refine ⟨_, rfl, m, _, rfl, d.getS, ?_⟩
    refine ⟨_, rfl, _, _, rfl, rfl, _, rfl, m, _, rfl, DPut.k (k := kS) d.hm (by show 3 < sizeLine; decide), ?_⟩
    rw [mkd_ps]
    have d1 := d.next
    have k1 : Keep m g H (upd H m (.dK (mkd c g (n + 1)))) := fun b o e h1 _ => by
      rw [upd_ne h1]
      exact e
    generalize hH1 : upd H m (.dK (mkd c g (n + 1))) = H1 at d1 k1 ⊢
    clear hH1
    -- if m['great'] != []
    refine ⟨_, rfl, m, _, rfl, d1.getG, Nat.zero_le _, fun e he => ?_⟩
    have d2 : Dr (upd H1 e (.lst [])) m g c (n + 1) := d1.same (same_new he)
    have k2 : Keep m g H (upd H1 e (.lst [])) := k1.trans (.of (same_new he))
    obtain ⟨gs, hgl, hge⟩ := id d2.hg
    have hle : (upd H1 e (.lst [])) e = some (.lst []) := upd_same
    generalize hH2 : upd H1 e (.lst []) = H2 at d2 k2 hge hle ⊢
    clear hH2
    obtain ⟨cs, cc, hce⟩ := id d2.hc
    have hj : n.toNat % 64 < 64 := Nat.mod_lt _ (by decide)
    have ej : n % 64 = ((n.toNat % 64 : Nat) : Int) := by omega
    obtain ⟨y, hy, hy0, hy1⟩ := cc.at hj
    have el : (1 : Int) ≤ lim := hl1
    refine ⟨.list (gs.map PyData.int), .list [], .lst (SqL.of hge) (dp_nums gs), .lst (SqL.of hle) .nil, shaped_nums gs, by decide, _, rfl, ?_⟩
    cases gs with
    | nil =>
      refine iteF ?_
      refine ⟨_, rfl, m, _, rfl, d2.getC, ?_⟩
      refine ⟨_, rfl, _, rfl, .inl ⟨_, rfl, _, _, rfl, rfl, (by show (0 : Int) < 64; decide), c, _, _, _, rfl, rfl, SqL.of hce, at_of ej hy, _, rfl, _, _, rfl, rfl, ⟨by decide, by decide⟩,
        _, _, rfl, rfl, .inl ⟨by decide, by decide⟩, _, _, rfl, rfl, _, rfl, _, _, rfl, n0, by omega, fun z _ _ => ⟨_, rfl, _, _, rfl, rfl, _, _, rfl, by omega, by omega, fun z' h0' h1' =>
          .inl ⟨_, rfl, _, rfl, _, _, rfl, rfl, (by show (0 : Int) < lim; omega), k _ H2 (Int.emod_nonneg _ (by omega)) (Int.emod_lt_of_pos _ (by omega)) d2 k2⟩⟩⟩⟩
    | cons x gs =>
      refine iteT ?_
      have hlen : (nums (x :: gs)).length = (x :: gs).length := List.length_map ..
      have hpos : 0 < (x :: gs).length := Nat.succ_pos _
      have hi : n.toNat % (x :: gs).length < (x :: gs).length := Nat.mod_lt _ hpos
      have ei : n % (((nums (x :: gs)).length : Nat) : Int) = ((n.toNat % (x :: gs).length : Nat) : Int) := by
        rw [hlen]
        have e9 : ((n.toNat : Nat) : Int) = n := Int.toNat_of_nonneg n0
        have e8 : ((n.toNat % (x :: gs).length : Nat) : Int) = ((n.toNat : Nat) : Int) % (((x :: gs).length : Nat) : Int) := Int.natCast_emod _ _
        rw [e8, e9]
      generalize hi2 : n.toNat % (x :: gs).length = i at hi ei
      have hv : (nums (x :: gs))[i]? = some (.int ((x :: gs)[i])) := nums_at hi
      refine ⟨_, rfl, m, _, rfl, d2.getG, ?_⟩
      refine ⟨_, rfl, .inl ⟨_, rfl, _, rfl, g, _, rfl, .inl (SqL.of hge), _, _, rfl, rfl, (by rw [hlen]; omega), ?_⟩⟩
      refine ⟨_, rfl, _, rfl, g, _, _, _, rfl, rfl, SqL.of hge, at_of ei hv, ?_⟩
      refine ⟨_, rfl, _, _, rfl, rfl, _, rfl, ?_⟩
      refine ite2 (fun hc => ?_) (fun hc => ?_)
      · refine ⟨_, rfl, _, rfl, _, _, rfl, rfl, ⟨by omega, by omega⟩, _, rfl, _, rfl, g, _, _, i, rfl, rfl, hge, (by rw [ei]; exact ixN_lt (by rw [hlen]; exact hi)), ?_⟩
        rw [set_nums]
        refine ⟨_, rfl, .inl ⟨_, rfl, _, rfl, _, _, rfl, rfl, (by show (0 : Int) < lim; omega), ?_⟩⟩
        refine k _ _ (Int.emod_nonneg _ (by omega)) (Int.emod_lt_of_pos _ (by omega)) (d2.great (by rw [List.length_set]; exact hgl)) fun b o e1 h1 h2 => ?_
        rw [upd_ne h2]
        exact k2 _ _ e1 h1 h2
      · refine ⟨_, rfl, m, _, rfl, d2.getC, ?_⟩
        refine ⟨_, rfl, _, rfl, .inl ⟨_, rfl, _, _, rfl, rfl, (by show (0 : Int) < 64; decide), c, _, _, _, rfl, rfl, SqL.of hce, at_of ej hy, _, rfl, _, _, rfl, rfl, ⟨by decide, by decide⟩,
          _, _, rfl, rfl, .inl ⟨by decide, by decide⟩, _, _, rfl, rfl, _, rfl, _, _, rfl, n0, by omega, fun z _ _ => ⟨_, rfl, _, _, rfl, rfl, _, _, rfl, by omega, by omega, fun z' h0' h1' =>
            .inl ⟨_, rfl, _, rfl, _, _, rfl, rfl, (by show (0 : Int) < lim; omega), k _ H2 (Int.emod_nonneg _ (by omega)) (Int.emod_lt_of_pos _ (by omega)) d2 k2⟩⟩⟩⟩
end
end Lw
/-! G. The draws begin; sizes. -/
namespace Lw
open PySem L2 LwE
section
variable {P : Program} {w : World} {K : PySem.W.Frag} {mg : Str → Option Value} {base : Heap}
theorem merge_mkd (c g : Addr) : mergeK [] [(kC, V.ref c), (kG, V.ref g), (kS, V.int 0)] = mkd c g 0 := by
  simp [mergeK, putK, mkd, kC, kG, kS, kCG, kCS, kGS, kSG]
def spBegun (K : PySem.W.Frag) : Sp := fun vs H Q _ => ∃ (a : Addr) (ns : List Int), vs = [.ref a] ∧ SqL K H a (nums ns) ∧ ns.length ≤ 63 ∧ ∀ m g c H', Same H H' → Dr H' m g c 0 → Q (.ref m) H'
theorem scBegun : FnScope ["script", "m", "cell"] ["script"] (defScope sBegun) := ⟨rfl, rfl, rfl, by decide +kernel, rfl, by decide +kernel, by decide +kernel⟩
theorem ok_begun {f f1 : Addr} {fd fd1 : FuncData} (F : Df K mg "_law_begun" sBegun f fd) (F1 : Df K mg "_law_folded" sFolded f1 fd1) (b1 : Binds K fd1 ["script"] [])
    (G1 : FnOk P w K mg base CX0 1 f1 fd1 ["script"] (spFolded K)) : FnOk P w K mg base CX0 2 f fd ["script"] (spBegun K) := by
  refine F.fn.ok scBegun (fun vs H Q E h => ?_) (fun cdv A outer s H vs Q E hr h => ?_)
  · obtain ⟨a, ns, rfl, _⟩ := h
    rfl
  · obtain ⟨a, ns, rfl, hS, hl, k⟩ := h
    have hu := hu_of hr
    refine ⟨_, pss_cons (ps_set (i := 1) scBegun.nd rfl (Or.inl rfl) (pe_disp (pps_cons pe_str (pe_call G1 hr (by rfl) F1.g F1.fn.kp b1 .nil pass0 (pa_cons (pv 0) pa_nil))
        (pps_cons pe_str (pe_lst pa_nil) (pps_cons pe_str pe_int pps_nil))) (by rfl) (by rfl) (fun z => by cases z) (by decide)))
      (pss_cons (ps_dput hu (pv 1) pe_str (pe_lc (own := [("cell", 2)]) (g := gName 2) (tt := tYes) rfl scBegun.nd (pi_list (pv 0)) (blkOk_by (N := ["script", "m", "cell"]) (sc := defScope sBegun) (by decide +kernel))
          (fun _ _ _ _ _ => pg_name (i := 2) scBegun.nd rfl (Or.inl rfl)) (fun _ _ _ _ _ => pts_nil)
          (fun _ _ _ _ _ => pe_ifExp (pt_cmpR op_ge (pv 2) (pe_op op_pow pe_int pe_int) (nomark _)) (pv 2) pe_int)) rfl)
      (pss_one (ps_ret (pv 1)))), ?_⟩
    intro p hp
    refine ⟨_, rfl, a, ns, rfl, (same_new hp).seq hS, fun D H1 f1 => ?_⟩
    have s1 : Same H H1 := (same_new hp).trans f1.same
    have hp1 : H1 p = some (.dK []) := f1.same _ _ upd_same
    refine ⟨Nat.zero_le _, fun g hg => ?_⟩
    have npg : p ≠ g := ne_of_none hp1 hg
    refine ⟨by rw [upd_ne npg]; exact hp1, [(kC, .ref D), (kG, .ref g), (kS, .int 0)], rfl, (by show 3 ≤ 15; decide), ?_⟩
    rw [merge_mkd]
    obtain ⟨cs, cc, eD⟩ := f1.cells
    have nDp : D ≠ p := ne_of eD hp1 (by intro z; cases z)
    have nDg : D ≠ g := ne_of_none eD hg
    have d0 : Dr (upd (upd H1 g (.lst [])) p (.dK (mkd D g 0))) p g D 0 :=
      ⟨upd_same, ⟨cs, cc, by rw [upd_ne nDp, upd_ne nDg]; exact eD⟩, ⟨[], by decide, by rw [upd_ne npg.symm, upd_same]; rfl⟩, nDg, Int.le_refl 0⟩
    have s2 : Same H (upd (upd H1 g (.lst [])) p (.dK (mkd D g 0))) := fun b o e => by
      rw [upd_ne (ne_of_none e hp), upd_ne (ne_of_none (s1 _ _ e) hg)]
      exact s1 _ _ e
    generalize hH2 : upd (upd H1 g (.lst [])) p (.dK (mkd D g 0)) = H2 at d0 s2 ⊢
    clear hH2
    refine ⟨_, rfl, a, rfl, ⟨_, s2.seq hS⟩, fun q hq => lc_list (K := K) (a := a) (xs := nums ns) (fun i H' => Same H2 H' ∧ ∃ gs : List Int, gs.length = i ∧ H' q = some (.lst (nums gs))) ⟨same_new hq, [], rfl, upd_same⟩
      (fun i H' _ ⟨s3, _⟩ => (s2.trans s3).seq hS) ?_ ?_⟩
    · intro i x H' hx ⟨s3, gs, h2, h3⟩
      obtain ⟨z, rfl, hz, _⟩ := nums_get hx
      have hi : i < ns.length := (List.getElem?_eq_some_iff.mp hz).1
      refine ⟨rfl, ?_⟩
      unfold tYes
      refine iteT ?_
      refine ⟨_, rfl, _, _, rfl, rfl, ⟨by decide, by decide, by decide⟩, _, _, rfl, rfl, _, rfl, ?_⟩
      have put : ∀ y : Int, ∃ acc, H' q = some (.lst acc) ∧ acc.length < sizeLine ∧ Same H2 (upd H' q (.lst (acc ++ [.int y]))) ∧ ∃ gs : List Int, gs.length = i + 1 ∧ (upd H' q (.lst (acc ++ [.int y]))) q = some (.lst (nums gs)) := fun y => by
        refine ⟨nums gs, h3, by rw [List.length_map]; exact small1000 (by omega), fun b o e => ?_, gs ++ [y], by simp [h2], by rw [upd_same]; simp [nums]⟩
        rw [upd_ne (ne_of_none e hq)]
        exact s3 _ _ e
      refine ite2 (fun _ => ?_) (fun _ => ?_)
      · exact ⟨_, rfl, put z⟩
      · exact put 0
    · intro H' ⟨s3, gs, h2, h3⟩
      have d3 := d0.same s3
      refine ⟨_, rfl, p, _, rfl, DPut.k (k := kG) d3.hm (by show 3 < sizeLine; decide), ?_⟩
      rw [mkd_pg]
      have nqp : q ≠ p := ne_of h3 d3.hm (by intro z; cases z)
      obtain ⟨cs', cc', eD'⟩ := d0.hc
      have nDq : D ≠ q := ne_of_none eD' hq
      refine ⟨_, rfl, k p q D _ (fun b o e => ?_) ⟨upd_same, ⟨cs', cc', ?_⟩, ⟨gs, ?_, ?_⟩, nDq, Int.le_refl 0⟩⟩
      · rw [upd_ne (ne_of_none e hp)]
        exact s3 _ _ (s2 _ _ e)
      · rw [upd_ne nDp]
        exact s3 _ _ eD'
      · rw [h2, List.length_map]
        exact hl
      · rw [upd_ne nqp]
        exact h3
def spSize : Sp := fun vs H Q _ => ∃ (m g c : Addr) (n : Int), vs = [.ref m] ∧ Dr H m g c n ∧ n ≤ 100000 ∧ ∀ (z : Int) (H' : Hp), 2 ≤ z → z ≤ 6 → Dr H' m g c (n + 1) → Keep m g H H' → Q (.int z) H'
theorem scSize : FnScope ["m"] ["m"] (defScope sSize) := ⟨rfl, rfl, rfl, by decide +kernel, rfl, by decide +kernel, by decide +kernel⟩
theorem ok_size {f f1 : Addr} {fd fd1 : FuncData} (F : Df K mg "_law_size" sSize f fd) (F1 : Df K mg "_law_draw" sDraw f1 fd1) (b1 : Binds K fd1 ["m", "limit"] [])
    (G1 : FnOk P w K mg base CX0 2 f1 fd1 ["m", "limit"] spDraw) : FnOk P w K mg base CX0 3 f fd ["m"] spSize := by
  refine F.fn.ok scSize (fun vs H Q E h => ?_) (fun cdv A outer s H vs Q E hr h => ?_)
  · obtain ⟨m, g, c, n, rfl, _⟩ := h
    rfl
  · obtain ⟨m, g, c, n, rfl, d, hn, k⟩ := h
    refine ⟨_, pss_one (ps_ret (pe_op op_add pe_int (pe_call G1 hr (by rfl) F1.g F1.fn.kp b1 .nil pass0 (pa_cons (pv 0) (pa_cons pe_int pa_nil))))), ?_⟩
    refine ⟨_, rfl, m, g, c, n, 5, rfl, d, hn, by decide, by decide, fun z H' h0 h1 d' kp => ⟨_, _, rfl, rfl, k _ H' (by omega) (by omega) d' kp⟩⟩
end
end Lw
/-! H. Drawn letters. -/
namespace Lw
open PySem L2 LwE
theorem Dr.upd_at {H : Hp} {m g c q : Addr} {n : Int} {o : HO} (d : Dr H m g c n) (h1 : q ≠ m) (h2 : q ≠ g) (h3 : q ≠ c) : Dr (upd H q o) m g c n :=
  ⟨by rw [upd_ne h1.symm]; exact d.hm, let ⟨cs, a, b⟩ := d.hc; ⟨cs, a, by rw [upd_ne h3.symm]; exact b⟩, let ⟨cs, a, b⟩ := d.hg; ⟨cs, a, by rw [upd_ne h2.symm]; exact b⟩, d.ne, d.n0⟩
/-- what was not there ahead of a draw is none of its parts -/
structure Off (q m g c : Addr) : Prop where
  m : q ≠ m
  g : q ≠ g
  c : q ≠ c
theorem Dr.off {H : Hp} {m g c q : Addr} {n : Int} (d : Dr H m g c n) (h : H q = none) : Off q m g c :=
  ⟨(ne_of_none d.hm h).symm, let ⟨_, _, e⟩ := d.hg; (ne_of_none e h).symm, let ⟨_, _, e⟩ := d.hc; (ne_of_none e h).symm⟩
theorem Keep.free {m g c q : Addr} {n : Int} {H H' : Hp} (k : Keep m g H H') (d : Dr H' m g c n) (h : H' q = none) : H q = none := by
  have z := d.off h
  cases e : H q with
  | none => rfl
  | some o =>
    rw [k q o e z.m z.g] at h
    cases h
theorem Keep.put {m g q : Addr} {H H' : Hp} {o : HO} (k : Keep m g H H') (h : H q = none) : Keep m g H (upd H' q o) := fun b u e h1 h2 => by
  rw [upd_ne (ne_of_none e h)]
  exact k b u e h1 h2
theorem cut_take (l : List Int) {n : Int} (h : 0 ≤ n) : cutV (nums l) none (some n) = nums (l.take n.toNat) := by
  unfold cutV
  have e : HT.sIx (nums l).length (nums l).length (some n) = min n.toNat (nums l).length := by
    have q := HT.sIx_nat (nums l).length (nums l).length n.toNat
    rw [Int.toNat_of_nonneg h] at q
    exact q
  rw [HT.sIx_none, e, Nat.sub_zero, List.drop_zero]
  rw [List.length_map]
  show (l.map V.int).take _ = (l.take n.toNat).map V.int
  rw [← List.map_take]
  exact congrArg (List.map V.int) List.take_eq_take_min.symm
section
variable {P : Program} {w : World} {K : PySem.W.Frag} {mg : Str → Option Value} {base : Heap}
/-- between two turns -/
structure LW (H H' : Hp) (m g c : Addr) (n size : Int) (q : Addr) (fs : List Int) : Prop where
  dr : ∃ n', Dr H' m g c n' ∧ n ≤ n' ∧ n' ≤ n + 3 + 2 * fs.length
  kp : Keep m g H H'
  fr : H q = none
  at_ : H' q = some (.lst (nums fs))
  len : fs.length ≤ 46
  bd : ∀ x ∈ fs, 1 ≤ x ∧ x ≤ size
theorem LW.push {H H' H5 : Hp} {m g c : Addr} {n n1 size x : Int} {q : Addr} {fs : List Int} (W : LW H H' m g c n size q fs) (o : Off q m g c) (hl : fs.length ≤ 39) (k5 : Keep m g H' H5) (d5 : Dr H5 m g c n1) (h1 : n ≤ n1)
    (h2 : n1 ≤ n + 5 + 2 * fs.length) (x0 : 1 ≤ x) (x1 : x ≤ size) : LW H (upd H5 q (.lst (nums fs ++ [.int x]))) m g c n size q (fs ++ [x]) where
  dr := ⟨n1, d5.upd_at o.m o.g o.c, h1, by rw [List.length_append, List.length_singleton]; omega⟩
  kp := (W.kp.trans k5).put W.fr
  fr := W.fr
  at_ := by
    rw [upd_same]
    simp [nums]
  len := by
    rw [List.length_append, List.length_singleton]
    omega
  bd := fun y hy => by
    rcases List.mem_append.mp hy with z | z
    · exact W.bd y z
    · have e := List.mem_singleton.mp z
      omega
theorem LW.swap {H H' H5 : Hp} {m g c : Addr} {n n1 size : Int} {q p r : Addr} {fs xs : List Int} (W : LW H H' m g c n size q fs) (hl : fs.length ≤ 39) (hx : xs.length ≤ 6) (hx1 : 1 ≤ xs.length) (k5 : Keep m g H' H5) (d5 : Dr H5 m g c n1) (h1 : n ≤ n1)
    (h2 : n1 ≤ n + 5 + 2 * fs.length) (b : ∀ x ∈ xs, 1 ≤ x ∧ x ≤ size) (hp : H5 p = none) (hr : (upd H5 p (.lst (nums xs))) r = none) :
    LW H (upd (upd H5 p (.lst (nums xs))) r (.lst (nums fs ++ nums xs))) m g c n size r (fs ++ xs) where
  dr := ⟨n1, (d5.same (same_new hp)).same (same_new hr), h1, by rw [List.length_append]; omega⟩
  kp := ((W.kp.trans k5).trans (.of (same_new hp))).trans (.of (same_new hr))
  fr := ((W.kp.trans k5).trans (.of (same_new hp))).free (d5.same (same_new hp)) hr
  at_ := by
    rw [upd_same]
    simp [nums]
  len := by
    rw [List.length_append]
    omega
  bd := fun y hy => by
    rcases List.mem_append.mp hy with z | z
    · exact W.bd y z
    · exact b y z
/-- how long the list in the fifth place is -/
def lenOf (σ : List (Option V)) (H : Hp) : Nat := match (σ[5]? : Option (Option V)) with
  | some (some (V.ref q)) => (match H q with
    | some (HO.lst xs) => xs.length
    | _ => 0)
  | _ => 0
def spLetters : Sp := fun vs H Q _ => ∃ (m g c : Addr) (n size most : Int), vs = [.ref m, .int size, .int most] ∧ Dr H m g c n ∧ n ≤ 90000 ∧ 2 ≤ size ∧ size ≤ 6 ∧ 0 ≤ most ∧ most ≤ 40 ∧
  ∀ (p : Addr) (ls : List Int) (n' : Int) (H' : Hp), (ls.length : Int) ≤ most → (∀ x ∈ ls, 1 ≤ x ∧ x ≤ size) → n ≤ n' → n' ≤ n + 200 → Dr H' m g c n' → Keep m g H H' → H p = none → H' p = some (.lst (nums ls)) → Q (.ref p) H'
theorem scLetters : FnScope ["m", "size", "most", "kind", "many", "found", "low"] ["m", "size", "most"] (defScope sLetters) := ⟨rfl, rfl, rfl, by decide +kernel, rfl, by decide +kernel, by decide +kernel⟩
theorem ok_letters {f f1 : Addr} {fd fd1 : FuncData} (B : Bare mg) (F : Df K mg "_law_letters" sLetters f fd) (F1 : Df K mg "_law_draw" sDraw f1 fd1) (b1 : Binds K fd1 ["m", "limit"] [])
    (G1 : FnOk P w K mg base CX0 2 f1 fd1 ["m", "limit"] spDraw) : FnOk P w K mg base CX0 3 f fd ["m", "size", "most"] spLetters := by
  refine F.fn.ok scLetters (fun vs H Q E h => ?_) (fun cdv A outer s H vs Q E hr h => ?_)
  · obtain ⟨m, g, c, n, size, most, rfl, _⟩ := h
    rfl
  · obtain ⟨m, g, c, n, size, most, rfl, d, hn, hs1, hs2, hm1, hm2, k⟩ := h
    refine ⟨_, pss_cons (ps_par3 (i := 3) (j := 4) (l := 5) rfl scLetters.nd rfl rfl rfl (by decide) (by decide) (by decide) rfl rfl rfl
        (pa_cons (pe_call G1 hr (by rfl) F1.g F1.fn.kp b1 .nil pass0 (pa_cons (pv 0) (pa_cons pe_int pa_nil)))
        (pa_cons (pe_call G1 hr (by rfl) F1.g F1.fn.kp b1 .nil pass0 (pa_cons (pv 0) (pa_cons (pe_op op_add (pv 2) pe_int) pa_nil))) (pa_cons (pe_lst pa_nil) pa_nil))) (by rfl))
      (pss_cons (ps_set (i := 6) scLetters.nd rfl (Or.inl rfl) (pe_op op_add pe_int (pe_call G1 hr (by rfl) F1.g F1.fn.kp b1 .nil pass0 (pa_cons (pv 0) (pa_cons (pe_op op_sub (pv 1) pe_int) pa_nil)))))
      (pss_cons (ps_while PassesOwn.never (pt_cmpR op_lt (pe_callB call_len_seq (by rfl) B.len PySem.boot_len (pa_cons (pv 5) pa_nil)) (pv 4) (nomark _))
        (pss_one (ps_if (pt_cmpR op_eq (pv 3) pe_int (nomark _))
          (pss_one (ps_expr (pe_bm PySem.F.plainAttrs_list PySem.F.slot_list_append PySem.F.type_list_append mt_append (pv 5)
            (pa_cons (pe_op op_add pe_int (pe_call G1 hr (by rfl) F1.g F1.fn.kp b1 .nil pass0 (pa_cons (pv 0) (pa_cons (pv 1) pa_nil)))) pa_nil))))
          (pss_one (ps_if (pt_cmpR op_eq (pv 3) pe_int (nomark _))
            (pss_one (ps_expr (pe_bm PySem.F.plainAttrs_list PySem.F.slot_list_append PySem.F.type_list_append mt_append (pv 5)
              (pa_cons (pe_op op_add (pv 6) (pe_call G1 hr (by rfl) F1.g F1.fn.kp b1 .nil pass0 (pa_cons (pv 0) (pa_cons pe_int pa_nil)))) pa_nil))))
            (pss_one (ps_if (pt_cmpR op_eq (pv 3) pe_int (nomark _))
              (pss_one (ps_expr (pe_bm PySem.F.plainAttrs_list PySem.F.slot_list_append PySem.F.type_list_append mt_append (pv 5)
                (pa_cons (pe_ix ix_list (pe_lst (pa_cons (pv 6) (pa_cons (pv 6) (pa_cons (pe_op op_add pe_int (pe_call G1 hr (by rfl) F1.g F1.fn.kp b1 .nil pass0 (pa_cons (pv 0) (pa_cons (pv 1) pa_nil)))) pa_nil))))
                  (pe_call G1 hr (by rfl) F1.g F1.fn.kp b1 .nil pass0 (pa_cons (pv 0) (pa_cons pe_int pa_nil))) (fun _ _ => rfl)) pa_nil))))
              (pss_one (ps_if (pt_cmpR op_eq (pv 3) pe_int (nomark _))
                (pss_one (ps_set (i := 5) scLetters.nd rfl (Or.inl rfl) (pe_op op_cat (pv 5)
                  (pe_listDn rfl (by rfl) B.list (by rfl) B.range (pa_cons (pv 1) (pa_cons (pe_call G1 hr (by rfl) F1.g F1.fn.kp b1 .nil pass0 (pa_cons (pv 0) (pa_cons (pv 1) pa_nil))) (pa_cons (pe_un un_neg pe_int) pa_nil)))))))
                (pss_one (ps_set (i := 5) scLetters.nd rfl (Or.inl rfl) (pe_op op_cat (pv 5)
                  (pe_listRg rfl (by rfl) B.list (prg_2 (by rfl) B.range (pe_op op_add pe_int (pe_call G1 hr (by rfl) F1.g F1.fn.kp b1 .nil pass0 (pa_cons (pv 0) (pa_cons (pv 1) pa_nil)))) (pe_op op_add (pv 1) pe_int)))))))))))))))
      (pss_one (ps_ret (pe_slice sl_list (pv 5) po_none (po_some (pv 4))))))), ?_⟩
    refine ⟨_, rfl, m, g, c, n, 5, rfl, d, by omega, by decide, by decide, fun kd H1 kd0 kd1 d1 k1 => ?_⟩
    refine ⟨_, rfl, _, rfl, _, _, rfl, rfl, m, g, c, n + 1, most + 1, rfl, d1, by omega, by omega, by omega, fun many H2 m0 m1 d2 k2 => ?_⟩
    refine ⟨Nat.zero_le _, fun q hq => ⟨_, _, _, rfl, ?_⟩⟩
    have kk2 : Keep m g H H2 := k1.trans k2
    have d3 : Dr (upd H2 q (.lst [])) m g c (n + 1 + 1) := d2.same (same_new hq)
    have hq0 : H q = none := kk2.free d2 hq
    have off := d.off hq0
    refine ⟨_, rfl, _, rfl, _, _, rfl, rfl, m, g, c, n + 1 + 1, size - 1, rfl, d3, by omega, by omega, by omega, fun lw H4 l0 l1 d4 k4 => ?_⟩
    refine ⟨_, _, rfl, rfl, ?_⟩
    have W0 : LW H H4 m g c n size q [] := ⟨⟨_, d4, by omega, by simp; omega⟩, (kk2.trans (.of (same_new hq))).trans k4, hq0, k4 _ _ upd_same off.m off.g, by decide, fun x hx => by simp at hx⟩
    refine while_by (fun σ H' => ∃ q fs, σ = [some (.ref m), some (.int size), some (.int most), some (.int kd), some (.int many), some (.ref q), some (.int (1 + lw))] ∧ LW H H' m g c n size q fs)
      (fun σ H' => many.toNat - lenOf σ H') ⟨q, [], rfl, W0⟩ ?_ ?_
    · rintro σ H' ⟨q, fs, rfl, W⟩
      refine ⟨_, rfl, q, _, rfl, .inl (SqL.of W.at_), _, rfl, _, _, rfl, rfl, _, rfl, ?_⟩
      rw [List.length_map]
      have off := d.off W.fr
      obtain ⟨n1, dn, e1, e2⟩ := W.dr
      have lo : lenOf [some (.ref m), some (.int size), some (.int most), some (.int kd), some (.int many), some (.ref q), some (.int (1 + lw))] H' = fs.length := by
        unfold lenOf
        simp only [List.getElem?_cons_succ, List.getElem?_cons_zero, W.at_, List.length_map]
      refine ite2 (fun hc => ?_) (fun hc => ?_)
      · have hlt : (fs.length : Int) < many := of_decide_eq_true hc
        have hl : fs.length ≤ 39 := by omega
        rw [lo]
        have hsz : (nums fs).length < sizeLine := by
          rw [List.length_map]
          exact small1000 (by omega)
        have step : ∀ (H6 : Hp) (q' : Addr) (fs' : List Int), LW H H6 m g c n size q' fs' → fs.length < fs'.length →
            (∃ q fs, [some (V.ref m), some (.int size), some (.int most), some (.int kd), some (.int many), some (.ref q'), some (.int (1 + lw))] = [some (V.ref m), some (.int size), some (.int most), some (.int kd), some (.int many), some (.ref q), some (.int (1 + lw))] ∧ LW H H6 m g c n size q fs) ∧
            many.toNat - lenOf [some (.ref m), some (.int size), some (.int most), some (.int kd), some (.int many), some (.ref q'), some (.int (1 + lw))] H6 < many.toNat - fs.length := by
          intro H6 q' fs' W6 h6
          refine ⟨⟨q', fs', rfl, W6⟩, ?_⟩
          have lo6 : lenOf [some (.ref m), some (.int size), some (.int most), some (.int kd), some (.int many), some (.ref q'), some (.int (1 + lw))] H6 = fs'.length := by
            unfold lenOf
            simp only [List.getElem?_cons_succ, List.getElem?_cons_zero, W6.at_, List.length_map]
          rw [lo6]
          omega
        refine ⟨_, rfl, rfl, _, rfl, ite2 (fun _ => ?_) (fun _ => ?_)⟩
        · refine ⟨_, rfl, .inl ⟨rfl, _, SqL.of W.at_⟩, _, rfl, _, rfl, m, g, c, n1, size, rfl, dn, by omega, by omega, by omega, fun z H5 z0 z1 d5 k5 => ⟨_, _, rfl, rfl, q, _, _, rfl, rfl, k5 _ _ W.at_ off.m off.g, hsz, ?_⟩⟩
          exact step _ _ _ (W.push off hl k5 d5 (by omega) (by omega) (by omega) (by omega)) (by simp)
        refine ⟨_, rfl, rfl, _, rfl, ite2 (fun _ => ?_) (fun _ => ?_)⟩
        · refine ⟨_, rfl, .inl ⟨rfl, _, SqL.of W.at_⟩, _, rfl, _, rfl, m, g, c, n1, 2, rfl, dn, by omega, by omega, by omega, fun z H5 z0 z1 d5 k5 => ⟨_, _, rfl, rfl, q, _, _, rfl, rfl, k5 _ _ W.at_ off.m off.g, hsz, ?_⟩⟩
          exact step _ _ _ (W.push off hl k5 d5 (by omega) (by omega) (by omega) (by omega)) (by simp)
        refine ⟨_, rfl, rfl, _, rfl, ite2 (fun _ => ?_) (fun _ => ?_)⟩
        · refine ⟨_, rfl, .inl ⟨rfl, _, SqL.of W.at_⟩, _, rfl, _, rfl, _, rfl, _, rfl, m, g, c, n1, size, rfl, dn, by omega, by omega, by omega, fun z H5 z0 z1 d5 k5 => ⟨_, _, rfl, rfl, (by show 3 ≤ sizeLine; decide), fun l hl5 => ?_⟩⟩
          have d6 := d5.same (same_new (o := .lst [.int (1 + lw), .int (1 + lw), .int (1 + z)]) hl5)
          refine ⟨_, rfl, m, g, c, _, 3, rfl, d6, by omega, by omega, by omega, fun y H7 y0 y1 d7 k7 => ?_⟩
          have offl := d5.off hl5
          have h7 := k7 _ _ upd_same offl.m offl.g
          have k57 : Keep m g H' H7 := (k5.trans (.of (same_new hl5))).trans k7
          have fin : ∀ x : Int, 1 ≤ x → x ≤ size → ∃ (l' : Addr) (xs : List V) (y' : V), V.ref q = .ref l' ∧ [V.int x] = [y'] ∧ H7 l' = some (.lst xs) ∧ xs.length < sizeLine ∧
              (∃ q_1 fs, [some (V.ref m), some (.int size), some (.int most), some (.int kd), some (.int many), some (.ref q), some (.int (1 + lw))] = [some (V.ref m), some (.int size), some (.int most), some (.int kd), some (.int many), some (.ref q_1), some (.int (1 + lw))] ∧
                LW H (upd H7 l' (.lst (xs ++ [y']))) m g c n size q_1 fs) ∧
              many.toNat - lenOf [some (.ref m), some (.int size), some (.int most), some (.int kd), some (.int many), some (.ref q), some (.int (1 + lw))] (upd H7 l' (.lst (xs ++ [y']))) < many.toNat - fs.length := fun x x0 x1 =>
            ⟨q, _, _, rfl, rfl, k57 _ _ W.at_ off.m off.g, hsz, step _ _ _ (W.push off hl k57 d7 (by omega) (by omega) x0 x1) (by simp)⟩
          rcases (show y = 0 ∨ y = 1 ∨ y = 2 by omega) with e | e | e <;> subst e
          · exact ⟨l, _, _, _, rfl, rfl, SqL.of h7, at_of (j := 0) rfl rfl, fin _ (by omega) (by omega)⟩
          · exact ⟨l, _, _, _, rfl, rfl, SqL.of h7, at_of (j := 1) rfl rfl, fin _ (by omega) (by omega)⟩
          · exact ⟨l, _, _, _, rfl, rfl, SqL.of h7, at_of (j := 2) rfl rfl, fin _ (by omega) (by omega)⟩
        refine ⟨_, rfl, rfl, _, rfl, ite2 (fun _ => ?_) (fun _ => ?_)⟩
        · refine ⟨_, rfl, _, rfl, _, rfl, _, rfl, m, g, c, n1, size, rfl, dn, by omega, by omega, by omega, fun z H5 z0 z1 d5 k5 => ⟨1, rfl, size, z, rfl, ⟨by omega, by omega, by omega, by omega⟩, fun p hp => ?_⟩⟩
          refine ⟨q, p, _, _, rfl, rfl, (same_new hp) _ _ (k5 _ _ W.at_ off.m off.g), upd_same, ?_, fun r hr => ?_⟩
          · rw [List.length_map, List.length_map, dnV_length, sizeLine_eq]
            omega
          · exact step _ _ _ (W.swap hl (by rw [dnV_length]; omega) (by rw [dnV_length]; omega) k5 d5 (by omega) (by omega) (fun x hx => by have := dnV_mem hx; omega) hp hr) (by rw [List.length_append, dnV_length]; omega)
        · refine ⟨_, rfl, _, rfl, _, rfl, m, g, c, n1, size, rfl, dn, by omega, by omega, by omega, fun z H5 z0 z1 d5 k5 => ⟨_, _, rfl, rfl, _, rfl, _, _, rfl, rfl, _, _, rfl, rfl, RgOk.of_le (by omega) (by omega) (by omega) (by omega), fun p hp => ?_⟩⟩
          rw [upV_eq]
          refine ⟨q, p, _, _, rfl, rfl, (same_new hp) _ _ (k5 _ _ W.at_ off.m off.g), upd_same, ?_, fun r hr => ?_⟩
          · rw [List.length_map, List.length_map, upV_length, sizeLine_eq]
            omega
          · exact step _ _ _ (W.swap hl (by rw [upV_length]; omega) (by rw [upV_length]; omega) k5 d5 (by omega) (by omega) (fun x hx => by have := upV_mem hx; omega) hp hr) (by rw [List.length_append, upV_length]; omega)
      · refine ⟨_, rfl, _, rfl, _, rfl, q, _, rfl, SqL.of W.at_, fun p hp => ?_⟩
        rw [cut_take fs (by omega)]
        refine k p (fs.take many.toNat) n1 _ ?_ (fun x hx => W.bd x (List.mem_of_mem_take hx)) e1 ?_ (dn.same (same_new hp)) (W.kp.trans (.of (same_new hp))) (W.kp.free dn hp) upd_same
        · rw [List.length_take]
          omega
        · have := W.len
          omega
    · intro σ H' Q1 Q2 hq h
      obtain ⟨v, e1, p, ys, e2, e3, v2, e4, i, j, e5, e6, b, e7, h⟩ := h
      exact ⟨v, e1, p, ys, e2, e3, v2, e4, i, j, e5, e6, b, e7, hq _ _ h⟩
end
end Lw
/-! I. Letters checked; brackets read. -/
namespace Lw
open PySem L2 LwE LwM
section
variable {P : Program} {w : World} {K : PySem.W.Frag} {mg : Str → Option Value} {base : Heap}
/-- letters of the size, at most forty -/
structure Ls (size : Int) (ls : List Int) : Prop where
  s0 : 2 ≤ size
  s1 : size ≤ 6
  len : ls.length ≤ 40
  bd : ∀ x ∈ ls, 1 ≤ x ∧ x ≤ size
/-- a list, or a tuple, of them -/
def Seq (H : Hp) (a : Addr) (ls : List Int) : Prop := H a = some (.lst (nums ls)) ∨ H a = some (.tup (nums ls))
theorem Seq.same {H H' : Hp} {a : Addr} {ls : List Int} (h : Seq H a ls) (s : Same H H') : Seq H' a ls := h.elim (fun e => .inl (s _ _ e)) fun e => .inr (s _ _ e)
theorem Seq.is {H : Hp} {a : Addr} {ls : List Int} (h : Seq H a ls) : (∃ xs, H a = some (.lst xs)) ∨ ∃ xs, H a = some (.tup xs) := h.elim (fun e => .inl ⟨_, e⟩) fun e => .inr ⟨_, e⟩
theorem Seq.sq {H : Hp} {a : Addr} {ls : List Int} (h : Seq H a ls) : SqL K H a (nums ls) ∨ SqT K H a (nums ls) := h.elim (fun e => .inl (SqL.of e)) fun e => .inr (SqT.of e)
def spCkLetters : Sp := fun vs H Q _ => ∃ (size : Int) (a : Addr) (ls : List Int), vs = [.int size, .ref a] ∧ Seq H a ls ∧ Ls size ls ∧ ∀ H', Same H H' → Q .non H'
theorem scCkLetters : FnScope ["size", "letters", "place", "letter"] ["size", "letters"] (defScope sCkLetters) := ⟨rfl, rfl, rfl, by decide +kernel, rfl, by decide +kernel, by decide +kernel⟩
theorem ok_ckletters {f f1 f2 : Addr} {fd fd1 fd2 : FuncData} (B : Bare mg) (N : Nums mg) (F : Df K mg "check_letters" sCkLetters f fd) (F1 : Df K mg "is_between" sBetween f1 fd1) (b1 : Binds K fd1 ["value", "least", "most"] [])
    (G1 : FnOk P w K mg base CX0 2 f1 fd1 ["value", "least", "most"] spBetween) (F2 : Df K mg "is_listing" sListing f2 fd2) (b2 : Binds K fd2 ["value"] []) (G2 : FnOk P w K mg base CX0 1 f2 fd2 ["value"] spListing) :
    FnOk P w K mg base CX0 3 f fd ["size", "letters"] spCkLetters := by
  refine F.fn.ok scCkLetters (fun vs H Q E h => ?_) (fun cdv A outer s H vs Q E hr h => ?_)
  · obtain ⟨size, a, ls, rfl, _⟩ := h
    rfl
  · obtain ⟨size, a, ls, rfl, hq, L, k⟩ := h
    obtain ⟨t3, e3⟩ := N.mostL
    have hr1 : Room 1 _ := hr.mono (by decide)
    have turn : ∀ {X : Cx}, True := fun {_} => trivial
    have ck : ∀ (H1 : Hp), Same H H1 → Seq H1 a ls := fun H1 s1 => hq.same s1
    have lenOk : decide ((40 : Int) < (((nums ls).length : Nat) : Int)) = false := decide_eq_false (by rw [List.length_map]; have := L.len; omega)
    rcases hq with hq | hq
    · refine ⟨_, pss_cons (ps_if (pt_not (pt_val (pe_call G2 hr1 (by rfl) F2.g F2.fn.kp b2 .nil pass0 (pa_cons (pv 1) pa_nil)))) pss_never pss_nil)
        (pss_cons (ps_if (pt_cmpR op_gt (pe_callB call_len_seq (by rfl) B.len PySem.boot_len (pa_cons (pv 1) pa_nil)) (pe_glob (v := .int 40) (by rfl) e3 ⟨_, rfl⟩) (nomark _)) pss_never pss_nil)
        (pss_one (ps_for PassesOwn.never rfl (pi_enum (by rfl) B.enumerate (pa_cons (pv 1) pa_nil)) (pg_tup rfl (pgs_cons (pg_name (i := 2) scCkLetters.nd rfl (Or.inl rfl)) (pgs_cons (pg_name (i := 3) scCkLetters.nd rfl (Or.inl rfl)) pgs_nil)))
          (pss_one (ps_if (pt_not (pt_val (pe_call G1 hr (by rfl) F1.g F1.fn.kp b1 .nil pass0 (pa_cons (pv 3) (pa_cons pe_int (pa_cons (pv 0) pa_nil)))))) pss_never pss_nil))))), ?_⟩
      refine ⟨_, rfl, a, rfl, .inl ⟨_, hq⟩, fun H1 s1 => ⟨true, rfl, iteF ?_⟩⟩
      refine ⟨_, rfl, a, _, rfl, .inl (SqL.of (s1 _ _ hq)), _, _, rfl, rfl, _, rfl, ?_⟩
      rw [lenOk]
      refine iteF ?_
      refine ⟨_, rfl, a, _, rfl, SqL.of (s1 _ _ hq), for_enL (K := K) (a := a) (xs := nums ls) (fun i σ H2 => ∃ v2 v3 : Option V, σ = [some (.int size), some (.ref a), v2, v3] ∧ Same H H2) ⟨_, _, rfl, s1⟩
        (fun i σ H2 _ ⟨_, _, _, s2⟩ => SqL.of (s2 _ _ hq)) ?_ ?_⟩
      · rintro i x T σ H2 hx ⟨v2, v3, rfl, s2⟩ hT
        obtain ⟨z, rfl, _, hz⟩ := nums_get hx
        refine ⟨T, _, rfl, SqT.of upd_same, rfl, _, _, rfl, _, _, rfl, rfl, ?_⟩
        refine ⟨_, rfl, _, rfl, z, 1, size, rfl, _, rfl, ?_⟩
        rw [decide_eq_true (L.bd z hz)]
        exact iteF ⟨_, _, rfl, s2.trans (same_new hT)⟩
      · rintro σ H2 ⟨v2, v3, rfl, s2⟩
        exact k H2 s2
    · refine ⟨_, pss_cons (ps_if (pt_not (pt_val (pe_call G2 hr1 (by rfl) F2.g F2.fn.kp b2 .nil pass0 (pa_cons (pv 1) pa_nil)))) pss_never pss_nil)
        (pss_cons (ps_if (pt_cmpR op_gt (pe_callB call_len_seq (by rfl) B.len PySem.boot_len (pa_cons (pv 1) pa_nil)) (pe_glob (v := .int 40) (by rfl) e3 ⟨_, rfl⟩) (nomark _)) pss_never pss_nil)
        (pss_one (ps_for PassesOwn.never rfl (pi_enT (by rfl) B.enumerate (pa_cons (pv 1) pa_nil)) (pg_tup rfl (pgs_cons (pg_name (i := 2) scCkLetters.nd rfl (Or.inl rfl)) (pgs_cons (pg_name (i := 3) scCkLetters.nd rfl (Or.inl rfl)) pgs_nil)))
          (pss_one (ps_if (pt_not (pt_val (pe_call G1 hr (by rfl) F1.g F1.fn.kp b1 .nil pass0 (pa_cons (pv 3) (pa_cons pe_int (pa_cons (pv 0) pa_nil)))))) pss_never pss_nil))))), ?_⟩
      refine ⟨_, rfl, a, rfl, .inr ⟨_, hq⟩, fun H1 s1 => ⟨true, rfl, iteF ?_⟩⟩
      refine ⟨_, rfl, a, _, rfl, .inr (SqT.of (s1 _ _ hq)), _, _, rfl, rfl, _, rfl, ?_⟩
      rw [lenOk]
      refine iteF ?_
      refine ⟨_, rfl, a, _, rfl, SqT.of (s1 _ _ hq), for_enT (K := K) (a := a) (xs := nums ls) (fun i σ H2 => ∃ v2 v3 : Option V, σ = [some (.int size), some (.ref a), v2, v3] ∧ Same H H2) ⟨_, _, rfl, s1⟩
        (fun i σ H2 _ ⟨_, _, _, s2⟩ => SqT.of (s2 _ _ hq)) ?_ ?_⟩
      · rintro i x T σ H2 hx ⟨v2, v3, rfl, s2⟩ hT
        obtain ⟨z, rfl, _, hz⟩ := nums_get hx
        refine ⟨T, _, rfl, SqT.of upd_same, rfl, _, _, rfl, _, _, rfl, rfl, ?_⟩
        refine ⟨_, rfl, _, rfl, z, 1, size, rfl, _, rfl, ?_⟩
        rw [decide_eq_true (L.bd z hz)]
        exact iteF ⟨_, _, rfl, s2.trans (same_new hT)⟩
      · rintro σ H2 ⟨v2, v3, rfl, s2⟩
        exact k H2 s2
end
end Lw
/-! J. The class of words. -/
namespace Lw
open PySem L2 LwE LwM
theorem sl_ : ¬ (("size" : Str) = "letters") := by decide +kernel
theorem ls_ : ¬ (("letters" : Str) = "size") := by decide +kernel
/-- a word's attributes -/
def wf (t : Addr) (z : Int) : List (Str × V) := putF "letters" (.ref t) (putF "size" (.int z) [])
theorem wf_size (t : Addr) (z : Int) : (wf t z).lookup ("size" : Str) = some (.int z) := by
  unfold wf
  rw [lookup_putF, if_neg sl_, lookup_putF, if_pos rfl]
theorem wf_letters (t : Addr) (z : Int) : (wf t z).lookup ("letters" : Str) = some (.ref t) := by
  unfold wf
  rw [lookup_putF, if_pos rfl]
theorem wf_no (t : Addr) (z : Int) {m : Str} (h1 : ¬ m = "letters") (h2 : ¬ m = "size") : (wf t z).lookup m = none := by
  unfold wf
  rw [lookup_putF, if_neg h1, lookup_putF, if_neg h2]
  rfl
/-- a word of the class at C stands at p -/
structure WAt (C : Addr) (H : Hp) (p : Addr) (size : Int) (ls : List Int) : Prop where
  ob : ∃ dx t, H p = some (.ins C dx (wf t size)) ∧ H t = some (.tup (nums ls))
  ls : Ls size ls
theorem WAt.same {C : Addr} {H H' : Hp} {p : Addr} {size : Int} {ls : List Int} (W : WAt C H p size ls) (s : Same H H') : WAt C H' p size ls :=
  ⟨let ⟨dx, t, a, b⟩ := W.ob; ⟨dx, t, s _ _ a, s _ _ b⟩, W.ls⟩
theorem WAt.keep {C : Addr} {H H' : Hp} {p m g c : Addr} {n size : Int} {ls : List Int} (W : WAt C H p size ls) (d : Dr H m g c n) (k : Keep m g H H') : WAt C H' p size ls := by
  obtain ⟨dx, t, a, b⟩ := W.ob
  obtain ⟨gs, _, e⟩ := d.hg
  exact ⟨⟨dx, t, k _ _ a (ne_of a d.hm (by intro z; cases z)) (ne_of a e (by intro z; cases z)), k _ _ b (ne_of b d.hm (by intro z; cases z)) (ne_of b e (by intro z; cases z))⟩, W.ls⟩
/-- what the top has made of the class -/
structure Cw (K : PySem.W.Frag) (mg : Str → Option Value) (C : Addr) : Prop where
  cl : Cls K C
  nS : NoAttr K C "size"
  nL : NoAttr K C "letters"
  mgC : mg "Word" = some (.ref C)
  ca : PySem.W.findIn K (.ref C) "__class__" = some (some (.builtin "object.__class__"))
  cn : PySem.W.specialIn K (.builtin "object.__class__") "__get__" = some (some (.builtin "getset_descriptor.__get__"))
  ct : PySem.W.takesIn K (.builtin "object.__class__") = some true
  cm : PySem.W.mroIn K C (.type "object") = some true
theorem cut_drop (l : List Int) {n : Int} (h : 0 ≤ n) : cutV (nums l) (some n) none = nums (l.drop n.toNat) := by
  unfold cutV
  have e : HT.sIx (nums l).length 0 (some n) = min n.toNat (nums l).length := by
    have q := HT.sIx_nat (nums l).length 0 n.toNat
    rw [Int.toNat_of_nonneg h] at q
    exact q
  rw [HT.sIx_none, e]
  rw [List.length_map]
  show ((l.map V.int).drop _).take _ = (l.drop n.toNat).map V.int
  rw [← List.map_drop, ← List.map_take]
  congr 1
  rw [List.take_of_length_le (by rw [List.length_drop]; omega)]
  rcases Nat.le_total n.toNat l.length with z | z
  · rw [Nat.min_eq_left z]
  · rw [Nat.min_eq_right z, List.drop_of_length_le (Nat.le_refl _), List.drop_of_length_le z]
/-- t + u, whichever is empty -/
theorem cat_any {K : PySem.W.Frag} {H : Hp} {Q : VK} {a b : Addr} {xs ys : List V} (ha : H a = some (.tup xs)) (hb : H b = some (.tup ys)) (hl : xs.length + ys.length ≤ sizeLine)
    (k : ∀ r H', Same H H' → H' r = some (.tup (xs ++ ys)) → Q (.ref r) H') : rCatA K (.ref a) (.ref b) H Q := by
  refine ⟨a, b, xs, ys, rfl, rfl, SqT.of ha, SqT.of hb, hl, fun e => ?_, fun _ e => ?_, fun _ _ p hp => k p _ (same_new hp) upd_same⟩
  · subst e
    exact k b H (Same.refl H) hb
  · subst e
    refine k a H (Same.refl H) ?_
    rw [List.append_nil]
    exact ha
theorem set_cut (l : List Int) (p : Nat) (x : Int) (h : p < l.length) : l.take p ++ [x] ++ l.drop (p + 1) = l.set p x := by
  rw [List.set_eq_take_append_cons_drop, if_pos h, List.append_assoc]
  rfl
theorem Ls.set {size : Int} {ls : List Int} (L : Ls size ls) (p : Nat) {x : Int} (h0 : 1 ≤ x) (h1 : x ≤ size) : Ls size (ls.set p x) :=
  ⟨L.s0, L.s1, by rw [List.length_set]; exact L.len, fun y hy => by
    rcases List.mem_or_eq_of_mem_set hy with q | q
    · exact L.bd y q
    · rw [q]
      exact ⟨h0, h1⟩⟩
section
variable {P : Program} {w : World} {K : PySem.W.Frag} {mg : Str → Option Value} {base : Heap}
/-! __init__ -/
def spInit (C : Addr) : Sp := fun vs H Q _ => ∃ (p dx : Addr) (size : Int) (a : Addr) (ls : List Int), vs = [.ref p, .int size, .ref a] ∧ H p = some (.ins C dx []) ∧ Seq H a ls ∧ Ls size ls ∧
  ∀ H', (∀ b o, H b = some o → b ≠ p → H' b = some o) → WAt C H' p size ls → Q .non H'
theorem scInit : FnScope ["self", "size", "letters"] ["self", "size", "letters"] (defScope sInit) := ⟨rfl, rfl, rfl, by decide +kernel, rfl, by decide +kernel, by decide +kernel⟩
theorem ok_init {f f1 f2 C : Addr} {fd fd1 fd2 : FuncData} (B : Bare mg) (T : Cw K mg C) (F : Fun K "__init__" "Word.__init__" sInit f fd) (F1 : Df K mg "check_size" sCkSize f1 fd1) (b1 : Binds K fd1 ["size"] [])
    (G1 : FnOk P w K mg base CX0 3 f1 fd1 ["size"] spCkSize) (F2 : Df K mg "check_letters" sCkLetters f2 fd2) (b2 : Binds K fd2 ["size", "letters"] []) (G2 : FnOk P w K mg base CX0 3 f2 fd2 ["size", "letters"] spCkLetters) :
    FnOk P w K mg base CX0 4 f fd ["self", "size", "letters"] (spInit C) := by
  refine F.ok scInit (fun vs H Q E h => ?_) (fun cdv A outer s H vs Q E hr h => ?_)
  · obtain ⟨p, dx, size, a, ls, rfl, _⟩ := h
    rfl
  · obtain ⟨p, dx, size, a, ls, rfl, hp, hq, L, k⟩ := h
    refine ⟨_, pss_cons (ps_expr (pe_call G1 hr (by rfl) F1.g F1.fn.kp b1 .nil pass0 (pa_cons (pv 1) pa_nil))) (pss_cons (ps_expr (pe_call G2 hr (by rfl) F2.g F2.fn.kp b2 .nil pass0 (pa_cons (pv 1) (pa_cons (pv 2) pa_nil))))
      (pss_cons (ps_fld (pv 0) (pv 1) rfl) (pss_one (ps_fld (pv 0) (pe_callTy call_tuple_of (by rfl) B.tuple (by decide +kernel) (pa_cons (pv 2) pa_nil)) rfl)))), ?_⟩
    refine ⟨_, rfl, size, rfl, L.s0, L.s1, ?_⟩
    refine ⟨_, rfl, _, rfl, size, a, ls, rfl, hq, L, fun H1 s1 => ?_⟩
    refine ⟨_, rfl, _, rfl, p, C, dx, _, rfl, s1 _ _ hp, T.cl, T.nS, (by show 0 < 1000; decide), ?_⟩
    have nap : a ≠ p := hq.elim (fun e => ne_of e hp (by intro z; cases z)) fun e => ne_of e hp (by intro z; cases z)
    have hq2 : Seq (upd H1 p (.ins C dx (putF "size" (.int size) []))) a ls := by
      rcases hq.same s1 with e | e
      · exact .inl (by rw [upd_ne nap]; exact e)
      · exact .inr (by rw [upd_ne nap]; exact e)
    have hp2 : (upd H1 p (.ins C dx (putF "size" (.int size) []))) p = some (.ins C dx (putF "size" (.int size) [])) := upd_same
    have k2 : ∀ b o, H b = some o → b ≠ p → (upd H1 p (.ins C dx (putF "size" (.int size) []))) b = some o := fun b o e h => by
      rw [upd_ne h]
      exact s1 _ _ e
    generalize upd H1 p (.ins C dx (putF "size" (.int size) [])) = H2 at hq2 hp2 k2 ⊢
    rcases hq2 with e | e
    · refine ⟨_, rfl, a, _, rfl, .inl ⟨SqL.of e, fun t ht => ?_⟩⟩
      have npt : p ≠ t := ne_of_none hp2 ht
      refine ⟨_, rfl, p, C, dx, _, rfl, same_new ht _ _ hp2, T.cl, T.nL, (by show 1 < 1000; decide), ?_⟩
      refine k _ (fun b o z h => ?_) ⟨⟨dx, t, upd_same, ?_⟩, L⟩
      · rw [upd_ne h]
        exact same_new ht _ _ (k2 _ _ z h)
      · rw [upd_ne npt.symm, upd_same]
    · refine ⟨_, rfl, a, _, rfl, .inr ⟨SqT.of e, ?_⟩⟩
      refine ⟨_, rfl, p, C, dx, _, rfl, hp2, T.cl, T.nL, (by show 1 < 1000; decide), ?_⟩
      refine k _ (fun b o z h => ?_) ⟨⟨dx, a, upd_same, ?_⟩, L⟩
      · rw [upd_ne h]
        exact k2 _ _ z h
      · rw [upd_ne nap]
        exact e
/-! a word made -/
theorem made {C : Addr} {H : Hp} {Q : VK} {size : Int} {a : Addr} {ls : List Int} (hq : Seq H a ls) (L : Ls size ls) (k : ∀ x H', Same H H' → H x = none → WAt C H' x size ls → Q (.ref x) H') :
    ∀ x dx, H x = none → H dx = none → dx ≠ x → spInit C (.ref x :: ([.int size, .ref a] ++ [])) (upd (upd H dx (.own x)) x (.ins C dx [])) (fun v H2 => v = .non ∧ Q (.ref x) H2) E0 := fun x dx nx ndx ne => by
  have s2 : Same H (upd (upd H dx (.own x)) x (.ins C dx [])) := fun b o e => by
    rw [upd_ne (ne_of_none e nx), upd_ne (ne_of_none e ndx)]
    exact e
  exact ⟨x, dx, size, a, ls, rfl, upd_same, hq.same s2, L, fun H' kp W => ⟨rfl, k x H' (Same.made nx ndx kp) nx W⟩⟩
end
end Lw
/-! Tx. Texts of small data. -/
namespace LwE
open PySem PySem.Spec PyProof.Rows L2
mutual
def smD : PyData → Bool
  | .none | .bool _ => true
  | .int i => decide (i.natAbs ≤ 100000)
  | .str _ => false
  | .list xs | .tuple xs => smA xs
  | .dict _ => false
def smA : List PyData → Bool
  | [] => true
  | x :: xs => smD x && smA xs
end
mutual
def wtD : PyData → Nat
  | .none => 4
  | .bool _ => 5
  | .int _ => 18
  | .str _ => 0
  | .list xs | .tuple xs => wtA xs + 3
  | .dict _ => 0
def wtA : List PyData → Nat
  | [] => 0
  | x :: xs => wtD x + 2 + wtA xs
end
theorem textFrom_le : ∀ (ts : List Str) (k : Nat) (acc : Str), (textFrom k acc ts).length ≤ acc.length + piled ts
  | [], k, acc => by simp [textFrom]
  | t :: ts, k, acc => by
    have ih := textFrom_le ts (k + 1) (acc ++ (if k > 0 then ", " else "" : String) ++ t)
    have e : (acc ++ (if k > 0 then ", " else "" : String) ++ t).length ≤ acc.length + 2 + t.length := by
      rw [strLen_append, strLen_append]
      split
      · have : ((", " : String) : Str).length = 2 := rfl
        omega
      · have : (("" : String) : Str).length = 0 := rfl
        omega
    rw [piled_cons]
    show (textFrom (k + 1) _ ts).length ≤ _
    omega
theorem listText_le (ts : List Str) : (listText ts).length ≤ piled ts + 2 := by
  unfold listText
  rw [strLen_append]
  have h := textFrom_le ts 0 "["
  have e1 : (("[" : String) : Str).length = 1 := rfl
  have e2 : (("]" : String) : Str).length = 1 := rfl
  omega
theorem tupleText_le (ts : List Str) : (tupleText ts).length ≤ piled ts + 3 := by
  unfold tupleText
  rw [strLen_append, strLen_append]
  have e1 : ((("(" : String) : Str)).length = 1 := rfl
  have e3 : (((if ts.length == 1 then ",)" else ")" : String) : Str)).length ≤ 2 := by split <;> decide
  by_cases h : ts = []
  · subst h
    have : (Str.join ", " []).length = 0 := rfl
    omega
  · have := join_length_add ts h
    omega
theorem log_small (i : Int) (h : i.natAbs ≤ 100000) : i.natAbs.log2 < 17 := by
  rcases Nat.eq_zero_or_pos i.natAbs with z | z
  · rw [z]
    decide
  · exact (Nat.log2_lt (by omega)).mpr (by omega)
mutual
theorem sm_all : ∀ d : PyData, smD d = true → d.showable = true ∧ d.hasDict = false ∧ d.shown.length ≤ wtD d
  | .none, _ => ⟨rfl, rfl, by simp only [PyData.shown, wtD]; decide⟩
  | .bool b, _ => ⟨rfl, rfl, by simp only [PyData.shown, wtD]; cases b <;> decide⟩
  | .int i, h => by
    have hi : i.natAbs ≤ 100000 := by simpa [smD] using h
    have h1 := log_small i hi
    have h2 := int_text_length_le (by decide : 0 < 17) h1
    refine ⟨?_, rfl, ?_⟩
    · simp only [PyData.showable, decide_eq_true_eq]
      omega
    · simp only [PyData.shown, wtD]
      show (Str.ofString (toString i)).length ≤ 18
      rw [PySem.ofString_length]
      omega
  | .str x, h => by simp [smD] at h
  | .list xs, h => by
    obtain ⟨a, b, c⟩ := sm_allA xs (by simpa [smD] using h)
    refine ⟨by simpa [PyData.showable] using a, by simpa [PyData.hasDict] using b, ?_⟩
    simp only [PyData.shown, wtD]
    have := listText_le (PyData.shownAll xs)
    omega
  | .tuple xs, h => by
    obtain ⟨a, b, c⟩ := sm_allA xs (by simpa [smD] using h)
    refine ⟨by simpa [PyData.showable] using a, by simpa [PyData.hasDict] using b, ?_⟩
    simp only [PyData.shown, wtD]
    have := tupleText_le (PyData.shownAll xs)
    omega
  | .dict _, h => by simp [smD] at h
theorem sm_allA : ∀ xs : List PyData, smA xs = true → PyData.showableAll xs = true ∧ PyData.hasDictAll xs = false ∧ piled (PyData.shownAll xs) ≤ wtA xs
  | [], _ => ⟨rfl, rfl, by simp [PyData.shownAll, piled, wtA]⟩
  | x :: xs, h => by
    have h' : smD x = true ∧ smA xs = true := by simpa [smA] using h
    obtain ⟨a, b, c⟩ := sm_all x h'.1
    obtain ⟨a2, b2, c2⟩ := sm_allA xs h'.2
    refine ⟨by simp [PyData.showableAll, a, a2], by simp [PyData.hasDictAll, b, b2], ?_⟩
    simp only [PyData.shownAll, wtA, piled_cons]
    omega
end
theorem sm_ints : ∀ l : List Int, (∀ x ∈ l, x.natAbs ≤ 100000) → smA (l.map PyData.int) = true
  | [], _ => rfl
  | x :: l, h => by
    have ih := sm_ints l fun y hy => h y (List.mem_cons_of_mem _ hy)
    have hx := h x (List.mem_cons_self ..)
    simp [smA, smD, ih, hx]
theorem wt_ints : ∀ l : List Int, wtA (l.map PyData.int) = 20 * l.length
  | [] => rfl
  | x :: l => by
    have ih := wt_ints l
    simp only [List.map_cons, wtA, wtD, List.length_cons, ih]
    omega
/-- repr of small data -/
def rReprS (K : PySem.W.Frag) : List V → Hp → VK → Prop := fun xs H Q => ∃ (a : Addr) (d : PyData), xs = [V.ref a] ∧ Dp K H (.ref a) d ∧ smD d = true ∧ d.depth ≤ 8 ∧ wtD d ≤ 1000000 ∧ Q (.str d.shown) H
theorem call_reprS {X : Cx} (hg : X.A.guards = some []) (hu : X.A.units + 64 < cLine) : CallR X (.builtin "repr") (rReprS X.K) := by
  intro pins s σ H xs us Q I r h
  obtain ⟨a, d, rfl, hd, h1, h2, h3, q⟩ := h
  obtain ⟨g1, g2, g3⟩ := sm_all d h1
  refine call_reprD hg hu pins s σ H _ us Q I r ⟨a, d, rfl, hd, g1, g2, h2, ?_, q⟩
  rw [sizeLine_eq]
  omega
end LwE
/-! Hd. What a call tells, or the word of its refusal. -/
namespace LwE
open PySem PySem.Spec PyProof.Rows L2
/-- a comprehension over zip of two lists of one length -/
theorem lc_zipL {K : PySem.W.Frag} {a b : Addr} {xs ys : List V} {g : TG} {tt : TT} {te : TE} {vs : List Nat} {σ : L2.St} {H1 : Hp} {D : Addr} {Qd : Hp → Prop} (hlen : xs.length = ys.length) (Pv : Nat → Hp → Prop) (h0 : Pv 0 (upd H1 D (.lst [])))
    (hl : ∀ i H, i ≤ xs.length → Pv i H → SqL K H a xs ∧ SqL K H b ys)
    (hs : ∀ i x y T H, xs[i]? = some x → ys[i]? = some y → Pv i H → H T = none → g (.ref T) (wipe σ vs) (upd H T (.tup [x, y])) fun σ2 H2 => wipe σ2 vs = wipe σ vs ∧ tt σ2 H2 fun b H3 =>
      if b = true then te σ2 H3 fun y H4 => ∃ acc, H4 D = some (.lst acc) ∧ acc.length < sizeLine ∧ Pv (i + 1) (upd H4 D (.lst (acc ++ [y]))) else Pv (i + 1) H3) (hd : ∀ H, Pv xs.length H → Qd H) :
    ∃ W : Nat → Nat → Hp → Prop, (∃ m, W 0 m (upd H1 D (.lst []))) ∧ ∀ i m H, W i m H →
      ((Itz K a b).stop i H ∧ Qd H) ∨ ((Itz K a b).go i H ∧ ∃ Nx : Hp → Prop, (∀ H', Nx H' → ∃ m', m' < m ∧ W (i + 1) m' H') ∧ ∀ x H', (Itz K a b).yld i H x H' → g x (wipe σ vs) H' fun σ2 H2 => wipe σ2 vs = wipe σ vs ∧ tt σ2 H2 fun b H3 =>
        if b = true then te σ2 H3 fun y H4 => ∃ acc, H4 D = some (.lst acc) ∧ acc.length < sizeLine ∧ Nx (upd H4 D (.lst (acc ++ [y]))) else Nx H3) := by
  refine ⟨fun i m H => m + i = xs.length ∧ Pv i H, ⟨xs.length, Nat.add_zero _, h0⟩, fun i m H ⟨hm, p⟩ => ?_⟩
  obtain ⟨q1, q2⟩ := hl i H (by omega) p
  cases m with
  | zero =>
    have e : i = xs.length := by omega
    rw [e] at p
    exact .inl ⟨⟨xs, ys, q1, q2, .inl (by omega)⟩, hd H p⟩
  | succ m =>
    have h1 : i < xs.length := by omega
    refine .inr ⟨⟨xs, ys, xs[i], ys[i]'(by omega), q1, q2, List.getElem?_eq_getElem h1, List.getElem?_eq_getElem (by omega)⟩, Pv (i + 1), fun H' p' => ⟨m, Nat.lt_succ_self m, by omega, p'⟩, fun v H' y => ?_⟩
    obtain ⟨T, x, z, rfl, hT, rfl, y1, y2⟩ := y
    exact hs i x z T H (y1 xs q1) (y2 ys q2) p hT
/-- a wish that may lean on how many slots there are -/
theorem takes_len {X : Cx} {W : WX} (t : Takes X W) : Takes X fun c d σ H => σ.length = X.N.length → W c d σ H := fun u s' ⟨a, B, sI, pins, σ, H, cls, d, e, I, nb, up, sky, na, os, ag, w⟩ =>
  t u s' ⟨a, B, sI, pins, σ, H, cls, d, e, I, nb, up, sky, na, os, ag, w I.len⟩
/-- any wish that is weaker -/
theorem pe_weak {X : Cx} {e : Expr} {te : TE} (he : PE X e te) : PE X e fun σ H Q => ∃ Qm : VK, te σ H Qm ∧ ∀ v H', Qm v H' → Q v H' :=
  ⟨fun pins s σ H Q I ⟨Qm, h, i⟩ => wpAny_mono (he.run pins s σ H Qm I h) (fun u s1 ⟨v, H1, I1, r, q⟩ => ⟨v, H1, I1, r, i _ _ q⟩) fun _ _ z => z⟩
theorem sameN {H : Hp} {p : Addr} {o : HO} (h : H p = none) : Same H (upd H p o) := fun b u e => by
  rw [upd_ne (ne_of_none e h)]
  exact e
theorem look_one (f : Str) (v : V) : List.lookup f [(f, v)] = some v := by simp [List.lookup]
end LwE
namespace Lw
open PySem L2 LwE LamX
/-! ### the kinds of refusals -/
inductive Kd
  | size | letters | index | number | deed | table | move | shape | stuck | great
  deriving DecidableEq
def Kd.word : Kd → Str
  | .size => "size" | .letters => "letters" | .index => "index" | .number => "number" | .deed => "deed" | .table => "table" | .move => "move" | .shape => "shape" | .stuck => "stuck" | .great => "great"
def Kd.field : Kd → Str
  | .size => "value" | .letters => "place" | .index => "value" | .number => "value" | .deed => "place" | .table => "row" | .move => "place" | .shape => "value" | .stuck => "place" | .great => "most"
/-- is it a ValueError -/
def Kd.ve : Kd → Bool
  | .stuck => false | .great => false | _ => true
/-- where the classes stand -/
structure Eca where
  lift : Addr
  of : Kd → Addr
  recd : Addr
  osize : Addr
  ohouse : Addr
/-- what the module says of them -/
structure Ec (K : PySem.W.Frag) (mg : Str → Option Value) (e : Eca) : Prop where
  isinstance : mg "isinstance" = none
  zip : mg "zip" = none
  len : mg "len" = none
  ve : mg "ValueError" = none
  lift : mg "LiftError" = some (.ref e.lift)
  size : mg "BadSize" = some (.ref (e.of .size))
  letters : mg "BadLetters" = some (.ref (e.of .letters))
  index : mg "BadIndex" = some (.ref (e.of .index))
  number : mg "BadNumber" = some (.ref (e.of .number))
  deed : mg "BadDeed" = some (.ref (e.of .deed))
  table : mg "BadTable" = some (.ref (e.of .table))
  move : mg "BadMove" = some (.ref (e.of .move))
  shape : mg "BadShape" = some (.ref (e.of .shape))
  recd : mg "BadRecording" = some (.ref e.recd)
  osize : mg "OtherSize" = some (.ref e.osize)
  ohouse : mg "OtherHouse" = some (.ref e.ohouse)
  stuck : mg "Stuck" = some (.ref (e.of .stuck))
  great : mg "TooGreat" = some (.ref (e.of .great))
  K_ : HeldK K
/-- what the class of a kind says -/
structure Ek (K : PySem.W.Frag) (e : Eca) (k : Kd) : Prop where
  held : HeldC K (e.of k)
  no : PySem.W.findIn K (.ref (e.of k)) k.field = some none
  exm : PySem.W.exmAny K (.ref (e.of k)) [.ref e.lift, .ref (e.of .stuck), .ref (e.of .great)] = some true
  is_ : ∀ k', PySem.W.kitOne K (.ref (e.of k)) (.ref (e.of k')) = some (decide (k = k'))
  recd : PySem.W.kitOne K (.ref (e.of k)) (.ref e.recd) = some false
  osize : PySem.W.kitOne K (.ref (e.of k)) (.ref e.osize) = some false
  ohouse : PySem.W.kitOne K (.ref (e.of k)) (.ref e.ohouse) = some false
  ve : PySem.W.kitOne K (.ref (e.of k)) (.type "ValueError") = some k.ve
/-- how the refusal is told -/
def Rf (K : PySem.W.Frag) (e : Eca) (Q : VK) : XK := fun cls d H => ∃ (k : Kd) (dd : Addr) (v : V), Ek K e k ∧ cls = .ref (e.of k) ∧ d = some dd ∧ H dd = some (.xd [(k.field, v)]) ∧ ∀ p H', Same H H' → H' p = some (.tup [.str k.word, v]) → Q (.ref p) H'
/-- what the law's look makes of the lambda's reading -/
def TTheard (K : PySem.W.Frag) (e : Eca) : (XK → Hp → VK → Prop) → Hp → VK → Prop := fun tl H Q =>
  ∀ l, H l = none → tl (Rf K e Q) (upd H l (.lst [])) fun v H1 => ∀ p, H1 p = none → Q (.ref p) (upd H1 p (.lst [v]))
abbrev Nhd : List Str := ["call", "told", "error", "e", "valued", "kinds", "words", "found", "word", "is_so"]
theorem scHeard : FnScope Nhd ["call"] (defScope sHeard) := ⟨rfl, rfl, rfl, by decide +kernel, rfl, by decide +kernel, by decide +kernel⟩
def wds : List Str := ["size", "letters", "index", "number", "deed", "table", "move", "shape", "recording", "othersize", "otherhouse"]
def kbs (k : Kd) : List Bool := [decide (k = .size), decide (k = .letters), decide (k = .index), decide (k = .number), decide (k = .deed), decide (k = .table), decide (k = .move), decide (k = .shape), false, false, false]
/-- which words are kept -/
def kept (k : Kd) (i : Nat) : List Str := (((wds.zip (kbs k)).take i).filter (·.2)).map (·.1)
theorem kept_len (k : Kd) (i : Nat) : (kept k i).length ≤ 11 := by
  unfold kept
  rw [List.length_map]
  refine Nat.le_trans (List.length_filter_le _ _) ?_
  rw [List.length_take]
  have : (wds.zip (kbs k)).length = 11 := rfl
  omega
theorem kept_succ {k : Kd} {i : Nat} {x : Str} {b : Bool} (h1 : wds[i]? = some x) (h2 : (kbs k)[i]? = some b) : kept k (i + 1) = kept k i ++ if b then [x] else [] := by
  have hz : (wds.zip (kbs k))[i]? = some (x, b) := by
    rw [List.getElem?_zip_eq_some]
    exact ⟨h1, h2⟩
  unfold kept
  rw [List.take_succ, hz]
  cases b <;> simp
theorem kept_all {k : Kd} (h1 : k ≠ .stuck) (h2 : k ≠ .great) : kept k 11 = [k.word] := by
  cases k <;> first | rfl | exact absurd rfl h1 | exact absurd rfl h2
section
variable {X : Cx} {g : Addr} {cdg : Value} {q : Str} {e : Eca}
set_option maxHeartbeats 4000000 in
theorem heard_rest (F : Ec X.K X.mg e) (s : Shared) (H : Hp) : ∃ tr : TS, PSs (cxOf C8.CX0 X.prog X.w X.K X.mg X.base Nhd "_law_heard" (defScope sHeard) g cdg X.A X.stack s H C8.E0).nox ((defBody sHeard).drop 6) tr ∧
    ∀ (D : Ends) (o0 o1 o3 o5 o6 o7 o8 o9 : Option V) (a dd : Addr) (k : Kd) (v : V) (vb : Bool) (H1 : Hp), Ek X.K e k → k ≠ .stuck → k ≠ .great → vb = (decide (k = .size) || (decide (k = .index) || decide (k = .number))) →
      H1 a = some (ExK (.ref (e.of k)) (some dd) a) → H1 dd = some (.xd [(k.field, v)]) → (∀ p H', Same H1 H' → H' p = some (.tup [.str k.word, v]) → D.rt (.ref p) H') → tr D [o0, o1, some (.ref a), o3, some (.bl vb), o5, o6, o7, o8, o9] H1 := by
  refine ⟨_, pss_cons (ps_set (i := 5) scHeard.nd rfl (Or.inl rfl) (pe_lst (pa_cons (pe_callB (call_isHeld F.K_) (by rfl) F.isinstance (by decide +kernel) (pa_cons (pv 2) (pa_cons (pe_glob (v := .ref (e.of .size)) (by rfl) F.size rfl) pa_nil)))
      (pa_cons (pe_callB (call_isHeld F.K_) (by rfl) F.isinstance (by decide +kernel) (pa_cons (pv 2) (pa_cons (pe_glob (v := .ref (e.of .letters)) (by rfl) F.letters rfl) pa_nil)))
      (pa_cons (pe_callB (call_isHeld F.K_) (by rfl) F.isinstance (by decide +kernel) (pa_cons (pv 2) (pa_cons (pe_glob (v := .ref (e.of .index)) (by rfl) F.index rfl) pa_nil))) pa_nil)))))
    (pss_cons (ps_set (i := 5) scHeard.nd rfl (Or.inl rfl) (pe_op op_cat (pv 5) (pe_lst (pa_cons (pe_callB (call_isHeld F.K_) (by rfl) F.isinstance (by decide +kernel) (pa_cons (pv 2) (pa_cons (pe_glob (v := .ref (e.of .number)) (by rfl) F.number rfl) pa_nil)))
      (pa_cons (pe_callB (call_isHeld F.K_) (by rfl) F.isinstance (by decide +kernel) (pa_cons (pv 2) (pa_cons (pe_glob (v := .ref (e.of .deed)) (by rfl) F.deed rfl) pa_nil)))
      (pa_cons (pe_callB (call_isHeld F.K_) (by rfl) F.isinstance (by decide +kernel) (pa_cons (pv 2) (pa_cons (pe_glob (v := .ref (e.of .table)) (by rfl) F.table rfl) pa_nil))) pa_nil))))))
    (pss_cons (ps_set (i := 5) scHeard.nd rfl (Or.inl rfl) (pe_op op_cat (pv 5) (pe_lst (pa_cons (pe_callB (call_isHeld F.K_) (by rfl) F.isinstance (by decide +kernel) (pa_cons (pv 2) (pa_cons (pe_glob (v := .ref (e.of .move)) (by rfl) F.move rfl) pa_nil)))
      (pa_cons (pe_callB (call_isHeld F.K_) (by rfl) F.isinstance (by decide +kernel) (pa_cons (pv 2) (pa_cons (pe_glob (v := .ref (e.of .shape)) (by rfl) F.shape rfl) pa_nil)))
      (pa_cons (pe_callB (call_isHeld F.K_) (by rfl) F.isinstance (by decide +kernel) (pa_cons (pv 2) (pa_cons (pe_glob (v := .ref e.recd) (by rfl) F.recd rfl) pa_nil))) pa_nil))))))
    (pss_cons (ps_set (i := 5) scHeard.nd rfl (Or.inl rfl) (pe_op op_cat (pv 5) (pe_lst (pa_cons (pe_callB (call_isHeld F.K_) (by rfl) F.isinstance (by decide +kernel) (pa_cons (pv 2) (pa_cons (pe_glob (v := .ref e.osize) (by rfl) F.osize rfl) pa_nil)))
      (pa_cons (pe_callB (call_isHeld F.K_) (by rfl) F.isinstance (by decide +kernel) (pa_cons (pv 2) (pa_cons (pe_glob (v := .ref e.ohouse) (by rfl) F.ohouse rfl) pa_nil))) pa_nil)))))
    (pss_cons (ps_set (i := 6) scHeard.nd rfl (Or.inl rfl) (pe_lst (pa_cons pe_str (pa_cons pe_str (pa_cons pe_str (pa_cons pe_str (pa_cons pe_str (pa_cons pe_str (pa_cons pe_str (pa_cons pe_str (pa_cons pe_str pa_nil)))))))))))
    (pss_cons (ps_set (i := 6) scHeard.nd rfl (Or.inl rfl) (pe_op op_cat (pv 6) (pe_lst (pa_cons pe_str (pa_cons pe_str pa_nil)))))
    (pss_cons (ps_setLc (i := 7) (own := [("word", 8), ("is_so", 9)]) (g := gTup X.K 2 (gCons (gName 8) (gCons (gName 9) gNil))) rfl scHeard.nd rfl rfl (sw_true rfl rfl rfl (by decide +kernel)) (pi_zip (by rfl) F.zip (pa_cons (pv 6) (pa_cons (pv 5) pa_nil)))
      (blkOk_by (N := Nhd) (sc := defScope sHeard) (by decide +kernel)) (fun _ _ _ _ _ => pg_tup rfl (pgs_cons (pg_name (i := 8) scHeard.nd rfl (Or.inl rfl)) (pgs_cons (pg_name (i := 9) scHeard.nd rfl (Or.inl rfl)) pgs_nil)))
      (fun _ _ _ _ _ => pts_one (pt_val (pv 9))) (fun _ _ _ _ _ => pv 8))
    (pss_cons (ps_if (PW.pt (pw_or (pt_cmpR op_ne (pe_callB call_len_seq (by rfl) F.len PySem.boot_len (pa_cons (pv 7) pa_nil)) pe_int (nomark _))
        (pw_or1 (pt_not (pt_val (pe_callB (call_isHeld F.K_) (by rfl) F.isinstance (by decide +kernel) (pa_cons (pv 2) (pa_cons (pe_bltn (v := .ty "ValueError") (by rfl) F.ve (by decide +kernel) rfl) pa_nil)))))))) (pss_one (ps_ret pe_str)) pss_nil)
    (pss_cons (ps_if (PW.pt (pw_or (pt_val (pv 4)) (pw_or1 (pt_cmpR op_eq (pe_ix ix_list (pv 7) pe_int (fun _ _ => rfl)) pe_str (nomark _))))) (pss_one (ps_ret (pe_tup (pa_cons (pe_ix ix_list (pv 7) pe_int (fun _ _ => rfl)) (pa_cons (pe_fldHeld (pv 2)) pa_nil))))) pss_nil)
    (pss_cons (ps_if (pt_cmpR op_in_seq (pe_ix ix_list (pv 7) pe_int (fun _ _ => rfl)) (pe_tup (pa_cons pe_str (pa_cons pe_str (pa_cons pe_str pa_nil)))) (by rfl)) (pss_one (ps_ret (pe_tup (pa_cons (pe_ix ix_list (pv 7) pe_int (fun _ _ => rfl)) (pa_cons (pe_fldHeld (pv 2)) pa_nil))))) pss_nil)
    (pss_one (ps_ret (pe_ifExp (pt_cmpR op_eq (pe_ix ix_list (pv 7) pe_int (fun _ _ => rfl)) pe_str (nomark _)) (pe_tup (pa_cons pe_str (pa_cons (pe_fldHeld (pv 2)) pa_nil))) (pe_ix ix_list (pv 7) pe_int (fun _ _ => rfl)))))))))))))), ?_⟩
  intro D o0 o1 o3 o5 o6 o7 o8 o9 a dd k v vb H0 E_ hk1 hk2 hvb ha hda kq
  have sA : Same H0 H0 := Same.refl _
  refine ⟨_, rfl, a, _, dd, _, _, _, _, rfl, E_.held, ha, hda, ClsV.own _, E_.is_ .size, _, rfl, a, _, dd, _, _, _, _, rfl, E_.held, ha, hda, ClsV.own _, E_.is_ .letters, _, rfl, a, _, dd, _, _, _, _, rfl, E_.held, ha, hda, ClsV.own _, E_.is_ .index, (by show 3 ≤ sizeLine; decide), fun l1 hl1 => ?_⟩
  have s_l1 : Same H0 (upd H0 l1 (HO.lst [V.bl (decide (k = Kd.size)), V.bl (decide (k = Kd.letters)), V.bl (decide (k = Kd.index))])) := sameN hl1
  have e_l1 : (upd H0 l1 (HO.lst [V.bl (decide (k = Kd.size)), V.bl (decide (k = Kd.letters)), V.bl (decide (k = Kd.index))])) l1 = some (HO.lst [V.bl (decide (k = Kd.size)), V.bl (decide (k = Kd.letters)), V.bl (decide (k = Kd.index))]) := upd_same
  generalize upd H0 l1 (HO.lst [V.bl (decide (k = Kd.size)), V.bl (decide (k = Kd.letters)), V.bl (decide (k = Kd.index))]) = H1 at s_l1 e_l1 ⊢
  replace ha := s_l1 _ _ ha
  replace hda := s_l1 _ _ hda
  replace sA := sA.trans s_l1
  refine ⟨_, rfl, _, rfl, a, _, dd, _, _, _, _, rfl, E_.held, ha, hda, ClsV.own _, E_.is_ .number, _, rfl, a, _, dd, _, _, _, _, rfl, E_.held, ha, hda, ClsV.own _, E_.is_ .deed, _, rfl, a, _, dd, _, _, _, _, rfl, E_.held, ha, hda, ClsV.own _, E_.is_ .table, (by show 3 ≤ sizeLine; decide), fun l2 hl2 => ?_⟩
  have s_l2 : Same H1 (upd H1 l2 (HO.lst [V.bl (decide (k = Kd.number)), V.bl (decide (k = Kd.deed)), V.bl (decide (k = Kd.table))])) := sameN hl2
  have e_l2 : (upd H1 l2 (HO.lst [V.bl (decide (k = Kd.number)), V.bl (decide (k = Kd.deed)), V.bl (decide (k = Kd.table))])) l2 = some (HO.lst [V.bl (decide (k = Kd.number)), V.bl (decide (k = Kd.deed)), V.bl (decide (k = Kd.table))]) := upd_same
  generalize upd H1 l2 (HO.lst [V.bl (decide (k = Kd.number)), V.bl (decide (k = Kd.deed)), V.bl (decide (k = Kd.table))]) = H2 at s_l2 e_l2 ⊢
  replace ha := s_l2 _ _ ha
  replace hda := s_l2 _ _ hda
  replace e_l1 := s_l2 _ _ e_l1
  replace sA := sA.trans s_l2
  refine ⟨l1, l2, _, _, rfl, rfl, e_l1, e_l2, (by rw [sizeLine_eq]; simp), fun l3 hl3 => ?_⟩
  have s_l3 : Same H2 (upd H2 l3 (HO.lst ([V.bl (decide (k = Kd.size)), V.bl (decide (k = Kd.letters)), V.bl (decide (k = Kd.index))] ++ [V.bl (decide (k = Kd.number)), V.bl (decide (k = Kd.deed)), V.bl (decide (k = Kd.table))]))) := sameN hl3
  have e_l3 : (upd H2 l3 (HO.lst ([V.bl (decide (k = Kd.size)), V.bl (decide (k = Kd.letters)), V.bl (decide (k = Kd.index))] ++ [V.bl (decide (k = Kd.number)), V.bl (decide (k = Kd.deed)), V.bl (decide (k = Kd.table))]))) l3 = some (HO.lst ([V.bl (decide (k = Kd.size)), V.bl (decide (k = Kd.letters)), V.bl (decide (k = Kd.index))] ++ [V.bl (decide (k = Kd.number)), V.bl (decide (k = Kd.deed)), V.bl (decide (k = Kd.table))])) := upd_same
  generalize upd H2 l3 (HO.lst ([V.bl (decide (k = Kd.size)), V.bl (decide (k = Kd.letters)), V.bl (decide (k = Kd.index))] ++ [V.bl (decide (k = Kd.number)), V.bl (decide (k = Kd.deed)), V.bl (decide (k = Kd.table))])) = H3 at s_l3 e_l3 ⊢
  replace ha := s_l3 _ _ ha
  replace hda := s_l3 _ _ hda
  replace sA := sA.trans s_l3
  refine ⟨_, rfl, _, rfl, a, _, dd, _, _, _, _, rfl, E_.held, ha, hda, ClsV.own _, E_.is_ .move, _, rfl, a, _, dd, _, _, _, _, rfl, E_.held, ha, hda, ClsV.own _, E_.is_ .shape, _, rfl, a, _, dd, _, _, _, _, rfl, E_.held, ha, hda, ClsV.own _, E_.recd, (by show 3 ≤ sizeLine; decide), fun l4 hl4 => ?_⟩
  have s_l4 : Same H3 (upd H3 l4 (HO.lst [V.bl (decide (k = Kd.move)), V.bl (decide (k = Kd.shape)), V.bl false])) := sameN hl4
  have e_l4 : (upd H3 l4 (HO.lst [V.bl (decide (k = Kd.move)), V.bl (decide (k = Kd.shape)), V.bl false])) l4 = some (HO.lst [V.bl (decide (k = Kd.move)), V.bl (decide (k = Kd.shape)), V.bl false]) := upd_same
  generalize upd H3 l4 (HO.lst [V.bl (decide (k = Kd.move)), V.bl (decide (k = Kd.shape)), V.bl false]) = H4 at s_l4 e_l4 ⊢
  replace ha := s_l4 _ _ ha
  replace hda := s_l4 _ _ hda
  replace e_l3 := s_l4 _ _ e_l3
  replace sA := sA.trans s_l4
  refine ⟨l3, l4, _, _, rfl, rfl, e_l3, e_l4, (by rw [sizeLine_eq]; simp), fun l5 hl5 => ?_⟩
  have s_l5 : Same H4 (upd H4 l5 (HO.lst ([V.bl (decide (k = Kd.size)), V.bl (decide (k = Kd.letters)), V.bl (decide (k = Kd.index))] ++ [V.bl (decide (k = Kd.number)), V.bl (decide (k = Kd.deed)), V.bl (decide (k = Kd.table))] ++ [V.bl (decide (k = Kd.move)), V.bl (decide (k = Kd.shape)), V.bl false]))) := sameN hl5
  have e_l5 : (upd H4 l5 (HO.lst ([V.bl (decide (k = Kd.size)), V.bl (decide (k = Kd.letters)), V.bl (decide (k = Kd.index))] ++ [V.bl (decide (k = Kd.number)), V.bl (decide (k = Kd.deed)), V.bl (decide (k = Kd.table))] ++ [V.bl (decide (k = Kd.move)), V.bl (decide (k = Kd.shape)), V.bl false]))) l5 = some (HO.lst ([V.bl (decide (k = Kd.size)), V.bl (decide (k = Kd.letters)), V.bl (decide (k = Kd.index))] ++ [V.bl (decide (k = Kd.number)), V.bl (decide (k = Kd.deed)), V.bl (decide (k = Kd.table))] ++ [V.bl (decide (k = Kd.move)), V.bl (decide (k = Kd.shape)), V.bl false])) := upd_same
  generalize upd H4 l5 (HO.lst ([V.bl (decide (k = Kd.size)), V.bl (decide (k = Kd.letters)), V.bl (decide (k = Kd.index))] ++ [V.bl (decide (k = Kd.number)), V.bl (decide (k = Kd.deed)), V.bl (decide (k = Kd.table))] ++ [V.bl (decide (k = Kd.move)), V.bl (decide (k = Kd.shape)), V.bl false])) = H5 at s_l5 e_l5 ⊢
  replace ha := s_l5 _ _ ha
  replace hda := s_l5 _ _ hda
  replace sA := sA.trans s_l5
  refine ⟨_, rfl, _, rfl, a, _, dd, _, _, _, _, rfl, E_.held, ha, hda, ClsV.own _, E_.osize, _, rfl, a, _, dd, _, _, _, _, rfl, E_.held, ha, hda, ClsV.own _, E_.ohouse, (by show 2 ≤ sizeLine; decide), fun l6 hl6 => ?_⟩
  have s_l6 : Same H5 (upd H5 l6 (HO.lst [V.bl false, V.bl false])) := sameN hl6
  have e_l6 : (upd H5 l6 (HO.lst [V.bl false, V.bl false])) l6 = some (HO.lst [V.bl false, V.bl false]) := upd_same
  generalize upd H5 l6 (HO.lst [V.bl false, V.bl false]) = H6 at s_l6 e_l6 ⊢
  replace ha := s_l6 _ _ ha
  replace hda := s_l6 _ _ hda
  replace e_l5 := s_l6 _ _ e_l5
  replace sA := sA.trans s_l6
  refine ⟨l5, l6, _, _, rfl, rfl, e_l5, e_l6, (by rw [sizeLine_eq]; simp), fun l7 hl7 => ?_⟩
  have s_l7 : Same H6 (upd H6 l7 (HO.lst ([V.bl (decide (k = Kd.size)), V.bl (decide (k = Kd.letters)), V.bl (decide (k = Kd.index))] ++ [V.bl (decide (k = Kd.number)), V.bl (decide (k = Kd.deed)), V.bl (decide (k = Kd.table))] ++ [V.bl (decide (k = Kd.move)), V.bl (decide (k = Kd.shape)), V.bl false] ++ [V.bl false, V.bl false]))) := sameN hl7
  have e_l7 : (upd H6 l7 (HO.lst ([V.bl (decide (k = Kd.size)), V.bl (decide (k = Kd.letters)), V.bl (decide (k = Kd.index))] ++ [V.bl (decide (k = Kd.number)), V.bl (decide (k = Kd.deed)), V.bl (decide (k = Kd.table))] ++ [V.bl (decide (k = Kd.move)), V.bl (decide (k = Kd.shape)), V.bl false] ++ [V.bl false, V.bl false]))) l7 = some (HO.lst ([V.bl (decide (k = Kd.size)), V.bl (decide (k = Kd.letters)), V.bl (decide (k = Kd.index))] ++ [V.bl (decide (k = Kd.number)), V.bl (decide (k = Kd.deed)), V.bl (decide (k = Kd.table))] ++ [V.bl (decide (k = Kd.move)), V.bl (decide (k = Kd.shape)), V.bl false] ++ [V.bl false, V.bl false])) := upd_same
  generalize upd H6 l7 (HO.lst ([V.bl (decide (k = Kd.size)), V.bl (decide (k = Kd.letters)), V.bl (decide (k = Kd.index))] ++ [V.bl (decide (k = Kd.number)), V.bl (decide (k = Kd.deed)), V.bl (decide (k = Kd.table))] ++ [V.bl (decide (k = Kd.move)), V.bl (decide (k = Kd.shape)), V.bl false] ++ [V.bl false, V.bl false])) = H7 at s_l7 e_l7 ⊢
  replace ha := s_l7 _ _ ha
  replace hda := s_l7 _ _ hda
  replace sA := sA.trans s_l7
  refine ⟨(by show 9 ≤ sizeLine; decide), fun w1 hw1 => ?_⟩
  have s_w1 : Same H7 (upd H7 w1 (HO.lst [V.str "size", V.str "letters", V.str "index", V.str "number", V.str "deed", V.str "table", V.str "move", V.str "shape", V.str "recording"])) := sameN hw1
  have e_w1 : (upd H7 w1 (HO.lst [V.str "size", V.str "letters", V.str "index", V.str "number", V.str "deed", V.str "table", V.str "move", V.str "shape", V.str "recording"])) w1 = some (HO.lst [V.str "size", V.str "letters", V.str "index", V.str "number", V.str "deed", V.str "table", V.str "move", V.str "shape", V.str "recording"]) := upd_same
  generalize upd H7 w1 (HO.lst [V.str "size", V.str "letters", V.str "index", V.str "number", V.str "deed", V.str "table", V.str "move", V.str "shape", V.str "recording"]) = H8 at s_w1 e_w1 ⊢
  replace ha := s_w1 _ _ ha
  replace hda := s_w1 _ _ hda
  replace e_l7 := s_w1 _ _ e_l7
  replace sA := sA.trans s_w1
  refine ⟨_, rfl, (by show 2 ≤ sizeLine; decide), fun w2 hw2 => ?_⟩
  have s_w2 : Same H8 (upd H8 w2 (HO.lst [V.str "othersize", V.str "otherhouse"])) := sameN hw2
  have e_w2 : (upd H8 w2 (HO.lst [V.str "othersize", V.str "otherhouse"])) w2 = some (HO.lst [V.str "othersize", V.str "otherhouse"]) := upd_same
  generalize upd H8 w2 (HO.lst [V.str "othersize", V.str "otherhouse"]) = H9 at s_w2 e_w2 ⊢
  replace ha := s_w2 _ _ ha
  replace hda := s_w2 _ _ hda
  replace e_l7 := s_w2 _ _ e_l7
  replace e_w1 := s_w2 _ _ e_w1
  replace sA := sA.trans s_w2
  refine ⟨w1, w2, _, _, rfl, rfl, e_w1, e_w2, (by rw [sizeLine_eq]; simp), fun w3 hw3 => ?_⟩
  have s_w3 : Same H9 (upd H9 w3 (HO.lst ([V.str "size", V.str "letters", V.str "index", V.str "number", V.str "deed", V.str "table", V.str "move", V.str "shape", V.str "recording"] ++ [V.str "othersize", V.str "otherhouse"]))) := sameN hw3
  have e_w3 : (upd H9 w3 (HO.lst ([V.str "size", V.str "letters", V.str "index", V.str "number", V.str "deed", V.str "table", V.str "move", V.str "shape", V.str "recording"] ++ [V.str "othersize", V.str "otherhouse"]))) w3 = some (HO.lst ([V.str "size", V.str "letters", V.str "index", V.str "number", V.str "deed", V.str "table", V.str "move", V.str "shape", V.str "recording"] ++ [V.str "othersize", V.str "otherhouse"])) := upd_same
  generalize upd H9 w3 (HO.lst ([V.str "size", V.str "letters", V.str "index", V.str "number", V.str "deed", V.str "table", V.str "move", V.str "shape", V.str "recording"] ++ [V.str "othersize", V.str "otherhouse"])) = HA at s_w3 e_w3 ⊢
  replace ha := s_w3 _ _ ha
  replace hda := s_w3 _ _ hda
  replace e_l7 := s_w3 _ _ e_l7
  replace sA := sA.trans s_w3
  have eW : HA w3 = some (.lst (wds.map V.str)) := e_w3
  have eK : HA l7 = some (.lst ((kbs k).map V.bl)) := e_l7
  refine ⟨_, rfl, _, rfl, w3, l7, _, _, rfl, SqL.of eW, SqL.of eK, fun R hR => lc_zipL (K := X.K) (a := w3) (b := l7) (xs := wds.map V.str) (ys := (kbs k).map V.bl) rfl (fun i H' => Same HA H' ∧ H' R = some (.lst ((kept k i).map V.str))) ⟨sameN hR, by rw [upd_same]; rfl⟩
    (fun i H' _ ⟨s, _⟩ => ⟨SqL.of (s _ _ eW), SqL.of (s _ _ eK)⟩) ?_ ?_⟩
  · rintro i x y T H' hx hy ⟨s2, e2⟩ hT
    rw [List.getElem?_map, Option.map_eq_some_iff] at hx hy
    obtain ⟨x, hx, rfl⟩ := hx
    obtain ⟨y, hy, rfl⟩ := hy
    have ks := kept_succ hx hy
    have s3 : Same H' (upd H' T (.tup [.str x, .bl y])) := sameN hT
    have eT : (upd H' T (.tup [.str x, .bl y])) T = some (.tup [.str x, .bl y]) := upd_same
    generalize upd H' T (.tup [.str x, .bl y]) = HB at s3 eT ⊢
    refine ⟨T, _, rfl, SqT.of eT, rfl, _, _, rfl, _, _, rfl, rfl, rfl, ?_⟩
    refine ⟨_, rfl, _, rfl, ?_⟩
    cases y with
    | true =>
      refine iteT ⟨_, rfl, _, s3 _ _ e2, ?_, fun b o q => ?_, ?_⟩
      · have := kept_len k i
        rw [List.length_map, sizeLine_eq]
        omega
      · rw [upd_ne (ne_of_none q hR)]
        exact s3 _ _ (s2 _ _ q)
      · rw [upd_same, ks]
        simp
    | false =>
      refine iteF ⟨s2.trans s3, ?_⟩
      rw [ks]
      simpa using s3 _ _ e2
  · rintro HB ⟨s2, e2⟩
    rw [show ((wds.map V.str).length) = 11 from rfl, kept_all hk1 hk2] at e2
    replace sA := sA.trans s2
    replace ha := s2 _ _ ha
    replace hda := s2 _ _ hda
    have eR : HB R = some (.lst [.str k.word]) := e2
    have ve : k.ve = true := by
      cases k <;> first | rfl | exact absurd rfl hk1 | exact absurd rfl hk2
    refine ⟨_, rfl, R, _, rfl, .inl (SqL.of eR), rfl, _, rfl, iteF ⟨_, rfl, a, _, dd, _, _, _, _, rfl, E_.held, ha, hda, ClsV.ty _, E_.ve, _, rfl, ?_⟩⟩
    rw [ve]
    refine iteF ⟨_, rfl, _, rfl, ?_⟩
    have fin : ∀ (p : Addr) (H' : Hp) (h : H' p = none), Same HB H' → D.rt (.ref p) (upd H' p (.tup [.str k.word, v])) := fun p H' h s => kq p _ ((sA.trans s).trans (sameN h)) upd_same
    subst hvb
    cases k
    case size =>
      exact iteT ⟨_, rfl, R, _, _, _, rfl, rfl, SqL.of (eR), at_of (j := 0) rfl rfl, _, rfl, a, _, dd, _, v, rfl, E_.held, E_.no, ha, hda, look_one _ _, (by show 2 ≤ sizeLine; decide), fun p hp => fin p _ hp (Same.refl _)⟩
    case letters =>
      refine iteF ⟨_, rfl, R, _, _, _, rfl, rfl, SqL.of (eR), at_of (j := 0) rfl rfl, rfl, _, rfl, ?_⟩
      rw [decide_eq_false (by decide +kernel)]
      refine iteF ⟨_, rfl, R, _, _, _, rfl, rfl, SqL.of (eR), at_of (j := 0) rfl rfl, (by show 3 ≤ sizeLine; decide), fun q hq => ?_⟩
      have sQ : Same HB (upd HB q (.tup [.str "letters", .str "deed", .str "move"])) := sameN hq
      refine ⟨q, _, rfl, .inr (SqT.of upd_same), rfl, rfl, _, rfl, ?_⟩
      rw [if_neg Bool.false_ne_true]
      rw [show inV (V.str (Kd.word .letters)) [V.str "letters", V.str "deed", V.str "move"] = true by decide +kernel]
      exact iteT ⟨_, rfl, R, _, _, _, rfl, rfl, SqL.of (sQ _ _ eR), at_of (j := 0) rfl rfl, _, rfl, a, _, dd, _, v, rfl, E_.held, E_.no, sQ _ _ ha, sQ _ _ hda, look_one _ _, (by show 2 ≤ sizeLine; decide), fun p hp => fin p _ hp sQ⟩
    case index =>
      exact iteT ⟨_, rfl, R, _, _, _, rfl, rfl, SqL.of (eR), at_of (j := 0) rfl rfl, _, rfl, a, _, dd, _, v, rfl, E_.held, E_.no, ha, hda, look_one _ _, (by show 2 ≤ sizeLine; decide), fun p hp => fin p _ hp (Same.refl _)⟩
    case number =>
      exact iteT ⟨_, rfl, R, _, _, _, rfl, rfl, SqL.of (eR), at_of (j := 0) rfl rfl, _, rfl, a, _, dd, _, v, rfl, E_.held, E_.no, ha, hda, look_one _ _, (by show 2 ≤ sizeLine; decide), fun p hp => fin p _ hp (Same.refl _)⟩
    case deed =>
      refine iteF ⟨_, rfl, R, _, _, _, rfl, rfl, SqL.of (eR), at_of (j := 0) rfl rfl, rfl, _, rfl, ?_⟩
      rw [decide_eq_false (by decide +kernel)]
      refine iteF ⟨_, rfl, R, _, _, _, rfl, rfl, SqL.of (eR), at_of (j := 0) rfl rfl, (by show 3 ≤ sizeLine; decide), fun q hq => ?_⟩
      have sQ : Same HB (upd HB q (.tup [.str "letters", .str "deed", .str "move"])) := sameN hq
      refine ⟨q, _, rfl, .inr (SqT.of upd_same), rfl, rfl, _, rfl, ?_⟩
      rw [if_neg Bool.false_ne_true]
      rw [show inV (V.str (Kd.word .deed)) [V.str "letters", V.str "deed", V.str "move"] = true by decide +kernel]
      exact iteT ⟨_, rfl, R, _, _, _, rfl, rfl, SqL.of (sQ _ _ eR), at_of (j := 0) rfl rfl, _, rfl, a, _, dd, _, v, rfl, E_.held, E_.no, sQ _ _ ha, sQ _ _ hda, look_one _ _, (by show 2 ≤ sizeLine; decide), fun p hp => fin p _ hp sQ⟩
    case table =>
      refine iteF ⟨_, rfl, R, _, _, _, rfl, rfl, SqL.of (eR), at_of (j := 0) rfl rfl, rfl, _, rfl, ?_⟩
      rw [decide_eq_false (by decide +kernel)]
      refine iteF ⟨_, rfl, R, _, _, _, rfl, rfl, SqL.of (eR), at_of (j := 0) rfl rfl, (by show 3 ≤ sizeLine; decide), fun q hq => ?_⟩
      have sQ : Same HB (upd HB q (.tup [.str "letters", .str "deed", .str "move"])) := sameN hq
      refine ⟨q, _, rfl, .inr (SqT.of upd_same), rfl, rfl, _, rfl, ?_⟩
      rw [if_neg Bool.false_ne_true]
      rw [show inV (V.str (Kd.word .table)) [V.str "letters", V.str "deed", V.str "move"] = false by decide +kernel]
      refine iteF ⟨_, rfl, R, _, _, _, rfl, rfl, SqL.of (sQ _ _ eR), at_of (j := 0) rfl rfl, rfl, _, rfl, ?_⟩
      rw [decide_eq_true (show V.str (Kd.word .table) = V.str "table" from rfl)]
      exact iteT ⟨_, rfl, a, _, dd, _, v, rfl, E_.held, E_.no, sQ _ _ ha, sQ _ _ hda, look_one _ _, (by show 2 ≤ sizeLine; decide), fun p hp => fin p _ hp sQ⟩
    case move =>
      refine iteF ⟨_, rfl, R, _, _, _, rfl, rfl, SqL.of (eR), at_of (j := 0) rfl rfl, rfl, _, rfl, ?_⟩
      rw [decide_eq_false (by decide +kernel)]
      refine iteF ⟨_, rfl, R, _, _, _, rfl, rfl, SqL.of (eR), at_of (j := 0) rfl rfl, (by show 3 ≤ sizeLine; decide), fun q hq => ?_⟩
      have sQ : Same HB (upd HB q (.tup [.str "letters", .str "deed", .str "move"])) := sameN hq
      refine ⟨q, _, rfl, .inr (SqT.of upd_same), rfl, rfl, _, rfl, ?_⟩
      rw [if_neg Bool.false_ne_true]
      rw [show inV (V.str (Kd.word .move)) [V.str "letters", V.str "deed", V.str "move"] = true by decide +kernel]
      exact iteT ⟨_, rfl, R, _, _, _, rfl, rfl, SqL.of (sQ _ _ eR), at_of (j := 0) rfl rfl, _, rfl, a, _, dd, _, v, rfl, E_.held, E_.no, sQ _ _ ha, sQ _ _ hda, look_one _ _, (by show 2 ≤ sizeLine; decide), fun p hp => fin p _ hp sQ⟩
    case shape =>
      refine iteF ⟨_, rfl, R, _, _, _, rfl, rfl, SqL.of (eR), at_of (j := 0) rfl rfl, rfl, _, rfl, ?_⟩
      rw [decide_eq_true (show V.str (Kd.word .shape) = V.str "shape" from rfl)]
      exact iteT ⟨_, rfl, R, _, _, _, rfl, rfl, SqL.of (eR), at_of (j := 0) rfl rfl, _, rfl, a, _, dd, _, v, rfl, E_.held, E_.no, ha, hda, look_one _ _, (by show 2 ≤ sizeLine; decide), fun p hp => fin p _ hp (Same.refl _)⟩
    case stuck =>
      exact absurd rfl hk1
    case great =>
      exact absurd rfl hk2
set_option maxHeartbeats 4000000 in
theorem heard_gives (F : Ec X.K X.mg e) : GivesTo X Nhd "_law_heard" (defScope sHeard) g cdg (defBody sHeard) "call" q (TTheard X.K e) := by
  intro f c' s H Q tl act hc h
  let X1 : Cx := (cxOf C8.CX0 X.prog X.w X.K X.mg X.base Nhd "_law_heard" (defScope sHeard) g cdg X.A X.stack s H C8.E0).nox
  obtain ⟨tr, htr, hrest⟩ := heard_rest (g := g) (cdg := cdg) F s H
  refine ⟨_, pss_cons (ps_par (i := 1) (j := 2) (by rfl) scHeard.nd rfl rfl (by decide) rfl rfl (pa_cons (pe_lst pa_nil) (pa_cons pe_non pa_nil)) (by rfl))
    (pss_cons (ps_try_hold (X := X1) (i := 3) (c1 := .ref e.lift) (c2 := .ref (e.of .stuck)) (c3 := .ref (e.of .great))
      (tb := fun W D σ H => ∃ Ech : XK, (∀ cls d σ' H', σ'.length = 10 → Ech cls d H' → W cls d σ' H') ∧ σ[0]? = some (some (.ref f)) ∧ H c' = some (CodeO c' q) ∧ ∃ Qm : VK, tl Ech H Qm ∧ ∀ v H1, Qm v H1 → [v].length ≤ sizeLine ∧ ∀ p, H1 p = none → D.nx (σ.set 1 (some (.ref p))) (upd H1 p (.lst [v])))
      rfl rfl rfl scHeard.nd rfl rfl ⟨rfl, F.lift⟩ ⟨rfl, F.stuck⟩ ⟨rfl, F.great⟩ (fun W pn xe tk _ => ?body) (fun a oe cls d pn _ _ => pss_one (ps_set (i := 2) scHeard.nd rfl (Or.inl rfl) (pv 3))))
    (pss_cons (ps_if (pt_cmpR op_isN (pv 2) pe_non (nomark _)) (pss_one (ps_ret (pv 1))) pss_nil)
    (pss_cons (ps_if (pt_val (pe_callB (call_isHeld F.K_) (by rfl) F.isinstance (by decide +kernel) (pa_cons (pv 2) (pa_cons (pe_glob (v := .ref (e.of .stuck)) (by rfl) F.stuck rfl) pa_nil))))
      (pss_one (ps_ret (pe_ifExp (pt_not (pt_val (pe_callB (call_isHeld F.K_) (by rfl) F.isinstance (by decide +kernel) (pa_cons (pv 2) (pa_cons (pe_bltn (v := .ty "ValueError") (by rfl) F.ve (by decide +kernel) rfl) pa_nil)))))
        (pe_tup (pa_cons pe_str (pa_cons (pe_fldHeld (pv 2)) pa_nil))) pe_str))) pss_nil)
    (pss_cons (ps_if (pt_val (pe_callB (call_isHeld F.K_) (by rfl) F.isinstance (by decide +kernel) (pa_cons (pv 2) (pa_cons (pe_glob (v := .ref (e.of .great)) (by rfl) F.great rfl) pa_nil))))
      (pss_one (ps_ret (pe_ifExp (pt_not (pt_val (pe_callB (call_isHeld F.K_) (by rfl) F.isinstance (by decide +kernel) (pa_cons (pv 2) (pa_cons (pe_bltn (v := .ty "ValueError") (by rfl) F.ve (by decide +kernel) rfl) pa_nil)))))
        (pe_tup (pa_cons pe_str (pa_cons (pe_fldHeld (pv 2)) pa_nil))) pe_str))) pss_nil)
    (pss_cons (ps_set (i := 4) scHeard.nd rfl (Or.inl rfl) (pe_or (pe_callB (call_isHeld F.K_) (by rfl) F.isinstance (by decide +kernel) (pa_cons (pv 2) (pa_cons (pe_glob (v := .ref (e.of .size)) (by rfl) F.size rfl) pa_nil)))
      (pe_or (pe_callB (call_isHeld F.K_) (by rfl) F.isinstance (by decide +kernel) (pa_cons (pv 2) (pa_cons (pe_glob (v := .ref (e.of .index)) (by rfl) F.index rfl) pa_nil)))
      (pe_one (pe_callB (call_isHeld F.K_) (by rfl) F.isinstance (by decide +kernel) (pa_cons (pv 2) (pa_cons (pe_glob (v := .ref (e.of .number)) (by rfl) F.number rfl) pa_nil)))))))
    htr))))), ?_⟩
  case body =>
    refine ⟨fun pins s' σ H' D I h' => ?_⟩
    obtain ⟨Ech, hW, h1, h2, Qm, h3, h4⟩ := h'
    refine PSs.run (X := X1.tr pn xe) (pss_one (ps_set (i := 1) scHeard.nd rfl (Or.inl rfl) (pe_lst (pa_cons (pe_weak (act (fun cls d σ H => σ.length = 10 → W cls d σ H) pn xe Ech _ _ (takes_len tk) fun cls d σ' H' h z => hW cls d σ' H' z h)) pa_nil)))) pins s' σ H' D I ?_
    exact ⟨Qm, ⟨h1, h2, h3⟩, h4⟩
  refine ⟨Nat.zero_le _, fun l hl => ⟨_, _, rfl, Rf X.K e Q, fun cls d σ' H' hσ hR => ?_, rfl, ?_, _, h l hl, fun v H1 hv => ⟨(by show 1 ≤ sizeLine; decide), fun p hp => ?_⟩⟩⟩
  · -- a refusal
    obtain ⟨k, dd, v, E_, rfl, rfl, hd, kq⟩ := hR
    match σ', hσ with
    | [o0, o1, o2, o3, o4, o5, o6, o7, o8, o9], _ =>
    refine ⟨E_.exm, fun a na => ⟨_, rfl, ?_⟩⟩
    have hda : (upd H' a (ExK (.ref (e.of k)) (some dd) a)) dd = some (.xd [(k.field, v)]) := by
      rw [upd_ne (ne_of_none hd na)]
      exact hd
    have ha : (upd H' a (ExK (.ref (e.of k)) (some dd) a)) a = some (ExK (.ref (e.of k)) (some dd) a) := upd_same
    have s1 : Same H' (upd H' a (ExK (.ref (e.of k)) (some dd) a)) := fun b o q => by
      rw [upd_ne (ne_of_none q na)]
      exact q
    refine ⟨_, rfl, rfl, _, rfl, ?_⟩
    rw [decide_eq_false (by intro z; cases z)]
    refine iteF ⟨_, rfl, a, _, dd, _, _, _, _, rfl, E_.held, ha, hda, ClsV.own _, E_.is_ .stuck, _, rfl, ?_⟩
    by_cases hk1 : k = .stuck
    · subst hk1
      refine iteT ⟨_, rfl, a, _, dd, _, _, _, _, rfl, E_.held, ha, hda, ClsV.ty _, E_.ve, _, rfl, iteT ?_⟩
      exact ⟨_, rfl, a, _, dd, _, v, rfl, E_.held, E_.no, ha, hda, look_one _ _, (by show 2 ≤ sizeLine; decide), fun p hp => kq p _ (s1.trans (sameN hp)) upd_same⟩
    rw [decide_eq_false hk1]
    refine iteF ⟨_, rfl, a, _, dd, _, _, _, _, rfl, E_.held, ha, hda, ClsV.own _, E_.is_ .great, _, rfl, ?_⟩
    by_cases hk2 : k = .great
    · subst hk2
      refine iteT ⟨_, rfl, a, _, dd, _, _, _, _, rfl, E_.held, ha, hda, ClsV.ty _, E_.ve, _, rfl, iteT ?_⟩
      exact ⟨_, rfl, a, _, dd, _, v, rfl, E_.held, E_.no, ha, hda, look_one _ _, (by show 2 ≤ sizeLine; decide), fun p hp => kq p _ (s1.trans (sameN hp)) upd_same⟩
    rw [decide_eq_false hk2]
    refine iteF ?_
    -- one of the ValueErrors
    refine ⟨_, rfl, a, _, dd, _, _, _, _, rfl, E_.held, ha, hda, ClsV.own _, E_.is_ .size, _, rfl, ite2 (fun h1 => ?_) fun h1 => ⟨_, rfl, a, _, dd, _, _, _, _, rfl, E_.held, ha, hda, ClsV.own _, E_.is_ .index, _, rfl, ite2 (fun h2 => ?_) fun h2 => ⟨_, rfl, a, _, dd, _, _, _, _, rfl, E_.held, ha, hda, ClsV.own _, E_.is_ .number, ?_⟩⟩⟩
    · exact hrest _ _ _ _ _ _ _ _ _ a dd k v _ _ E_ hk1 hk2 (by rw [h1]; rfl) ha hda fun p H2 s2 e2 => kq p H2 (s1.trans s2) e2
    · exact hrest _ _ _ _ _ _ _ _ _ a dd k v _ _ E_ hk1 hk2 (by rw [h2]; simp) ha hda fun p H2 s2 e2 => kq p H2 (s1.trans s2) e2
    · exact hrest _ _ _ _ _ _ _ _ _ a dd k v _ _ E_ hk1 hk2 (by rw [Bool.eq_false_iff.mpr h1, Bool.eq_false_iff.mpr h2]; rfl) ha hda fun p H2 s2 e2 => kq p H2 (s1.trans s2) e2
  · rw [upd_ne (ne_of_none hc hl)]
    exact hc
  · exact ⟨_, rfl, rfl, _, rfl, iteT ⟨_, rfl, hv p hp⟩⟩
end
end Lw
/-! Cx. What is refused: sizes, letters, words. -/
namespace Lw
open PySem L2 LwE
theorem tyx_same {K : PySem.W.Frag} {H H' : Hp} {x : V} {t : Value} (h : TyX K H x t) (s : Same H H') : TyX K H' x t := by
  cases h with
  | base b =>
    refine .base ?_
    cases b with
    | non => exact .non
    | bl y => exact .bl y
    | int i => exact .int i
    | str y => exact .str y
    | flt y => exact .flt y
    | lst e => exact .lst (s _ _ e)
    | frz e => exact .frz (s _ _ e)
    | tup e => exact .tup (s _ _ e)
    | dK e => exact .dK (s _ _ e)
    | dT e => exact .dT (s _ _ e)
    | ins e cl a b c d => exact .ins (s _ _ e) cl a b c d
  | byt b => exact .byt b
  | set e => exact .set (s _ _ e)
  | kList e c => exact .kList e c
  | kTuple e c => exact .kTuple e c
  | kDict e c => exact .kDict e c
  | fTuple e => exact .fTuple (s _ _ e)
  | fDict e => exact .fDict (s _ _ e)
/-- is x a whole number from lo to hi -/
def Btw (K : PySem.W.Frag) (H : Hp) (x : V) (lo hi : Int) (b : Bool) : Prop :=
  (∃ i, x = .int i ∧ b = decide (lo ≤ i ∧ i ≤ hi)) ∨ (∃ c, x = .bl c ∧ b = false) ∨ (b = false ∧ ∃ t, TyX K H x t ∧ PySem.W.kitOne K t (.type "int") = some false)
theorem Btw.same {K : PySem.W.Frag} {H H' : Hp} {x : V} {lo hi : Int} {b : Bool} (h : Btw K H x lo hi b) (s : Same H H') : Btw K H' x lo hi b := by
  rcases h with h | h | ⟨e, t, ty, k⟩
  · exact .inl h
  · exact .inr (.inl h)
  · exact .inr (.inr ⟨e, t, tyx_same ty s, k⟩)
/-- is x a list or tuple -/
def Lstg (K : PySem.W.Frag) (H : Hp) (x : V) (b : Bool) : Prop := ∃ t, TyX K H x t ∧ PySem.W.kitAny K t [.type "list", .type "tuple"] = some b
theorem Lstg.same {K : PySem.W.Frag} {H H' : Hp} {x : V} {b : Bool} (h : Lstg K H x b) (s : Same H H') : Lstg K H' x b :=
  let ⟨t, ty, k⟩ := h; ⟨t, tyx_same ty s, k⟩
theorem lstg_lst {K : PySem.W.Frag} {H : Hp} {a : Addr} {xs : List V} (h : H a = some (.lst xs)) : Lstg K H (.ref a) true :=
  ⟨_, .base (.lst h), kitAny_cons (b := true) (kit_ty (by decide +kernel)) (fun z => by cases z) (fun _ => rfl)⟩
theorem lstg_tup {K : PySem.W.Frag} {H : Hp} {a : Addr} {xs : List V} (h : H a = some (.tup xs)) : Lstg K H (.ref a) true :=
  ⟨_, .base (.tup h), kitAny_cons (b := false) (kit_ty (by decide +kernel)) (fun _ => kitAny_cons (b := true) (kit_ty (by decide +kernel)) (fun z => by cases z) (fun _ => rfl)) (fun z => by cases z)⟩
section
variable {P : Program} {w : World} {K : PySem.W.Frag} {mg : Str → Option Value} {base : Heap}
def spBetweenG (K : PySem.W.Frag) : Sp := fun vs H Q _ => ∃ (x : V) (lo hi : Int) (b : Bool), vs = [x, .int lo, .int hi] ∧ Btw K H x lo hi b ∧ Q (.bl b) H
theorem ok_betweenG {f : Addr} {fd : FuncData} (B : Bare mg) (F : Df K mg "is_between" sBetween f fd) : FnOk P w K mg base CX0 2 f fd ["value", "least", "most"] (spBetweenG K) := by
  refine F.fn.ok scBetween (fun vs H Q E h => ?_) (fun cdv A outer s H vs Q E hr h => ?_)
  · obtain ⟨x, lo, hi, b, rfl, _⟩ := h
    rfl
  · obtain ⟨x, lo, hi, b, rfl, hb, k⟩ := h
    refine ⟨_, pss_one (ps_ret (pe_and (pe_callB call_isi (by rfl) B.isinstance (by decide +kernel) (pa_cons (pv 0) (pa_cons (pe_bltn (v := .ty "int") (by rfl) B.int (by decide +kernel) rfl) pa_nil)))
      (pe_and (pe_not (pe_callB call_isi (by rfl) B.isinstance (by decide +kernel) (pa_cons (pv 0) (pa_cons (pe_bltn (v := .ty "bool") (by rfl) B.bool (by decide +kernel) rfl) pa_nil))))
      (pe_one (pe_chain op_le op_le (pv 1) (pv 0) (pv 2)))))), ?_⟩
    rcases hb with ⟨i, rfl, rfl⟩ | ⟨c, rfl, rfl⟩ | ⟨rfl, t, ty, kt⟩
    · refine ⟨_, rfl, _, _, _, _, true, rfl, ClsV.ty _, TyX.base (TyOf.int _), kit_ty (by decide +kernel), _, rfl, iteT ?_⟩
      refine ⟨_, rfl, _, _, _, _, false, rfl, ClsV.ty _, TyX.base (TyOf.int _), kit_ty (by decide +kernel), _, rfl, _, rfl, iteT ?_⟩
      refine ⟨_, rfl, _, rfl, _, _, rfl, rfl, _, rfl, ite2 (fun h1 => ?_) fun h1 => ?_⟩
      · refine ⟨_, rfl, _, _, rfl, rfl, ?_⟩
        have e : decide (lo ≤ i ∧ i ≤ hi) = decide (i ≤ hi) := by
          have := of_decide_eq_true h1
          simp [this]
        rw [e] at k
        exact k
      · have e : decide (lo ≤ i ∧ i ≤ hi) = false := by
          have : ¬ lo ≤ i := fun z => h1 (decide_eq_true z)
          simp [this]
        rw [e] at k
        exact k
    · refine ⟨_, rfl, _, _, _, _, true, rfl, ClsV.ty _, TyX.base (TyOf.bl _), kit_ty (by decide +kernel), _, rfl, iteT ?_⟩
      exact ⟨_, rfl, _, _, _, _, true, rfl, ClsV.ty _, TyX.base (TyOf.bl _), kit_ty (by decide +kernel), _, rfl, _, rfl, iteF k⟩
    · exact ⟨_, rfl, _, _, _, _, false, rfl, ClsV.ty _, ty, kt, _, rfl, iteF k⟩
def spListingG (K : PySem.W.Frag) : Sp := fun vs H Q _ => ∃ (x : V) (b : Bool), vs = [x] ∧ Lstg K H x b ∧ ∀ H', Same H H' → Q (.bl b) H'
theorem ok_listingG {f : Addr} {fd : FuncData} (B : Bare mg) (F : Df K mg "is_listing" sListing f fd) : FnOk P w K mg base CX0 1 f fd ["value"] (spListingG K) := by
  refine F.fn.ok scListing (fun vs H Q E h => ?_) (fun cdv A outer s H vs Q E hr h => ?_)
  · obtain ⟨x, b, rfl, _⟩ := h
    rfl
  · obtain ⟨x, b, rfl, ⟨t, ty, kt⟩, k⟩ := h
    refine ⟨_, pss_one (ps_ret (pe_callB call_isiT (by rfl) B.isinstance (by decide +kernel) (pa_cons (pv 0) (pa_cons (pe_tup (pa_cons (pe_bltn (v := .ty "list") (by rfl) B.list (by decide +kernel) rfl)
      (pa_cons (pe_bltn (v := .ty "tuple") (by rfl) B.tuple (by decide +kernel) rfl) pa_nil))) pa_nil)))), ?_⟩
    refine ⟨_, rfl, (by show 2 ≤ sizeLine; decide), fun p hp => ?_⟩
    have s1 : Same H (upd H p (.tup [.ty "list", .ty "tuple"])) := same_new hp
    exact ⟨_, _, _, _, _, b, rfl, upd_same, .cons (ClsV.ty _) (.cons (ClsV.ty _) .nil), tyx_same ty s1, kt, k _ s1⟩
/-! ### the errors -/
/-- the field noted -/
def spENote (C : Addr) (f : Str) : Sp := fun vs H Q _ => ∃ (a : Addr) (x : V), vs = [.ref a, x] ∧ H a = some (exo a C none) ∧ ∀ dx, H dx = none → dx ≠ a → Q .non (upd (upd H dx (exd dx [(f, x)])) a (exo a C (some dx)))
theorem raise_read {C : Addr} {f : Str} {H : Hp} {x : V} {Q : XK} (h : ∀ d, H d = none → Q (.ref C) (some d) (upd H d (.xd [(f, x)]))) : [x].length ≤ 1000 ∧ ∀ a, H a = none → spENote C f (.ref a :: ([x] ++ [])) (upd H a (exo a C none))
    (fun v H2 => v = .non ∧ ∃ (d : Addr) (fs : List (Str × V)), H2 a = some (exo a C (some d)) ∧ H2 d = some (exd d fs) ∧ H d = none ∧ Q (.ref C) (some d) (upd (del H2 a) d (.xd fs))) (fun _ _ _ => False) := by
  refine ⟨by show 1 ≤ 1000; decide, fun a ha => ⟨a, x, rfl, upd_same, fun dx hdx ne => ⟨rfl, dx, [(f, x)], upd_same, ?_, ?_, ?_⟩⟩⟩
  · rw [upd_ne ne, upd_same]
  · rw [upd_ne ne] at hdx
    exact hdx
  · have hd : H dx = none := by
      rw [upd_ne ne] at hdx
      exact hdx
    have e : upd (del (upd (upd (upd H a (exo a C none)) dx (exd dx [(f, x)])) a (exo a C (some dx))) a) dx (.xd [(f, x)]) = upd H dx (.xd [(f, x)]) := by
      funext b
      by_cases h1 : b = dx
      · rw [h1, upd_same, upd_same]
      · rw [upd_ne h1, upd_ne h1]
        by_cases h2 : b = a
        · rw [h2, del_same, ha]
        · rw [del_ne h2, upd_ne h2, upd_ne h1, upd_ne h2]
    rw [e]
    exact h dx hd
/-- what is known of an error's class -/
structure Er (P : Program) (w : World) (K : PySem.W.Frag) (mg : Str → Option Value) (base : Heap) (x : Str) (C : Addr) (B newId initId : String) (bmB : List Value) (f : Str) (fI : Addr) (dI : FuncData) : Prop where
  Fa : ExcBaseFacts B newId initId bmB
  T : OexG K C newId bmB
  g : mg x = some (.ref C)
  iC : PySem.W.findIn K (.ref C) "__init__" = some (some (.ref fI))
  tI : PySem.W.typeIn K (.ref fI) = some (.type "function")
  ok : FnOk P w K mg base CX0 1 fI dI ["self", f] (spENote C f)
  b : Binds K dI ["self", f] []
theorem pass00 {X : Cx} : Passes CX0 X (fun _ _ _ => False) := fun _ _ _ _ _ _ _ h => h.elim
abbrev sESize : Stmt := inClass (top 3) 0
abbrev sELetters : Stmt := inClass (top 4) 0
abbrev sEGreat : Stmt := inClass (top 15) 0
theorem scESize : FnScope ["self", "value"] ["self", "value"] (defScope sESize) := ⟨rfl, rfl, rfl, by decide +kernel, rfl, by decide +kernel, by decide +kernel⟩
theorem scELetters : FnScope ["self", "place"] ["self", "place"] (defScope sELetters) := ⟨rfl, rfl, rfl, by decide +kernel, rfl, by decide +kernel, by decide +kernel⟩
theorem scEGreat : FnScope ["self", "most"] ["self", "most"] (defScope sEGreat) := ⟨rfl, rfl, rfl, by decide +kernel, rfl, by decide +kernel, by decide +kernel⟩
theorem ok_esize {fI C : Addr} {dI : FuncData} (F : Fun K "__init__" "BadSize.__init__" sESize fI dI) (T : OexG K C "ValueError.__new__" bmV) (no : PySem.W.findIn K (.ref C) "value" = some none) : FnOk P w K mg base CX0 1 fI dI ["self", "value"] (spENote C "value") := by
  refine F.ok scESize (fun vs H Q E h => ?_) (fun cdv A outer s H vs Q E hr h => ?_)
  · obtain ⟨a, x, rfl, _⟩ := h
    rfl
  · obtain ⟨a, x, rfl, ha, k⟩ := h
    exact ⟨_, pss_one (ps_note rfl (pv 0) (pv 1)), _, rfl, _, rfl, a, C, _, _, rfl, T, no, ha, fun dx h1 h2 => k dx h1 h2⟩
theorem ok_eletters {fI C : Addr} {dI : FuncData} (F : Fun K "__init__" "BadLetters.__init__" sELetters fI dI) (T : OexG K C "ValueError.__new__" bmV) (no : PySem.W.findIn K (.ref C) "place" = some none) : FnOk P w K mg base CX0 1 fI dI ["self", "place"] (spENote C "place") := by
  refine F.ok scELetters (fun vs H Q E h => ?_) (fun cdv A outer s H vs Q E hr h => ?_)
  · obtain ⟨a, x, rfl, _⟩ := h
    rfl
  · obtain ⟨a, x, rfl, ha, k⟩ := h
    exact ⟨_, pss_one (ps_note rfl (pv 0) (pv 1)), _, rfl, _, rfl, a, C, _, _, rfl, T, no, ha, fun dx h1 h2 => k dx h1 h2⟩
theorem ok_egreat {fI C : Addr} {dI : FuncData} (F : Fun K "__init__" "TooGreat.__init__" sEGreat fI dI) (T : OexG K C "OverflowError.__new__" bmO) (no : PySem.W.findIn K (.ref C) "most" = some none) : FnOk P w K mg base CX0 1 fI dI ["self", "most"] (spENote C "most") := by
  refine F.ok scEGreat (fun vs H Q E h => ?_) (fun cdv A outer s H vs Q E hr h => ?_)
  · obtain ⟨a, x, rfl, _⟩ := h
    rfl
  · obtain ⟨a, x, rfl, ha, k⟩ := h
    exact ⟨_, pss_one (ps_note rfl (pv 0) (pv 1)), _, rfl, _, rfl, a, C, _, _, rfl, T, no, ha, fun dx h1 h2 => k dx h1 h2⟩
/-! ### sizes -/
def spCkSizeX (K : PySem.W.Frag) (CS : Addr) : Sp := fun vs H Q E => ∃ x : V, vs = [x] ∧ ((Btw K H x 2 6 true ∧ Q .non H) ∨ (Btw K H x 2 6 false ∧ ∀ d, H d = none → E (.ref CS) (some d) (upd H d (.xd [("value", x)]))))
theorem ok_cksizeX {f f1 CS fI : Addr} {fd fd1 dI : FuncData} (N : Nums mg) (F : Df K mg "check_size" sCkSize f fd) (F1 : Df K mg "is_between" sBetween f1 fd1) (b1 : Binds K fd1 ["value", "least", "most"] [])
    (G1 : FnOk P w K mg base CX0 2 f1 fd1 ["value", "least", "most"] (spBetweenG K)) (R : Er P w K mg base "BadSize" CS "ValueError" "ValueError.__new__" "ValueError.__init__" bmV "value" fI dI) : FnOk P w K mg base (L2.CX P w) 3 f fd ["size"] (spCkSizeX K CS) := by
  refine F.fn.okX scCkSize (fun vs H Q E h => ?_) (fun cdv A outer s H vs Q E hr h => ?_)
  · obtain ⟨x, rfl, _⟩ := h
    rfl
  · obtain ⟨x, rfl, h⟩ := h
    obtain ⟨t1, e1⟩ := N.least
    obtain ⟨t2, e2⟩ := N.mostS
    refine ⟨_, pss_one (ps_if (pt_not (pt_val (pe_call G1 hr (by rfl) F1.g F1.fn.kp b1 .nil pass0 (pa_cons (pv 0) (pa_cons (pe_glob (v := .int 2) (by rfl) e1 ⟨_, rfl⟩) (pa_cons (pe_glob (v := .int 6) (by rfl) e2 ⟨_, rfl⟩) pa_nil))))))
      (pss_one (ps_raise rfl (takes_of rfl rfl rfl rfl) (pmk_note R.Fa R.T R.iC R.tI R.ok hr R.b pass00 (by rfl) R.g (pa_cons (pv 0) pa_nil)))) pss_nil), ?_⟩
    rcases h with ⟨hb, k⟩ | ⟨hb, k⟩
    · exact ⟨_, rfl, x, 2, 6, true, rfl, hb, _, rfl, iteF k⟩
    · exact ⟨_, rfl, x, 2, 6, false, rfl, hb, _, rfl, iteT ⟨_, rfl, raise_read k⟩⟩
end
end Lw
/-! Cy. Letters checked, words made: with their refusals. -/
namespace Lw
open PySem L2 LwE LwM
section
variable {P : Program} {w : World} {K : PySem.W.Frag} {mg : Str → Option Value} {base : Heap}
/-- a refusal by the class at C, its field f set to v -/
def Ref1 (C : Addr) (f : Str) (v : V) (H : Hp) (E : XK) : Prop := ∀ H', Same H H' → ∀ d, H' d = none → E (.ref C) (some d) (upd H' d (.xd [(f, v)]))
/-- a list or tuple of the values xs -/
def Sq (H : Hp) (a : Addr) (xs : List V) : Prop := H a = some (.lst xs) ∨ H a = some (.tup xs)
theorem Sq.same {H H' : Hp} {a : Addr} {xs : List V} (h : Sq H a xs) (s : Same H H') : Sq H' a xs := h.elim (fun e => .inl (s _ _ e)) fun e => .inr (s _ _ e)
theorem Sq.lstg {H : Hp} {a : Addr} {xs : List V} (h : Sq H a xs) : Lstg K H (.ref a) true := h.elim lstg_lst lstg_tup
theorem Ref1.same {C : Addr} {f : Str} {v : V} {H H' : Hp} {E : XK} (h : Ref1 C f v H E) (s : Same H H') : Ref1 C f v H' E := fun H2 s2 d hd => h H2 (s.trans s2) d hd
/-- what check_letters does with x: letters of the size, or a refusal -/
def CkL (K : PySem.W.Frag) (CL CG : Addr) (size : Int) (x : V) (H : Hp) (G : Prop) (E : XK) : Prop :=
  (Lstg K H x false ∧ Ref1 CL "place" .non H E) ∨
  ∃ (a : Addr) (xs : List V), x = .ref a ∧ Sq H a xs ∧
    ((40 < xs.length ∧ Ref1 CG "most" (.int 40) H E) ∨
     (xs.length ≤ 40 ∧ ∃ g : Nat → Bool, (∀ i y, xs[i]? = some y → Btw K H y 1 size (g i)) ∧
       (∀ n, n < xs.length → g n = false → (∀ i, i < n → g i = true) → Ref1 CL "place" (.int (n : Nat)) H E) ∧
       ((∀ i, i < xs.length → g i = true) → G)))
def spCkLettersX (K : PySem.W.Frag) (CL CG : Addr) : Sp := fun vs H Q E => ∃ (size : Int) (x : V), vs = [.int size, x] ∧ CkL K CL CG size x H (∀ H', Same H H' → Q .non H') E
theorem ok_ckeltX {f f1 f2 CL CG fL fG : Addr} {fd fd1 fd2 dL dG : FuncData} (B : Bare mg) (N : Nums mg) (F : Df K mg "check_letters" sCkLetters f fd) (F1 : Df K mg "is_between" sBetween f1 fd1) (b1 : Binds K fd1 ["value", "least", "most"] [])
    (G1 : FnOk P w K mg base CX0 2 f1 fd1 ["value", "least", "most"] (spBetweenG K)) (F2 : Df K mg "is_listing" sListing f2 fd2) (b2 : Binds K fd2 ["value"] []) (G2 : FnOk P w K mg base CX0 1 f2 fd2 ["value"] (spListingG K))
    (RL : Er P w K mg base "BadLetters" CL "ValueError" "ValueError.__new__" "ValueError.__init__" bmV "place" fL dL) (RG : Er P w K mg base "TooGreat" CG "OverflowError" "OverflowError.__new__" "OverflowError.__init__" bmO "most" fG dG) :
    FnOk P w K mg base (L2.CX P w) 3 f fd ["size", "letters"] (spCkLettersX K CL CG) := by
  refine F.fn.okX scCkLetters (fun vs H Q E h => ?_) (fun cdv A outer s H vs Q E hr h => ?_)
  · obtain ⟨size, x, rfl, _⟩ := h
    rfl
  · obtain ⟨size, x, rfl, h⟩ := h
    obtain ⟨t3, e3⟩ := N.mostL
    have hr1 : Room 1 _ := hr.mono (by decide)
    rcases h with ⟨hb, k⟩ | ⟨a, xs', rfl, hq | hq, h⟩
    · refine ⟨_, pss_cons (ps_if (pt_not (pt_val (pe_call G2 hr1 (by rfl) F2.g F2.fn.kp b2 .nil pass0 (pa_cons (pv 1) pa_nil))))
          (pss_one (ps_raise rfl (takes_of rfl rfl rfl rfl) (pmk_note RL.Fa RL.T RL.iC RL.tI RL.ok hr RL.b pass00 (by rfl) RL.g (pa_cons pe_non pa_nil)))) pss_nil)
        (pss_cons (ps_if (pt_cmpR op_gt (pe_callB call_len_seq (by rfl) B.len PySem.boot_len (pa_cons (pv 1) pa_nil)) (pe_glob (v := .int 40) (by rfl) e3 ⟨_, rfl⟩) (nomark _))
          (pss_one (ps_raise rfl (takes_of rfl rfl rfl rfl) (pmk_note RG.Fa RG.T RG.iC RG.tI RG.ok hr RG.b pass00 (by rfl) RG.g (pa_cons (pe_glob (v := .int 40) (by rfl) e3 ⟨_, rfl⟩) pa_nil)))) pss_nil)
        (pss_one (ps_for PassesOwn.leaving rfl (pi_enum (by rfl) B.enumerate (pa_cons (pv 1) pa_nil)) (pg_tup rfl (pgs_cons (pg_name (i := 2) scCkLetters.nd rfl (Or.inl rfl)) (pgs_cons (pg_name (i := 3) scCkLetters.nd rfl (Or.inl rfl)) pgs_nil)))
          (pss_one (ps_if (pt_not (pt_val (pe_call G1 hr (by rfl) F1.g F1.fn.kp b1 .nil pass0 (pa_cons (pv 3) (pa_cons pe_int (pa_cons (pv 0) pa_nil))))))
            (pss_one (ps_raise rfl (takes_of rfl rfl rfl rfl) (pmk_note RL.Fa RL.T RL.iC RL.tI RL.ok hr RL.b pass00 (by rfl) RL.g (pa_cons (pv 2) pa_nil)))) pss_nil))))), ?_⟩
      refine ⟨_, rfl, x, false, rfl, hb, fun H1 s1 => ⟨false, rfl, iteT ?_⟩⟩
      exact raise_read (k H1 s1)
    · refine ⟨_, pss_cons (ps_if (pt_not (pt_val (pe_call G2 hr1 (by rfl) F2.g F2.fn.kp b2 .nil pass0 (pa_cons (pv 1) pa_nil))))
          (pss_one (ps_raise rfl (takes_of rfl rfl rfl rfl) (pmk_note RL.Fa RL.T RL.iC RL.tI RL.ok hr RL.b pass00 (by rfl) RL.g (pa_cons pe_non pa_nil)))) pss_nil)
        (pss_cons (ps_if (pt_cmpR op_gt (pe_callB call_len_seq (by rfl) B.len PySem.boot_len (pa_cons (pv 1) pa_nil)) (pe_glob (v := .int 40) (by rfl) e3 ⟨_, rfl⟩) (nomark _))
          (pss_one (ps_raise rfl (takes_of rfl rfl rfl rfl) (pmk_note RG.Fa RG.T RG.iC RG.tI RG.ok hr RG.b pass00 (by rfl) RG.g (pa_cons (pe_glob (v := .int 40) (by rfl) e3 ⟨_, rfl⟩) pa_nil)))) pss_nil)
        (pss_one (ps_for PassesOwn.leaving rfl (pi_enum (by rfl) B.enumerate (pa_cons (pv 1) pa_nil)) (pg_tup rfl (pgs_cons (pg_name (i := 2) scCkLetters.nd rfl (Or.inl rfl)) (pgs_cons (pg_name (i := 3) scCkLetters.nd rfl (Or.inl rfl)) pgs_nil)))
          (pss_one (ps_if (pt_not (pt_val (pe_call G1 hr (by rfl) F1.g F1.fn.kp b1 .nil pass0 (pa_cons (pv 3) (pa_cons pe_int (pa_cons (pv 0) pa_nil))))))
            (pss_one (ps_raise rfl (takes_of rfl rfl rfl rfl) (pmk_note RL.Fa RL.T RL.iC RL.tI RL.ok hr RL.b pass00 (by rfl) RL.g (pa_cons (pv 2) pa_nil)))) pss_nil))))), ?_⟩
      refine ⟨_, rfl, .ref a, true, rfl, lstg_lst hq, fun H1 s1 => ⟨true, rfl, iteF ?_⟩⟩
      refine ⟨_, rfl, a, _, rfl, .inl (SqL.of (s1 _ _ hq)), _, _, rfl, rfl, _, rfl, ?_⟩
      rcases h with ⟨hl, k⟩ | ⟨hl, g, hg, kb, kg⟩
      · rw [show decide ((40 : Int) < ((xs'.length : Nat) : Int)) = true from decide_eq_true (by omega)]
        exact iteT (raise_read (k H1 s1))
      · rw [show decide ((40 : Int) < ((xs'.length : Nat) : Int)) = false from decide_eq_false (by omega)]
        refine iteF ?_
        refine ⟨_, rfl, a, _, rfl, SqL.of (s1 _ _ hq), for_enL (K := K) (a := a) (xs := xs') (fun i σ H2 => ∃ v2 v3 : Option V, σ = [some (.int size), some (.ref a), v2, v3] ∧ Same H H2 ∧ ∀ j, j < i → g j = true) ⟨_, _, rfl, s1, fun j z => absurd z (Nat.not_lt_zero j)⟩
          (fun i σ H2 _ ⟨_, _, _, s2, _⟩ => SqL.of (s2 _ _ hq)) ?_ ?_⟩
        · rintro i y T σ H2 hx ⟨v2, v3, rfl, s2, hj⟩ hT
          refine ⟨T, _, rfl, SqT.of upd_same, rfl, _, _, rfl, _, _, rfl, rfl, ?_⟩
          refine ⟨_, rfl, _, rfl, y, 1, size, g i, rfl, (hg i y hx).same (s2.trans (same_new hT)), _, rfl, ?_⟩
          cases e : g i with
          | true =>
            refine iteF ⟨_, _, rfl, s2.trans (same_new hT), fun j z => ?_⟩
            rcases Nat.lt_or_ge j i with q | q
            · exact hj j q
            · obtain rfl : j = i := by omega
              exact e
          | false => exact iteT ⟨_, rfl, raise_read (kb i (List.getElem?_eq_some_iff.mp hx).1 e hj _ (s2.trans (same_new hT)))⟩
        · rintro σ H2 ⟨v2, v3, rfl, s2, hj⟩
          exact kg hj H2 s2
    · refine ⟨_, pss_cons (ps_if (pt_not (pt_val (pe_call G2 hr1 (by rfl) F2.g F2.fn.kp b2 .nil pass0 (pa_cons (pv 1) pa_nil))))
          (pss_one (ps_raise rfl (takes_of rfl rfl rfl rfl) (pmk_note RL.Fa RL.T RL.iC RL.tI RL.ok hr RL.b pass00 (by rfl) RL.g (pa_cons pe_non pa_nil)))) pss_nil)
        (pss_cons (ps_if (pt_cmpR op_gt (pe_callB call_len_seq (by rfl) B.len PySem.boot_len (pa_cons (pv 1) pa_nil)) (pe_glob (v := .int 40) (by rfl) e3 ⟨_, rfl⟩) (nomark _))
          (pss_one (ps_raise rfl (takes_of rfl rfl rfl rfl) (pmk_note RG.Fa RG.T RG.iC RG.tI RG.ok hr RG.b pass00 (by rfl) RG.g (pa_cons (pe_glob (v := .int 40) (by rfl) e3 ⟨_, rfl⟩) pa_nil)))) pss_nil)
        (pss_one (ps_for PassesOwn.leaving rfl (pi_enT (by rfl) B.enumerate (pa_cons (pv 1) pa_nil)) (pg_tup rfl (pgs_cons (pg_name (i := 2) scCkLetters.nd rfl (Or.inl rfl)) (pgs_cons (pg_name (i := 3) scCkLetters.nd rfl (Or.inl rfl)) pgs_nil)))
          (pss_one (ps_if (pt_not (pt_val (pe_call G1 hr (by rfl) F1.g F1.fn.kp b1 .nil pass0 (pa_cons (pv 3) (pa_cons pe_int (pa_cons (pv 0) pa_nil))))))
            (pss_one (ps_raise rfl (takes_of rfl rfl rfl rfl) (pmk_note RL.Fa RL.T RL.iC RL.tI RL.ok hr RL.b pass00 (by rfl) RL.g (pa_cons (pv 2) pa_nil)))) pss_nil))))), ?_⟩
      refine ⟨_, rfl, .ref a, true, rfl, lstg_tup hq, fun H1 s1 => ⟨true, rfl, iteF ?_⟩⟩
      refine ⟨_, rfl, a, _, rfl, .inr (SqT.of (s1 _ _ hq)), _, _, rfl, rfl, _, rfl, ?_⟩
      rcases h with ⟨hl, k⟩ | ⟨hl, g, hg, kb, kg⟩
      · rw [show decide ((40 : Int) < ((xs'.length : Nat) : Int)) = true from decide_eq_true (by omega)]
        exact iteT (raise_read (k H1 s1))
      · rw [show decide ((40 : Int) < ((xs'.length : Nat) : Int)) = false from decide_eq_false (by omega)]
        refine iteF ?_
        refine ⟨_, rfl, a, _, rfl, SqT.of (s1 _ _ hq), for_enT (K := K) (a := a) (xs := xs') (fun i σ H2 => ∃ v2 v3 : Option V, σ = [some (.int size), some (.ref a), v2, v3] ∧ Same H H2 ∧ ∀ j, j < i → g j = true) ⟨_, _, rfl, s1, fun j z => absurd z (Nat.not_lt_zero j)⟩
          (fun i σ H2 _ ⟨_, _, _, s2, _⟩ => SqT.of (s2 _ _ hq)) ?_ ?_⟩
        · rintro i y T σ H2 hx ⟨v2, v3, rfl, s2, hj⟩ hT
          refine ⟨T, _, rfl, SqT.of upd_same, rfl, _, _, rfl, _, _, rfl, rfl, ?_⟩
          refine ⟨_, rfl, _, rfl, y, 1, size, g i, rfl, (hg i y hx).same (s2.trans (same_new hT)), _, rfl, ?_⟩
          cases e : g i with
          | true =>
            refine iteF ⟨_, _, rfl, s2.trans (same_new hT), fun j z => ?_⟩
            rcases Nat.lt_or_ge j i with q | q
            · exact hj j q
            · obtain rfl : j = i := by omega
              exact e
          | false => exact iteT ⟨_, rfl, raise_read (kb i (List.getElem?_eq_some_iff.mp hx).1 e hj _ (s2.trans (same_new hT)))⟩
        · rintro σ H2 ⟨v2, v3, rfl, s2, hj⟩
          exact kg hj H2 s2
/-! words made -/
/-- the size, then the letters: what Word(sz, x) comes to -/
def CkW (K : PySem.W.Frag) (CS CL CG : Addr) (sz x : V) (H : Hp) (G : Int → Addr → List Int → Prop) (E : XK) : Prop :=
  (Btw K H sz 2 6 false ∧ Ref1 CS "value" sz H E) ∨ ∃ size : Int, sz = .int size ∧ 2 ≤ size ∧ size ≤ 6 ∧
    ((CkL K CL CG size x H False E) ∨ ∃ (a : Addr) (ls : List Int), x = .ref a ∧ Seq H a ls ∧ Ls size ls ∧ G size a ls)
def spInitX (K : PySem.W.Frag) (C CS CL CG : Addr) : Sp := fun vs H Q E => ∃ (p dx : Addr) (sz x : V), vs = [.ref p, sz, x] ∧ H p = some (.ins C dx []) ∧
  CkW K CS CL CG sz x H (fun size a ls => ∀ H', (∀ b o, H b = some o → b ≠ p → H' b = some o) → WAt C H' p size ls → Q .non H') E
theorem ok_initX {f f1 f2 C CS CL CG : Addr} {fd fd1 fd2 : FuncData} (B : Bare mg) (T : Cw K mg C) (F : Fun K "__init__" "Word.__init__" sInit f fd) (F1 : Df K mg "check_size" sCkSize f1 fd1) (b1 : Binds K fd1 ["size"] [])
    (G1 : FnOk P w K mg base (L2.CX P w) 3 f1 fd1 ["size"] (spCkSizeX K CS)) (F2 : Df K mg "check_letters" sCkLetters f2 fd2) (b2 : Binds K fd2 ["size", "letters"] []) (G2 : FnOk P w K mg base (L2.CX P w) 3 f2 fd2 ["size", "letters"] (spCkLettersX K CL CG)) :
    FnOk P w K mg base (L2.CX P w) 4 f fd ["self", "size", "letters"] (spInitX K C CS CL CG) := by
  refine F.okX scInit (fun vs H Q E h => ?_) (fun cdv A outer s H vs Q E hr h => ?_)
  · obtain ⟨p, dx, sz, x, rfl, _⟩ := h
    rfl
  · obtain ⟨p, dx, sz, x, rfl, hp, h⟩ := h
    refine ⟨_, pss_cons (ps_expr (pe_call G1 hr (by rfl) F1.g F1.fn.kp b1 .nil (passes_call (takes_of rfl rfl rfl rfl) (fun _ _ _ _ z => z)) (pa_cons (pv 1) pa_nil)))
      (pss_cons (ps_expr (pe_call G2 hr (by rfl) F2.g F2.fn.kp b2 .nil (passes_call (takes_of rfl rfl rfl rfl) (fun _ _ _ _ z => z)) (pa_cons (pv 1) (pa_cons (pv 2) pa_nil))))
      (pss_cons (ps_fld (pv 0) (pv 1) rfl) (pss_one (ps_fld (pv 0) (pe_callTy call_tuple_of (by rfl) B.tuple (by decide +kernel) (pa_cons (pv 2) pa_nil)) rfl)))), ?_⟩
    rcases h with ⟨hb, k⟩ | ⟨size, rfl, l0, l1, h⟩
    · exact ⟨_, rfl, sz, rfl, .inr ⟨hb, fun d hd => k H (Same.refl H) d hd⟩⟩
    refine ⟨_, rfl, .int size, rfl, .inl ⟨.inl ⟨size, rfl, (decide_eq_true ⟨l0, l1⟩).symm⟩, ?_⟩⟩
    rcases h with h | ⟨a, ls, rfl, hq, L, k⟩
    · refine ⟨_, rfl, _, rfl, size, x, rfl, ?_⟩
      rcases h with ⟨hb, k⟩ | ⟨a, xs, rfl, hq, h⟩
      · exact .inl ⟨hb, k⟩
      · refine .inr ⟨a, xs, rfl, hq, ?_⟩
        rcases h with h | ⟨hl, g, hg, kb, kg⟩
        · exact .inl h
        · exact .inr ⟨hl, g, hg, kb, fun z => (kg z).elim⟩
    · refine ⟨_, rfl, _, rfl, size, .ref a, rfl, .inr ⟨a, nums ls, rfl, hq, .inr ⟨by rw [List.length_map]; exact L.len, fun _ => true, fun i y hy => ?_, fun n _ z => Bool.noConfusion z, fun _ H1 s1 => ?_⟩⟩⟩
      · obtain ⟨z, rfl, _, hz⟩ := nums_get hy
        exact .inl ⟨z, rfl, (decide_eq_true (L.bd z hz)).symm⟩
      refine ⟨_, rfl, _, rfl, p, C, dx, _, rfl, s1 _ _ hp, T.cl, T.nS, (by show 0 < 1000; decide), ?_⟩
      have nap : a ≠ p := hq.elim (fun e => ne_of e hp (by intro z; cases z)) fun e => ne_of e hp (by intro z; cases z)
      have hq2 : Seq (upd H1 p (.ins C dx (putF "size" (.int size) []))) a ls := by
        rcases hq.same s1 with e | e
        · exact .inl (by rw [upd_ne nap]; exact e)
        · exact .inr (by rw [upd_ne nap]; exact e)
      have hp2 : (upd H1 p (.ins C dx (putF "size" (.int size) []))) p = some (.ins C dx (putF "size" (.int size) [])) := upd_same
      have k2 : ∀ b o, H b = some o → b ≠ p → (upd H1 p (.ins C dx (putF "size" (.int size) []))) b = some o := fun b o e h => by
        rw [upd_ne h]
        exact s1 _ _ e
      generalize upd H1 p (.ins C dx (putF "size" (.int size) [])) = H2 at hq2 hp2 k2 ⊢
      rcases hq2 with e | e
      · refine ⟨_, rfl, a, _, rfl, .inl ⟨SqL.of e, fun t ht => ?_⟩⟩
        have npt : p ≠ t := ne_of_none hp2 ht
        refine ⟨_, rfl, p, C, dx, _, rfl, same_new ht _ _ hp2, T.cl, T.nL, (by show 1 < 1000; decide), ?_⟩
        refine k _ (fun b o z h => ?_) ⟨⟨dx, t, upd_same, ?_⟩, L⟩
        · rw [upd_ne h]
          exact same_new ht _ _ (k2 _ _ z h)
        · rw [upd_ne npt.symm, upd_same]
      · refine ⟨_, rfl, a, _, rfl, .inr ⟨SqT.of e, ?_⟩⟩
        refine ⟨_, rfl, p, C, dx, _, rfl, hp2, T.cl, T.nL, (by show 1 < 1000; decide), ?_⟩
        refine k _ (fun b o z h => ?_) ⟨⟨dx, a, upd_same, ?_⟩, L⟩
        · rw [upd_ne h]
          exact k2 _ _ z h
        · rw [upd_ne nap]
          exact e
theorem Btw.sameT {H H' : Hp} {x : V} {lo hi : Int} {b : Bool} (h : Btw K H x lo hi b) (s : Same H H') : Btw K H' x lo hi b := h.same s
theorem CkL.same {CL CG : Addr} {size : Int} {x : V} {H H' : Hp} {G : Prop} {E : XK} (h : CkL K CL CG size x H G E) (s : Same H H') : CkL K CL CG size x H' G E := by
  rcases h with ⟨hb, k⟩ | ⟨a, xs, rfl, hq, h⟩
  · exact .inl ⟨hb.same s, k.same s⟩
  · refine .inr ⟨a, xs, rfl, hq.same s, ?_⟩
    rcases h with ⟨hl, k⟩ | ⟨hl, g, hg, kb, kg⟩
    · exact .inl ⟨hl, k.same s⟩
    · exact .inr ⟨hl, g, fun i y hy => (hg i y hy).same s, fun n h1 h2 h3 => (kb n h1 h2 h3).same s, kg⟩
/-- a word made, or a refusal -/
theorem madeX {C CS CL CG : Addr} {H : Hp} {Q : VK} {E : XK} {sz v : V} (h : CkW K CS CL CG sz v H (fun size a ls => ∀ x H', Same H H' → H x = none → WAt C H' x size ls → Q (.ref x) H') E) :
    ∀ x dx, H x = none → H dx = none → dx ≠ x → spInitX K C CS CL CG (.ref x :: ([sz, v] ++ [])) (upd (upd H dx (.own x)) x (.ins C dx [])) (fun u H2 => u = .non ∧ Q (.ref x) H2) E := fun x dx nx ndx ne => by
  have s2 : Same H (upd (upd H dx (.own x)) x (.ins C dx [])) := fun b o e => by
    rw [upd_ne (ne_of_none e nx), upd_ne (ne_of_none e ndx)]
    exact e
  refine ⟨x, dx, sz, v, rfl, upd_same, ?_⟩
  rcases h with ⟨hb, k⟩ | ⟨size, rfl, l0, l1, h⟩
  · exact .inl ⟨hb.same s2, k.same s2⟩
  · refine .inr ⟨size, rfl, l0, l1, ?_⟩
    rcases h with h | ⟨a, ls, rfl, hq, L, k⟩
    · exact .inl (h.same s2)
    · exact .inr ⟨a, ls, rfl, hq.same s2, L, fun H' kp W => ⟨rfl, k x H' (Same.made nx ndx kp) nx W⟩⟩
end
end Lw
/-! Lk. What was told, held against what is due, by their texts. -/
namespace LwE
open PySem PySem.Spec PyProof.Rows L2
/-- plain data, or an empty dict -/
inductive Dv (K : PySem.W.Frag) (H : Hp) : V → PyData → Prop where
  | dp {v : V} {d : PyData} (h : Dp K H v d) (n : d.hasDict = false) : Dv K H v d
  | emp {a : Addr} (e : H a = some (.dK [])) : Dv K H (.ref a) (.dict [])
theorem sqL_same {K : PySem.W.Frag} {H H' : Hp} {a : Addr} {xs : List V} (h : SqL K H a xs) (s : Same H H') : SqL K H' a xs :=
  h.elim (fun z => z.elim (fun e => .inl (.inl (s _ _ e))) fun ⟨o, e⟩ => .inl (.inr ⟨o, s _ _ e⟩)) .inr
theorem sqT_same {K : PySem.W.Frag} {H H' : Hp} {a : Addr} {xs : List V} (h : SqT K H a xs) (s : Same H H') : SqT K H' a xs :=
  h.elim (fun z => z.elim (fun e => .inl (.inl (s _ _ e))) fun ⟨o, e⟩ => .inl (.inr ⟨o, s _ _ e⟩)) .inr
mutual
theorem Dp.same {K : PySem.W.Frag} {H H' : Hp} (s : Same H H') : ∀ (d : PyData) (v : V), Dp K H v d → Dp K H' v d
  | .none, _, h => by cases h; exact .non
  | .bool b, _, h => by cases h; exact .bl b
  | .int i, _, h => by cases h; exact .int i
  | .str x, _, h => by cases h; exact .str x
  | .list ds, _, h => by
    cases h with
    | lst q r => exact .lst (sqL_same q s) (DpAll.same s ds _ r)
  | .tuple ds, _, h => by
    cases h with
    | tup q r => exact .tup (sqT_same q s) (DpAll.same s ds _ r)
  | .dict ds, _, h => by cases h
theorem DpAll.same {K : PySem.W.Frag} {H H' : Hp} (s : Same H H') : ∀ (ds : List PyData) (vs : List V), DpAll K H vs ds → DpAll K H' vs ds
  | [], _, h => by cases h; exact .nil
  | d :: ds, _, h => by
    cases h with
    | cons a b => exact .cons (Dp.same s d _ a) (DpAll.same s ds _ b)
end
theorem Dv.same {K : PySem.W.Frag} {H H' : Hp} {v : V} {d : PyData} (h : Dv K H v d) (s : Same H H') : Dv K H' v d := by
  cases h with
  | dp h n => exact .dp (Dp.same s _ _ h) n
  | emp e => exact .emp (s _ _ e)
section
variable {X : Cx} {pins : List (Addr × Obj)} {σ : L2.St} {H : Hp} {s : Shared}
theorem Dv.reads (I : Inv X pins σ H s) {v : V} {d : PyData} {u : Value} (h : Dv X.K H v d) (r : RelV v u) : ∃ as, Reads s.heap u d as ∧ (d.hasDict = true → sysModules ∉ as) := by
  cases h with
  | dp h n =>
    obtain ⟨as, q⟩ := Dp.reads I d v u h r
    exact ⟨as, q, fun z => by rw [n] at z; cases z⟩
  | @emp a e =>
    obtain rfl : u = Value.ref a := r
    obtain ⟨_, ns, vs, kv, o, es, ep, e1, ex, ed, _, pr, _⟩ := I.hok a _ e
    cases kv
    have z : es.toList = [] := by
      generalize es.toList = l at pr
      cases pr
      rfl
    refine ⟨_, Reads.dict e1 ex.1 ed (by rw [z]; exact .nil) (by rw [z]; exact .nil), fun _ m => ?_⟩
    have m' : sysModules ∈ [a] := by simpa using m
    rw [← List.mem_singleton.mp m'] at ns
    simp at ns
/-- repr of (text, x) -/
def rReprT (K : PySem.W.Frag) : List V → Hp → VK → Prop := fun xs H Q => ∃ (p : Addr) (c : Str) (v : V) (d : PyData), xs = [V.ref p] ∧ H p = some (.tup [.str c, v]) ∧ Dv K H v d ∧ (PyData.tuple [.str c, d]).showable = true ∧ d.depth ≤ 8 ∧
  (PyData.tuple [.str c, d]).shown.length ≤ sizeLine ∧ Q (.str (PyData.tuple [.str c, d]).shown) H
theorem call_reprT (hg : X.A.guards = some []) (hu : X.A.units + 64 < cLine) : CallR X (.builtin "repr") (rReprT X.K) := by
  intro pins s σ H xs us Q I r h
  obtain ⟨p, c, v, d, rfl, hp, hv, h1, h3, h4, q⟩ := h
  obtain ⟨u, rfl, ru⟩ := vals1 r
  obtain rfl : u = Value.ref p := ru
  obtain ⟨its, rv, ⟨o, e1, e2, n, e3⟩, _⟩ := I.tuple (SqT.of (K := X.K) hp)
  cases rv with
  | @cons _ u1 _ _ r1 rv =>
  cases rv with
  | @cons _ u2 _ _ r2 rv =>
  cases rv
  obtain ⟨t, rfl⟩ := r1
  obtain ⟨as, rd, nm⟩ := hv.reads I r2
  have R : Reads s.heap (.ref p) (.tuple [.str c, d]) _ := Reads.tuple e1 e2 e3 (.cons (Reads.str c t) (.cons rd .nil))
  have hd : (PyData.tuple [.str c, d]).depth ≤ 10 := by
    simp only [PyData.depth, PyData.depthAll]
    omega
  refine repr_of_reads' R h1 (fun z m => ?_) hg (by omega) (fun b o e => e) (fun h' t tk kp => ?_) h4
  · have z' : d.hasDict = true := by simpa [PyData.hasDict, PyData.hasDictAll] using z
    exact nm z' (by simpa using m)
  · exact ⟨.str (PyData.tuple [.str c, d]).shown, H, I.kept kp, ⟨_, rfl⟩, q⟩
end
end LwE
namespace Lw
open PySem L2 LwE LwM
section
variable {P : Program} {w : World} {K : PySem.W.Frag} {mg : Str → Option Value} {base : Heap}
/-! the law's looks -/
theorem dep_ints (l : List Int) : PyData.depthAll (l.map PyData.int) = 0 := (lay_nums l).2
theorem kit_word {C : Addr} : PySem.W.kitOne K (.ref C) (.ref C) = some true := by
  unfold PySem.W.kitOne
  simp
theorem tyw {C : Addr} {H : Hp} {p : Addr} {size : Int} {ls : List Int} (T : Cw K mg C) (W : WAt C H p size ls) : TyX K H (.ref p) (.ref C) :=
  let ⟨_, _, e, _⟩ := W.ob
  .base (.ins e T.cl T.ca T.cn T.ct T.cm)
def spIsWord (C : Addr) : Sp := fun vs H Q _ => ∃ (a b : Addr) (size : Int) (l : List Int), vs = [.ref a, .int size, .ref b] ∧ WAt C H a size l ∧ H b = some (.lst (nums l)) ∧ ∀ H', Same H H' → Q (.bl true) H'
theorem scIsWord : FnScope ["told", "size", "letters"] ["told", "size", "letters"] (defScope sIsWord) := ⟨rfl, rfl, rfl, by decide +kernel, rfl, by decide +kernel, by decide +kernel⟩
def spLike (K : PySem.W.Frag) : Sp := fun vs H Q _ => ∃ (p q : Addr) (c : Str) (v v' : V) (d : PyData), vs = [.ref p, .ref q] ∧ H p = some (.tup [.str c, v]) ∧ H q = some (.tup [.str c, v']) ∧ Dv K H v d ∧ Dv K H v' d ∧
  (PyData.tuple [.str c, d]).showable = true ∧ d.depth ≤ 8 ∧ (PyData.tuple [.str c, d]).shown.length ≤ sizeLine ∧ Q (.bl true) H
theorem scLike : FnScope ["told", "due"] ["told", "due"] (defScope sLike) := ⟨rfl, rfl, rfl, by decide +kernel, rfl, by decide +kernel, by decide +kernel⟩
theorem ok_like {f : Addr} {fd : FuncData} (B : Bare mg) (F : Df K mg "_law_like" sLike f fd) : FnG P w K mg base 1 f fd ["told", "due"] (spLike K) := by
  refine okG F.fn scLike (fun vs H Q E h => ?_) (fun cdv A outer s H vs Q E hg hr h => ?_)
  · obtain ⟨p, q, c, v, v', d, rfl, _⟩ := h
    rfl
  · obtain ⟨p, q, c, v, v', d, rfl, hp, hq, d1, d2, h1, h2, h3, k⟩ := h
    refine ⟨_, pss_one (ps_ret (pe_cmpR op_eq (pe_callB (call_reprT (by exact hg) hr.units) (by rfl) B.repr (by decide +kernel) (pa_cons (pv 0) pa_nil))
      (pe_callB (call_reprT (by exact hg) hr.units) (by rfl) B.repr (by decide +kernel) (pa_cons (pv 1) pa_nil)) (nomark _))), ?_⟩
    refine ⟨_, rfl, p, c, v, d, rfl, hp, d1, h1, h2, h3, ?_⟩
    refine ⟨_, rfl, q, c, v', d, rfl, hq, d2, h1, h2, h3, ?_⟩
    refine ⟨rfl, ?_⟩
    rw [decide_eq_true rfl]
    exact k
theorem ok_isword {f C : Addr} {fd : FuncData} (B : Bare mg) (T : Cw K mg C) (F : Df K mg "_law_is_word" sIsWord f fd) : FnG P w K mg base 1 f fd ["told", "size", "letters"] (spIsWord C) := by
  refine okG F.fn scIsWord (fun vs H Q E h => ?_) (fun cdv A outer s H vs Q E hg hr h => ?_)
  · obtain ⟨a, b, size, l, rfl, _⟩ := h
    rfl
  · obtain ⟨a, b, size, l, rfl, W, hb, k⟩ := h
    obtain ⟨dx, t, h1, h2⟩ := W.ob
    refine ⟨_, pss_one (ps_ret (pe_and (pe_callB call_isi (by rfl) B.isinstance (by decide +kernel) (pa_cons (pv 0) (pa_cons (pe_glob (v := .ref C) (by rfl) T.mgC rfl) pa_nil)))
      (pe_one (pe_cmpR op_eq (pe_callB (call_reprS (by exact hg) hr.units) (by rfl) B.repr (by decide +kernel) (pa_cons (pe_tup (pa_cons (pe_fld (pv 0) rfl) (pa_cons (pe_fld (pv 0) rfl) pa_nil))) pa_nil))
        (pe_callB (call_reprS (by exact hg) hr.units) (by rfl) B.repr (by decide +kernel) (pa_cons (pe_tup (pa_cons (pv 1) (pa_cons (pe_callTy call_tuple_of (by rfl) B.tuple (by decide +kernel) (pa_cons (pv 2) pa_nil)) pa_nil))) pa_nil)) (nomark _))))), ?_⟩
    have ls := W.ls
    have s0 := ls.s0
    have s1 := ls.s1
    have sm : smD (.tuple [.int size, .tuple (l.map PyData.int)]) = true := by
      have := sm_ints l fun x hx => by have := ls.bd x hx; omega
      have h2 : size.natAbs ≤ 100000 := by omega
      simp [smD, smA, this, h2]
    have wt : wtD (.tuple [.int size, .tuple (l.map PyData.int)]) ≤ 1000000 := by
      have := wt_ints l
      have := ls.len
      simp only [wtD, wtA]
      omega
    have dp : (PyData.tuple [.int size, .tuple (l.map PyData.int)]).depth ≤ 8 := by
      have := dep_ints l
      simp [PyData.depth, PyData.depthAll, this]
    refine ⟨_, rfl, _, _, .ref C, .ref C, true, rfl, ClsV.own C, tyw T W, kit_word, true, rfl, iteT ?_⟩
    refine ⟨_, rfl, a, C, dx, _, _, rfl, h1, T.cl, T.nS, wf_size _ _, _, rfl, a, C, dx, _, _, rfl, h1, T.cl, T.nL, wf_letters _ _, (by show 2 ≤ sizeLine; decide), fun p hp => ?_⟩
    have s1 : Same H (upd H p (.tup [.int size, .ref t])) := same_new hp
    have ep : (upd H p (.tup [.int size, .ref t])) p = some (.tup [.int size, .ref t]) := upd_same
    generalize upd H p (.tup [.int size, .ref t]) = H1 at s1 ep ⊢
    refine ⟨p, _, rfl, .tup (SqT.of ep) (.cons (.int size) (.cons (.tup (SqT.of (s1 _ _ h2)) (dp_nums l)) .nil)), sm, dp, wt, ?_⟩
    refine ⟨_, rfl, _, rfl, b, _, rfl, .inl ⟨SqL.of (s1 _ _ hb), fun u hu => ⟨(by show 2 ≤ sizeLine; decide), fun q hq => ?_⟩⟩⟩
    have s2 : Same H1 (upd H1 u (.tup (nums l))) := same_new hu
    have eu : (upd H1 u (.tup (nums l))) u = some (.tup (nums l)) := upd_same
    generalize upd H1 u (.tup (nums l)) = H2 at s2 eu hq ⊢
    have s3 : Same H2 (upd H2 q (.tup [.int size, .ref u])) := same_new hq
    have eq : (upd H2 q (.tup [.int size, .ref u])) q = some (.tup [.int size, .ref u]) := upd_same
    generalize upd H2 q (.tup [.int size, .ref u]) = H3 at s3 eq ⊢
    refine ⟨q, _, rfl, .tup (SqT.of eq) (.cons (.int size) (.cons (.tup (SqT.of (s3 _ _ eu)) (dp_nums l)) .nil)), sm, dp, wt, rfl, ?_⟩
    rw [decide_eq_true rfl]
    exact k H3 ((s1.trans s2).trans s3)
end
end Lw
/-! Odd. Values that are no letters. -/
namespace Lw
open PySem L2 LwE LwM LamX
/-- all but the dict, its great cells and the tables stands -/
def KeepT (m g : Addr) (H H' : Hp) : Prop := ∀ b o, H b = some o → b ≠ m → b ≠ g → (∀ ps, o ≠ .tbl ps) → H' b = some o
theorem KeepT.refl (m g : Addr) (H : Hp) : KeepT m g H H := fun _ _ e _ _ _ => e
theorem KeepT.trans {m g : Addr} {H H1 H2 : Hp} (a : KeepT m g H H1) (b : KeepT m g H1 H2) : KeepT m g H H2 := fun x o e h1 h2 h3 => b x o (a x o e h1 h2 h3) h1 h2 h3
theorem KeepT.k {m g : Addr} {H H1 : Hp} (a : Keep m g H H1) : KeepT m g H H1 := fun x o e h1 h2 _ => a x o e h1 h2
theorem KeepT.n {m g : Addr} {H H1 : Hp} (a : ExtN H H1) : KeepT m g H H1 := fun x o e _ _ h => a x o e h
theorem KeepT.s {m g : Addr} {H H1 : Hp} (a : Same H H1) : KeepT m g H H1 := fun x o e _ _ _ => a x o e
theorem Dr.extN {H H' : Hp} {m g c : Addr} {n : Int} (d : Dr H m g c n) (e : ExtN H H') : Dr H' m g c n := by
  obtain ⟨a, ⟨cs, b1, b2⟩, ⟨gs, c1, c2⟩, ne, n0⟩ := d
  exact ⟨e _ _ a (fun ps z => by cases z), ⟨cs, b1, e _ _ b2 (fun ps z => by cases z)⟩, ⟨gs, c1, e _ _ c2 (fun ps z => by cases z)⟩, ne, n0⟩
theorem tabs_keep {T : List (Addr × Str)} {H H' : Hp} {m g c : Addr} {n : Int} (t : Tabs T H) (d : Dr H m g c n) (k : Keep m g H H') : Tabs T H' := fun p hp => by
  obtain ⟨ps, h1, h2, h3⟩ := t p hp
  obtain ⟨gs, _, eg⟩ := d.hg
  refine ⟨ps, k _ _ h1 (ne_of h1 d.hm (by intro z; cases z)) (ne_of h1 eg (by intro z; cases z)), h2, fun pos cv hc => ?_⟩
  obtain ⟨cc, e1, e2⟩ := h3 pos cv hc
  exact ⟨cc, e1, k _ _ e2 (ne_of e2 d.hm (by intro z; unfold CodeO at z; cases z)) (ne_of e2 eg (by intro z; unfold CodeO at z; cases z))⟩
/-- a value that is no letter -/
inductive OddV (m g : Addr) (H : Hp) (size : Int) : V → Prop where
  | int {i : Int} (h : ¬ (1 ≤ i ∧ i ≤ size)) : OddV m g H size (.int i)
  | non : OddV m g H size .non
  | str (z : Str) : OddV m g H size (.str z)
  | bl (b : Bool) : OddV m g H size (.bl b)
  | ref {a : Addr} {o : HO} (e : H a = some o) (k : o = .tup [.int 1] ∨ o = .lst [.int 1] ∨ o = .dK []) (h1 : a ≠ m) (h2 : a ≠ g) : OddV m g H size (.ref a)
theorem OddV.keep {m g : Addr} {H H' : Hp} {size : Int} {v : V} (h : OddV m g H size v) (k : KeepT m g H H') : OddV m g H' size v := by
  cases h with
  | int h => exact .int h
  | non => exact .non
  | str z => exact .str z
  | bl b => exact .bl b
  | ref e q h1 h2 => exact .ref (k _ _ e h1 h2 (fun ps z => by subst z; rcases q with q | q | q <;> cases q)) q h1 h2
theorem OddV.btw {K : PySem.W.Frag} {m g : Addr} {H : Hp} {size : Int} {v : V} (h : OddV m g H size v) : Btw K H v 1 size false := by
  cases h with
  | int h => exact .inl ⟨_, rfl, (decide_eq_false h).symm⟩
  | non => exact .inr (.inr ⟨rfl, _, .base .non, kit_ty (by decide +kernel)⟩)
  | str z => exact .inr (.inr ⟨rfl, _, .base (.str z), kit_ty (by decide +kernel)⟩)
  | bl b => exact .inr (.inl ⟨b, rfl, rfl⟩)
  | ref e q h1 h2 =>
    rcases q with rfl | rfl | rfl
    · exact .inr (.inr ⟨rfl, _, .base (.tup e), kit_ty (by decide +kernel)⟩)
    · exact .inr (.inr ⟨rfl, _, .base (.lst e), kit_ty (by decide +kernel)⟩)
    · exact .inr (.inr ⟨rfl, _, .base (.dK e), kit_ty (by decide +kernel)⟩)
section
variable {P : Program} {w : World} {K : PySem.W.Frag} {mg : Str → Option Value} {base : Heap}
def spOdd : Sp := fun vs H Q _ => ∃ (m g c : Addr) (n size : Int), vs = [.ref m, .int size] ∧ Dr H m g c n ∧ n ≤ 100000 ∧ 2 ≤ size ∧ size ≤ 6 ∧
  ∀ (v : V) (H' : Hp), OddV m g H' size v → Dr H' m g c (n + 1) → Keep m g H H' → Q v H'
theorem scOdd : FnScope ["m", "size", "some"] ["m", "size"] (defScope sOdd) := ⟨rfl, rfl, rfl, by decide +kernel, rfl, by decide +kernel, by decide +kernel⟩
theorem pow30 : (100000 : Int) < (10 : Int) ^ (30 : Int).toNat := by decide +kernel
theorem at_any {xs : List V} {z : Int} {k : Nat} (h0 : 0 ≤ z) (h1 : z < (k : Nat)) (hk : xs.length = k) : ∃ v, atI xs z = some v ∧ v ∈ xs := by
  have hj : z.toNat < xs.length := by omega
  refine ⟨xs[z.toNat], ?_, List.getElem_mem hj⟩
  exact at_of (j := z.toNat) (by omega) (by simp [hj])
theorem ok_odd {f f1 : Addr} {fd fd1 : FuncData} (F : Df K mg "_law_odd" sOdd f fd) (F1 : Df K mg "_law_draw" sDraw f1 fd1) (b1 : Binds K fd1 ["m", "limit"] [])
    (G1 : FnOk P w K mg base CX0 2 f1 fd1 ["m", "limit"] spDraw) : FnOk P w K mg base CX0 3 f fd ["m", "size"] spOdd := by
  refine F.fn.ok scOdd (fun vs H Q E h => ?_) (fun cdv A outer s H vs Q E hr h => ?_)
  · obtain ⟨m, g, c, n, size, rfl, _⟩ := h
    rfl
  · obtain ⟨m, g, c, n, size, rfl, d, hn, l0, l1, k⟩ := h
    refine ⟨_, pss_cons (ps_set (i := 2) scOdd.nd rfl (Or.inl rfl) (pe_lst (pa_cons pe_int (pa_cons (pe_op op_add (pv 1) pe_int) (pa_cons (pe_op op_sub pe_int (pv 1)) (pa_cons pe_non (pa_cons pe_str (pa_cons pe_bl (pa_cons pe_bl
        (pa_cons (pe_tup (pa_cons pe_int pa_nil)) (pa_cons (pe_lst (pa_cons pe_int pa_nil)) (pa_cons pe_dnewK (pa_cons (pe_op op_pow pe_int pe_int) (pa_cons pe_str (pa_cons (pe_un un_neg (pe_op op_pow pe_int pe_int)) pa_nil)))))))))))))))
      (pss_one (ps_ret (pe_ix ix_list (pv 2) (pe_call G1 hr (by rfl) F1.g F1.fn.kp b1 .nil pass0 (pa_cons (pv 0) (pa_cons pe_int pa_nil))) (fun _ _ => rfl)))), ?_⟩
    refine ⟨_, rfl, _, _, rfl, rfl, _, rfl, _, _, rfl, rfl, (by show 1 ≤ sizeLine; decide), fun t ht => ⟨(by show 1 ≤ sizeLine; decide), fun u hu => fun e he => ?_⟩⟩
    have s1 : Same H (upd H t (.tup [.int 1])) := same_new ht
    have e1 : (upd H t (.tup [.int 1])) t = some (.tup [.int 1]) := upd_same
    generalize upd H t (.tup [.int 1]) = H1 at s1 e1 hu he ⊢
    have s2 : Same H1 (upd H1 u (.lst [.int 1])) := same_new hu
    have e2 : (upd H1 u (.lst [.int 1])) u = some (.lst [.int 1]) := upd_same
    generalize upd H1 u (.lst [.int 1]) = H2 at s2 e2 he ⊢
    have s3 : Same H2 (upd H2 e (.dK [])) := same_new he
    have e3 : (upd H2 e (.dK [])) e = some (.dK []) := upd_same
    have off : ∀ {q : Addr} {X : Hp}, Same H X → X q = none → q ≠ m ∧ q ≠ g := fun {q X} sm hq => by
      obtain ⟨gs, _, eg⟩ := d.hg
      exact ⟨fun z => (ne_of_none (sm _ _ d.hm) hq) z.symm, fun z => (ne_of_none (sm _ _ eg) hq) z.symm⟩
    have ot := off (Same.refl H) ht
    have ou := off s1 hu
    have oe := off (s1.trans s2) he
    generalize upd H2 e (.dK []) = H3 at s3 e3 ⊢
    refine ⟨_, _, rfl, rfl, (by show (0 : Int) ≤ 30 ∧ (30 : Int) ≤ 1000000 ∧ (10 : Int).natAbs < 2 ^ 64; decide), _, _, rfl, rfl, (by show (0 : Int) ≤ 30 ∧ (30 : Int) ≤ 1000000 ∧ (10 : Int).natAbs < 2 ^ 64; decide), _, rfl, (by show 13 ≤ sizeLine; decide), fun p hp => ?_⟩
    have sp := (s1.trans s2).trans s3
    have s4 := same_new (o := .lst [.int 0, .int (size + 1), .int (0 - size), .non, .str "1", .bl true, .bl false, .ref t, .ref u, .ref e, .int (10 ^ (30 : Int).toNat), .str "", .int (-(10 ^ (30 : Int).toNat))]) hp
    have e4 : (upd H3 p (.lst [.int 0, .int (size + 1), .int (0 - size), .non, .str "1", .bl true, .bl false, .ref t, .ref u, .ref e, .int (10 ^ (30 : Int).toNat), .str "", .int (-(10 ^ (30 : Int).toNat))])) p = some _ := upd_same
    have op := off sp hp
    refine ⟨_, rfl, _, rfl, m, g, c, n, 13, rfl, d.same (sp.trans s4), hn, by decide, by decide, fun z H5 z0 z1 d5 k5 => ?_⟩
    have e5 := k5 _ _ e4 op.1 op.2
    obtain ⟨v, hv, hm⟩ := at_any (xs := [.int 0, .int (size + 1), .int (0 - size), .non, .str "1", .bl true, .bl false, .ref t, .ref u, .ref e, .int (10 ^ (30 : Int).toNat), .str "", .int (-(10 ^ (30 : Int).toNat))]) (k := 13) z0 z1 rfl
    refine ⟨p, _, z, v, rfl, rfl, SqL.of e5, hv, k v H5 ?_ d5 ((Keep.of (sp.trans s4)).trans k5)⟩
    have big := pow30
    have tt := k5 _ _ (s4 _ _ ((s2.trans s3) _ _ e1)) ot.1 ot.2
    have uu := k5 _ _ (s4 _ _ (s3 _ _ e2)) ou.1 ou.2
    have ee := k5 _ _ (s4 _ _ e3) oe.1 oe.2
    simp only [List.mem_cons, List.not_mem_nil, or_false] at hm
    rcases hm with rfl | rfl | rfl | rfl | rfl | rfl | rfl | rfl | rfl | rfl | rfl | rfl | rfl
    · exact .int (by omega)
    · exact .int (by omega)
    · exact .int (by omega)
    · exact .non
    · exact .str _
    · exact .bl _
    · exact .bl _
    · exact .ref tt (.inl rfl) ot.1 ot.2
    · exact .ref uu (.inr (.inl rfl)) ou.1 ou.2
    · exact .ref ee (.inr (.inr rfl)) oe.1 oe.2
    · refine .int fun h => ?_
      have := Int.lt_of_lt_of_le big h.2
      omega
    · exact .str _
    · refine .int fun h => ?_
      have := Int.lt_of_lt_of_le (show (0 : Int) < 1 by decide) h.1
      have : (0 : Int) < 10 ^ (30 : Int).toNat := Int.lt_trans (by decide) big
      omega
end
end Lw
/-! Rv. Values that are no sizes, no lists; refusals heard; a def whose code object is known. -/
namespace LwE
open PySem PySem.Spec PyProof.Rows L2
/-- a list against a tuple -/
def rLT (K : PySem.W.Frag) : R2 := fun x y H Q => ∃ a b xs ys, x = .ref a ∧ y = .ref b ∧ SqL K H a xs ∧ SqT K H b ys ∧ Q (.bl false) H
theorem op_eqLT {X : Cx} (hu : X.A.units < cLine) : OpR X (compareOp .Eq) (rLT X.K) := by
  intro pins s σ H x y v u Q I rx ry h
  obtain ⟨a, b, xs, ys, rfl, rfl, h1, h2, q⟩ := h
  obtain rfl : v = Value.ref a := rx
  obtain rfl : u = Value.ref b := ry
  obtain ⟨i1, _, ⟨o, n, e, c, _, dd⟩, _⟩ := I.list h1
  obtain ⟨i2, _, p2, _⟩ := I.tuple h2
  exact SeqAt.RcAt.list_tuple (items := i1.toArray) (items2 := i2.toArray) ⟨o, e, c, n, dd⟩ p2 hu _ _ _ _ ⟨.bl false, H, I, rfl, q⟩
/-- two values of which one is a list, one a tuple; or both plain data -/
theorem op_or {X : Cx} {f : Value → Value → Sem Value} {r r' : R2} (h : OpR X f r) (h' : OpR X f r') : OpR X f fun x y H Q => r x y H Q ∨ r' x y H Q := by
  intro pins s σ H x y v u Q I rx ry hq
  rcases hq with q | q
  · exact h pins s σ H x y v u Q I rx ry q
  · exact h' pins s σ H x y v u Q I rx ry q
/-- a def whose code object stands at c -/
structure FunR (K : PySem.W.Frag) (x qual : Str) (st : Stmt) (c f : Addr) (fd : FuncData) : Prop where
  ex : ∃ (oc : Value) (od : Option Addr) (kV doc pm : Value) (an : Option Addr) (ct : Value) (osl : Array (Option Value)),
    fd = PySem.W.fnOf x qual (defArgs st) (defBody st) (defScope st) .none kV doc pm an (.ref c) ct ∧ K.lookup f = some ⟨oc, od, .func fd, osl⟩ ∧ PySem.W.codeIn K (.ref c) qual = true
  kp : PySem.W.keepIn K (.ref f) = true
theorem FunR.fn {K : PySem.W.Frag} {x qual : Str} {st : Stmt} {c f : Addr} {fd : FuncData} (F : FunR K x qual st c f fd) : Fun K x qual st f fd :=
  ⟨let ⟨oc, od, kV, doc, pm, an, ct, osl, h⟩ := F.ex; ⟨oc, od, kV, doc, pm, an, .ref c, ct, osl, h⟩, F.kp⟩
section
variable {P : Program} {w : World} {K : PySem.W.Frag} {mg : Str → Option Value} {base : Heap}
theorem okGR {x qual : Str} {st : Stmt} {c f : Addr} {fd : FuncData} {N ps : List Str} {k : Nat} {sp : Sp} (F : FunR K x qual st c f fd) (S : FnScope N ps (defScope st)) (len : ∀ vs H Q E, sp vs H Q E → vs.length = ps.length)
    (hbody : ∀ (A : Around) (outer : List Env) (s : Shared) (H : Hp) (vs : List V) (Q : VK) (E : XK), A.guards = some [] → Room k (A.deeper (PyProof.Rows.envOfC qual (defScope st) s.heap.objs.size f (.ref c))) → sp vs H Q E →
      ∃ t, PSs (cxOf CX0 P w K mg base N qual (defScope st) f (.ref c) A outer s H E).nox (defBody st) t ∧ t { nx := fun _ H' => Q .non H', rt := Q } (L2.start N vs) H) : FnG P w K mg base (k + 1) f fd ps sp := by
  obtain ⟨oc, od, kV, doc, pm, an, ct, osl, rfl, lk, hcd⟩ := F.ex
  refine ⟨len, fun A outer s H args us vs Q E hg hr e0 hb r h => ?_⟩
  have old : ∀ b o, base.get? b = some o → s.heap.get? b = some o := fun b o e => (e0.bs b o e).1
  have Ks : K.In s.heap := e0.mod.kin.keeps old
  have free : s.heap.NoLimit := e0.mod.nolimit.keeps old
  have kinds : ∀ y ∈ ps.zip us, (defScope st).names.lookup y.1 = some .local ∨
      ((defScope st).names.lookup y.1 = some .cell ∧ ((cellsFrom (s.heap.objs.size + 1) (defScope st).names []).lookup y.1).isSome = true) := by
    rintro ⟨n, v⟩ hy
    rcases S.par n (List.of_mem_zip hy).1 with z | z
    · exact .inl z
    · exact .inr ⟨z, PySem.W.cellsFrom_some _ _ _ (.inl z)⟩
  refine codeAny_call_function hr.depth (Ks _ _ lk) rfl S.co S.gen rfl (PySem.W.codeRec_of Ks hcd) (hb _ _ _ _ ?_)
  refine wpAny_newFunctionEnv_cells S.kind kinds fun env eq s1 entry => ?_
  subst eq
  refine ⟨free.keeps entry.toInCall.keep, codeAny_func ?_⟩
  obtain ⟨t, ht, q⟩ := hbody A outer s H vs Q E hg (hr.deeper _) h
  have I := inv_start (CX := CX0) (E := E) S hr.hd e0 (len _ _ _ _ h) r entry
  refine wpAny_mono (ht.nox.run [] s1 (L2.start N vs) H _ I q) (fun fl s' z => ?_) fun _ _ z => z
  cases fl with
  | brk =>
    obtain ⟨_, _, _, z⟩ := z
    exact z.elim
  | cont =>
    obtain ⟨_, _, _, z⟩ := z
    exact z.elim
  | next =>
    obtain ⟨σ', H', J, z⟩ := z
    exact ⟨.non, H', J.os, J.bare, J.base, J.hok, rfl, z⟩
  | ret u =>
    obtain ⟨v, σ', H', J, rv, z⟩ := z
    exact ⟨v, H', J.os, J.bare, J.base, J.hok, rv, z⟩
end
end LwE
namespace Lw
open PySem L2 LwE LwM LamX
/-- what is refused comes back as a word and its field -/
theorem rf_ref {K : PySem.W.Frag} {e : Eca} {k : Kd} {H : Hp} {v : V} {Q : VK} (E : Ek K e k) (q : ∀ p H', Same H H' → H' p = some (.tup [.str k.word, v]) → Q (.ref p) H') : Ref1 (e.of k) k.field v H (Rf K e Q) :=
  fun H1 s1 d hd => ⟨k, d, v, E, rfl, rfl, upd_same, fun p H2 s2 hp => q p H2 ((s1.trans (same_new hd)).trans s2) hp⟩
/-- a value that is no size, and its text -/
inductive OddS (m g : Addr) (H : Hp) : V → PyData → Prop where
  | int {i : Int} (h : ¬ (2 ≤ i ∧ i ≤ 6)) (b : i.natAbs ≤ 10 ^ 40) : OddS m g H (.int i) (.int i)
  | non : OddS m g H .non .none
  | str : OddS m g H (.str "3") (.str "3")
  | bl : OddS m g H (.bl true) (.bool true)
  | tup {a : Addr} (e : H a = some (.tup [.int 3])) (h1 : a ≠ m) (h2 : a ≠ g) : OddS m g H (.ref a) (.tuple [.int 3])
  | lst {a : Addr} (e : H a = some (.lst [.int 3])) (h1 : a ≠ m) (h2 : a ≠ g) : OddS m g H (.ref a) (.list [.int 3])
  | emp {a : Addr} (e : H a = some (.dK [])) (h1 : a ≠ m) (h2 : a ≠ g) : OddS m g H (.ref a) (.dict [])
theorem OddS.keep {m g : Addr} {H H' : Hp} {v : V} {d : PyData} (h : OddS m g H v d) (k : KeepT m g H H') : OddS m g H' v d := by
  cases h with
  | int h b => exact .int h b
  | non => exact .non
  | str => exact .str
  | bl => exact .bl
  | tup e h1 h2 => exact .tup (k _ _ e h1 h2 (fun ps z => by cases z)) h1 h2
  | lst e h1 h2 => exact .lst (k _ _ e h1 h2 (fun ps z => by cases z)) h1 h2
  | emp e h1 h2 => exact .emp (k _ _ e h1 h2 (fun ps z => by cases z)) h1 h2
theorem OddS.btw {K : PySem.W.Frag} {m g : Addr} {H : Hp} {v : V} {d : PyData} (h : OddS m g H v d) : Btw K H v 2 6 false := by
  cases h with
  | int h b => exact .inl ⟨_, rfl, (decide_eq_false h).symm⟩
  | non => exact .inr (.inr ⟨rfl, _, .base .non, kit_ty (by decide +kernel)⟩)
  | str => exact .inr (.inr ⟨rfl, _, .base (.str _), kit_ty (by decide +kernel)⟩)
  | bl => exact .inr (.inl ⟨_, rfl, rfl⟩)
  | tup e h1 h2 => exact .inr (.inr ⟨rfl, _, .base (.tup e), kit_ty (by decide +kernel)⟩)
  | lst e h1 h2 => exact .inr (.inr ⟨rfl, _, .base (.lst e), kit_ty (by decide +kernel)⟩)
  | emp e h1 h2 => exact .inr (.inr ⟨rfl, _, .base (.dK e), kit_ty (by decide +kernel)⟩)
theorem OddS.dv {K : PySem.W.Frag} {m g : Addr} {H : Hp} {v : V} {d : PyData} (h : OddS m g H v d) : Dv K H v d := by
  cases h with
  | int h b => exact .dp (.int _) rfl
  | non => exact .dp .non rfl
  | str => exact .dp (.str _) rfl
  | bl => exact .dp (.bl _) rfl
  | tup e h1 h2 => exact .dp (.tup (SqT.of e) (.cons (.int 3) .nil)) (by simp [PyData.hasDict, PyData.hasDictAll])
  | lst e h1 h2 => exact .dp (.lst (SqL.of e) (.cons (.int 3) .nil)) (by simp [PyData.hasDict, PyData.hasDictAll])
  | emp e h1 h2 => exact .emp e
theorem log_40 : (10 : Nat) ^ 40 < 2 ^ 133 := by decide +kernel
theorem log_big (i : Int) (h : i.natAbs ≤ 10 ^ 40) : i.natAbs.log2 < 133 := by
  rcases Nat.eq_zero_or_pos i.natAbs with z | z
  · rw [z]
    decide
  · exact (Nat.log2_lt (Nat.ne_of_gt z)).mpr (Nat.lt_of_le_of_lt h log_40)
theorem OddS.txt {m g : Addr} {H : Hp} {v : V} {d : PyData} (h : OddS m g H v d) : d.showable = true ∧ d.depth ≤ 8 ∧ d.shown.length ≤ 1000 := by
  cases h with
  | @int i h b =>
    have h1 := log_big i b
    have h2 := PySem.int_text_length_le (by decide : 0 < 133) h1
    refine ⟨?_, by simp [PyData.depth], ?_⟩
    · simp only [PyData.showable, decide_eq_true_eq]
      omega
    · simp only [PyData.shown]
      show (Str.ofString (toString i)).length ≤ 1000
      rw [PySem.ofString_length]
      omega
  | non => exact ⟨rfl, by simp [PyData.depth], by simp only [PyData.shown]; decide⟩
  | str => exact ⟨rfl, by simp [PyData.depth], by simp only [PyData.shown]; decide +kernel⟩
  | bl => exact ⟨rfl, by simp [PyData.depth], by simp only [PyData.shown]; decide +kernel⟩
  | tup e h1 h2 =>
    obtain ⟨a, _, c⟩ := sm_all (.tuple [.int 3]) (by simp [smD, smA])
    refine ⟨a, by simp [PyData.depth, PyData.depthAll], Nat.le_trans c ?_⟩
    simp [wtD, wtA]
  | lst e h1 h2 =>
    obtain ⟨a, _, c⟩ := sm_all (.list [.int 3]) (by simp [smD, smA])
    refine ⟨a, by simp [PyData.depth, PyData.depthAll], Nat.le_trans c ?_⟩
    simp [wtD, wtA]
  | emp e h1 h2 => exact ⟨by simp [PyData.showable, PyData.showableKv], by simp [PyData.depth, PyData.depthKv], by simp only [PyData.shown, PyData.shownKv]; decide +kernel⟩
/-- the text of a word and a value -/
theorem txt_of {c : Str} {d : PyData} (h : d.showable = true) (hl : d.shown.length ≤ 1000) (hc : (reprText c).length ≤ 100) : (PyData.tuple [.str c, d]).showable = true ∧ (PyData.tuple [.str c, d]).shown.length ≤ sizeLine := by
  refine ⟨by simp [PyData.showable, PyData.showableAll, h], ?_⟩
  simp only [PyData.shown, PyData.shownAll]
  have := tupleText_le [reprText c, d.shown]
  rw [piled_cons, piled_cons, piled_nil] at this
  rw [sizeLine_eq]
  omega
/-- a value that is no list, no tuple -/
inductive OddO (m g : Addr) (H : Hp) : V → Prop where
  | int (i : Int) : OddO m g H (.int i)
  | non : OddO m g H .non
  | str (z : Str) : OddO m g H (.str z)
  | bl (b : Bool) : OddO m g H (.bl b)
  | dict {a : Addr} {kvs : List (Key × V)} (e : H a = some (.dK kvs)) (h1 : a ≠ m) (h2 : a ≠ g) : OddO m g H (.ref a)
theorem OddO.keep {m g : Addr} {H H' : Hp} {v : V} (h : OddO m g H v) (k : KeepT m g H H') : OddO m g H' v := by
  cases h with
  | int i => exact .int i
  | non => exact .non
  | str z => exact .str z
  | bl b => exact .bl b
  | dict e h1 h2 => exact .dict (k _ _ e h1 h2 (fun ps z => by cases z)) h1 h2
theorem lstg_not {K : PySem.W.Frag} {H : Hp} {v : V} {T : String} (ty : TyX K H v (.type T)) (h1 : PySem.W.kitOne K (.type T) (.type "list") = some false) (h2 : PySem.W.kitOne K (.type T) (.type "tuple") = some false) : Lstg K H v false :=
  ⟨_, ty, kitAny_cons (b := false) h1 (fun _ => kitAny_cons (b := false) h2 (fun _ => rfl) fun z => by cases z) fun z => by cases z⟩
theorem OddO.lstg {K : PySem.W.Frag} {m g : Addr} {H : Hp} {v : V} (h : OddO m g H v) : Lstg K H v false := by
  cases h with
  | int i => exact lstg_not (.base (.int i)) (kit_ty (by decide +kernel)) (kit_ty (by decide +kernel))
  | non => exact lstg_not (.base .non) (kit_ty (by decide +kernel)) (kit_ty (by decide +kernel))
  | str z => exact lstg_not (.base (.str z)) (kit_ty (by decide +kernel)) (kit_ty (by decide +kernel))
  | bl b => exact lstg_not (.base (.bl b)) (kit_ty (by decide +kernel)) (kit_ty (by decide +kernel))
  | dict e h1 h2 => exact lstg_not (.base (.dK e)) (kit_ty (by decide +kernel)) (kit_ty (by decide +kernel))
end Lw
/-! Rf. What is no word is refused. -/
namespace LwE
open PySem PySem.Spec PyProof.Rows L2 LamX Lw
/-- _law_heard(lambda: ..) -/
theorem pe_heard {X : Cx} {fH c Pt : Addr} {dH : FuncData} {k : Nat} {e : Eca} {params : Arguments} {body : Expr} {scope : Scope} {t : XK → TE} {p lpos pos : Pos} (EC : Ec X.K X.mg e) (FH : Df X.K X.mg "_law_heard" sHeard fH dH) (bH : L2.Binds X.K dH ["call"] [])
    (TB : TabB X.base X.mg c Pt) (hcode : X.env.code = .ref c) (hr : Room (k + 2) X.A) (hg : Gl X "_law_heard") (L : LamS X.env.scope scope) (hdef : defaultsOf params X.env = ([], []))
    (hbind : ∀ (q : Str) (cl : List (Str × Addr)) (pm cv ctv : Value), bindArgs (PySem.W.kla_fn "<lambda>" q params body scope cl pm cv ctv) ⟨[], []⟩ = pure [])
    (hbody : ∀ (A : Around) (outer : List Env) (s : Shared) (H : Hp) (E : XK) (f c' : Addr), Room k (A.deeper (lamEnv X scope s.heap.objs.size f c')) → PE (lamCx X A outer s H E scope f c') body (t E)) :
    PE X (.Call (.Name "_law_heard" p) [.Lambda params body scope lpos] [] pos) (tLam [(Pt, X.env.qual ++ "<lambda>")] (TTheard X.K e) t) := by
  obtain ⟨oc, od, kV, doc, pm, an, cdv, ct, osl, rfl, lk, hcd⟩ := FH.fn.ex
  exact pe_lamcall (a := "call") hg FH.g FH.fn.kp lk hcd bH scHeard rfl (Or.inl rfl) (heard_gives EC) TB hcode (List.mem_singleton.mpr rfl) (fun p hp _ => by rw [List.mem_singleton.mp hp]) hr L hdef hbind hbody (by decide +kernel) (by decide +kernel) (by decide +kernel)
end LwE
namespace Lw
open PySem L2 LwE LwM LamX
/-- the makers of words, refusals and all -/
structure InX (P : Program) (w : World) (K : PySem.W.Frag) (mg : Str → Option Value) (base : Heap) (C CS CL CG : Addr) (fI : Addr) (dI : FuncData) : Prop where
  m : Mk K C fI
  ok : FnOk P w K mg base (L2.CX P w) 4 fI dI ["self", "size", "letters"] (spInitX K C CS CL CG)
  b : Binds K dI ["self", "size", "letters"] []
abbrev rTup (K : PySem.W.Frag) : List V → Hp → VK → Prop := fun xs H Q => ∃ p ys, xs = [V.ref p] ∧ ((SqL K H p ys ∧ ∀ (l : Addr), H l = none → Q (V.ref l) (upd H l (HO.tup ys))) ∨ SqT K H p ys ∧ Q (V.ref p) H)
def lamQ : Str := (PyProof.Rows.envOfC "_law_refused_right" (defScope sRefused) 0 0 .none).qual ++ "<lambda>"
/-- what the law's test reads -/
structure OwR (P : Program) (w : World) (K : PySem.W.Frag) (mg : Str → Option Value) (base : Heap) (e : Eca) (fH fD fO fK : Addr) (dH dD dO dK : FuncData) : Prop where
  ec : Ec K mg e
  kS : Ek K e .size
  kL : Ek K e .letters
  kG : Ek K e .great
  gH : Df K mg "_law_heard" sHeard fH dH
  bH : Binds K dH ["call"] []
  gD : Df K mg "_law_draw" sDraw fD dD
  D : FnOk P w K mg base CX0 2 fD dD ["m", "limit"] spDraw
  bD : Binds K dD ["m", "limit"] []
  gO : Df K mg "_law_odd" sOdd fO dO
  O : FnOk P w K mg base CX0 3 fO dO ["m", "size"] spOdd
  bO : Binds K dO ["m", "size"] []
  gK : Df K mg "_law_like" sLike fK dK
  K_ : FnG P w K mg base 1 fK dK ["told", "due"] (spLike K)
  bK : Binds K dK ["told", "due"] []
section
variable {P : Program} {w : World} {K : PySem.W.Frag} {mg : Str → Option Value} {base : Heap} {e : Eca} {fH fD fO fK fI C c0 Pt : Addr} {dH dD dO dK dI : FuncData}
def spRefused (Pt : Addr) : Sp := fun vs H Q _ => ∃ (m g c a : Addr) (n size : Int) (l : List Int), vs = [.ref m, .int size, .ref a] ∧ Dr H m g c n ∧ n ≤ 90000 ∧ H a = some (.lst (nums l)) ∧ a ≠ m ∧ a ≠ g ∧ Ls size l ∧ Tabs [(Pt, lamQ)] H ∧
  ∀ (n' : Int) (H' : Hp), n ≤ n' → n' ≤ n + 10 → Dr H' m g c n' → KeepT m g H H' → Tabs [(Pt, lamQ)] H' → Q (.bl true) H'
theorem scRefused : FnScope ["m", "size", "letters", "odd", "other", "wrong", "many", "at", "bent"] ["m", "size", "letters"] (defScope sRefused) := ⟨rfl, rfl, rfl, by decide +kernel, rfl, by decide +kernel, by decide +kernel⟩
theorem pow40 : (10 : Int) ^ (40 : Int).toNat = 10 ^ 40 := rfl
theorem ttl {c : Str} {v : V} {H : Hp} {q : Addr} (h : H q = none) : Same H (upd H q (.tup [.str c, v])) ∧ (upd H q (.tup [.str c, v])) q = some (.tup [.str c, v]) := ⟨same_new h, upd_same⟩
theorem eqv_non (c : Str) : PyData.eqv (.tuple [.str c, .none]) (.tuple [.str c, .none]) = true := by simp [PyData.eqv, PyData.eqvAll]
theorem eqv_int (c : Str) (i : Int) : PyData.eqv (.tuple [.str c, .int i]) (.tuple [.str c, .int i]) = true := by simp [PyData.eqv, PyData.eqvAll]
theorem shaped_non (c : Str) (hc : PyData.strOk c = true) : SeqAt.shaped (.tuple [.str c, .none]) = true := by
  unfold SeqAt.shaped
  simp [PyData.canLay0, PyData.canLayAll0, PyData.depth, PyData.depthAll, hc]
theorem shaped_int (c : Str) (i : Int) (hc : PyData.strOk c = true) : SeqAt.shaped (.tuple [.str c, .int i]) = true := by
  unfold SeqAt.shaped
  simp [PyData.canLay0, PyData.canLayAll0, PyData.depth, PyData.depthAll, hc]
/-- the row with the wrong one put in -/
def bentV (l : List Int) (v : V) (k : Nat) : List V := (((nums (l.take k) ++ [v]) ++ nums (l.drop k)) ++ [V.non]).take 40
theorem bent_at (l : List Int) (v : V) (k : Nat) (hk : k ≤ l.length) {i : Nat} {y : V} (h : (bentV l v k)[i]? = some y) : (i ≠ k ∧ i ≤ l.length ∧ ∃ z ∈ l, y = .int z) ∨ (i = k ∧ y = v) ∨ (i = l.length + 1 ∧ y = .non) := by
  unfold bentV at h
  rw [List.getElem?_take] at h
  split at h
  · have lt : (nums (l.take k)).length = k := by rw [List.length_map, List.length_take]; omega
    have ld : (nums (l.drop k)).length = l.length - k := by rw [List.length_map, List.length_drop]
    rw [List.getElem?_append] at h
    split at h
    · rename_i h1
      rw [List.length_append, List.length_append, lt, ld] at h1
      simp only [List.length_singleton] at h1
      rw [List.getElem?_append] at h
      split at h
      · rename_i h2
        rw [List.length_append, lt] at h2
        simp only [List.length_singleton] at h2
        rw [List.getElem?_append] at h
        split at h
        · rename_i h3
          rw [lt] at h3
          obtain ⟨z, e, _, hz⟩ := nums_get h
          exact .inl ⟨by omega, by omega, z, List.mem_of_mem_take hz, e⟩
        · rename_i h3
          rw [lt] at h3 h
          have e : i = k := by omega
          subst e
          simp at h
          exact .inr (.inl ⟨rfl, h.symm⟩)
      · rename_i h2
        rw [List.length_append, lt] at h2
        simp only [List.length_singleton] at h2
        obtain ⟨z, e, _, hz⟩ := nums_get h
        exact .inl ⟨by omega, by omega, z, List.mem_of_mem_drop hz, e⟩
    · rename_i h1
      rw [List.length_append, List.length_append, lt, ld] at h1
      simp only [List.length_singleton] at h1
      have hi := (List.getElem?_eq_some_iff.mp h).1
      rw [List.length_append, List.length_append, lt, ld] at hi
      simp only [List.length_singleton] at hi
      have e : i = l.length + 1 := by omega
      rw [List.length_append, List.length_append, lt, ld] at h
      simp only [List.length_singleton] at h
      rw [show i - (k + 1 + (l.length - k)) = 0 by omega] at h
      exact .inr (.inr ⟨e, (Option.some.inj h).symm⟩)
  · cases h
theorem cut_takeV (xs : List V) (n : Nat) : cutV xs none (some (n : Int)) = xs.take n := by
  unfold cutV
  have e : HT.sIx xs.length xs.length (some (n : Int)) = min n xs.length := HT.sIx_nat xs.length xs.length n
  rw [HT.sIx_none, e, Nat.sub_zero, List.drop_zero]
  exact List.take_eq_take_min.symm
theorem bent_len (l : List Int) (v : V) (k : Nat) : (bentV l v k).length ≤ 40 := by
  unfold bentV
  rw [List.length_take]
  omega
theorem bent_lt (l : List Int) (v : V) (k : Nat) (hk : k ≤ l.length) (h : k < 40) : k < (bentV l v k).length := by
  unfold bentV
  rw [List.length_take, List.length_append, List.length_append, List.length_append, List.length_map, List.length_map, List.length_take, List.length_drop]
  simp only [List.length_singleton]
  omega
theorem bent_all (l : List Int) (v : V) (h : l.length = 40) : bentV l v 40 = nums l := by
  unfold bentV
  have e1 : l.take 40 = l := by rw [← h]; exact List.take_length
  have e2 : l.drop 40 = [] := by rw [← h]; exact List.drop_length
  rw [e1, e2]
  have e3 : (nums l).length = 40 := by rw [List.length_map]; exact h
  rw [List.append_assoc, List.append_assoc, List.take_append_of_le_length (by omega)]
  rw [← e3]
  exact List.take_length
/-- a word made, or a refusal: the maker's question at x -/
theorem madeY {C CS CL CG x dx : Addr} {H : Hp} {Q : VK} {E : XK} {sz v : V} (nx : H x = none) (ndx : H dx = none) (h : CkW K CS CL CG sz v H (fun size a ls => ∀ H', Same H H' → WAt C H' x size ls → Q .non H') E) :
    spInitX K C CS CL CG (.ref x :: ([sz, v] ++ [])) (upd (upd H dx (.own x)) x (.ins C dx [])) Q E := by
  have s2 : Same H (upd (upd H dx (.own x)) x (.ins C dx [])) := fun b o e => by
    rw [upd_ne (ne_of_none e nx), upd_ne (ne_of_none e ndx)]
    exact e
  refine ⟨x, dx, sz, v, rfl, upd_same, ?_⟩
  rcases h with ⟨hb, k⟩ | ⟨size, rfl, l0, l1, h⟩
  · exact .inl ⟨hb.same s2, k.same s2⟩
  · refine .inr ⟨size, rfl, l0, l1, ?_⟩
    rcases h with h | ⟨a, ls, rfl, hq, L, k⟩
    · exact .inl (h.same s2)
    · exact .inr ⟨a, ls, rfl, hq.same s2, L, fun H' kp W => k H' (Same.made nx ndx kp) W⟩
set_option maxHeartbeats 4000000 in
theorem ok_refused {f : Addr} {fd : FuncData} (B : Bare mg) (T : Cw K mg C) (F : FunR K "_law_refused_right" "_law_refused_right" sRefused c0 f fd) (TB : TabB base mg c0 Pt) (I : InX P w K mg base C (e.of .size) (e.of .letters) (e.of .great) fI dI)
    (O : OwR P w K mg base e fH fD fO fK dH dD dO dK) : FnG P w K mg base 8 f fd ["m", "size", "letters"] (spRefused Pt) := by
  refine okGR F scRefused (fun vs H Q E h => ?_) (fun A outer s H vs Q E hg hr h => ?_)
  · obtain ⟨m, g, c, a, n, size, l, rfl, _⟩ := h
    rfl
  · obtain ⟨m, g, c, a, n, size, l, rfl, d, hn, ha, am, ag, L, hT, k⟩ := h
    have hr1 : Room 1 _ := hr.mono (by decide)
    have hr2 : Room 2 _ := hr.mono (by decide)
    have hr3 : Room 3 _ := hr.mono (by decide)
    refine ⟨_, pss_cons (ps_set (i := 3) scRefused.nd rfl (Or.inr rfl) (pe_ix ix_list (pe_lst (pa_cons pe_int (pa_cons pe_int (pa_cons pe_int (pa_cons (pe_un un_neg pe_int) (pa_cons pe_non (pa_cons pe_str (pa_cons pe_bl
          (pa_cons (pe_tup (pa_cons pe_int pa_nil)) (pa_cons (pe_lst (pa_cons pe_int pa_nil)) (pa_cons pe_dnewK (pa_cons (pe_op op_pow pe_int pe_int) pa_nil))))))))))))
        (pe_call O.D hr2 (by rfl) O.gD.g O.gD.fn.kp O.bD .nil pass0 (pa_cons (pv 0) (pa_cons pe_int pa_nil))) (fun _ _ => rfl)))
      (pss_cons (ps_if (pt_not (pt_val (pe_callG (by exact hg) O.K_ hr1 (by rfl) O.gK.g O.gK.fn.kp O.bK
          (pa_cons (pe_heard (k := 5) (X := (cxOf CX0 P w K mg base ["m", "size", "letters", "odd", "other", "wrong", "many", "at", "bent"] "_law_refused_right" (defScope sRefused) f (.ref c0) A outer s H E).nox) O.ec O.gH O.bH TB rfl hr (by rfl) (lamS_by (sc := defScope sRefused) (by decide +kernel)) rfl (fun _ _ _ _ _ => rfl)
              (fun A' outer' s' H' E' f' c' hr' => pe_make (E := E') I.m I.ok hr' (by rfl) T.mgC I.b .nil (passes_call (takes_of rfl rfl rfl rfl) (fun _ _ _ _ z => z)) (pa_cons (pv 3) (pa_cons pe_non pa_nil))))
            (pa_cons (pe_tup (pa_cons pe_str (pa_cons (pv 3) pa_nil))) pa_nil))))) (pss_one (ps_ret pe_bl)) pss_nil)
      (pss_cons (ps_set (i := 4) scRefused.nd rfl (Or.inr rfl) (pe_ix ix_list (pe_lst (pa_cons pe_non (pa_cons pe_int (pa_cons pe_str (pa_cons pe_dnewK (pa_cons pe_bl (pa_cons (pe_disp (pps_cons pe_int pe_int pps_nil) rfl rfl (by decide) (by decide)) (pa_cons (pe_op op_pow pe_int pe_int) pa_nil))))))))
        (pe_call O.D hr2 (by rfl) O.gD.g O.gD.fn.kp O.bD .nil pass0 (pa_cons (pv 0) (pa_cons pe_int pa_nil))) (fun _ _ => rfl)))
      (pss_cons (ps_if (pt_cmpR (op_neD hr.units)
          (pe_heard (k := 5) (X := (cxOf CX0 P w K mg base ["m", "size", "letters", "odd", "other", "wrong", "many", "at", "bent"] "_law_refused_right" (defScope sRefused) f (.ref c0) A outer s H E).nox) O.ec O.gH O.bH TB rfl hr (by rfl) (lamS_by (sc := defScope sRefused) (by decide +kernel)) rfl (fun _ _ _ _ _ => rfl)
              (fun A' outer' s' H' E' f' c' hr' => pe_make (E := E') I.m I.ok hr' (by rfl) T.mgC I.b .nil (passes_call (takes_of rfl rfl rfl rfl) (fun _ _ _ _ z => z)) (pa_cons (pv 1) (pa_cons (pv 4) pa_nil))))
          (pe_tup (pa_cons pe_str (pa_cons pe_non pa_nil))) (nomark _)) (pss_one (ps_ret pe_bl)) pss_nil)
      (pss_cons (ps_set (i := 5) scRefused.nd rfl (Or.inl rfl) (pe_call O.O hr3 (by rfl) O.gO.g O.gO.fn.kp O.bO .nil pass0 (pa_cons (pv 0) (pa_cons (pv 1) pa_nil))))
      (pss_cons (ps_set (i := 6) scRefused.nd rfl (Or.inr rfl) (pe_op op_rep (pe_lst (pa_cons (pv 5) pa_nil)) (pe_op op_add pe_int (pe_call O.D hr2 (by rfl) O.gD.g O.gD.fn.kp O.bD .nil pass0 (pa_cons (pv 0) (pa_cons pe_int pa_nil))))))
      (pss_cons (ps_if (pt_cmpR (op_neD hr.units)
          (pe_heard (k := 5) (X := (cxOf CX0 P w K mg base ["m", "size", "letters", "odd", "other", "wrong", "many", "at", "bent"] "_law_refused_right" (defScope sRefused) f (.ref c0) A outer s H E).nox) O.ec O.gH O.bH TB rfl hr (by rfl) (lamS_by (sc := defScope sRefused) (by decide +kernel)) rfl (fun _ _ _ _ _ => rfl)
              (fun A' outer' s' H' E' f' c' hr' => pe_make (E := E') I.m I.ok hr' (by rfl) T.mgC I.b .nil (passes_call (takes_of rfl rfl rfl rfl) (fun _ _ _ _ z => z)) (pa_cons (pv 1) (pa_cons (pe_callTy (T := "tuple") (r := rTup K) call_tuple_of (by rfl) B.tuple (by decide +kernel) (pa_cons (pv 6) pa_nil)) pa_nil))))
          (pe_tup (pa_cons pe_str (pa_cons pe_int pa_nil))) (nomark _)) (pss_one (ps_ret pe_bl)) pss_nil)
      (pss_cons (ps_set (i := 7) scRefused.nd rfl (Or.inl rfl) (pe_call O.D hr2 (by rfl) O.gD.g O.gD.fn.kp O.bD .nil pass0 (pa_cons (pv 0) (pa_cons (pe_op op_add (pe_callB call_len_seq (by rfl) B.len PySem.boot_len (pa_cons (pv 2) pa_nil)) pe_int) pa_nil))))
      (pss_cons (ps_set (i := 8) scRefused.nd rfl (Or.inr rfl) (pe_slice sl_list (pe_op op_cat (pe_op op_cat (pe_op op_cat (pe_slice sl_list (pv 2) po_none (po_some (pv 7))) (pe_lst (pa_cons (pv 5) pa_nil))) (pe_slice sl_list (pv 2) (po_some (pv 7)) po_none)) (pe_lst (pa_cons pe_non pa_nil))) po_none (po_some pe_int)))
      (pss_one (ps_ret (pe_or (pe_cmpR (op_or (op_eqLT (Nat.lt_of_le_of_lt (Nat.le_add_right _ 64) hr.units)) (op_eqD hr.units))
          (pe_heard (k := 5) (X := (cxOf CX0 P w K mg base ["m", "size", "letters", "odd", "other", "wrong", "many", "at", "bent"] "_law_refused_right" (defScope sRefused) f (.ref c0) A outer s H E).nox) O.ec O.gH O.bH TB rfl hr (by rfl) (lamS_by (sc := defScope sRefused) (by decide +kernel)) rfl (fun _ _ _ _ _ => rfl)
              (fun A' outer' s' H' E' f' c' hr' => pe_make (E := E') I.m I.ok hr' (by rfl) T.mgC I.b .nil (passes_call (takes_of rfl rfl rfl rfl) (fun _ _ _ _ z => z)) (pa_cons (pv 1) (pa_cons (pv 8) pa_nil))))
          (pe_tup (pa_cons pe_str (pa_cons (pe_callB (call_min2 rfl) (by rfl) B.min (by decide +kernel) (pa_cons (pv 7) (pa_cons pe_int pa_nil))) pa_nil))) (nomark _))
        (pe_one (pe_cmpR op_gt (pv 7) pe_int (nomark _)))))))))))))), ?_⟩
    have off : ∀ {q : Addr} {n : Int} {X Y : Hp}, Dr X m g c n → Same X Y → Y q = none → q ≠ m ∧ q ≠ g := fun {q n X Y} d sm hq => by
      obtain ⟨gs, _, eg⟩ := d.hg
      exact ⟨fun z => (ne_of_none (sm _ _ d.hm) hq) z.symm, fun z => (ne_of_none (sm _ _ eg) hq) z.symm⟩
    -- odd
    refine ⟨_, rfl, (by show 1 ≤ sizeLine; decide), fun t ht => ⟨(by show 1 ≤ sizeLine; decide), fun u hu => fun e1 he1 => ?_⟩⟩
    have s1 : Same H (upd H t (.tup [.int 3])) := same_new ht
    have et : (upd H t (.tup [.int 3])) t = some (.tup [.int 3]) := upd_same
    generalize upd H t (.tup [.int 3]) = H1 at s1 et hu he1 ⊢
    have s2 : Same H1 (upd H1 u (.lst [.int 3])) := same_new hu
    have eu : (upd H1 u (.lst [.int 3])) u = some (.lst [.int 3]) := upd_same
    generalize upd H1 u (.lst [.int 3]) = H2 at s2 eu he1 ⊢
    have s3 : Same H2 (upd H2 e1 (.dK [])) := same_new he1
    have ee : (upd H2 e1 (.dK [])) e1 = some (.dK []) := upd_same
    have ot := off d (Same.refl H) ht
    have ou := off d s1 hu
    have oe := off d (s1.trans s2) he1
    generalize upd H2 e1 (.dK []) = H3 at s3 ee ⊢
    refine ⟨_, _, rfl, rfl, (by show (0 : Int) ≤ 40 ∧ (40 : Int) ≤ 1000000 ∧ (10 : Int).natAbs < 2 ^ 64; decide), (by show 11 ≤ sizeLine; decide), fun p hp => ?_⟩
    have sp := (s1.trans s2).trans s3
    have s4 := same_new (o := .lst [.int 0, .int 1, .int 7, .int (-2), .non, .str "3", .bl true, .ref t, .ref u, .ref e1, .int (10 ^ (40 : Int).toNat)]) hp
    have e4 : (upd H3 p (.lst [.int 0, .int 1, .int 7, .int (-2), .non, .str "3", .bl true, .ref t, .ref u, .ref e1, .int (10 ^ (40 : Int).toNat)])) p = some _ := upd_same
    have op := off d sp hp
    refine ⟨_, rfl, m, g, c, n, 11, rfl, d.same (sp.trans s4), by omega, by decide, by decide, fun z H5 z0 z1 d5 k5 => ?_⟩
    have e5 := k5 _ _ e4 op.1 op.2
    obtain ⟨v, hv, hm⟩ := at_any (xs := [.int 0, .int 1, .int 7, .int (-2), .non, .str "3", .bl true, .ref t, .ref u, .ref e1, .int (10 ^ (40 : Int).toNat)]) (k := 11) z0 z1 rfl
    refine ⟨p, _, z, v, rfl, rfl, SqL.of e5, hv, ?_⟩
    have V1 : ∃ dv, OddS m g H5 v dv := by
      have tt := k5 _ _ (s4 _ _ ((s2.trans s3) _ _ et)) ot.1 ot.2
      have uu := k5 _ _ (s4 _ _ (s3 _ _ eu)) ou.1 ou.2
      have e' := k5 _ _ (s4 _ _ ee) oe.1 oe.2
      simp only [List.mem_cons, List.not_mem_nil, or_false] at hm
      rcases hm with rfl | rfl | rfl | rfl | rfl | rfl | rfl | rfl | rfl | rfl | rfl
      · exact ⟨_, .int (by decide) (by decide +kernel)⟩
      · exact ⟨_, .int (by decide) (by decide +kernel)⟩
      · exact ⟨_, .int (by decide) (by decide +kernel)⟩
      · exact ⟨_, .int (by decide) (by decide +kernel)⟩
      · exact ⟨_, .non⟩
      · exact ⟨_, .str⟩
      · exact ⟨_, .bl⟩
      · exact ⟨_, .tup tt ot.1 ot.2⟩
      · exact ⟨_, .lst uu ou.1 ou.2⟩
      · exact ⟨_, .emp e' oe.1 oe.2⟩
      · exact ⟨_, .int (by decide +kernel) (by decide +kernel)⟩
    obtain ⟨dv, V1⟩ := V1
    have K5 : Keep m g H H5 := (Keep.of (sp.trans s4)).trans k5
    have T5 : Tabs [(Pt, lamQ)] H5 := tabs_keep hT d K5
    have A5 : H5 a = some (.lst (nums l)) := K5 _ _ ha am ag
    have KT5 : KeepT m g H H5 := .k K5
    -- no size
    refine ⟨T5, fun H6 x6 T6 l1 hl1 => ⟨_, rfl, ?_⟩⟩
    refine fun xx dx nx ndx ne => madeY nx ndx ?_
    refine .inl ⟨(V1.keep ((KeepT.n x6).trans (.s (same_new hl1)))).btw, rf_ref O.kS fun p7 H7 s7 e7 => ?_⟩
    have s67 : Same H6 H7 := (same_new hl1).trans s7
    have d7 := (d5.extN x6).same s67
    have T7 : Tabs [(Pt, lamQ)] H7 := T6.ext s67
    have KT7 : KeepT m g H H7 := (KT5.trans (.n x6)).trans (.s s67)
    have V7 := V1.keep ((KeepT.n x6).trans (.s s67))
    refine ⟨_, rfl, (by show 2 ≤ sizeLine; decide), fun q hq => ?_⟩
    obtain ⟨s8, e8⟩ := ttl (c := "size") (v := v) hq
    generalize upd H7 q (.tup [.str "size", v]) = H8 at s8 e8 ⊢
    have V8 := V7.keep (.s s8)
    have tx := txt_of (c := "size") V8.txt.1 V8.txt.2.2 (by decide +kernel)
    refine ⟨p7, q, "size", v, v, dv, rfl, s8 _ _ e7, e8, V8.dv, V8.dv, tx.1, V8.txt.2.1, tx.2, ?_⟩
    refine ⟨true, rfl, iteF ?_⟩
    have d8 := d7.same s8
    have T8 : Tabs [(Pt, lamQ)] H8 := T7.ext s8
    have KT8 : KeepT m g H H8 := KT7.trans (.s s8)
    -- other
    refine fun e2 he2 p1 hp1 => ⟨upd_same, [(.inl 1, .int 2)], rfl, (by decide), ?_⟩
    have s9 : Same H8 (upd H8 e2 (.dK [])) := same_new he2
    have e9 : (upd H8 e2 (.dK [])) e2 = some (.dK []) := upd_same
    have oe2 := off d8 (Same.refl H8) he2
    generalize upd H8 e2 (.dK []) = H9 at s9 e9 hp1 ⊢
    have s11 : Same H9 (upd (upd H9 p1 (.dK [])) p1 (.dK (mergeK [] [(.inl 1, .int 2)]))) := fun b o z => by
      rw [upd_ne (ne_of_none z hp1), upd_ne (ne_of_none z hp1)]
      exact z
    have e11 : (upd (upd H9 p1 (.dK [])) p1 (.dK (mergeK [] [(.inl 1, .int 2)]))) p1 = some (.dK (mergeK [] [(.inl 1, .int 2)])) := upd_same
    have op1 := off d8 s9 hp1
    generalize upd (upd H9 p1 (.dK [])) p1 (.dK (mergeK [] [(.inl 1, .int 2)])) = H11 at s11 e11 ⊢
    refine ⟨_, _, rfl, rfl, (by show (0 : Int) ≤ 30 ∧ (30 : Int) ≤ 1000000 ∧ (10 : Int).natAbs < 2 ^ 64; decide), (by show 7 ≤ sizeLine; decide), fun p2 hp2 => ?_⟩
    have s12 := same_new (o := .lst [.non, .int 5, .str "12", .ref e2, .bl true, .ref p1, .int (10 ^ (30 : Int).toNat)]) hp2
    have e12 : (upd H11 p2 (.lst [.non, .int 5, .str "12", .ref e2, .bl true, .ref p1, .int (10 ^ (30 : Int).toNat)])) p2 = some _ := upd_same
    have op2 := off d8 (s9.trans s11) hp2
    have s812 := (s9.trans s11).trans s12
    refine ⟨_, rfl, m, g, c, _, 7, rfl, d8.same s812, by omega, by decide, by decide, fun z2 H13 y0 y1 d13 k13 => ?_⟩
    obtain ⟨v2, hv2, hm2⟩ := at_any (xs := [.non, .int 5, .str "12", .ref e2, .bl true, .ref p1, .int (10 ^ (30 : Int).toNat)]) (k := 7) y0 y1 rfl
    refine ⟨p2, _, z2, v2, rfl, rfl, SqL.of (k13 _ _ e12 op2.1 op2.2), hv2, ?_⟩
    have V2 : OddO m g H13 v2 := by
      have x1 := k13 _ _ (s12 _ _ (s11 _ _ e9)) oe2.1 oe2.2
      have x2 := k13 _ _ (s12 _ _ e11) op1.1 op1.2
      simp only [List.mem_cons, List.not_mem_nil, or_false] at hm2
      rcases hm2 with rfl | rfl | rfl | rfl | rfl | rfl | rfl
      · exact .non
      · exact .int _
      · exact .str _
      · exact .dict x1 oe2.1 oe2.2
      · exact .bl _
      · exact .dict x2 op1.1 op1.2
      · exact .int _
    have K13 : Keep m g H8 H13 := (Keep.of s812).trans k13
    have T13 : Tabs [(Pt, lamQ)] H13 := tabs_keep T8 d8 K13
    have KT13 : KeepT m g H H13 := KT8.trans (.k K13)
    -- no letters
    refine ⟨T13, fun H14 x14 T14 l2 hl2 => ⟨_, rfl, _, rfl, ?_⟩⟩
    refine fun xx dx nx ndx ne => madeY nx ndx ?_
    refine .inr ⟨size, rfl, L.s0, L.s1, .inl (.inl ⟨(V2.keep ((KeepT.n x14).trans (.s (same_new hl2)))).lstg, rf_ref O.kL fun p15 H15 s15 e15 => ?_⟩)⟩
    have s145 : Same H14 H15 := (same_new hl2).trans s15
    have d15 := (d13.extN x14).same s145
    have T15 : Tabs [(Pt, lamQ)] H15 := T14.ext s145
    have KT15 : KeepT m g H H15 := (KT13.trans (.n x14)).trans (.s s145)
    refine ⟨(by show 2 ≤ sizeLine; decide), fun q2 hq2 => ?_⟩
    obtain ⟨s16, e16⟩ := ttl (c := "letters") (v := .non) hq2
    generalize upd H15 q2 (.tup [.str "letters", .non]) = H16 at s16 e16 ⊢
    refine ⟨_, _, .tup (SqT.of (s16 _ _ e15)) (.cons (.str _) (.cons .non .nil)), .tup (SqT.of e16) (.cons (.str _) (.cons .non .nil)), shaped_non _ (by decide +kernel), shaped_non _ (by decide +kernel), _, rfl, ?_⟩
    rw [show (!PyData.eqv (.tuple [.str (Kd.word .letters), .none]) (.tuple [.str "letters", .none])) = false by rw [show Kd.word .letters = "letters" from rfl, eqv_non] <;> rfl]
    refine iteF ?_
    have d16 := d15.same s16
    have T16 : Tabs [(Pt, lamQ)] H16 := T15.ext s16
    have KT16 : KeepT m g H H16 := KT15.trans (.s s16)
    -- wrong
    refine ⟨_, rfl, _, rfl, m, g, c, _, size, rfl, d16, by omega, L.s0, L.s1, fun vw H17 ow d17 k17 => ?_⟩
    have T17 : Tabs [(Pt, lamQ)] H17 := tabs_keep T16 d16 k17
    have KT17 : KeepT m g H H17 := KT16.trans (.k k17)
    -- many
    refine ⟨_, rfl, (by show 1 ≤ sizeLine; decide), fun p3 hp3 => ?_⟩
    have s18 : Same H17 (upd H17 p3 (.lst [vw])) := same_new hp3
    have e18 : (upd H17 p3 (.lst [vw])) p3 = some (.lst [vw]) := upd_same
    have op3 := off d17 (Same.refl H17) hp3
    generalize upd H17 p3 (.lst [vw]) = H18 at s18 e18 ⊢
    refine ⟨_, rfl, m, g, c, _, 3, rfl, d17.same s18, by omega, by decide, by decide, fun z3 H19 w0 w1 d19 k19 => ?_⟩
    have K19 : Keep m g H17 H19 := (Keep.of s18).trans k19
    have T19 : Tabs [(Pt, lamQ)] H19 := tabs_keep T17 d17 K19
    have KT19 : KeepT m g H H19 := KT17.trans (.k K19)
    have ml : (List.replicate (41 + z3).toNat [vw]).flatten.length = (41 + z3).toNat := by simp
    refine ⟨41, z3, rfl, rfl, p3, 41 + z3, [vw], rfl, rfl, k19 _ _ e18 op3.1 op3.2, by omega, by omega, (by rw [sizeLine_eq]; simp only [List.length_singleton]; omega), fun p4 hp4 => ?_⟩
    have s20 : Same H19 (upd H19 p4 (.lst (List.replicate (41 + z3).toNat [vw]).flatten)) := same_new hp4
    have e20 : (upd H19 p4 (.lst (List.replicate (41 + z3).toNat [vw]).flatten)) p4 = some (.lst (List.replicate (41 + z3).toNat [vw]).flatten) := upd_same
    generalize upd H19 p4 (.lst (List.replicate (41 + z3).toNat [vw]).flatten) = H20 at s20 e20 ⊢
    generalize (List.replicate (41 + z3).toNat [vw]).flatten = mv at ml e20 ⊢
    have d20 := d19.same s20
    have T20 : Tabs [(Pt, lamQ)] H20 := T19.ext s20
    have KT20 : KeepT m g H H20 := KT19.trans (.s s20)
    -- too many letters
    refine ⟨T20, fun H21 x21 T21 l3 hl3 => ⟨_, rfl, _, rfl, p4, mv, rfl, .inl ⟨SqL.of (same_new hl3 _ _ (x21 _ _ e20 (fun ps z => by cases z))), fun tt htt => ?_⟩⟩⟩
    refine fun xx dx nx ndx ne => madeY nx ndx ?_
    refine .inr ⟨size, rfl, L.s0, L.s1, .inl (.inr ⟨tt, mv, rfl, .inr upd_same, .inl ⟨by omega, rf_ref O.kG fun p22 H22 s22 e22 => ?_⟩⟩)⟩
    have s212 : Same H21 H22 := ((same_new hl3).trans (same_new htt)).trans s22
    have d22 := (d20.extN x21).same s212
    have T22 : Tabs [(Pt, lamQ)] H22 := T21.ext s212
    have KT22 : KeepT m g H H22 := (KT20.trans (.n x21)).trans (.s s212)
    refine ⟨(by show 2 ≤ sizeLine; decide), fun q3 hq3 => ?_⟩
    obtain ⟨s23, e23⟩ := ttl (c := "great") (v := .int 40) hq3
    generalize upd H22 q3 (.tup [.str "great", .int 40]) = H23 at s23 e23 ⊢
    refine ⟨_, _, .tup (SqT.of (s23 _ _ e22)) (.cons (.str _) (.cons (.int 40) .nil)), .tup (SqT.of e23) (.cons (.str _) (.cons (.int 40) .nil)), shaped_int _ _ (by decide +kernel), shaped_int _ _ (by decide +kernel), _, rfl, ?_⟩
    rw [show (!PyData.eqv (.tuple [.str (Kd.word .great), .int 40]) (.tuple [.str "great", .int 40])) = false by rw [show Kd.word .great = "great" from rfl, eqv_int] <;> rfl]
    refine iteF ?_
    have d23 := d22.same s23
    have T23 : Tabs [(Pt, lamQ)] H23 := T22.ext s23
    have KT23 : KeepT m g H H23 := KT22.trans (.s s23)
    have A23 : H23 a = some (.lst (nums l)) := KT23 _ _ ha am ag (fun ps z => by cases z)
    have ll : ((nums l).length : Int) = (l.length : Int) := by rw [List.length_map]
    have l40 := L.len
    -- where
    refine ⟨_, rfl, _, rfl, a, _, rfl, .inl (SqL.of A23), _, _, rfl, rfl, m, g, c, _, _, rfl, d23, by omega, by omega, by omega, fun z4 H24 u0 u1 d24 k24 => ?_⟩
    have T24 : Tabs [(Pt, lamQ)] H24 := tabs_keep T23 d23 k24
    have KT24 : KeepT m g H H24 := KT23.trans (.k k24)
    have A24 : H24 a = some (.lst (nums l)) := k24 _ _ A23 am ag
    have hk : z4.toNat ≤ l.length := by omega
    have ow24 : OddV m g H24 size vw := (((((((ow.keep (.k K19)).keep (.s s20)).keep (.n x21)).keep (.s s212)).keep (.s s23)).keep (.k k24)))
    -- bent
    refine ⟨_, rfl, _, rfl, _, rfl, a, _, rfl, SqL.of A24, fun p5 hp5 => ⟨_, rfl, (by show 1 ≤ sizeLine; decide), fun p6 hp6 => ?_⟩⟩
    rw [cut_take l u0] at hp6 ⊢
    have s25 : Same H24 (upd H24 p5 (.lst (nums (l.take z4.toNat)))) := same_new hp5
    have e25 : (upd H24 p5 (.lst (nums (l.take z4.toNat)))) p5 = some (.lst (nums (l.take z4.toNat))) := upd_same
    generalize upd H24 p5 (.lst (nums (l.take z4.toNat))) = H25 at s25 e25 hp6 ⊢
    have s26 : Same H25 (upd H25 p6 (.lst [vw])) := same_new hp6
    have e26 : (upd H25 p6 (.lst [vw])) p6 = some (.lst [vw]) := upd_same
    generalize upd H25 p6 (.lst [vw]) = H26 at s26 e26 ⊢
    have lt : (nums (l.take z4.toNat)).length ≤ 40 := by rw [List.length_map, List.length_take]; omega
    have ld : (nums (l.drop z4.toNat)).length ≤ 40 := by rw [List.length_map, List.length_drop]; omega
    refine ⟨p5, p6, _, _, rfl, rfl, s26 _ _ e25, e26, (by rw [sizeLine_eq]; simp only [List.length_singleton]; omega), fun p7 hp7 => ?_⟩
    have s27 : Same H26 (upd H26 p7 (.lst (nums (l.take z4.toNat) ++ [vw]))) := same_new hp7
    have e27 : (upd H26 p7 (.lst (nums (l.take z4.toNat) ++ [vw]))) p7 = some (.lst (nums (l.take z4.toNat) ++ [vw])) := upd_same
    generalize upd H26 p7 (.lst (nums (l.take z4.toNat) ++ [vw])) = H27 at s27 e27 ⊢
    refine ⟨_, rfl, _, rfl, _, rfl, a, _, rfl, SqL.of (((s25.trans s26).trans s27) _ _ A24), fun p8 hp8 => ?_⟩
    rw [cut_drop l u0]
    have s28 : Same H27 (upd H27 p8 (.lst (nums (l.drop z4.toNat)))) := same_new hp8
    have e28 : (upd H27 p8 (.lst (nums (l.drop z4.toNat)))) p8 = some (.lst (nums (l.drop z4.toNat))) := upd_same
    generalize upd H27 p8 (.lst (nums (l.drop z4.toNat))) = H28 at s28 e28 ⊢
    refine ⟨p7, p8, _, _, rfl, rfl, s28 _ _ e27, e28, (by rw [sizeLine_eq, List.length_append]; simp only [List.length_singleton]; omega), fun p9 hp9 => ?_⟩
    have s29 : Same H28 (upd H28 p9 (.lst ((nums (l.take z4.toNat) ++ [vw]) ++ nums (l.drop z4.toNat)))) := same_new hp9
    have e29 : (upd H28 p9 (.lst ((nums (l.take z4.toNat) ++ [vw]) ++ nums (l.drop z4.toNat)))) p9 = some (.lst ((nums (l.take z4.toNat) ++ [vw]) ++ nums (l.drop z4.toNat))) := upd_same
    generalize upd H28 p9 (.lst ((nums (l.take z4.toNat) ++ [vw]) ++ nums (l.drop z4.toNat))) = H29 at s29 e29 ⊢
    refine ⟨(by show 1 ≤ sizeLine; decide), fun p10 hp10 => ?_⟩
    have s30 : Same H29 (upd H29 p10 (.lst [.non])) := same_new hp10
    have e30 : (upd H29 p10 (.lst [.non])) p10 = some (.lst [.non]) := upd_same
    generalize upd H29 p10 (.lst [.non]) = H30 at s30 e30 ⊢
    refine ⟨p9, p10, _, _, rfl, rfl, s30 _ _ e29, e30, (by rw [sizeLine_eq, List.length_append, List.length_append]; simp only [List.length_singleton]; omega), fun p11 hp11 => ?_⟩
    have s31 := same_new (o := .lst (((nums (l.take z4.toNat) ++ [vw]) ++ nums (l.drop z4.toNat)) ++ [.non])) hp11
    have e31 : (upd H30 p11 (.lst (((nums (l.take z4.toNat) ++ [vw]) ++ nums (l.drop z4.toNat)) ++ [.non]))) p11 = some (.lst (((nums (l.take z4.toNat) ++ [vw]) ++ nums (l.drop z4.toNat)) ++ [.non])) := upd_same
    generalize upd H30 p11 (.lst (((nums (l.take z4.toNat) ++ [vw]) ++ nums (l.drop z4.toNat)) ++ [.non])) = H31 at s31 e31 ⊢
    refine ⟨_, rfl, p11, _, rfl, SqL.of e31, fun p12 hp12 => ?_⟩
    rw [show cutV (((nums (l.take z4.toNat) ++ [vw]) ++ nums (l.drop z4.toNat)) ++ [V.non]) none (some 40) = bentV l vw z4.toNat from cut_takeV _ 40]
    have s32 : Same H31 (upd H31 p12 (.lst (bentV l vw z4.toNat))) := same_new hp12
    have e32 : (upd H31 p12 (.lst (bentV l vw z4.toNat))) p12 = some (.lst (bentV l vw z4.toNat)) := upd_same
    generalize upd H31 p12 (.lst (bentV l vw z4.toNat)) = H32 at s32 e32 ⊢
    have sb : Same H24 H32 := ((((((s25.trans s26).trans s27).trans s28).trans s29).trans s30).trans s31).trans s32
    have d32 := d24.same sb
    have T32 : Tabs [(Pt, lamQ)] H32 := T24.ext sb
    have KT32 : KeepT m g H H32 := KT24.trans (.s sb)
    have ow32 := ow24.keep (.s sb)
    refine ⟨T32, fun H33 x33 T33 l4 hl4 => ⟨_, rfl, _, rfl, ?_⟩⟩
    refine fun xx dx nx ndx ne => madeY nx ndx ?_
    have s34 : Same H33 (upd H33 l4 (.lst [])) := same_new hl4
    have b34 := s34 _ _ (x33 _ _ e32 (fun ps z => by cases z))
    have ow34 := (ow32.keep (.n x33)).keep (.s s34)
    generalize upd H33 l4 (.lst []) = H34 at s34 b34 ow34 ⊢
    refine .inr ⟨size, rfl, L.s0, L.s1, ?_⟩
    by_cases h39 : z4.toNat < 40
    · -- the place of the wrong one
      refine .inl (.inr ⟨p12, _, rfl, .inl b34, .inr ⟨bent_len _ _ _, fun i => decide (i ≠ z4.toNat ∧ i ≤ l.length), fun i y hy => ?_, fun n1 h1 h2 h3 => ?_, fun hall => ?_⟩⟩)
      · show Btw K H34 y 1 size (decide (i ≠ z4.toNat ∧ i ≤ l.length))
        rcases bent_at l vw _ hk hy with ⟨i1, i2, z, hz, rfl⟩ | ⟨i1, rfl⟩ | ⟨i1, rfl⟩
        · rw [decide_eq_true ⟨i1, i2⟩]
          exact .inl ⟨z, rfl, (decide_eq_true (L.bd z hz)).symm⟩
        · rw [decide_eq_false (fun q => q.1 i1)]
          exact ow34.btw
        · rw [decide_eq_false (fun q => by have := q.2; omega)]
          exact (OddV.non (m := m) (g := g) (H := H34) (size := size)).btw
      · have en : n1 = z4.toNat := by
          have lk := bent_lt l vw z4.toNat hk h39
          rcases Nat.lt_trichotomy n1 z4.toNat with q | q | q
          · have := of_decide_eq_false h2
            exact absurd ⟨by omega, by omega⟩ this
          · exact q
          · have := of_decide_eq_true (h3 _ q)
            exact absurd rfl this.1
        rw [en]
        refine rf_ref O.kL fun p35 H35 s35 e35 => ?_
        have s335 : Same H33 H35 := s34.trans s35
        have d35 := (d32.extN x33).same s335
        have T35 : Tabs [(Pt, lamQ)] H35 := T33.ext s335
        have KT35 : KeepT m g H H35 := (KT32.trans (.n x33)).trans (.s s335)
        refine ⟨_, rfl, _, _, rfl, (by show 2 ≤ sizeLine; decide), fun q4 hq4 => ?_⟩
        have em : (if (39 : Int) < z4 then (39 : Int) else z4) = ((z4.toNat : Nat) : Int) := by
          rw [if_neg (by omega)]
          omega
        obtain ⟨s36, e36⟩ := ttl (c := "letters") (v := .int (if (39 : Int) < z4 then (39 : Int) else z4)) hq4
        generalize upd H35 q4 (.tup [.str "letters", .int (if (39 : Int) < z4 then (39 : Int) else z4)]) = H36 at s36 e36 ⊢
        rw [em] at e36
        refine .inr ⟨_, _, .tup (SqT.of (s36 _ _ e35)) (.cons (.str _) (.cons (.int _) .nil)), .tup (SqT.of e36) (.cons (.str _) (.cons (.int _) .nil)), shaped_int _ _ (by decide +kernel), shaped_int _ _ (by decide +kernel), _, rfl, ?_⟩
        rw [show PyData.eqv (.tuple [.str (Kd.word .letters), .int (z4.toNat : Nat)]) (.tuple [.str "letters", .int (z4.toNat : Nat)]) = true by rw [show Kd.word .letters = "letters" from rfl, eqv_int]]
        refine iteT ?_
        exact k _ H36 (by omega) (by omega) (d35.same s36) (KT35.trans (.s s36)) (T35.ext s36)
      · have lk := bent_lt l vw z4.toNat hk h39
        have := of_decide_eq_true (hall _ lk)
        exact absurd rfl this.1
    · -- all are letters
      have e40 : z4.toNat = 40 := by omega
      have l40' : l.length = 40 := by omega
      rw [e40, bent_all l vw l40'] at b34
      refine .inr ⟨p12, l, rfl, .inl b34, L, fun H35 s35 W35 => ⟨rfl, fun p36 hp36 => ?_⟩⟩
      have s36 : Same H35 (upd H35 p36 (.lst [.ref xx])) := same_new hp36
      have e36 : (upd H35 p36 (.lst [.ref xx])) p36 = some (.lst [.ref xx]) := upd_same
      generalize upd H35 p36 (.lst [.ref xx]) = H36 at s36 e36 ⊢
      refine ⟨_, rfl, _, _, rfl, (by show 2 ≤ sizeLine; decide), fun q4 hq4 => ?_⟩
      have s37 := same_new (o := .tup [.str "letters", .int (if (39 : Int) < z4 then (39 : Int) else z4)]) hq4
      have s3337 : Same H33 (upd H36 q4 (.tup [.str "letters", .int (if (39 : Int) < z4 then (39 : Int) else z4)])) := ((s34.trans s35).trans s36).trans s37
      refine .inl ⟨p36, q4, _, _, rfl, rfl, SqL.of (s37 _ _ e36), SqT.of upd_same, _, rfl, ?_⟩
      refine iteF ⟨_, rfl, _, _, rfl, rfl, ?_⟩
      have e9 : decide ((39 : Int) < z4) = true := decide_eq_true (by omega)
      show Q (.bl (decide ((39 : Int) < z4))) _
      rw [e9]
      exact k _ _ (by omega) (by omega) ((d32.extN x33).same s3337) ((KT32.trans (.n x33)).trans (.s s3337)) (T33.ext s3337)
end
end Lw
/-! T. The law. -/
namespace Lw
open PySem L2 LwE LwM LamX
section
variable {P : Program} {w : World} {K : PySem.W.Frag} {mg : Str → Option Value} {base : Heap}
/-! __len__ -/
def spLen (C : Addr) : Sp := fun vs H Q _ => ∃ (a : Addr) (size : Int) (ls : List Int), vs = [.ref a] ∧ WAt C H a size ls ∧ Q (.int (ls.length : Nat)) H
theorem scLen : FnScope ["self"] ["self"] (defScope sLen) := ⟨rfl, rfl, rfl, by decide +kernel, rfl, by decide +kernel, by decide +kernel⟩
theorem ok_len {f C : Addr} {fd : FuncData} (B : Bare mg) (T : Cw K mg C) (F : Fun K "__len__" "Word.__len__" sLen f fd) : FnOk P w K mg base CX0 1 f fd ["self"] (spLen C) := by
  refine F.ok scLen (fun vs H Q E h => ?_) (fun cdv A outer s H vs Q E hr h => ?_)
  · obtain ⟨a, size, ls, rfl, _⟩ := h
    rfl
  · obtain ⟨a, size, ls, rfl, W, k⟩ := h
    obtain ⟨dx, t, h1, h2⟩ := W.ob
    refine ⟨_, pss_one (ps_ret (pe_callB call_len_seq (by rfl) B.len PySem.boot_len (pa_cons (pe_fld (pv 0) rfl) pa_nil))), ?_⟩
    refine ⟨_, rfl, a, C, dx, _, _, rfl, h1, T.cl, T.nL, wf_letters _ _, t, _, rfl, .inr (SqT.of h2), ?_⟩
    rw [List.length_map]
    exact k
end
/-- what the law reads -/
structure Ow (P : Program) (w : World) (K : PySem.W.Frag) (mg : Str → Option Value) (base : Heap) (C Pt : Addr) (fB fZ fL fW fR fN : Addr) (dB dZ dL dW dR dN : FuncData) : Prop where
  gB : Df K mg "_law_begun" sBegun fB dB
  B : FnOk P w K mg base CX0 2 fB dB ["script"] (spBegun K)
  bB : Binds K dB ["script"] []
  gZ : Df K mg "_law_size" sSize fZ dZ
  Z : FnOk P w K mg base CX0 3 fZ dZ ["m"] spSize
  bZ : Binds K dZ ["m"] []
  gL : Df K mg "_law_letters" sLetters fL dL
  L : FnOk P w K mg base CX0 3 fL dL ["m", "size", "most"] spLetters
  bL : Binds K dL ["m", "size", "most"] []
  gW : Df K mg "_law_is_word" sIsWord fW dW
  W_ : FnG P w K mg base 1 fW dW ["told", "size", "letters"] (spIsWord C)
  bW : Binds K dW ["told", "size", "letters"] []
  gR : Df K mg "_law_refused_right" sRefused fR dR
  R : FnG P w K mg base 8 fR dR ["m", "size", "letters"] (spRefused Pt)
  bR : Binds K dR ["m", "size", "letters"] []
  mN : Meth K C "__len__" fN
  N_ : FnOk P w K mg base CX0 1 fN dN ["self"] (spLen C)
  bN : Binds K dN ["self"] []
section
variable {P : Program} {w : World} {K : PySem.W.Frag} {mg : Str → Option Value} {base : Heap} {C CS CL CG Pt fI fB fZ fL fW fR fN : Addr} {dI dB dZ dL dW dR dN : FuncData}
def spLaw (K : PySem.W.Frag) (Pt : Addr) : Sp := fun vs H Q _ => ∃ (a : Addr) (ns : List Int), vs = [.ref a] ∧ SqL K H a (nums ns) ∧ ns.length ≤ 63 ∧ Tabs [(Pt, lamQ)] H ∧ ∀ H', Q (.bl true) H'
theorem scLaw : FnScope ["script", "m", "turn", "size", "letters", "given", "told", "one"] ["script"] (defScope sLaw) := ⟨rfl, rfl, rfl, by decide +kernel, rfl, by decide +kernel, by decide +kernel⟩
theorem no_len (t : Addr) (z : Int) : (wf t z).lookup ("__len__" : Str) = none := wf_no t z (by decide +kernel) (by decide +kernel)
/-- a list is changed: a word stays -/
theorem WAt.upL {C : Addr} {H : Hp} {p q : Addr} {size : Int} {ls : List Int} {xs ys : List V} (W : WAt C H p size ls) (h : H q = some (.lst xs)) : WAt C (upd H q (.lst ys)) p size ls := by
  obtain ⟨dx, t, a, b⟩ := W.ob
  refine ⟨⟨dx, t, ?_, ?_⟩, W.ls⟩
  · rw [upd_ne (ne_of a h (by intro z; cases z))]
    exact a
  · rw [upd_ne (ne_of b h (by intro z; cases z))]
    exact b
theorem tabs_upL {T : List (Addr × Str)} {H : Hp} {q : Addr} {xs ys : List V} (t : Tabs T H) (h : H q = some (.lst xs)) : Tabs T (upd H q (.lst ys)) := fun p hp => by
  obtain ⟨ps, h1, h2, h3⟩ := t p hp
  refine ⟨ps, ?_, h2, fun pos cv hc => ?_⟩
  · rw [upd_ne (ne_of h1 h (by intro z; cases z))]
    exact h1
  · obtain ⟨cc, e1, e2⟩ := h3 pos cv hc
    refine ⟨cc, e1, ?_⟩
    rw [upd_ne (ne_of e2 h (by intro z; unfold CodeO at z; cases z))]
    exact e2
set_option maxHeartbeats 4000000 in
theorem ok_law {f : Addr} {fd : FuncData} (B : Bare mg) (N : Nums mg) (T : Cw K mg C) (F : Df K mg "law" sLaw f fd) (I : InX P w K mg base C CS CL CG fI dI)
    (O : Ow P w K mg base C Pt fB fZ fL fW fR fN dB dZ dL dW dR dN) : FnG P w K mg base 9 f fd ["script"] (spLaw K Pt) := by
  refine okG F.fn scLaw (fun vs H Q E h => ?_) (fun cdv A outer s H vs Q E hg hr h => ?_)
  · obtain ⟨a, ns, rfl, _⟩ := h
    rfl
  · obtain ⟨a, ns, rfl, hS, hlen, hT, k⟩ := h
    have hr1 : Room 1 _ := hr.mono (by decide)
    have hr2 : Room 2 _ := hr.mono (by decide)
    have hr3 : Room 3 _ := hr.mono (by decide)
    have hr5 : Room 5 _ := hr.mono (by decide)
    obtain ⟨t2, e2⟩ := N.mostS
    obtain ⟨t3, e3⟩ := N.mostL
    refine ⟨_, pss_cons (ps_set (i := 1) scLaw.nd rfl (Or.inl rfl) (pe_call O.B hr2 (by rfl) O.gB.g O.gB.fn.kp O.bB .nil pass0 (pa_cons (pv 0) pa_nil)))
      (pss_cons (ps_for PassesOwn.never rfl (pi_range1 (by rfl) B.range (pa_cons pe_int pa_nil)) (pg_name (i := 2) scLaw.nd rfl (Or.inl rfl))
        (pss_cons (ps_set (i := 3) scLaw.nd rfl (Or.inr rfl) (pe_call O.Z hr3 (by rfl) O.gZ.g O.gZ.fn.kp O.bZ .nil pass0 (pa_cons (pv 1) pa_nil)))
        (pss_cons (ps_set (i := 4) scLaw.nd rfl (Or.inr rfl) (pe_call O.L hr3 (by rfl) O.gL.g O.gL.fn.kp O.bL .nil pass0 (pa_cons (pv 1) (pa_cons (pv 3) (pa_cons pe_int pa_nil)))))
        (pss_cons (ps_set (i := 5) scLaw.nd rfl (Or.inl rfl) (pe_callTy call_list_of (by rfl) B.list (by decide +kernel) (pa_cons (pv 4) pa_nil)))
        (pss_cons (ps_set (i := 6) scLaw.nd rfl (Or.inl rfl) (pe_lst (pa_cons (pe_make (E := E0) I.m I.ok hr5 (by rfl) T.mgC I.b .nil passL (pa_cons (pv 3) (pa_cons (pv 5) pa_nil)))
          (pa_cons (pe_make (E := E0) I.m I.ok hr5 (by rfl) T.mgC I.b .nil passL (pa_cons (pv 3) (pa_cons (pe_callTy call_tuple_of (by rfl) B.tuple (by decide +kernel) (pa_cons (pv 4) pa_nil)) pa_nil))) pa_nil))))
        (pss_cons (ps_if (pt_cmpR (op_neD hr.units) (pe_lc (own := [("one", 7)]) (g := gName 7) rfl scLaw.nd (pi_list (pv 6))
            (blkOk_by (N := ["script", "m", "turn", "size", "letters", "given", "told", "one"]) (sc := defScope sLaw) (by decide +kernel))
            (fun _ _ _ _ _ => pg_name (i := 7) scLaw.nd rfl (Or.inl rfl))
            (fun _ _ _ _ _ => pts_one (pt_not (pt_val (pe_callG (by exact hg) O.W_ hr1 (by rfl) O.gW.g O.gW.fn.kp O.bW (pa_cons (pv 7) (pa_cons (pv 3) (pa_cons (pv 4) pa_nil)))))))
            (fun _ _ _ _ _ => pv 7)) (pe_lst pa_nil) (nomark _)) pss_never pss_nil)
        (pss_cons (ps_expr (pe_bm PySem.F.plainAttrs_list PySem.F.slot_list_append PySem.F.type_list_append mt_append (pv 5) (pa_cons pe_int pa_nil)))
        (pss_cons (ps_asg pe_int (pg_sub (pv 5) pe_int set_list))
        (pss_one (ps_if (PW.pt (pw_or (pt_not (pt_val (pe_callG (by exact hg) O.W_ hr1 (by rfl) O.gW.g O.gW.fn.kp O.bW (pa_cons (pe_ix ix_list (pv 6) pe_int (fun _ _ => rfl)) (pa_cons (pv 3) (pa_cons (pv 4) pa_nil))))))
            (pw_or1 (pt_not (pt_val (pe_callG (by exact hg) O.R hr (by rfl) O.gR.g O.gR.fn.kp O.bR (pa_cons (pv 1) (pa_cons (pv 3) (pa_cons (pv 4) pa_nil))))))))) pss_never pss_nil))))))))))
      (pss_one (ps_ret (pe_and (pe_cmpR (op_eqD hr.units) (pe_tup (pa_cons (pe_glob (v := .int 6) (by rfl) e2 ⟨_, rfl⟩) (pa_cons (pe_glob (v := .int 40) (by rfl) e3 ⟨_, rfl⟩) pa_nil))) (pe_tup (pa_cons pe_int (pa_cons pe_int pa_nil))) (nomark _))
        (pe_one (pe_cmpR op_eq (pe_callB (call_lenO O.mN.at_ O.mN.fn O.N_ O.bN hr2) (by rfl) B.len PySem.boot_len (pa_cons (pe_make (E := E0) I.m I.ok hr5 (by rfl) T.mgC I.b .nil passL (pa_cons pe_int (pa_cons (pe_op op_rep (pe_lst (pa_cons pe_int pa_nil)) pe_int) pa_nil))) pa_nil)) pe_int (nomark _))))))), ?_⟩
    refine ⟨_, rfl, a, ns, rfl, hS, hlen, fun m g c H0 s0 d0 => ?_⟩
    refine ⟨4, rfl, by decide, by decide, for_range (lo := 0) (n := 4) (fun j σ H' => ∃ (v2 v3 v4 v5 v6 : Option V) (n : Int),
      σ = [some (.ref a), some (.ref m), v2, v3, v4, v5, v6, none] ∧ Dr H' m g c n ∧ n ≤ 1000 * (j : Int) ∧ Tabs [(Pt, lamQ)] H')
      ⟨_, _, _, _, _, 0, rfl, d0, by omega, hT.ext s0⟩ ?_ ?_⟩
    · rintro j σ H' hj ⟨v2, v3, v4, v5, v6, n, rfl, d, hn, TT⟩
      have nn0 := d.n0
      refine ⟨_, rfl, m, g, c, n, rfl, d, by omega, fun size H1 z0 z1 d1 k1 => ?_⟩
      refine ⟨_, rfl, _, rfl, m, g, c, n + 1, size, 40, rfl, d1, by omega, z0, z1, by decide, by decide, fun p ls n2 H2 l1 bd l3 l4 d2 k2 nf ep => ?_⟩
      have op := d1.off nf
      have L0 : Ls size ls := ⟨z0, z1, by omega, bd⟩
      have T2 : Tabs [(Pt, lamQ)] H2 := tabs_keep (tabs_keep TT d k1) d1 k2
      refine ⟨_, rfl, p, _, rfl, .inl (SqL.of ep), fun q hq => ?_⟩
      have s3 : Same H2 (upd H2 q (.lst (nums ls))) := same_new hq
      have e3q : (upd H2 q (.lst (nums ls))) q = some (.lst (nums ls)) := upd_same
      have pq : p ≠ q := ne_of_none ep hq
      have oq := d2.off hq
      generalize upd H2 q (.lst (nums ls)) = H3 at s3 e3q ⊢
      refine ⟨_, rfl, _, rfl, fun x dx nx ndx ne => madeY nx ndx (.inr ⟨size, rfl, z0, z1, .inr ⟨q, ls, rfl, .inl e3q, L0, fun H4 s4 W4 => ⟨rfl, ?_⟩⟩⟩)⟩
      refine ⟨_, rfl, _, rfl, p, _, rfl, .inl ⟨SqL.of (s4 _ _ (s3 _ _ ep)), fun t ht => fun y dy ny ndy ne' => madeY ny ndy (.inr ⟨size, rfl, z0, z1, .inr ⟨t, ls, rfl, .inr upd_same, L0, fun H6 s6 W6 => ⟨rfl, ?_⟩⟩⟩)⟩⟩
      have s46 : Same H4 H6 := (same_new ht).trans s6
      refine ⟨(by show 2 ≤ sizeLine; decide), fun r hr' => ?_⟩
      have s7 : Same H6 (upd H6 r (.lst [.ref x, .ref y])) := same_new hr'
      have e7 : (upd H6 r (.lst [.ref x, .ref y])) r = some (.lst [.ref x, .ref y]) := upd_same
      generalize upd H6 r (.lst [.ref x, .ref y]) = H7 at s7 e7 ⊢
      have s27 : Same H2 H7 := ((s3.trans s4).trans s46).trans s7
      have Wx7 := (W4.same s46).same s7
      have Wy7 := W6.same s7
      have ep7 := s27 _ _ ep
      have eq7 := ((s4.trans s46).trans s7) _ _ e3q
      -- both are the word
      refine ⟨_, rfl, r, rfl, ⟨_, SqL.of e7⟩, fun D hD => lc_list (K := K) (a := r) (xs := [.ref x, .ref y]) (fun _ H8 => Same H7 H8 ∧ H8 D = some (.lst [])) ⟨same_new hD, upd_same⟩ (fun _ _ _ q => SqL.of (q.1 _ _ e7)) ?_ ?_⟩
      · rintro i v H8 hi ⟨s8, e8⟩
        have hv : ∃ u, v = .ref u ∧ WAt C H8 u size ls := by
          match i, hi with
          | 0, hi => exact ⟨x, (Option.some.inj hi).symm, Wx7.same s8⟩
          | 1, hi => exact ⟨y, (Option.some.inj hi).symm, Wy7.same s8⟩
          | (i + 2), hi => simp at hi
        obtain ⟨u, rfl, Wu⟩ := hv
        exact ⟨rfl, _, rfl, _, rfl, _, rfl, u, p, size, ls, rfl, Wu, s8 _ _ ep7, fun H9 s9 => ⟨true, rfl, ⟨s8.trans s9, s9 _ _ e8⟩⟩⟩
      rintro H8 ⟨s8, e8⟩
      refine ⟨Nat.zero_le _, fun E hE => ?_⟩
      have s9 : Same H8 (upd H8 E (.lst [])) := same_new hE
      have e9 : (upd H8 E (.lst [])) E = some (.lst []) := upd_same
      generalize upd H8 E (.lst []) = H9 at s9 e9 ⊢
      refine ⟨.list [], .list [], .lst (SqL.of (s9 _ _ e8)) .nil, .lst (SqL.of e9) .nil, by decide +kernel, by decide +kernel, _, rfl, ?_⟩
      refine iteF ?_
      have s79 := s8.trans s9
      have s29 := s27.trans s79
      have eq9 := s79 _ _ eq7
      -- the list changes
      refine ⟨_, rfl, .inl ⟨rfl, _, SqL.of eq9⟩, q, _, _, rfl, rfl, eq9, (by rw [List.length_map, sizeLine_eq]; omega), ?_⟩
      refine ⟨_, rfl, q, _, _, 0, rfl, rfl, upd_same, ?_, ?_⟩
      · show ixN (nums ls ++ [V.int 1]).length 0 = some 0
        unfold ixN
        rw [if_pos (by omega), if_pos (by rw [List.length_append, List.length_singleton]; omega)]
        rfl
      have l9 : (upd H9 q (.lst (nums ls ++ [V.int 1]))) q = some (.lst (nums ls ++ [V.int 1])) := upd_same
      have rq : r ≠ q := (ne_of_none ((s4.trans s46) _ _ e3q) hr').symm
      have d9 := d2.same s29
      have d10 := (d9.upd_at (o := .lst (nums ls ++ [V.int 1])) oq.m oq.g oq.c).upd_at (o := .lst ((nums ls ++ [V.int 1]).set 0 (V.int 0))) oq.m oq.g oq.c
      have T10 := tabs_upL (ys := (nums ls ++ [V.int 1]).set 0 (V.int 0)) (tabs_upL (ys := nums ls ++ [V.int 1]) (T2.ext s29) eq9) l9
      have W10 := ((Wx7.same s79).upL (ys := nums ls ++ [V.int 1]) eq9).upL (ys := (nums ls ++ [V.int 1]).set 0 (V.int 0)) l9
      have ep10 : (upd (upd H9 q (.lst (nums ls ++ [V.int 1]))) q (.lst ((nums ls ++ [V.int 1]).set 0 (V.int 0)))) p = some (.lst (nums ls)) := by
        rw [upd_ne pq, upd_ne pq]
        exact s29 _ _ ep
      have er10 : (upd (upd H9 q (.lst (nums ls ++ [V.int 1]))) q (.lst ((nums ls ++ [V.int 1]).set 0 (V.int 0)))) r = some (.lst [.ref x, .ref y]) := by
        rw [upd_ne rq, upd_ne rq]
        exact s79 _ _ e7
      generalize upd (upd H9 q (.lst (nums ls ++ [V.int 1]))) q (.lst ((nums ls ++ [V.int 1]).set 0 (V.int 0))) = H10 at d10 T10 W10 ep10 er10 ⊢
      refine ⟨_, rfl, r, _, 0, .ref x, rfl, rfl, SqL.of er10, at_of (j := 0) rfl rfl, _, rfl, _, rfl, x, p, size, ls, rfl, W10, ep10, fun H11 s11 => ⟨_, rfl, iteF ?_⟩⟩
      refine ⟨_, rfl, _, rfl, _, rfl, m, g, c, p, n2, size, ls, rfl, d10.same s11, by omega, s11 _ _ ep10, op.m, op.g, L0, T10.ext s11, fun n' H12 h1 h2 d12 _ T12 => ⟨_, rfl, iteF ?_⟩⟩
      exact ⟨_, _, _, _, _, n', rfl, d12, by omega, T12⟩
    · rintro σ H' ⟨v2, v3, v4, v5, v6, n, rfl, d, hn, TT⟩
      refine ⟨(by show 2 ≤ sizeLine; decide), fun p1 hp1 => ⟨(by show 2 ≤ sizeLine; decide), fun p2 hp2 => ?_⟩⟩
      have s1 : Same H' (upd H' p1 (.tup [.int 6, .int 40])) := same_new hp1
      have e1 : (upd H' p1 (.tup [.int 6, .int 40])) p1 = some (.tup [.int 6, .int 40]) := upd_same
      generalize upd H' p1 (.tup [.int 6, .int 40]) = H1 at s1 e1 hp2 ⊢
      have s2 : Same H1 (upd H1 p2 (.tup [.int 6, .int 40])) := same_new hp2
      have e2' : (upd H1 p2 (.tup [.int 6, .int 40])) p2 = some (.tup [.int 6, .int 40]) := upd_same
      generalize upd H1 p2 (.tup [.int 6, .int 40]) = H2 at s2 e2' ⊢
      refine ⟨.tuple [.int 6, .int 40], .tuple [.int 6, .int 40], .tup (SqT.of (s2 _ _ e1)) (.cons (.int 6) (.cons (.int 40) .nil)), .tup (SqT.of e2') (.cons (.int 6) (.cons (.int 40) .nil)), by decide +kernel, by decide +kernel, _, rfl, ?_⟩
      refine iteT ?_
      refine ⟨(by show 1 ≤ sizeLine; decide), fun p3 hp3 => ?_⟩
      have e3' : (upd H2 p3 (.lst [.int 1])) p3 = some (.lst [.int 1]) := upd_same
      generalize upd H2 p3 (.lst [.int 1]) = H3 at e3' ⊢
      refine ⟨p3, 40, [.int 1], rfl, rfl, e3', by decide, by decide, (by rw [sizeLine_eq]; decide), fun p4 hp4 => ?_⟩
      have e4 : (upd H3 p4 (.lst (List.replicate (40 : Int).toNat [V.int 1]).flatten)) p4 = some (.lst (nums (List.replicate 40 1))) := upd_same
      generalize upd H3 p4 (.lst (List.replicate (40 : Int).toNat [V.int 1]).flatten) = H4 at e4 ⊢
      refine fun x dx nx ndx ne => madeY nx ndx (.inr ⟨2, rfl, by decide, by decide, .inr ⟨p4, List.replicate 40 1, rfl, .inl e4, ⟨by decide, by decide, by decide, fun y hy => ?_⟩, fun H5 s5 W5 => ⟨rfl, ?_⟩⟩⟩)
      · have := List.eq_of_mem_replicate hy
        omega
      obtain ⟨dz, tz, w1, w2⟩ := W5.ob
      refine ⟨x, dz, _, rfl, w1, x, 2, _, rfl, W5, _, rfl, ⟨by decide, by decide⟩, ?_⟩
      exact ⟨rfl, k _⟩
end
end Lw
/-! Gt. The end of a law one of whose defs makes lambdas: its code object's table is known, and no guard stands. -/
namespace LwE
open PySem PySem.Spec PyProof.Rows L2 LamX
/-- the law's call; the code object at c has its table at T -/
theorem call_lawT {P : Program} {w : World} {K : PySem.W.Frag} {mg mb : Str → Option Value} {k : Nat} {fa a c T : Addr} {fd : FuncData} {x : Str} {sp : Sp} {s₁ : Shared} {vs : List Value} {ns : List Int}
    (KX : K.In s₁.heap) (hns : s₁.heap.Ns mainGlobals mg) (hb : s₁.heap.Ns builtinsNs mb) (hbb : ∀ x : Str, x ≠ "__name__" → mb x = bootBuiltins x) (hlim : s₁.heap.NoLimit) (hgen : s₁.gens = #[])
    (hT : s₁.heap.get? T = some { cls := .none, data := .fields #[] }) (nT : K.lookup T = none) (hC : PySem.W.CodeHd s₁.heap c T)
    (hbm : ∃ (bm : Addr) (ob : Obj), mg "__builtins__" = some (.ref bm) ∧ bm ≠ builtinsNs ∧ s₁.heap.get? bm = some ob ∧ ob.cls = .type "module" ∧ ob.dict = some builtinsNs ∧ ob.data = .plain)
    (ha : s₁.heap.get? a = some { cls := .type "list", data := .seq vs.toArray }) (hi : IntsAre vs ns) (hl : ns.length ≤ sizeLine) (hr : Room k callerA)
    (F : ∀ base : Heap, K.In base → base.Ns mainGlobals mg → TabB base mg c T → FnG P w K mg base k fa fd [x] sp) (hbind : ∀ (s : Shared) (u : Value), BindsTo s fd ⟨[u], []⟩ [(x, u)])
    (hsp : ∀ H : Hp, H T = some (.tbl #[]) → SqL K H a (ns.map V.int) → sp [.ref a] H (fun v _ => v = .bl true) fun _ _ _ => False) :
    codeAny (model P w) callerA (.call (.ref fa) ⟨[.ref a], []⟩) (fun r s' => r = .ok (.ret (.bool true)) ∧ OldK s₁.heap s'.heap ∧ s'.os = s₁.os ∧ AllBare s'.gens) s₁ := by
  have rv := vals_ints hi
  have nlen := hi.length
  have aT : a ≠ T := fun z => by
    rw [z, hT] at ha
    cases ha
  have core : ∀ H : Hp, H T = some (.tbl #[]) → (∀ b, H b = none ∨ b = T ∨ ∃ o xs, H b = some (.frz o (.lst xs))) → SqL K H a (ns.map V.int) → HOk P w H s₁.heap → (∀ b, H b ≠ none → b = a ∨ b = T) → (H a ≠ none → K.lookup a = none) →
      codeAny (model P w) callerA (.call (.ref fa) ⟨[.ref a], []⟩) (fun r s' => r = .ok (.ret (.bool true)) ∧ OldK s₁.heap s'.heap ∧ s'.os = s₁.os ∧ AllBare s'.gens) s₁ := by
    intro H hHT hO hS hok only unk
    -- what is neither a list nor the table is not tracked
    have off : ∀ {b : Addr} {o : Obj}, s₁.heap.get? b = some o → (∀ us n, o.data ≠ .seq us n) → o.data ≠ .fields #[] → H b = none := by
      intro b o e h1 h2
      cases q : H b with
      | none => rfl
      | some u =>
        exfalso
        rcases only b (by rw [q]; simp) with z | z
        · rw [z, ha] at e
          cases e
          exact h1 _ _ rfl
        · rw [z, hT] at e
          cases e
          exact h2 rfl
    have offD : ∀ {b : Addr} {o : Obj} {es : Array DictEntry} {ep : Nat}, s₁.heap.get? b = some o → o.data = .dict es ep → H b = none := fun e d => off e (fun us n z => by rw [d] at z; cases z) fun z => by rw [d] at z; cases z
    have offP : ∀ {b : Addr} {o : Obj}, s₁.heap.get? b = some o → o.data = .plain → H b = none := fun e d => off e (fun us n z => by rw [d] at z; cases z) fun z => by rw [d] at z; cases z
    have keepsNs : ∀ {b : Addr} {m : Str → Option Value}, s₁.heap.Ns b m → (hidT s₁.heap H).Ns b m := by
      rintro b m ⟨o, es, ep, e, d, r⟩
      exact ⟨o, es, ep, hidT_get e (offD e d), d, r⟩
    have inK : K.In (hidT s₁.heap H) := by
      intro b o e
      refine hidT_get (KX b o e) ?_
      cases q : H b with
      | none => rfl
      | some u =>
        rcases only b (by rw [q]; simp) with z | z
        · subst z
          rw [unk (by rw [q]; simp)] at e
          cases e
        · rw [z, nT] at e
          cases e
    have M : Mod K mg (hidT s₁.heap H) := ⟨inK, keepsNs hns, ⟨mb, keepsNs hb, hbb⟩, by
      obtain ⟨mc, z1, z2⟩ := hlim
      exact ⟨mc, keepsNs z1, z2⟩⟩
    have nmT : mainGlobals ≠ T := fun z => by
      obtain ⟨o, es, ep, e, d, _⟩ := hns
      rw [z, hT] at e
      cases e
      cases d
    have TB : TabB (hidT s₁.heap H) mg c T := by
      refine ⟨?_, ?_, nmT⟩
      · obtain ⟨o, us, file, tf, flags, tg, inF, text, tt, e1, r1, r2, r3, r4⟩ := hC
        refine ⟨o, us, file, tf, flags, tg, inF, text, tt, hidT_get e1 (off e1 (fun ws n z => ?_) fun z => ?_), r1, r2, r3, r4⟩
        · rw [r2] at z
          cases z
        · rw [r2] at z
          cases z
          simp at r3
      · obtain ⟨bm, ob, b1, b2, b3, b4, b5, b6⟩ := hbm
        refine ⟨bm, ob, b1, b2, fun z => ?_, fun z => ?_, hidT_get b3 (offP b3 b6), b4, b5, b6⟩
        · obtain ⟨o, es, ep, e, d, _⟩ := hns
          rw [z, e] at b3
          cases b3
          rw [d] at b6
          cases b6
        · rw [z, hT] at b3
          cases b3
          cases b6
    have e0 : Env0 P w K mg (hidT s₁.heap H) callerA [] s₁ H := by
      refine ⟨rfl, M, fun b o e => of_hidT e, Nat.le_of_eq (hidT_size _ _), trivial, fun b hb => ?_, hok, .of_eq hgen⟩
      exact absurd (show b ∈ ([] : List Addr) from hb) (by simp)
    refine codeAny_mono ((F _ inK (keepsNs hns) TB).run callerA [] s₁ H ⟨[.ref a], []⟩ [.ref a] [.ref a] _ _ rfl hr e0 (hbind s₁ (.ref a)) (.cons rfl .nil) (hsp H hHT hS)) fun r s' z => ?_
    cases r with
    | error e => exact (show False from z).elim
    | ok fl =>
      cases fl with
      | ret u =>
        obtain ⟨v, H', os, bare, un, hok', r', q⟩ := z
        obtain rfl : v = .bl true := q
        obtain rfl : u = Value.bool true := r'
        have same : ∀ b o, b ≠ T → s₁.heap.get? b = some o → s'.heap.get? b = some o := fun b o nb e => by
          cases q : H b with
          | none => exact un.keep b o e q (fun z => absurd (show b ∈ ([] : List Addr) from z) (by simp)) (by simp)
          | some u =>
            rcases hO b with z | z | ⟨ob, xs, z⟩
            · rw [q] at z
              cases z
            · exact absurd z nb
            · obtain ⟨z1, _⟩ := hok b _ z
              obtain ⟨z2, _⟩ := hok' b _ (un.frzs b ob _ z)
              rw [e] at z1
              cases z1
              exact z2
        obtain ⟨more, hm⟩ := un.tbls T #[] hHT
        have hm' : s'.heap.get? T = some { cls := .none, data := .fields (#[] ++ more) } := hok' T _ hm
        refine ⟨rfl, ⟨fun b o e => ?_, fun b o e => ?_⟩, os, bare⟩
        · by_cases nb : b = T
          · subst nb
            rw [hT] at e
            cases e
            exact .inr (.inl ⟨(hC.tab hT).isCodeTable, rfl, #[], more, rfl, hm'⟩)
          · exact .inl (same b o nb e)
        · by_cases nb : b = T
          · subst nb
            exact ⟨_, hm'⟩
          · exact ⟨o, same b o nb e⟩
      | next => exact False.elim z
      | brk => exact False.elim z
      | cont => exact False.elim z
  cases hk : K.lookup a with
  | some o =>
    have e := KX a o hk
    rw [ha] at e
    cases e
    refine core (fun b => if b = T then some (.tbl #[]) else none) (if_pos rfl) (fun b => ?_) ?_ (fun b u z => ?_) (fun b z => ?_) fun z => absurd (if_neg aT) z
    · by_cases h : b = T
      · exact .inr (.inl h)
      · exact .inl (if_neg h)
    · exact .inr ⟨_, vs.toArray, _, hk, rfl, rfl, rfl, by rw [List.size_toArray, nlen]; exact hl, by simpa using rv⟩
    · by_cases h : b = T
      · cases (if_pos h).symm.trans z
        rw [h]
        exact hT
      · cases (if_neg h).symm.trans z
    · by_cases h : b = T
      · exact .inr h
      · exact absurd (if_neg h) z
  | none =>
    refine core (fun b => if b = a then some (.frz { cls := .type "list", data := .seq vs.toArray } (.lst (ns.map V.int))) else if b = T then some (.tbl #[]) else none) ?_ (fun b => ?_) ?_ (fun b u z => ?_) (fun b z => ?_) fun _ => hk
    · rw [if_neg (Ne.symm aT), if_pos rfl]
    · by_cases h1 : b = a
      · exact .inr (.inr ⟨_, _, if_pos h1⟩)
      · by_cases h2 : b = T
        · exact .inr (.inl h2)
        · exact .inl (by rw [if_neg h1, if_neg h2])
    · exact .inl (.inr ⟨_, if_pos rfl⟩)
    · by_cases h1 : b = a
      · cases (if_pos h1).symm.trans z
        subst h1
        exact ⟨ha, by rw [List.length_map]; exact hl, vs, _, rv, ha⟩
      · by_cases h2 : b = T
        · cases ((if_neg h1).trans (if_pos h2)).symm.trans z
          rw [h2]
          exact hT
        · cases ((if_neg h1).trans (if_neg h2)).symm.trans z
    · by_cases h1 : b = a
      · exact .inl h1
      · by_cases h2 : b = T
        · exact .inr h2
        · exact absurd ((if_neg h1).trans (if_neg h2)) z
/-- what the top tells of the law -/
def TellsT (l : PySem.W.OpenLaw) (w : World) (K : PySem.W.Frag) (k : Nat) (x : Str) (sp : Addr → Sp) (mg : Str → Option Value) (fa : Addr) (h : Heap) : Prop :=
  ∃ (fd : FuncData) (c T : Addr), h.get? T = some { cls := .none, data := .fields #[] } ∧ K.lookup T = none ∧ PySem.W.CodeHd h c T ∧ (∀ (s : Shared) (u : Value), BindsTo s fd ⟨[u], []⟩ [(x, u)]) ∧
    ∀ base : Heap, K.In base → base.Ns mainGlobals mg → TabB base mg c T → FnG l.prog w K mg base k fa fd [x] (sp T)
/-- the goal behind the head -/
theorem walkGT {l : PySem.W.OpenLaw} {n k : Nat} {q : Program} {loose : List Str} {XP : (Str → Option Value) → Heap → Prop} {YP : World → Heap → Prop} {d : DefRec} {K : Params → PySem.W.Frag} {sp : World → Addr → Sp} {x : Str}
    (hn : l.most = some n) (hn2 : n ≤ sizeLine) (hdf : d.params.defaults = []) (hr : Room k callerA) (hY : ∀ (w : World) (h : Heap), YP w h → (K w.params).In h)
    (F : ∀ (w : World) (mg : Str → Option Value) (fa : Addr) (h : Heap), YP w h → (K w.params).In h → h.Ns mainGlobals mg → mg d.name = some (.ref fa) → TellsT l w (K w.params) k x (sp w) mg fa h)
    (hsp : ∀ (w : World) (H : Hp) (a T : Addr) (ns : List Int), ns.length ≤ n → H T = some (.tbl #[]) → SqL (K w.params) H a (ns.map V.int) → sp w T [.ref a] H (fun v _ => v = .bl true) fun _ _ _ => False) :
    PySem.W.WalkO q loose XP YP l.row.toRowW d [] (fun f vs => PySem.call f vs) := by
  refine Att.attach_call hn hdf fun w s₀ s₁ mg mb fa o pm cd doc a vs ns G Y ho hd hcd hmg hobj hints hlen hg => ?_
  have KX := hY w _ Y
  obtain ⟨fd, c, T, hT, nT, hC, hb, hF⟩ := F w mg fa _ Y KX G.T.g hmg
  exact call_lawT KX G.T.g G.T.b G.T.builtins G.T.nolimit hg hT nT hC G.T.bmain hobj hints (Nat.le_trans hlen hn2) hr hF hb fun H hH hS => hsp w H a T ns hlen hH hS
end LwE
/-! Zb. What a class is, and is not, as the written part tells it. -/
namespace Lw
open PySem L2 LwE
section
variable {K : PySem.W.Frag} {a b : Addr}
theorem kitCls_ref {t : Value} {r : Bool} (i : PySem.W.isClsIn K b = true) (y : PySem.W.typeIn K (.ref b) = some (.type "type")) (s : PySem.W.subIn K t (.ref b) = some r) : PySem.W.kitCls K t (.ref b) = some r := by
  have c : ((PySem.W.clsIn K b).isSome && PySem.W.typeIn K (.ref b) == some (.type "type")) = true := by
    rw [show (PySem.W.clsIn K b).isSome = true from i, y]
    rfl
  show (if ((PySem.W.clsIn K b).isSome && PySem.W.typeIn K (.ref b) == some (.type "type")) = true then PySem.W.subIn K t (.ref b) else none) = some r
  rw [if_pos c]
  exact s
theorem kit_self : PySem.W.kitOne K (.ref a) (.ref a) = some true := by
  unfold PySem.W.kitOne
  simp
theorem kit_no (s : PySem.W.subIn K (.ref a) (.ref a) = some true) (n : PySem.W.subIn K (.ref a) (.ref b) = some false) (i : PySem.W.isClsIn K b = true) (y : PySem.W.typeIn K (.ref b) = some (.type "type")) : PySem.W.kitOne K (.ref a) (.ref b) = some false := by
  have ne : ¬ ((Value.ref a == Value.ref b) = true) := fun z => by
    have e : a = b := by simpa using z
    rw [← e, s] at n
    cases n
  unfold PySem.W.kitOne
  rw [if_neg ne]
  exact kitCls_ref i y n
theorem kit_ve {r : Bool} (s : PySem.W.subIn K (.ref a) (.type "ValueError") = some r) : PySem.W.kitOne K (.ref a) (.type "ValueError") = some r := by
  have m : PySem.W.kitMeta "ValueError" = true := by decide +kernel
  unfold PySem.W.kitOne
  rw [if_neg (fun z => by simp at z)]
  show (if PySem.W.kitMeta "ValueError" = true then PySem.W.subIn K (.ref a) (.type "ValueError") else none) = some r
  rw [if_pos m]
  exact s
theorem exm_is {r : Bool} (e : PySem.W.subIn K (.ref b) (.type "BaseException") = some true) (i : PySem.W.isClsIn K b = true) (y : PySem.W.typeIn K (.ref b) = some (.type "type")) (s : PySem.W.subIn K (.ref a) (.ref b) = some r) : PySem.W.exmOne K (.ref a) (.ref b) = some r := by
  unfold PySem.W.exmOne
  rw [e, if_pos (by rfl)]
  exact kitCls_ref i y s
theorem exm3 {t x1 x2 x3 : Value} {b1 b2 b3 : Bool} (h1 : PySem.W.exmOne K t x1 = some b1) (h2 : PySem.W.exmOne K t x2 = some b2) (h3 : PySem.W.exmOne K t x3 = some b3) (h : (b1 || (b2 || (b3 || false))) = true) : PySem.W.exmAny K t [x1, x2, x3] = some true := by
  unfold PySem.W.exmAny
  rw [h1]
  unfold PySem.W.exmAny
  rw [h2]
  unfold PySem.W.exmAny
  rw [h3]
  unfold PySem.W.exmAny
  show some (b1 || (b2 || (b3 || false))) = some true
  rw [h]
end
theorem pass_O (self : Value) : refuseLoop self "__setattr__" bmO = pure () := by rfl
end Lw
/-! Za. What the top has written. -/
namespace Lw
open PySem L2 LwE LwM LamX
set_option maxHeartbeats 16000000 in
theorem all_mk {l : PySem.W.OpenLaw} {w : World} {K : PySem.W.Frag} {h : Heap} {mg : Str → Option Value} {fa C cR Pt f0 f1 f2 f3 f4 f5 f6 f7 f8 f9 f10 f11 f12 f13 f14 f15 f16 f17 f18 f19 f20 q0 q1 q2 q3 q4 q5 q6 q7 q8 q9 q10 q11 q12 q13 : Addr} {t2 t6 t40 : Tok} (X : K.In h) (G : h.Ns mainGlobals mg) (hfa : mg "law" = some (.ref fa))
    {od0 an0 : Option Addr} {sl0 : Array (Option Value)} {oc0 kV0 dc0 pm0 cd0 ct0 : Value}
    {od1 an1 : Option Addr} {sl1 : Array (Option Value)} {oc1 kV1 dc1 pm1 cd1 ct1 : Value}
    {od2 an2 : Option Addr} {sl2 : Array (Option Value)} {oc2 kV2 dc2 pm2 cd2 ct2 : Value}
    {od3 an3 : Option Addr} {sl3 : Array (Option Value)} {oc3 kV3 dc3 pm3 cd3 ct3 : Value}
    {od4 an4 : Option Addr} {sl4 : Array (Option Value)} {oc4 kV4 dc4 pm4 cd4 ct4 : Value}
    {od5 an5 : Option Addr} {sl5 : Array (Option Value)} {oc5 kV5 dc5 pm5 cd5 ct5 : Value}
    {od6 an6 : Option Addr} {sl6 : Array (Option Value)} {oc6 kV6 dc6 pm6 cd6 ct6 : Value}
    {od7 an7 : Option Addr} {sl7 : Array (Option Value)} {oc7 kV7 dc7 pm7 cd7 ct7 : Value}
    {od8 an8 : Option Addr} {sl8 : Array (Option Value)} {oc8 kV8 dc8 pm8 cd8 ct8 : Value}
    {od9 an9 : Option Addr} {sl9 : Array (Option Value)} {oc9 kV9 dc9 pm9 cd9 ct9 : Value}
    {od10 an10 : Option Addr} {sl10 : Array (Option Value)} {oc10 kV10 dc10 pm10 cd10 ct10 : Value}
    {od11 an11 : Option Addr} {sl11 : Array (Option Value)} {oc11 kV11 dc11 pm11 cd11 ct11 : Value}
    {od12 an12 : Option Addr} {sl12 : Array (Option Value)} {oc12 kV12 dc12 pm12 cd12 ct12 : Value}
    {od13 an13 : Option Addr} {sl13 : Array (Option Value)} {oc13 kV13 dc13 pm13 cd13 ct13 : Value}
    {od14 an14 : Option Addr} {sl14 : Array (Option Value)} {oc14 kV14 dc14 pm14 ct14 : Value}
    {od15 an15 : Option Addr} {sl15 : Array (Option Value)} {oc15 kV15 dc15 pm15 cd15 ct15 : Value}
    {od16 an16 : Option Addr} {sl16 : Array (Option Value)} {oc16 kV16 dc16 pm16 cd16 ct16 : Value}
    {od17 an17 : Option Addr} {sl17 : Array (Option Value)} {oc17 kV17 dc17 pm17 cd17 ct17 : Value}
    {od18 an18 : Option Addr} {sl18 : Array (Option Value)} {oc18 kV18 dc18 pm18 cd18 ct18 : Value}
    {od19 an19 : Option Addr} {sl19 : Array (Option Value)} {oc19 kV19 dc19 pm19 cd19 ct19 : Value}
    {od20 an20 : Option Addr} {sl20 : Array (Option Value)} {oc20 kV20 dc20 pm20 cd20 ct20 : Value}
    {xn1 xq1 : Str} {xN1 : Addr} {xs1 xu1 : List Value} {xm1 : List Str} {xb1 : Bool} {xc1 : Option Bool} {xd1 : Option Addr} {x01 x11 x21 x31 x51 : Option Value}
    {xn2 xq2 : Str} {xN2 : Addr} {xs2 xu2 : List Value} {xm2 : List Str} {xb2 : Bool} {xc2 : Option Bool} {xd2 : Option Addr} {x02 x12 x22 x32 x52 : Option Value}
    {xn13 xq13 : Str} {xN13 : Addr} {xs13 xu13 : List Value} {xm13 : List Str} {xb13 : Bool} {xc13 : Option Bool} {xd13 : Option Addr} {x013 x113 x213 x313 x513 : Option Value}
    (tab : h.get? Pt = some { cls := .none, data := .fields #[] }) (aC : PySem.W.nsIn K mainGlobals "Word" = some (some (.ref C)))
    (cl0 : PySem.W.nsIn K mainGlobals "LiftError" = some (some (.ref q0)))
    (cl1 : PySem.W.nsIn K mainGlobals "BadSize" = some (some (.ref q1)))
    (cl2 : PySem.W.nsIn K mainGlobals "BadLetters" = some (some (.ref q2)))
    (cl3 : PySem.W.nsIn K mainGlobals "BadIndex" = some (some (.ref q3)))
    (cl4 : PySem.W.nsIn K mainGlobals "BadNumber" = some (some (.ref q4)))
    (cl5 : PySem.W.nsIn K mainGlobals "BadDeed" = some (some (.ref q5)))
    (cl6 : PySem.W.nsIn K mainGlobals "BadTable" = some (some (.ref q6)))
    (cl7 : PySem.W.nsIn K mainGlobals "BadMove" = some (some (.ref q7)))
    (cl8 : PySem.W.nsIn K mainGlobals "BadShape" = some (some (.ref q8)))
    (cl9 : PySem.W.nsIn K mainGlobals "BadRecording" = some (some (.ref q9)))
    (cl10 : PySem.W.nsIn K mainGlobals "OtherSize" = some (some (.ref q10)))
    (cl11 : PySem.W.nsIn K mainGlobals "OtherHouse" = some (some (.ref q11)))
    (cl12 : PySem.W.nsIn K mainGlobals "Stuck" = some (some (.ref q12)))
    (cl13 : PySem.W.nsIn K mainGlobals "TooGreat" = some (some (.ref q13)))
    (a0 : PySem.W.nsIn K mainGlobals "is_between" = some (some (.ref f0)))
    (l0 : K.lookup f0 = some ⟨oc0, od0, .func (PySem.W.fnOf "is_between" "is_between" (defArgs sBetween) (defBody sBetween) (defScope sBetween) .none kV0 dc0 pm0 an0 cd0 ct0), sl0⟩)
    (c0 : PySem.W.codeIn K cd0 "is_between" = true)
    (k0 : PySem.W.keepIn K (.ref f0) = true)
    (a1 : PySem.W.nsIn K mainGlobals "is_listing" = some (some (.ref f1)))
    (l1 : K.lookup f1 = some ⟨oc1, od1, .func (PySem.W.fnOf "is_listing" "is_listing" (defArgs sListing) (defBody sListing) (defScope sListing) .none kV1 dc1 pm1 an1 cd1 ct1), sl1⟩)
    (c1 : PySem.W.codeIn K cd1 "is_listing" = true)
    (k1 : PySem.W.keepIn K (.ref f1) = true)
    (a2 : PySem.W.nsIn K mainGlobals "check_size" = some (some (.ref f2)))
    (l2 : K.lookup f2 = some ⟨oc2, od2, .func (PySem.W.fnOf "check_size" "check_size" (defArgs sCkSize) (defBody sCkSize) (defScope sCkSize) .none kV2 dc2 pm2 an2 cd2 ct2), sl2⟩)
    (c2 : PySem.W.codeIn K cd2 "check_size" = true)
    (k2 : PySem.W.keepIn K (.ref f2) = true)
    (a3 : PySem.W.nsIn K mainGlobals "check_letters" = some (some (.ref f3)))
    (l3 : K.lookup f3 = some ⟨oc3, od3, .func (PySem.W.fnOf "check_letters" "check_letters" (defArgs sCkLetters) (defBody sCkLetters) (defScope sCkLetters) .none kV3 dc3 pm3 an3 cd3 ct3), sl3⟩)
    (c3 : PySem.W.codeIn K cd3 "check_letters" = true)
    (k3 : PySem.W.keepIn K (.ref f3) = true)
    (a4 : PySem.W.nsIn K mainGlobals "_law_mixed" = some (some (.ref f4)))
    (l4 : K.lookup f4 = some ⟨oc4, od4, .func (PySem.W.fnOf "_law_mixed" "_law_mixed" (defArgs sMixed) (defBody sMixed) (defScope sMixed) .none kV4 dc4 pm4 an4 cd4 ct4), sl4⟩)
    (c4 : PySem.W.codeIn K cd4 "_law_mixed" = true)
    (k4 : PySem.W.keepIn K (.ref f4) = true)
    (a5 : PySem.W.nsIn K mainGlobals "_law_folded" = some (some (.ref f5)))
    (l5 : K.lookup f5 = some ⟨oc5, od5, .func (PySem.W.fnOf "_law_folded" "_law_folded" (defArgs sFolded) (defBody sFolded) (defScope sFolded) .none kV5 dc5 pm5 an5 cd5 ct5), sl5⟩)
    (c5 : PySem.W.codeIn K cd5 "_law_folded" = true)
    (k5 : PySem.W.keepIn K (.ref f5) = true)
    (a6 : PySem.W.nsIn K mainGlobals "_law_draw" = some (some (.ref f6)))
    (l6 : K.lookup f6 = some ⟨oc6, od6, .func (PySem.W.fnOf "_law_draw" "_law_draw" (defArgs sDraw) (defBody sDraw) (defScope sDraw) .none kV6 dc6 pm6 an6 cd6 ct6), sl6⟩)
    (c6 : PySem.W.codeIn K cd6 "_law_draw" = true)
    (k6 : PySem.W.keepIn K (.ref f6) = true)
    (a7 : PySem.W.nsIn K mainGlobals "_law_begun" = some (some (.ref f7)))
    (l7 : K.lookup f7 = some ⟨oc7, od7, .func (PySem.W.fnOf "_law_begun" "_law_begun" (defArgs sBegun) (defBody sBegun) (defScope sBegun) .none kV7 dc7 pm7 an7 cd7 ct7), sl7⟩)
    (c7 : PySem.W.codeIn K cd7 "_law_begun" = true)
    (k7 : PySem.W.keepIn K (.ref f7) = true)
    (a8 : PySem.W.nsIn K mainGlobals "_law_size" = some (some (.ref f8)))
    (l8 : K.lookup f8 = some ⟨oc8, od8, .func (PySem.W.fnOf "_law_size" "_law_size" (defArgs sSize) (defBody sSize) (defScope sSize) .none kV8 dc8 pm8 an8 cd8 ct8), sl8⟩)
    (c8 : PySem.W.codeIn K cd8 "_law_size" = true)
    (k8 : PySem.W.keepIn K (.ref f8) = true)
    (a9 : PySem.W.nsIn K mainGlobals "_law_letters" = some (some (.ref f9)))
    (l9 : K.lookup f9 = some ⟨oc9, od9, .func (PySem.W.fnOf "_law_letters" "_law_letters" (defArgs sLetters) (defBody sLetters) (defScope sLetters) .none kV9 dc9 pm9 an9 cd9 ct9), sl9⟩)
    (c9 : PySem.W.codeIn K cd9 "_law_letters" = true)
    (k9 : PySem.W.keepIn K (.ref f9) = true)
    (a10 : PySem.W.nsIn K mainGlobals "_law_is_word" = some (some (.ref f10)))
    (l10 : K.lookup f10 = some ⟨oc10, od10, .func (PySem.W.fnOf "_law_is_word" "_law_is_word" (defArgs sIsWord) (defBody sIsWord) (defScope sIsWord) .none kV10 dc10 pm10 an10 cd10 ct10), sl10⟩)
    (c10 : PySem.W.codeIn K cd10 "_law_is_word" = true)
    (k10 : PySem.W.keepIn K (.ref f10) = true)
    (a11 : PySem.W.nsIn K mainGlobals "_law_heard" = some (some (.ref f11)))
    (l11 : K.lookup f11 = some ⟨oc11, od11, .func (PySem.W.fnOf "_law_heard" "_law_heard" (defArgs sHeard) (defBody sHeard) (defScope sHeard) .none kV11 dc11 pm11 an11 cd11 ct11), sl11⟩)
    (c11 : PySem.W.codeIn K cd11 "_law_heard" = true)
    (k11 : PySem.W.keepIn K (.ref f11) = true)
    (a12 : PySem.W.nsIn K mainGlobals "_law_odd" = some (some (.ref f12)))
    (l12 : K.lookup f12 = some ⟨oc12, od12, .func (PySem.W.fnOf "_law_odd" "_law_odd" (defArgs sOdd) (defBody sOdd) (defScope sOdd) .none kV12 dc12 pm12 an12 cd12 ct12), sl12⟩)
    (c12 : PySem.W.codeIn K cd12 "_law_odd" = true)
    (k12 : PySem.W.keepIn K (.ref f12) = true)
    (a13 : PySem.W.nsIn K mainGlobals "_law_like" = some (some (.ref f13)))
    (l13 : K.lookup f13 = some ⟨oc13, od13, .func (PySem.W.fnOf "_law_like" "_law_like" (defArgs sLike) (defBody sLike) (defScope sLike) .none kV13 dc13 pm13 an13 cd13 ct13), sl13⟩)
    (c13 : PySem.W.codeIn K cd13 "_law_like" = true)
    (k13 : PySem.W.keepIn K (.ref f13) = true)
    (a14 : PySem.W.nsIn K mainGlobals "_law_refused_right" = some (some (.ref f14)))
    (l14 : K.lookup f14 = some ⟨oc14, od14, .func (PySem.W.fnOf "_law_refused_right" "_law_refused_right" (defArgs sRefused) (defBody sRefused) (defScope sRefused) .none kV14 dc14 pm14 an14 (.ref cR) ct14), sl14⟩)
    (c14 : PySem.W.codeIn K (.ref cR) "_law_refused_right" = true)
    (k14 : PySem.W.keepIn K (.ref f14) = true)
    (a15 : PySem.W.nsIn K mainGlobals "law" = some (some (.ref f15)))
    (l15 : K.lookup f15 = some ⟨oc15, od15, .func (PySem.W.fnOf "law" "law" (defArgs sLaw) (defBody sLaw) (defScope sLaw) .none kV15 dc15 pm15 an15 cd15 ct15), sl15⟩)
    (c15 : PySem.W.codeIn K cd15 "law" = true)
    (k15 : PySem.W.keepIn K (.ref f15) = true)
    (a16 : PySem.W.findIn K (.ref C) "__init__" = some (some (.ref f16)))
    (i16 : PySem.W.isFn K (.ref f16) = true)
    (l16 : K.lookup f16 = some ⟨oc16, od16, .func (PySem.W.fnOf "__init__" "Word.__init__" (defArgs sInit) (defBody sInit) (defScope sInit) .none kV16 dc16 pm16 an16 cd16 ct16), sl16⟩)
    (c16 : PySem.W.codeIn K cd16 "Word.__init__" = true)
    (k16 : PySem.W.keepIn K (.ref f16) = true)
    (a17 : PySem.W.findIn K (.ref C) "__len__" = some (some (.ref f17)))
    (i17 : PySem.W.isFn K (.ref f17) = true)
    (l17 : K.lookup f17 = some ⟨oc17, od17, .func (PySem.W.fnOf "__len__" "Word.__len__" (defArgs sLen) (defBody sLen) (defScope sLen) .none kV17 dc17 pm17 an17 cd17 ct17), sl17⟩)
    (c17 : PySem.W.codeIn K cd17 "Word.__len__" = true)
    (k17 : PySem.W.keepIn K (.ref f17) = true)
    (a18 : PySem.W.findIn K (.ref q1) "__init__" = some (some (.ref f18)))
    (i18 : PySem.W.isFn K (.ref f18) = true)
    (t18 : PySem.W.typeIn K (.ref f18) = some (.type "function"))
    (l18 : K.lookup f18 = some ⟨oc18, od18, .func (PySem.W.fnOf "__init__" "BadSize.__init__" (defArgs sESize) (defBody sESize) (defScope sESize) .none kV18 dc18 pm18 an18 cd18 ct18), sl18⟩)
    (c18 : PySem.W.codeIn K cd18 "BadSize.__init__" = true)
    (k18 : PySem.W.keepIn K (.ref f18) = true)
    (a19 : PySem.W.findIn K (.ref q2) "__init__" = some (some (.ref f19)))
    (i19 : PySem.W.isFn K (.ref f19) = true)
    (t19 : PySem.W.typeIn K (.ref f19) = some (.type "function"))
    (l19 : K.lookup f19 = some ⟨oc19, od19, .func (PySem.W.fnOf "__init__" "BadLetters.__init__" (defArgs sELetters) (defBody sELetters) (defScope sELetters) .none kV19 dc19 pm19 an19 cd19 ct19), sl19⟩)
    (c19 : PySem.W.codeIn K cd19 "BadLetters.__init__" = true)
    (k19 : PySem.W.keepIn K (.ref f19) = true)
    (a20 : PySem.W.findIn K (.ref q13) "__init__" = some (some (.ref f20)))
    (i20 : PySem.W.isFn K (.ref f20) = true)
    (t20 : PySem.W.typeIn K (.ref f20) = some (.type "function"))
    (l20 : K.lookup f20 = some ⟨oc20, od20, .func (PySem.W.fnOf "__init__" "TooGreat.__init__" (defArgs sEGreat) (defBody sEGreat) (defScope sEGreat) .none kV20 dc20 pm20 an20 cd20 ct20), sl20⟩)
    (c20 : PySem.W.codeIn K cd20 "TooGreat.__init__" = true)
    (k20 : PySem.W.keepIn K (.ref f20) = true)
    (pgC : PySem.W.plainGet K C Str.empty = true)
    (hdC : PySem.W.hasDictIn K C = true)
    (poC : PySem.W.plainOver K C = true)
    (saC : PySem.W.findIn K (.ref C) "__setattr__" = some (some (.builtin "object.__setattr__")))
    (mkC : PySem.W.makesIn K C = true)
    (kcC : PySem.W.keepIn K (.ref C) = true)
    (nC_size : PySem.W.findIn K (.ref C) "size" = some none)
    (nC_letters : PySem.W.findIn K (.ref C) "letters" = some none)
    (ca : PySem.W.findIn K (.ref C) "__class__" = some (some (.builtin "object.__class__")))
    (cn : PySem.W.specialIn K (.builtin "object.__class__") "__get__" = some (some (.builtin "getset_descriptor.__get__")))
    (ct : PySem.W.takesIn K (.builtin "object.__class__") = some true)
    (cm : PySem.W.mroIn K C (.type "object") = some true)
    (n2 : PySem.W.nsIn K mainGlobals "LEAST_SIZE" = some (some (.int 2 t2)))
    (n6 : PySem.W.nsIn K mainGlobals "MOST_SIZE" = some (some (.int 6 t6)))
    (n40 : PySem.W.nsIn K mainGlobals "MOST_LETTERS" = some (some (.int 40 t40)))
    (z_isinstance : PySem.W.nsIn K mainGlobals "isinstance" = some none)
    (z_int : PySem.W.nsIn K mainGlobals "int" = some none)
    (z_bool : PySem.W.nsIn K mainGlobals "bool" = some none)
    (z_list : PySem.W.nsIn K mainGlobals "list" = some none)
    (z_tuple : PySem.W.nsIn K mainGlobals "tuple" = some none)
    (z_len : PySem.W.nsIn K mainGlobals "len" = some none)
    (z_range : PySem.W.nsIn K mainGlobals "range" = some none)
    (z_enumerate : PySem.W.nsIn K mainGlobals "enumerate" = some none)
    (z_sorted : PySem.W.nsIn K mainGlobals "sorted" = some none)
    (z_min : PySem.W.nsIn K mainGlobals "min" = some none)
    (z_repr : PySem.W.nsIn K mainGlobals "repr" = some none)
    (z_zip : PySem.W.nsIn K mainGlobals "zip" = some none)
    (z_ValueError : PySem.W.nsIn K mainGlobals "ValueError" = some none)
    (ic0 : PySem.W.isClsIn K q0 = true)
    (ty0 : PySem.W.typeIn K (.ref q0) = some (.type "type"))
    (ic1 : PySem.W.isClsIn K q1 = true)
    (ty1 : PySem.W.typeIn K (.ref q1) = some (.type "type"))
    (ic2 : PySem.W.isClsIn K q2 = true)
    (ty2 : PySem.W.typeIn K (.ref q2) = some (.type "type"))
    (ic3 : PySem.W.isClsIn K q3 = true)
    (ty3 : PySem.W.typeIn K (.ref q3) = some (.type "type"))
    (ic4 : PySem.W.isClsIn K q4 = true)
    (ty4 : PySem.W.typeIn K (.ref q4) = some (.type "type"))
    (ic5 : PySem.W.isClsIn K q5 = true)
    (ty5 : PySem.W.typeIn K (.ref q5) = some (.type "type"))
    (ic6 : PySem.W.isClsIn K q6 = true)
    (ty6 : PySem.W.typeIn K (.ref q6) = some (.type "type"))
    (ic7 : PySem.W.isClsIn K q7 = true)
    (ty7 : PySem.W.typeIn K (.ref q7) = some (.type "type"))
    (ic8 : PySem.W.isClsIn K q8 = true)
    (ty8 : PySem.W.typeIn K (.ref q8) = some (.type "type"))
    (ic9 : PySem.W.isClsIn K q9 = true)
    (ty9 : PySem.W.typeIn K (.ref q9) = some (.type "type"))
    (ic10 : PySem.W.isClsIn K q10 = true)
    (ty10 : PySem.W.typeIn K (.ref q10) = some (.type "type"))
    (ic11 : PySem.W.isClsIn K q11 = true)
    (ty11 : PySem.W.typeIn K (.ref q11) = some (.type "type"))
    (ic12 : PySem.W.isClsIn K q12 = true)
    (ty12 : PySem.W.typeIn K (.ref q12) = some (.type "type"))
    (ic13 : PySem.W.isClsIn K q13 = true)
    (ty13 : PySem.W.typeIn K (.ref q13) = some (.type "type"))
    (eb0 : PySem.W.subIn K (.ref q0) (.type "BaseException") = some true)
    (eb1 : PySem.W.subIn K (.ref q1) (.type "BaseException") = some true)
    (eb2 : PySem.W.subIn K (.ref q2) (.type "BaseException") = some true)
    (eb12 : PySem.W.subIn K (.ref q12) (.type "BaseException") = some true)
    (eb13 : PySem.W.subIn K (.ref q13) (.type "BaseException") = some true)
    (xl1 : K.lookup q1 = some (excClassObj xn1 xq1 q1 xN1 xs1 [.ref q0, .type "ValueError", .type "Exception", .type "BaseException", .type "object"] true xm1 xu1 xb1 xc1 xd1 x01 x11 x21 x31 x51 "ValueError.__new__"))
    (sa1 : PySem.W.findIn K (.ref q1) "__setattr__" = some (some (.builtin "object.__setattr__")))
    (ga1 : PySem.W.findIn K (.ref q1) "__getattribute__" = some (some (.builtin "BaseException.__getattribute__")))
    (gg1 : PySem.W.findIn K (.ref q1) "__getattr__" = some none)
    (hd1 : PySem.W.hasDictIn K q1 = true)
    (ca1 : PySem.W.findIn K (.ref q1) "__class__" = some (some (.builtin "object.__class__")))
    (cm1 : PySem.W.mroIn K q1 (.type "object") = some true)
    (kq1 : PySem.W.keepIn K (.ref q1) = true)
    (no1 : PySem.W.findIn K (.ref q1) "value" = some none)
    (su1_0 : PySem.W.subIn K (.ref q1) (.ref q0) = some true)
    (su1_1 : PySem.W.subIn K (.ref q1) (.ref q1) = some true)
    (su1_2 : PySem.W.subIn K (.ref q1) (.ref q2) = some false)
    (su1_3 : PySem.W.subIn K (.ref q1) (.ref q3) = some false)
    (su1_4 : PySem.W.subIn K (.ref q1) (.ref q4) = some false)
    (su1_5 : PySem.W.subIn K (.ref q1) (.ref q5) = some false)
    (su1_6 : PySem.W.subIn K (.ref q1) (.ref q6) = some false)
    (su1_7 : PySem.W.subIn K (.ref q1) (.ref q7) = some false)
    (su1_8 : PySem.W.subIn K (.ref q1) (.ref q8) = some false)
    (su1_9 : PySem.W.subIn K (.ref q1) (.ref q9) = some false)
    (su1_10 : PySem.W.subIn K (.ref q1) (.ref q10) = some false)
    (su1_11 : PySem.W.subIn K (.ref q1) (.ref q11) = some false)
    (su1_12 : PySem.W.subIn K (.ref q1) (.ref q12) = some false)
    (su1_13 : PySem.W.subIn K (.ref q1) (.ref q13) = some false)
    (ve1 : PySem.W.subIn K (.ref q1) (.type "ValueError") = some true)
    (xl2 : K.lookup q2 = some (excClassObj xn2 xq2 q2 xN2 xs2 [.ref q0, .type "ValueError", .type "Exception", .type "BaseException", .type "object"] true xm2 xu2 xb2 xc2 xd2 x02 x12 x22 x32 x52 "ValueError.__new__"))
    (sa2 : PySem.W.findIn K (.ref q2) "__setattr__" = some (some (.builtin "object.__setattr__")))
    (ga2 : PySem.W.findIn K (.ref q2) "__getattribute__" = some (some (.builtin "BaseException.__getattribute__")))
    (gg2 : PySem.W.findIn K (.ref q2) "__getattr__" = some none)
    (hd2 : PySem.W.hasDictIn K q2 = true)
    (ca2 : PySem.W.findIn K (.ref q2) "__class__" = some (some (.builtin "object.__class__")))
    (cm2 : PySem.W.mroIn K q2 (.type "object") = some true)
    (kq2 : PySem.W.keepIn K (.ref q2) = true)
    (no2 : PySem.W.findIn K (.ref q2) "place" = some none)
    (su2_0 : PySem.W.subIn K (.ref q2) (.ref q0) = some true)
    (su2_1 : PySem.W.subIn K (.ref q2) (.ref q1) = some false)
    (su2_2 : PySem.W.subIn K (.ref q2) (.ref q2) = some true)
    (su2_3 : PySem.W.subIn K (.ref q2) (.ref q3) = some false)
    (su2_4 : PySem.W.subIn K (.ref q2) (.ref q4) = some false)
    (su2_5 : PySem.W.subIn K (.ref q2) (.ref q5) = some false)
    (su2_6 : PySem.W.subIn K (.ref q2) (.ref q6) = some false)
    (su2_7 : PySem.W.subIn K (.ref q2) (.ref q7) = some false)
    (su2_8 : PySem.W.subIn K (.ref q2) (.ref q8) = some false)
    (su2_9 : PySem.W.subIn K (.ref q2) (.ref q9) = some false)
    (su2_10 : PySem.W.subIn K (.ref q2) (.ref q10) = some false)
    (su2_11 : PySem.W.subIn K (.ref q2) (.ref q11) = some false)
    (su2_12 : PySem.W.subIn K (.ref q2) (.ref q12) = some false)
    (su2_13 : PySem.W.subIn K (.ref q2) (.ref q13) = some false)
    (ve2 : PySem.W.subIn K (.ref q2) (.type "ValueError") = some true)
    (xl13 : K.lookup q13 = some (excClassObj xn13 xq13 q13 xN13 xs13 [.type "OverflowError", .type "ArithmeticError", .type "Exception", .type "BaseException", .type "object"] true xm13 xu13 xb13 xc13 xd13 x013 x113 x213 x313 x513 "OverflowError.__new__"))
    (sa13 : PySem.W.findIn K (.ref q13) "__setattr__" = some (some (.builtin "object.__setattr__")))
    (ga13 : PySem.W.findIn K (.ref q13) "__getattribute__" = some (some (.builtin "BaseException.__getattribute__")))
    (gg13 : PySem.W.findIn K (.ref q13) "__getattr__" = some none)
    (hd13 : PySem.W.hasDictIn K q13 = true)
    (ca13 : PySem.W.findIn K (.ref q13) "__class__" = some (some (.builtin "object.__class__")))
    (cm13 : PySem.W.mroIn K q13 (.type "object") = some true)
    (kq13 : PySem.W.keepIn K (.ref q13) = true)
    (no13 : PySem.W.findIn K (.ref q13) "most" = some none)
    (su13_0 : PySem.W.subIn K (.ref q13) (.ref q0) = some false)
    (su13_1 : PySem.W.subIn K (.ref q13) (.ref q1) = some false)
    (su13_2 : PySem.W.subIn K (.ref q13) (.ref q2) = some false)
    (su13_3 : PySem.W.subIn K (.ref q13) (.ref q3) = some false)
    (su13_4 : PySem.W.subIn K (.ref q13) (.ref q4) = some false)
    (su13_5 : PySem.W.subIn K (.ref q13) (.ref q5) = some false)
    (su13_6 : PySem.W.subIn K (.ref q13) (.ref q6) = some false)
    (su13_7 : PySem.W.subIn K (.ref q13) (.ref q7) = some false)
    (su13_8 : PySem.W.subIn K (.ref q13) (.ref q8) = some false)
    (su13_9 : PySem.W.subIn K (.ref q13) (.ref q9) = some false)
    (su13_10 : PySem.W.subIn K (.ref q13) (.ref q10) = some false)
    (su13_11 : PySem.W.subIn K (.ref q13) (.ref q11) = some false)
    (su13_12 : PySem.W.subIn K (.ref q13) (.ref q12) = some false)
    (su13_13 : PySem.W.subIn K (.ref q13) (.ref q13) = some true)
    (ve13 : PySem.W.subIn K (.ref q13) (.type "ValueError") = some false)
    (out : K.lookup Pt = none) (hdT : PySem.W.codeHdIn K cR Pt = true) :
    TellsT l w K 9 "script" (fun T => spLaw K T) mg fa h := by
  have e := hfa.symm.trans (PySem.W.mg_of X G a15)
  cases e
  have B : Bare mg := ⟨PySem.W.mg_none_of X G z_isinstance, PySem.W.mg_none_of X G z_int, PySem.W.mg_none_of X G z_bool, PySem.W.mg_none_of X G z_list, PySem.W.mg_none_of X G z_tuple, PySem.W.mg_none_of X G z_len, PySem.W.mg_none_of X G z_range, PySem.W.mg_none_of X G z_enumerate, PySem.W.mg_none_of X G z_sorted, PySem.W.mg_none_of X G z_min, PySem.W.mg_none_of X G z_repr, PySem.W.mg_none_of X G z_zip, PySem.W.mg_none_of X G z_ValueError⟩
  have N : Nums mg := ⟨⟨_, PySem.W.mg_of X G n2⟩, ⟨_, PySem.W.mg_of X G n6⟩, ⟨_, PySem.W.mg_of X G n40⟩⟩
  have T : Cw K mg C := ⟨⟨pgC, hdC, poC, saC⟩, nC_size, nC_letters, PySem.W.mg_of X G aC, ca, cn, ct, cm⟩
  have F0 := fun_mk (st := sBetween) l0 c0 k0
  have b0 := F0.binds (ps := ["value", "least", "most"]) fun _ _ _ _ _ _ us hl => match us, hl with | [_, _, _], _ => rfl
  have D0 : Df K mg "is_between" sBetween f0 _ := ⟨F0, PySem.W.mg_of X G a0⟩
  have F1 := fun_mk (st := sListing) l1 c1 k1
  have b1 := F1.binds (ps := ["value"]) fun _ _ _ _ _ _ us hl => match us, hl with | [_], _ => rfl
  have D1 : Df K mg "is_listing" sListing f1 _ := ⟨F1, PySem.W.mg_of X G a1⟩
  have F2 := fun_mk (st := sCkSize) l2 c2 k2
  have b2 := F2.binds (ps := ["size"]) fun _ _ _ _ _ _ us hl => match us, hl with | [_], _ => rfl
  have D2 : Df K mg "check_size" sCkSize f2 _ := ⟨F2, PySem.W.mg_of X G a2⟩
  have F3 := fun_mk (st := sCkLetters) l3 c3 k3
  have b3 := F3.binds (ps := ["size", "letters"]) fun _ _ _ _ _ _ us hl => match us, hl with | [_, _], _ => rfl
  have D3 : Df K mg "check_letters" sCkLetters f3 _ := ⟨F3, PySem.W.mg_of X G a3⟩
  have F4 := fun_mk (st := sMixed) l4 c4 k4
  have b4 := F4.binds (ps := ["cell", "n"]) fun _ _ _ _ _ _ us hl => match us, hl with | [_, _], _ => rfl
  have D4 : Df K mg "_law_mixed" sMixed f4 _ := ⟨F4, PySem.W.mg_of X G a4⟩
  have F5 := fun_mk (st := sFolded) l5 c5 k5
  have b5 := F5.binds (ps := ["script"]) fun _ _ _ _ _ _ us hl => match us, hl with | [_], _ => rfl
  have D5 : Df K mg "_law_folded" sFolded f5 _ := ⟨F5, PySem.W.mg_of X G a5⟩
  have F6 := fun_mk (st := sDraw) l6 c6 k6
  have b6 := F6.binds (ps := ["m", "limit"]) fun _ _ _ _ _ _ us hl => match us, hl with | [_, _], _ => rfl
  have D6 : Df K mg "_law_draw" sDraw f6 _ := ⟨F6, PySem.W.mg_of X G a6⟩
  have F7 := fun_mk (st := sBegun) l7 c7 k7
  have b7 := F7.binds (ps := ["script"]) fun _ _ _ _ _ _ us hl => match us, hl with | [_], _ => rfl
  have D7 : Df K mg "_law_begun" sBegun f7 _ := ⟨F7, PySem.W.mg_of X G a7⟩
  have F8 := fun_mk (st := sSize) l8 c8 k8
  have b8 := F8.binds (ps := ["m"]) fun _ _ _ _ _ _ us hl => match us, hl with | [_], _ => rfl
  have D8 : Df K mg "_law_size" sSize f8 _ := ⟨F8, PySem.W.mg_of X G a8⟩
  have F9 := fun_mk (st := sLetters) l9 c9 k9
  have b9 := F9.binds (ps := ["m", "size", "most"]) fun _ _ _ _ _ _ us hl => match us, hl with | [_, _, _], _ => rfl
  have D9 : Df K mg "_law_letters" sLetters f9 _ := ⟨F9, PySem.W.mg_of X G a9⟩
  have F10 := fun_mk (st := sIsWord) l10 c10 k10
  have b10 := F10.binds (ps := ["told", "size", "letters"]) fun _ _ _ _ _ _ us hl => match us, hl with | [_, _, _], _ => rfl
  have D10 : Df K mg "_law_is_word" sIsWord f10 _ := ⟨F10, PySem.W.mg_of X G a10⟩
  have F11 := fun_mk (st := sHeard) l11 c11 k11
  have b11 := F11.binds (ps := ["call"]) fun _ _ _ _ _ _ us hl => match us, hl with | [_], _ => rfl
  have D11 : Df K mg "_law_heard" sHeard f11 _ := ⟨F11, PySem.W.mg_of X G a11⟩
  have F12 := fun_mk (st := sOdd) l12 c12 k12
  have b12 := F12.binds (ps := ["m", "size"]) fun _ _ _ _ _ _ us hl => match us, hl with | [_, _], _ => rfl
  have D12 : Df K mg "_law_odd" sOdd f12 _ := ⟨F12, PySem.W.mg_of X G a12⟩
  have F13 := fun_mk (st := sLike) l13 c13 k13
  have b13 := F13.binds (ps := ["told", "due"]) fun _ _ _ _ _ _ us hl => match us, hl with | [_, _], _ => rfl
  have D13 : Df K mg "_law_like" sLike f13 _ := ⟨F13, PySem.W.mg_of X G a13⟩
  have F14 := fun_mk (st := sRefused) l14 c14 k14
  have b14 := F14.binds (ps := ["m", "size", "letters"]) fun _ _ _ _ _ _ us hl => match us, hl with | [_, _, _], _ => rfl
  have D14 : Df K mg "_law_refused_right" sRefused f14 _ := ⟨F14, PySem.W.mg_of X G a14⟩
  have F15 := fun_mk (st := sLaw) l15 c15 k15
  have b15 := F15.binds (ps := ["script"]) fun _ _ _ _ _ _ us hl => match us, hl with | [_], _ => rfl
  have D15 : Df K mg "law" sLaw fa _ := ⟨F15, PySem.W.mg_of X G a15⟩
  have F16 := fun_mk (st := sInit) l16 c16 k16
  have b16 := F16.binds (ps := ["self", "size", "letters"]) fun _ _ _ _ _ _ us hl => match us, hl with | [_, _, _], _ => rfl
  have M16 : Meth K C "__init__" f16 := ⟨a16, i16, k16⟩
  have F17 := fun_mk (st := sLen) l17 c17 k17
  have b17 := F17.binds (ps := ["self"]) fun _ _ _ _ _ _ us hl => match us, hl with | [_], _ => rfl
  have M17 : Meth K C "__len__" f17 := ⟨a17, i17, k17⟩
  have F18 := fun_mk (st := sESize) l18 c18 k18
  have b18 := F18.binds (ps := ["self", "value"]) fun _ _ _ _ _ _ us hl => match us, hl with | [_, _], _ => rfl
  have F19 := fun_mk (st := sELetters) l19 c19 k19
  have b19 := F19.binds (ps := ["self", "place"]) fun _ _ _ _ _ _ us hl => match us, hl with | [_, _], _ => rfl
  have F20 := fun_mk (st := sEGreat) l20 c20 k20
  have b20 := F20.binds (ps := ["self", "most"]) fun _ _ _ _ _ _ us hl => match us, hl with | [_, _], _ => rfl
  have FR : FunR K "_law_refused_right" "_law_refused_right" sRefused cR f14 _ := ⟨⟨_, _, _, _, _, _, _, _, rfl, l14, c14⟩, k14⟩
  let e : Eca := { lift := q0, of := fun k => match k with | .size => q1 | .letters => q2 | .index => q3 | .number => q4 | .deed => q5 | .table => q6 | .move => q7 | .shape => q8 | .stuck => q12 | .great => q13, recd := q9, osize := q10, ohouse := q11 }
  have EC : Ec K mg e := ⟨PySem.W.mg_none_of X G z_isinstance, PySem.W.mg_none_of X G z_zip, PySem.W.mg_none_of X G z_len, PySem.W.mg_none_of X G z_ValueError, PySem.W.mg_of X G cl0, PySem.W.mg_of X G cl1, PySem.W.mg_of X G cl2, PySem.W.mg_of X G cl3, PySem.W.mg_of X G cl4, PySem.W.mg_of X G cl5, PySem.W.mg_of X G cl6, PySem.W.mg_of X G cl7, PySem.W.mg_of X G cl8, PySem.W.mg_of X G cl9, PySem.W.mg_of X G cl10, PySem.W.mg_of X G cl11, PySem.W.mg_of X G cl12, PySem.W.mg_of X G cl13, ⟨cn, ct⟩⟩
  have TE1 : OexG K q1 "ValueError.__new__" bmV := oexG_V ⟨⟨_, _, _, _, _, _, _, _, _, _, _, _, _, _, _, xl1, rfl⟩, sa1, eb1, ty1, kq1⟩
  have EK1 : Ek K e .size := ⟨⟨ga1, gg1, eb1, hd1, ca1, cm1⟩, no1, exm3 (exm_is eb0 ic0 ty0 su1_0) (exm_is eb12 ic12 ty12 su1_12) (exm_is eb13 ic13 ty13 su1_13) rfl, fun k' => match k' with | .size => kit_self | .letters => kit_no su1_1 su1_2 ic2 ty2 | .index => kit_no su1_1 su1_3 ic3 ty3 | .number => kit_no su1_1 su1_4 ic4 ty4 | .deed => kit_no su1_1 su1_5 ic5 ty5 | .table => kit_no su1_1 su1_6 ic6 ty6 | .move => kit_no su1_1 su1_7 ic7 ty7 | .shape => kit_no su1_1 su1_8 ic8 ty8 | .stuck => kit_no su1_1 su1_12 ic12 ty12 | .great => kit_no su1_1 su1_13 ic13 ty13, kit_no su1_1 su1_9 ic9 ty9, kit_no su1_1 su1_10 ic10 ty10, kit_no su1_1 su1_11 ic11 ty11, kit_ve ve1⟩
  have TE2 : OexG K q2 "ValueError.__new__" bmV := oexG_V ⟨⟨_, _, _, _, _, _, _, _, _, _, _, _, _, _, _, xl2, rfl⟩, sa2, eb2, ty2, kq2⟩
  have EK2 : Ek K e .letters := ⟨⟨ga2, gg2, eb2, hd2, ca2, cm2⟩, no2, exm3 (exm_is eb0 ic0 ty0 su2_0) (exm_is eb12 ic12 ty12 su2_12) (exm_is eb13 ic13 ty13 su2_13) rfl, fun k' => match k' with | .size => kit_no su2_2 su2_1 ic1 ty1 | .letters => kit_self | .index => kit_no su2_2 su2_3 ic3 ty3 | .number => kit_no su2_2 su2_4 ic4 ty4 | .deed => kit_no su2_2 su2_5 ic5 ty5 | .table => kit_no su2_2 su2_6 ic6 ty6 | .move => kit_no su2_2 su2_7 ic7 ty7 | .shape => kit_no su2_2 su2_8 ic8 ty8 | .stuck => kit_no su2_2 su2_12 ic12 ty12 | .great => kit_no su2_2 su2_13 ic13 ty13, kit_no su2_2 su2_9 ic9 ty9, kit_no su2_2 su2_10 ic10 ty10, kit_no su2_2 su2_11 ic11 ty11, kit_ve ve2⟩
  have TE13 : OexG K q13 "OverflowError.__new__" bmO := ⟨⟨_, _, _, _, _, _, _, _, _, _, _, _, _, _, _, xl13, pass_O, fun _ => rfl, by decide +kernel⟩, sa13, eb13, ty13, kq13⟩
  have EK13 : Ek K e .great := ⟨⟨ga13, gg13, eb13, hd13, ca13, cm13⟩, no13, exm3 (exm_is eb0 ic0 ty0 su13_0) (exm_is eb12 ic12 ty12 su13_12) (exm_is eb13 ic13 ty13 su13_13) rfl, fun k' => match k' with | .size => kit_no su13_13 su13_1 ic1 ty1 | .letters => kit_no su13_13 su13_2 ic2 ty2 | .index => kit_no su13_13 su13_3 ic3 ty3 | .number => kit_no su13_13 su13_4 ic4 ty4 | .deed => kit_no su13_13 su13_5 ic5 ty5 | .table => kit_no su13_13 su13_6 ic6 ty6 | .move => kit_no su13_13 su13_7 ic7 ty7 | .shape => kit_no su13_13 su13_8 ic8 ty8 | .stuck => kit_no su13_13 su13_12 ic12 ty12 | .great => kit_self, kit_no su13_13 su13_9 ic9 ty9, kit_no su13_13 su13_10 ic10 ty10, kit_no su13_13 su13_11 ic11 ty11, kit_ve ve13⟩
  refine ⟨PySem.W.fnOf "law" "law" (defArgs sLaw) (defBody sLaw) (defScope sLaw) .none kV15 dc15 pm15 an15 cd15 ct15, cR, Pt, tab, out, PySem.W.codeHd_of_K X hdT, fun s v => .of_eq rfl, fun base _ _ TB => ?_⟩
  have R1 : Er l.prog w K mg base "BadSize" q1 "ValueError" "ValueError.__new__" "ValueError.__init__" bmV "value" f18 _ := ⟨PySem.F.excBase_ValueError, TE1, PySem.W.mg_of X G cl1, a18, t18, ok_esize F18 TE1 no1, b18⟩
  have R2 : Er l.prog w K mg base "BadLetters" q2 "ValueError" "ValueError.__new__" "ValueError.__init__" bmV "place" f19 _ := ⟨PySem.F.excBase_ValueError, TE2, PySem.W.mg_of X G cl2, a19, t19, ok_eletters F19 TE2 no2, b19⟩
  have R13 : Er l.prog w K mg base "TooGreat" q13 "OverflowError" "OverflowError.__new__" "OverflowError.__init__" bmO "most" f20 _ := ⟨PySem.F.excBase_OverflowError, TE13, PySem.W.mg_of X G cl13, a20, t20, ok_egreat F20 TE13 no13, b20⟩
  have Gbet := ok_betweenG (P := l.prog) (w := w) (base := base) B D0
  have Glist := ok_listingG (P := l.prog) (w := w) (base := base) B D1
  have Gcs := ok_cksizeX (P := l.prog) (w := w) (base := base) N D2 D0 b0 Gbet R1
  have Gcl := ok_ckeltX (P := l.prog) (w := w) (base := base) B N D3 D0 b0 Gbet D1 b1 Glist R2 R13
  have Gin := ok_initX (P := l.prog) (w := w) (base := base) B T F16 D2 b2 Gcs D3 b3 Gcl
  have I : InX l.prog w K mg base C q1 q2 q13 f16 _ := ⟨⟨mkC, a16, i16, kcC⟩, Gin, b16⟩
  have Gln := ok_len (P := l.prog) (w := w) (base := base) B T F17
  have Gmix := ok_mixed (P := l.prog) (w := w) (base := base) B D4
  have Gfol := ok_folded (P := l.prog) (w := w) (base := base) B D5
  have Gdr := ok_draw (P := l.prog) (w := w) (base := base) B D6 D4 b4 Gmix
  have Gbe := ok_begun (P := l.prog) (w := w) (base := base) D7 D5 b5 Gfol
  have Gsz := ok_size (P := l.prog) (w := w) (base := base) D8 D6 b6 Gdr
  have Gle := ok_letters (P := l.prog) (w := w) (base := base) B D9 D6 b6 Gdr
  have Giw := ok_isword (P := l.prog) (w := w) (base := base) B T D10
  have God := ok_odd (P := l.prog) (w := w) (base := base) D12 D6 b6 Gdr
  have Glk := ok_like (P := l.prog) (w := w) (base := base) B D13
  have OR : OwR l.prog w K mg base e f11 f6 f12 f13 _ _ _ _ := ⟨EC, EK1, EK2, EK13, D11, b11, D6, Gdr, b6, D12, God, b12, D13, Glk, b13⟩
  have Gre := ok_refused B T FR TB I OR
  have O : Ow l.prog w K mg base C Pt f7 f8 f9 f10 f14 f17 _ _ _ _ _ _ := ⟨D7, Gbe, b7, D8, Gsz, b8, D9, Gle, b9, D10, Giw, b10, D14, Gre, b14, M17, Gln, b17⟩
  exact ok_law B N T D15 I O
theorem walk {l : PySem.W.OpenLaw} {q : Program} {loose : List Str} {XP : (Str → Option Value) → Heap → Prop} {YP : World → Heap → Prop} {d : DefRec} {K : Params → PySem.W.Frag} (hn : l.most = some 63) (hdf : d.params.defaults = [])
    (hY : ∀ (w : World) (h : Heap), YP w h → (K w.params).In h)
    (F : ∀ (w : World) (mg : Str → Option Value) (fa : Addr) (h : Heap), YP w h → (K w.params).In h → h.Ns mainGlobals mg → mg d.name = some (.ref fa) → TellsT l w (K w.params) 9 "script" (fun T => spLaw (K w.params) T) mg fa h) :
    PySem.W.WalkO q loose XP YP l.row.toRowW d [] (fun f vs => PySem.call f vs) :=
  LwE.walkGT (n := 63) (k := 9) (x := "script") (sp := fun w T => spLaw (K w.params) T) hn (by decide) hdf ⟨rfl, by decide, by decide⟩ hY F fun _ _ a T ns hl hT hS => ⟨a, ns, rfl, hS, hl, (fun p hp => by rw [List.mem_singleton.mp hp]; exact TabS.nil hT), fun _ => rfl⟩
end Lw
open PySem PySem.W PyProof.Rows
set_option maxRecDepth 100000 in
set_option maxHeartbeats 0 in
theorem PySem.Challenge.cw_liftwords_k01_words_made_holds : PySem.Challenge.rw_liftwords_k01_words_made.Holds := by
  w_on; o_law; k_head; (case hw => w_witness2)
  k_fill
  refine Lw.walk (l := PySem.Challenge.rw_liftwords_k01_words_made) rfl rfl (fun w h Y => PySem.W.km_in_of Y) ?F
  case F =>
    intro w mg fa h Y KX G hmg
    refine' Lw.all_mk KX G hmg ?tab ?aC ?cl0 ?cl1 ?cl2 ?cl3 ?cl4 ?cl5 ?cl6 ?cl7 ?cl8 ?cl9 ?cl10 ?cl11 ?cl12 ?cl13 ?a0 ?l0 ?c0 ?k0 ?a1 ?l1 ?c1 ?k1 ?a2 ?l2 ?c2 ?k2 ?a3 ?l3 ?c3 ?k3 ?a4 ?l4 ?c4 ?k4 ?a5 ?l5 ?c5 ?k5 ?a6 ?l6 ?c6 ?k6 ?a7 ?l7 ?c7 ?k7 ?a8 ?l8 ?c8 ?k8 ?a9 ?l9 ?c9 ?k9 ?a10 ?l10 ?c10 ?k10 ?a11 ?l11 ?c11 ?k11 ?a12 ?l12 ?c12 ?k12 ?a13 ?l13 ?c13 ?k13 ?a14 ?l14 ?c14 ?k14 ?a15 ?l15 ?c15 ?k15 ?a16 ?i16 ?l16 ?c16 ?k16 ?a17 ?i17 ?l17 ?c17 ?k17 ?a18 ?i18 ?t18 ?l18 ?c18 ?k18 ?a19 ?i19 ?t19 ?l19 ?c19 ?k19 ?a20 ?i20 ?t20 ?l20 ?c20 ?k20 ?pgC ?hdC ?poC ?saC ?mkC ?kcC ?nC_size ?nC_letters ?ca ?cn ?ct ?cm ?n2 ?n6 ?n40 ?z_isinstance ?z_int ?z_bool ?z_list ?z_tuple ?z_len ?z_range ?z_enumerate ?z_sorted ?z_min ?z_repr ?z_zip ?z_ValueError ?ic0 ?ty0 ?ic1 ?ty1 ?ic2 ?ty2 ?ic3 ?ty3 ?ic4 ?ty4 ?ic5 ?ty5 ?ic6 ?ty6 ?ic7 ?ty7 ?ic8 ?ty8 ?ic9 ?ty9 ?ic10 ?ty10 ?ic11 ?ty11 ?ic12 ?ty12 ?ic13 ?ty13 ?eb0 ?eb1 ?eb2 ?eb12 ?eb13 ?xl1 ?sa1 ?ga1 ?gg1 ?hd1 ?ca1 ?cm1 ?kq1 ?no1 ?su1_0 ?su1_1 ?su1_2 ?su1_3 ?su1_4 ?su1_5 ?su1_6 ?su1_7 ?su1_8 ?su1_9 ?su1_10 ?su1_11 ?su1_12 ?su1_13 ?ve1 ?xl2 ?sa2 ?ga2 ?gg2 ?hd2 ?ca2 ?cm2 ?kq2 ?no2 ?su2_0 ?su2_1 ?su2_2 ?su2_3 ?su2_4 ?su2_5 ?su2_6 ?su2_7 ?su2_8 ?su2_9 ?su2_10 ?su2_11 ?su2_12 ?su2_13 ?ve2 ?xl13 ?sa13 ?ga13 ?gg13 ?hd13 ?ca13 ?cm13 ?kq13 ?no13 ?su13_0 ?su13_1 ?su13_2 ?su13_3 ?su13_4 ?su13_5 ?su13_6 ?su13_7 ?su13_8 ?su13_9 ?su13_10 ?su13_11 ?su13_12 ?su13_13 ?ve13 ?out ?hdT
    (case tab => exact (List.forall_mem_cons.mp (PySem.W.km_tabs_of Y)).1)
    (case aC => k_is)
    (case cl0 => k_is)
    (case cl1 => k_is)
    (case cl2 => k_is)
    (case cl3 => k_is)
    (case cl4 => k_is)
    (case cl5 => k_is)
    (case cl6 => k_is)
    (case cl7 => k_is)
    (case cl8 => k_is)
    (case cl9 => k_is)
    (case cl10 => k_is)
    (case cl11 => k_is)
    (case cl12 => k_is)
    (case cl13 => k_is)
    (case a0 => k_is)
    (case l0 => k_is)
    (case c0 => k_is)
    (case k0 => k_is)
    (case a1 => k_is)
    (case l1 => k_is)
    (case c1 => k_is)
    (case k1 => k_is)
    (case a2 => k_is)
    (case l2 => k_is)
    (case c2 => k_is)
    (case k2 => k_is)
    (case a3 => k_is)
    (case l3 => k_is)
    (case c3 => k_is)
    (case k3 => k_is)
    (case a4 => k_is)
    (case l4 => k_is)
    (case c4 => k_is)
    (case k4 => k_is)
    (case a5 => k_is)
    (case l5 => k_is)
    (case c5 => k_is)
    (case k5 => k_is)
    (case a6 => k_is)
    (case l6 => k_is)
    (case c6 => k_is)
    (case k6 => k_is)
    (case a7 => k_is)
    (case l7 => k_is)
    (case c7 => k_is)
    (case k7 => k_is)
    (case a8 => k_is)
    (case l8 => k_is)
    (case c8 => k_is)
    (case k8 => k_is)
    (case a9 => k_is)
    (case l9 => k_is)
    (case c9 => k_is)
    (case k9 => k_is)
    (case a10 => k_is)
    (case l10 => k_is)
    (case c10 => k_is)
    (case k10 => k_is)
    (case a11 => k_is)
    (case l11 => k_is)
    (case c11 => k_is)
    (case k11 => k_is)
    (case a12 => k_is)
    (case l12 => k_is)
    (case c12 => k_is)
    (case k12 => k_is)
    (case a13 => k_is)
    (case l13 => k_is)
    (case c13 => k_is)
    (case k13 => k_is)
    (case a14 => k_is)
    (case l14 => k_is)
    (case c14 => k_is)
    (case k14 => k_is)
    (case a15 => k_is)
    (case l15 => k_is)
    (case c15 => k_is)
    (case k15 => k_is)
    (case a16 => k_is)
    (case i16 => k_is)
    (case l16 => k_is)
    (case c16 => k_is)
    (case k16 => k_is)
    (case a17 => k_is)
    (case i17 => k_is)
    (case l17 => k_is)
    (case c17 => k_is)
    (case k17 => k_is)
    (case a18 => k_is)
    (case i18 => k_is)
    (case t18 => k_is)
    (case l18 => k_is)
    (case c18 => k_is)
    (case k18 => k_is)
    (case a19 => k_is)
    (case i19 => k_is)
    (case t19 => k_is)
    (case l19 => k_is)
    (case c19 => k_is)
    (case k19 => k_is)
    (case a20 => k_is)
    (case i20 => k_is)
    (case t20 => k_is)
    (case l20 => k_is)
    (case c20 => k_is)
    (case k20 => k_is)
    (case pgC => k_is)
    (case hdC => k_is)
    (case poC => k_is)
    (case saC => k_is)
    (case mkC => k_is)
    (case kcC => k_is)
    (case nC_size => k_is)
    (case nC_letters => k_is)
    (case ca => k_is)
    (case cn => k_is)
    (case ct => k_is)
    (case cm => k_is)
    (case n2 => k_is)
    (case n6 => k_is)
    (case n40 => k_is)
    (case z_isinstance => k_is)
    (case z_int => k_is)
    (case z_bool => k_is)
    (case z_list => k_is)
    (case z_tuple => k_is)
    (case z_len => k_is)
    (case z_range => k_is)
    (case z_enumerate => k_is)
    (case z_sorted => k_is)
    (case z_min => k_is)
    (case z_repr => k_is)
    (case z_zip => k_is)
    (case z_ValueError => k_is)
    (case ic0 => k_is)
    (case ty0 => k_is)
    (case ic1 => k_is)
    (case ty1 => k_is)
    (case ic2 => k_is)
    (case ty2 => k_is)
    (case ic3 => k_is)
    (case ty3 => k_is)
    (case ic4 => k_is)
    (case ty4 => k_is)
    (case ic5 => k_is)
    (case ty5 => k_is)
    (case ic6 => k_is)
    (case ty6 => k_is)
    (case ic7 => k_is)
    (case ty7 => k_is)
    (case ic8 => k_is)
    (case ty8 => k_is)
    (case ic9 => k_is)
    (case ty9 => k_is)
    (case ic10 => k_is)
    (case ty10 => k_is)
    (case ic11 => k_is)
    (case ty11 => k_is)
    (case ic12 => k_is)
    (case ty12 => k_is)
    (case ic13 => k_is)
    (case ty13 => k_is)
    (case eb0 => k_is)
    (case eb1 => k_is)
    (case eb2 => k_is)
    (case eb12 => k_is)
    (case eb13 => k_is)
    (case xl1 => k_is)
    (case sa1 => k_is)
    (case ga1 => k_is)
    (case gg1 => k_is)
    (case hd1 => k_is)
    (case ca1 => k_is)
    (case cm1 => k_is)
    (case kq1 => k_is)
    (case no1 => k_is)
    (case su1_0 => k_is)
    (case su1_1 => k_is)
    (case su1_2 => k_is)
    (case su1_3 => k_is)
    (case su1_4 => k_is)
    (case su1_5 => k_is)
    (case su1_6 => k_is)
    (case su1_7 => k_is)
    (case su1_8 => k_is)
    (case su1_9 => k_is)
    (case su1_10 => k_is)
    (case su1_11 => k_is)
    (case su1_12 => k_is)
    (case su1_13 => k_is)
    (case ve1 => k_is)
    (case xl2 => k_is)
    (case sa2 => k_is)
    (case ga2 => k_is)
    (case gg2 => k_is)
    (case hd2 => k_is)
    (case ca2 => k_is)
    (case cm2 => k_is)
    (case kq2 => k_is)
    (case no2 => k_is)
    (case su2_0 => k_is)
    (case su2_1 => k_is)
    (case su2_2 => k_is)
    (case su2_3 => k_is)
    (case su2_4 => k_is)
    (case su2_5 => k_is)
    (case su2_6 => k_is)
    (case su2_7 => k_is)
    (case su2_8 => k_is)
    (case su2_9 => k_is)
    (case su2_10 => k_is)
    (case su2_11 => k_is)
    (case su2_12 => k_is)
    (case su2_13 => k_is)
    (case ve2 => k_is)
    (case xl13 => k_is)
    (case sa13 => k_is)
    (case ga13 => k_is)
    (case gg13 => k_is)
    (case hd13 => k_is)
    (case ca13 => k_is)
    (case cm13 => k_is)
    (case kq13 => k_is)
    (case no13 => k_is)
    (case su13_0 => k_is)
    (case su13_1 => k_is)
    (case su13_2 => k_is)
    (case su13_3 => k_is)
    (case su13_4 => k_is)
    (case su13_5 => k_is)
    (case su13_6 => k_is)
    (case su13_7 => k_is)
    (case su13_8 => k_is)
    (case su13_9 => k_is)
    (case su13_10 => k_is)
    (case su13_11 => k_is)
    (case su13_12 => k_is)
    (case su13_13 => k_is)
    (case ve13 => k_is)
    (case out => first | rfl | kernel_rfl)
    (case hdT => first | rfl | kernel_rfl)
