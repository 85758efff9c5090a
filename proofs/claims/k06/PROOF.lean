import PyProof.Rows.All
import Wide.All
import OpenK.AllK
import Wide.FinOn
import HandS.ForMost
import HandS.IsInst
import HandS.Conv
import HandS.Sort
import HandS.Style
import HandS.Flow
import KE.GoesEnum
import HandS.Wide
import HandS.TupAny
import HandS.SlotsOwn
import PyProof.InstNe
import PyProof.ReprRoads
import HandS.Codes
import HandS.NoneIn
import HandS.SetFor
import PySem.Challenge.RW_liftwords_k06_tops_and_bottoms
set_option Elab.async false
set_option linter.all false
set_option maxRecDepth 100000
/-! A. The text by places; numbers judged; sizes, indexes and letters checked. -/
namespace Lw
open PySem L2
def top (i : Nat) : Stmt := PySem.Challenge.pw_liftwords_k06_tops_and_bottoms.main.body.getD i (.Pass ⟨0, 0, 0, 0⟩)
abbrev sWhole : Stmt := top 11
abbrev sBetween : Stmt := top 12
abbrev sListing : Stmt := top 13
abbrev sCkSize : Stmt := top 18
abbrev sCkIndex : Stmt := top 19
abbrev sCkLetters : Stmt := top 20
abbrev sBrack : Stmt := top 21
abbrev sWith : Stmt := top 22
abbrev sInit : Stmt := inClass (top 23) 0
abbrev sLen : Stmt := inClass (top 23) 1
abbrev sEq : Stmt := inClass (top 23) 4
abbrev sAdd : Stmt := inClass (top 23) 5
abbrev sSpare : Stmt := inClass (top 23) 9
abbrev sUps : Stmt := inClass (top 23) 10
abbrev sDowns : Stmt := inClass (top 23) 11
abbrev sUp : Stmt := inClass (top 23) 12
abbrev sDown : Stmt := inClass (top 23) 13
abbrev sMixed : Stmt := top 25
abbrev sFolded : Stmt := top 26
abbrev sDraw : Stmt := top 27
abbrev sBegun : Stmt := top 28
abbrev sLeft : Stmt := top 29
abbrev sDone : Stmt := top 30
abbrev sSize : Stmt := top 31
abbrev sLetters : Stmt := top 32
abbrev sLike : Stmt := top 33
abbrev sIsTopL : Stmt := top 34
abbrev sIsBottomL : Stmt := top 35
abbrev sEnded : Stmt := top 36
abbrev sLaw : Stmt := top 37
abbrev sIsTop : Stmt := inClass (top 23) 14
abbrev sIsBottom : Stmt := inClass (top 23) 15
/-- the built-in names that the text doesn't cover -/
structure Bare (mg : Str → Option Value) : Prop where
  isinstance : mg "isinstance" = none
  int : mg "int" = none
  bool : mg "bool" = none
  list : mg "list" = none
  tuple : mg "tuple" = none
  len : mg "len" = none
  range : mg "range" = none
  enumerate : mg "enumerate" = none
  sorted : mg "sorted" = none
  min : mg "min" = none
  repr : mg "repr" = none
  any : mg "any" = none
  max : mg "max" = none
/-- a def of the top -/
structure Df (K : PySem.W.Frag) (mg : Str → Option Value) (x : Str) (st : Stmt) (f : Addr) (fd : FuncData) : Prop where
  fn : Fun K x x st f fd
  g : mg x = some (.ref f)
section
variable {P : Program} {w : World} {K : PySem.W.Frag} {mg : Str → Option Value} {base : Heap}
/-! is_whole -/
def spWhole : Sp := fun vs H Q _ => ∃ i : Int, vs = [.int i] ∧ Q (.bl true) H
theorem scWhole : FnScope ["value"] ["value"] (defScope sWhole) := ⟨rfl, rfl, rfl, by decide +kernel, rfl, by decide +kernel, by decide +kernel⟩
theorem ok_whole {f : Addr} {fd : FuncData} (B : Bare mg) (F : Df K mg "is_whole" sWhole f fd) : FnOk P w K mg base CX0 1 f fd ["value"] spWhole := by
  refine F.fn.ok scWhole (fun vs H Q E h => ?_) (fun cdv A outer s H vs Q E hr h => ?_)
  · obtain ⟨i, rfl, _⟩ := h
    rfl
  · obtain ⟨i, rfl, k⟩ := h
    refine ⟨_, pss_one (ps_ret (pe_and (pe_callB call_isi (by rfl) B.isinstance (by decide +kernel) (pa_cons (pv 0) (pa_cons (pe_bltn (v := .ty "int") (by rfl) B.int (by decide +kernel) rfl) pa_nil)))
      (pe_one (pe_not (pe_callB call_isi (by rfl) B.isinstance (by decide +kernel) (pa_cons (pv 0) (pa_cons (pe_bltn (v := .ty "bool") (by rfl) B.bool (by decide +kernel) rfl) pa_nil))))))), ?_⟩
    refine ⟨_, rfl, _, _, _, _, true, rfl, ClsV.ty _, TyX.base (TyOf.int _), kit_ty (by decide +kernel), _, rfl, ?_⟩
    refine iteT ?_
    refine ⟨_, rfl, _, _, _, _, false, rfl, ClsV.ty _, TyX.base (TyOf.int _), kit_ty (by decide +kernel), _, rfl, ?_⟩
    exact k
end
end Lw
/-! enumerate over a tuple. -/
namespace LwE
open PySem PySem.Spec PyProof.Rows L2
set_option maxHeartbeats 1000000 in
theorem enum_new1 {v : Value} {o : Obj} {H : Heap → Prop} (B : Begins v o H) :
    Meets (Builtin.«enumerate.__new__» ⟨[.type "enumerate", v], []⟩) (fun _ R s => H s.heap ∧
      R (.ok (.ret (.ref (s.heap.push o).objs.size)))
        { s with heap := (s.heap.push o).push { cls := .type "enumerate", data := .fields #[.none, .bool false, .ref s.heap.objs.size, rawInt 0, .none, .none] } }) :=
  .of_wp fun prog w A R s z => by
    obtain ⟨hp, gn, dr, tk, os⟩ := s
    obtain ⟨z1, z2⟩ := z
    have hsub := sub_enumerate
    have start : ∀ {A' : Around} {E : Value → Shared → Prop} {Q : Value → Shared → Prop}, Q (.ref hp.objs.size) ⟨hp.push o, gn, dr, tk, os⟩ →
        wpAny (model prog w) A' (pyIter v) Q E ⟨hp, gn, dr, tk, os⟩ := fun q => B.iter prog w _ _ ⟨hp, gn, dr, tk, os⟩ _ z1 q
    wp_walk using start
    refine wpAny_stack_any fun st => wpAny_pure ?_
    split
    next c _ _ _ _ _ =>
      cases (c == Value.type "enumerate") <;> (wp_walk using start; exact ⟨_, rfl, z2⟩)
    next =>
      wp_walk using start
      exact ⟨_, rfl, z2⟩
section
variable {prog : Program} {w : World} {A : Around} {E : Value → Shared → Prop} {s : Shared}
theorem enum_begins1 {v : Value} {o : Obj} {H : Heap → Prop} {Q : Value → Shared → Prop} (B : Begins v o H) (z : H s.heap)
    (q : ∀ h', IsEnum h' (s.heap.objs.size + 1) s.heap.objs.size 0 .none → h'.get? s.heap.objs.size = some o →
      (∀ b u, s.heap.get? b = some u → h'.get? b = some u) → Q (.ref (s.heap.objs.size + 1)) { s with heap := h' }) :
    wpAny (model prog w) A (call (.type "enumerate") [v]) Q E s := by
  refine callType_new F.called_enumerate (by decide) (F.typeCall_enumerate_1 _) (F.newCall_enumerate_1 _) (fun obj => F.args_object_init_2 obj _) F.entry_enumerate_new (enum_new1 B) ⟨z, ?_⟩
  have ez : (s.heap.push o).objs.size = s.heap.objs.size + 1 := by rw [Heap.size_push]
  show _ ∧ _
  rw [ez]
  have ee : IsEnum ((s.heap.push o).push { cls := .type "enumerate", data := .fields #[.none, .bool false, .ref s.heap.objs.size, rawInt 0, .none, .none] })
      (s.heap.objs.size + 1) s.heap.objs.size 0 .none := by
    have u := Heap.get?_push_size (s.heap.push o) (o := { cls := .type "enumerate", data := .fields #[.none, .bool false, .ref s.heap.objs.size, rawInt 0, .none, .none] }) rfl
    rw [ez] at u
    exact u
  exact ⟨⟨_, ee, rfl⟩, q _ ee (Heap.get?_push_of_some _ (Heap.get?_push_size _ B.free)) fun b u x => Heap.get?_push_of_some _ (Heap.get?_push_of_some _ x)⟩
end
/-- the tuple at a, each item with its place in a new pair -/
def Ien (K : PySem.W.Frag) (a : Addr) : It where
  go := fun i H => ∃ (xs : List V) (x : V), SqT K H a xs ∧ xs[i]? = some x
  yld := fun i H v H' => ∃ T x, v = .ref T ∧ H T = none ∧ H' = upd H T (.tup [.int (i : Nat), x]) ∧ ∀ xs, SqT K H a xs → xs[i]? = some x
  stop := fun i H => ∃ xs : List V, SqT K H a xs ∧ xs.length ≤ i
theorem apart_it {h : Heap} {it a : Addr} {i : Nat} {its : Array Value} (st : h.IsTupleIter it a i) (p : h.IsTuple a its) : a ≠ it := fun z => by
  obtain ⟨o, e1, c1, _⟩ := st
  obtain ⟨o2, e2, c2, _⟩ := p
  rw [z, e1] at e2
  cases e2
  rw [c1] at c2
  exact absurd c2 (by decide)
theorem turn_ien {P : Program} {w : World} {K : PySem.W.Frag} {elts : List Expr} {kk : Nat} {tpos : Pos} (a e it : Addr) :
    Turn P w K (.Tuple elts kk tpos) (Ien K a) [e, it] e (fun i h => (∃ old, IsEnum h e it ((i : Nat) : Int) old) ∧ h.IsTupleIter it a i ∧ e ≠ it ∧ e ≠ a) where
  mem := by simp
  obj := fun i h st b hb => by
    obtain ⟨⟨old, he⟩, ⟨o, ho, hc, hd⟩, _⟩ := st
    rcases (show b = e ∨ b = it by simpa using hb) with z | z <;> subst z
    · exact ⟨_, he, fun v q => nomatch q⟩
    · exact ⟨o, ho, fun v q => by rw [hd] at q; cases q⟩
  keep := fun i h h' st k => by
    obtain ⟨⟨old, he⟩, hi, n1, n2⟩ := st
    exact ⟨⟨old, k e (by simp) _ he⟩, hi.at fun o q => k it (by simp) o q, n1, n2⟩
  item := by
    intro X hP hw hK hc i pins s σ H E I hf st hg
    subst hP hw hK
    obtain ⟨⟨old, he⟩, hit, n1, n2⟩ := st
    obtain ⟨xs, x, hq, hx⟩ := hg
    obtain ⟨its, rv, p, hz⟩ := I.tuple hq
    obtain ⟨u, hu, ru⟩ := rv.get hx
    have lt1 : e < s.heap.objs.size := Heap.lt_size he
    have lt2 : it < s.heap.objs.size := by
      obtain ⟨_, q, _⟩ := hit
      exact Heap.lt_size q
    have pT : s.heap.IsTuple a its.toArray := p
    have hlt : i < its.toArray.size := by
      have q := (List.getElem?_eq_some_iff.mp hu).1
      simpa using q
    have D := Draws.tuple (prog := X.prog) (w := X.w) (A := X.A.in1) (I.ok.hd hc) it a (apart_it hit pT) its.toArray
    refine wpAny_pyNext_enum_itemC D he ⟨hit, pT⟩ hlt n1 (by simp [n1, n2]) fun y h' tk hy ho hs' hT hsz hk => ?_
    have ey : y = u := by
      have q : its.toArray[i]? = some y := hy
      rw [show its.toArray[i]? = its[i]? from by simp, hu] at q
      exact (Option.some.inj q).symm
    subst ey
    refine ⟨_, rfl, wpAny_letOwnedTupleGo_enum (s := { s with heap := h', toks := tk + 1 }) ho fun h'' he' sb => ?_⟩
    have hT2 := (sb.2 _ (Nat.ne_of_gt lt1)).trans hT
    have made : ObjOk X.prog X.w (upd H s.heap.objs.size (.tup [.int (i : Nat), x])) h'' s.heap.objs.size (.tup [.int (i : Nat), x]) :=
      ⟨(by decide : 2 ≤ sizeLine), [.int i tk, y], .cons ⟨_, rfl⟩ (.cons ru .nil), _, hT2, rfl, _, rfl⟩
    have J : Inv X pins σ (upd H s.heap.objs.size (.tup [.int (i : Nat), x])) { s with heap := h'', toks := tk + 1 } :=
      I.turnedNew (ch := [e, it]) (fun b ob hb q => (sb.2 b (fun z => hb (by simp [z]))).trans (hk b ob (fun z => hb (by simp [z])) (fun z => hb (by simp [z])) q)) hf (Nat.le_refl _) made
    refine ⟨.ref s.heap.objs.size, _, J, rfl, ⟨_, x, rfl, I.hok.fresh (Nat.le_refl _), rfl, fun ys hy2 => by rw [I.tuple_inj hy2 hq]; exact hx⟩,
      ⟨⟨y, ?_⟩, hs'.1.at fun o q => (sb.2 it (Ne.symm n1)).trans q, n1, n2⟩, fun b hb => ?_⟩
    · rw [show ((i + 1 : Nat) : Int) = (i : Int) + 1 by omega]
      exact he'
    · have hlt3 : b < s.heap.objs.size := by
        rcases (show b = e ∨ b = it by simpa using hb) with z | z <;> (rw [z]; assumption)
      rw [upd_ne (Nat.ne_of_lt hlt3)]
      exact (hf b hb).1
  done := by
    intro X hP hw hK hc i pins s σ H E I hf st hg
    subst hP hw hK
    obtain ⟨⟨old, he⟩, hit, n1, n2⟩ := st
    obtain ⟨xs, hq, hx⟩ := hg
    obtain ⟨its, rv, p, hz⟩ := I.tuple hq
    obtain ⟨f0, f1, f2, f3, f4, f5⟩ := hf it (by simp)
    have pT : s.heap.IsTuple a its.toArray := p
    have hT : s.TypeIs (.ref e) "enumerate" := ⟨_, he, rfl⟩
    unfold pyNext
    refine wpAny_bind (wpAny_attempt (wpAny_callSpecial?_slot (name := Str.ofString "__next__") hT F.slot_enumerate_next
      (wpAny_call_entry F.slot_enumerate_next hT F.entry_enumerate_next ?_ (F.args_enumerate_next_1 _))))
    show wpAny _ _ (field (.ref e) 2 >>= _) _ _ _
    refine wpAny_bind (wpAny_field he rfl (x := .ref it) rfl ?_)
    have hl := rv.length
    refine wpAny_bind (wpAny_nextOf_tuple_end (I.ok.hd hc) hit pT (by simp; omega) fun h' x he' hx' => ?_)
    obtain ⟨o, ho, hcl⟩ := hx'
    refine wpAny_bind (wpAny_isInstance (T := "StopIteration") (b := true) ⟨o, ho, hcl⟩ isSubtype_stop ?_)
    exact wpAny_pure ⟨rfl, I.turned (t' := s.toks) (fun b o hb q => he' b o hb q) f0 f1 f3 f4 f5⟩
  self := fun A i s Q E st h => by
    obtain ⟨⟨_, he⟩, _⟩ := st
    exact wpAny_pyIter_enum he h
/-- enumerate(t), t a tuple -/
def iEnT (K : PySem.W.Frag) (ta : TA) : TI := fun σ H R => ta σ H fun vs H1 => ∃ a xs, vs = [.ref a] ∧ SqT K H1 a xs ∧ R (Ien K a) H1
theorem pi_enT {X : Cx} {e : Expr} {ta : TA} {p pos tpos : Pos} {elts : List Expr} {kk : Nat} (hg : Gl X "enumerate") (hm : X.mg "enumerate" = none) (ha : PA X [e] ta)
    (hs : starEach [e] X.env = [(false, eval e X.env)] := by rfl) : PI X (.Tuple elts kk tpos) (.Call (.Name "enumerate" p) [e] [] pos) (iEnT X.K ta) := by
  refine ⟨fun pins s σ H R I h => ?_⟩
  refine Call_ (ld_blt I hg hm boot_enumerate (PyProof.Rows.callWith_type1 (thn (ha.run pos pins s σ H _ I h) fun us s1 ⟨vs, H1, I1, r1, q1⟩ => ?_) hs rfl))
  obtain ⟨a, xs, rfl, hq, q⟩ := q1
  obtain ⟨u, rfl, ru⟩ : ∃ u, us = [u] ∧ RelV (.ref a) u := by
    cases r1 with
    | cons r rr =>
      cases rr
      exact ⟨_, rfl, r⟩
  obtain rfl : u = Value.ref a := ru
  obtain ⟨its, rv, p', hz⟩ := I1.tuple hq
  have pT : s1.heap.IsTuple a its.toArray := p'
  refine enum_begins1 (begins_tuple a its.toArray) pT fun h' he hit hk => wpAny_pyIter_enum he ?_
  have I2 : Inv X pins σ H1 { s1 with heap := h' } := I1.kept (t' := s1.toks) hk
  have lta : a < s1.heap.objs.size := by
    obtain ⟨o, e1, _⟩ := pT
    exact Heap.lt_size e1
  refine ⟨s1.heap.objs.size + 1, [s1.heap.objs.size + 1, s1.heap.objs.size], _, _, H1, rfl, I2, turn_ien a (s1.heap.objs.size + 1) s1.heap.objs.size,
    ⟨⟨.none, he⟩, ⟨_, hit, rfl, rfl⟩, Nat.succ_ne_self _, Nat.ne_of_gt (Nat.lt_succ_of_lt lta)⟩, fun b hb => ?_, q⟩
  have le1 : s1.heap.objs.size ≤ b := by
    rcases (show b = s1.heap.objs.size + 1 ∨ b = s1.heap.objs.size by simpa using hb) with z | z
    · rw [z]
      exact Nat.le_succ _
    · rw [z]
      exact Nat.le_refl _
  exact I1.fpOk le1 (I1.hok.fresh le1)
/-- the walk's word -/
theorem for_enT {K : PySem.W.Frag} {a : Addr} {xs : List V} {g : TG} {tb : TS} {D : Ends} {σ : L2.St} {H : Hp} (Pv : Nat → L2.St → Hp → Prop) (h0 : Pv 0 σ H) (hl : ∀ i σ H, i ≤ xs.length → Pv i σ H → SqT K H a xs)
    (hs : ∀ i x T σ H, xs[i]? = some x → Pv i σ H → H T = none → g (.ref T) σ (upd H T (.tup [.int (i : Nat), x])) fun σ2 H2 => tb { D with nx := Pv (i + 1), ct := Pv (i + 1), bk := D.nx } σ2 H2)
    (hd : ∀ σ H, Pv xs.length σ H → D.nx σ H) :
    ∃ W : Nat → Nat → L2.St → Hp → Prop, (∃ m, W 0 m σ H) ∧ ∀ i m σ H, W i m σ H →
      ((Ien K a).stop i H ∧ D.nx σ H) ∨ ((Ien K a).go i H ∧ ∃ N : L2.St → Hp → Prop, (∀ σ' H', N σ' H' → ∃ m', m' < m ∧ W (i + 1) m' σ' H') ∧
        ∀ x H', (Ien K a).yld i H x H' → g x σ H' fun σ2 H2 => tb { D with nx := N, ct := N, bk := D.nx } σ2 H2) := by
  refine ⟨fun i m σ H => m = xs.length - i ∧ i ≤ xs.length ∧ Pv i σ H, ⟨xs.length, by simp, Nat.zero_le _, h0⟩, ?_⟩
  intro i m σ H hW
  obtain ⟨rfl, hi, p⟩ := hW
  have q := hl i σ H hi p
  by_cases hlt : i < xs.length
  · refine .inr ⟨⟨xs, xs[i], q, by simp [hlt]⟩, Pv (i + 1), fun σ' H' p' => ⟨xs.length - (i + 1), by omega, rfl, hlt, p'⟩, fun x H' y => ?_⟩
    obtain ⟨T, v, rfl, hT, rfl, y2⟩ := y
    exact hs i v T σ H (y2 xs q) p hT
  · obtain rfl : i = xs.length := by omega
    exact .inl ⟨⟨xs, q, Nat.le_refl _⟩, hd σ H p⟩
/-- the same over a list -/
theorem for_enL {K : PySem.W.Frag} {a : Addr} {xs : List V} {g : TG} {tb : TS} {D : Ends} {σ : L2.St} {H : Hp} (Pv : Nat → L2.St → Hp → Prop) (h0 : Pv 0 σ H) (hl : ∀ i σ H, i ≤ xs.length → Pv i σ H → SqL K H a xs)
    (hs : ∀ i x T σ H, xs[i]? = some x → Pv i σ H → H T = none → g (.ref T) σ (upd H T (.tup [.int (i : Nat), x])) fun σ2 H2 => tb { D with nx := Pv (i + 1), ct := Pv (i + 1), bk := D.nx } σ2 H2)
    (hd : ∀ σ H, Pv xs.length σ H → D.nx σ H) :
    ∃ W : Nat → Nat → L2.St → Hp → Prop, (∃ m, W 0 m σ H) ∧ ∀ i m σ H, W i m σ H →
      ((Ite K a).stop i H ∧ D.nx σ H) ∨ ((Ite K a).go i H ∧ ∃ N : L2.St → Hp → Prop, (∀ σ' H', N σ' H' → ∃ m', m' < m ∧ W (i + 1) m' σ' H') ∧
        ∀ x H', (Ite K a).yld i H x H' → g x σ H' fun σ2 H2 => tb { D with nx := N, ct := N, bk := D.nx } σ2 H2) := by
  refine ⟨fun i m σ H => m = xs.length - i ∧ i ≤ xs.length ∧ Pv i σ H, ⟨xs.length, by simp, Nat.zero_le _, h0⟩, ?_⟩
  intro i m σ H hW
  obtain ⟨rfl, hi, p⟩ := hW
  have q := hl i σ H hi p
  by_cases hlt : i < xs.length
  · refine .inr ⟨⟨xs, xs[i], q, by simp [hlt]⟩, Pv (i + 1), fun σ' H' p' => ⟨xs.length - (i + 1), by omega, rfl, hlt, p'⟩, fun x H' y => ?_⟩
    obtain ⟨T, v, rfl, hT, rfl, y2⟩ := y
    exact hs i v T σ H (y2 xs q) p hT
  · obtain rfl : i = xs.length := by omega
    exact .inl ⟨⟨xs, q, Nat.le_refl _⟩, hd σ H p⟩
end LwE
/-! B. Bounds, kinds, sizes, indexes, letters. -/
namespace Lw
open PySem L2
/-- the numbers of the module words -/
structure Nums (mg : Str → Option Value) : Prop where
  least : ∃ t, mg "LEAST_SIZE" = some (.int 2 t)
  mostS : ∃ t, mg "MOST_SIZE" = some (.int 6 t)
  mostL : ∃ t, mg "MOST_LETTERS" = some (.int 40 t)
abbrev nums (l : List Int) : List V := l.map V.int
theorem nums_get {l : List Int} {i : Nat} {x : V} (h : (nums l)[i]? = some x) : ∃ z, x = .int z ∧ l[i]? = some z ∧ z ∈ l := by
  rw [List.getElem?_map] at h
  cases e : l[i]? with
  | none =>
    rw [e] at h
    cases h
  | some z =>
    rw [e] at h
    exact ⟨z, (Option.some.inj h).symm, rfl, List.mem_of_getElem? e⟩
section
variable {P : Program} {w : World} {K : PySem.W.Frag} {mg : Str → Option Value} {base : Heap}
/-! is_between -/
def spBetween : Sp := fun vs H Q _ => ∃ v a b : Int, vs = [.int v, .int a, .int b] ∧ Q (.bl (decide (a ≤ v ∧ v ≤ b))) H
theorem scBetween : FnScope ["value", "least", "most"] ["value", "least", "most"] (defScope sBetween) := ⟨rfl, rfl, rfl, by decide +kernel, rfl, by decide +kernel, by decide +kernel⟩
theorem ok_between {f : Addr} {fd : FuncData} (B : Bare mg) (F : Df K mg "is_between" sBetween f fd) : FnOk P w K mg base CX0 2 f fd ["value", "least", "most"] spBetween := by
  refine F.fn.ok scBetween (fun vs H Q E h => ?_) (fun cdv A outer s H vs Q E hr h => ?_)
  · obtain ⟨v, a, b, rfl, _⟩ := h
    rfl
  · obtain ⟨v, a, b, rfl, k⟩ := h
    refine ⟨_, pss_one (ps_ret (pe_and (pe_callB call_isi (by rfl) B.isinstance (by decide +kernel) (pa_cons (pv 0) (pa_cons (pe_bltn (v := .ty "int") (by rfl) B.int (by decide +kernel) rfl) pa_nil)))
      (pe_and (pe_not (pe_callB call_isi (by rfl) B.isinstance (by decide +kernel) (pa_cons (pv 0) (pa_cons (pe_bltn (v := .ty "bool") (by rfl) B.bool (by decide +kernel) rfl) pa_nil))))
      (pe_one (pe_chain op_le op_le (pv 1) (pv 0) (pv 2)))))), ?_⟩
    refine ⟨_, rfl, _, _, _, _, true, rfl, ClsV.ty _, TyX.base (TyOf.int _), kit_ty (by decide +kernel), _, rfl, ?_⟩
    refine iteT ?_
    refine ⟨_, rfl, _, _, _, _, false, rfl, ClsV.ty _, TyX.base (TyOf.int _), kit_ty (by decide +kernel), _, rfl, _, rfl, ?_⟩
    refine iteT ?_
    refine ⟨_, rfl, _, rfl, _, _, rfl, rfl, _, rfl, ?_⟩
    by_cases h1 : a ≤ v
    · rw [decide_eq_true h1]
      refine iteT ⟨_, rfl, _, _, rfl, rfl, ?_⟩
      have e : decide (a ≤ v ∧ v ≤ b) = decide (v ≤ b) := by simp [h1]
      rw [e] at k
      exact k
    · rw [decide_eq_false h1]
      refine iteF ?_
      have e : decide (a ≤ v ∧ v ≤ b) = false := by simp [h1]
      rw [e] at k
      exact k
/-! is_listing -/
def spListing : Sp := fun vs H Q _ => ∃ a : Addr, vs = [.ref a] ∧ ((∃ xs, H a = some (.lst xs)) ∨ ∃ xs, H a = some (.tup xs)) ∧ ∀ H', Same H H' → Q (.bl true) H'
theorem scListing : FnScope ["value"] ["value"] (defScope sListing) := ⟨rfl, rfl, rfl, by decide +kernel, rfl, by decide +kernel, by decide +kernel⟩
theorem same_new {H : Hp} {p : Addr} {o : HO} (h : H p = none) : Same H (upd H p o) := fun b u e => by
  rw [upd_ne (ne_of_none e h)]
  exact e
theorem ok_listing {f : Addr} {fd : FuncData} (B : Bare mg) (F : Df K mg "is_listing" sListing f fd) : FnOk P w K mg base CX0 1 f fd ["value"] spListing := by
  refine F.fn.ok scListing (fun vs H Q E h => ?_) (fun cdv A outer s H vs Q E hr h => ?_)
  · obtain ⟨a, rfl, _⟩ := h
    rfl
  · obtain ⟨a, rfl, hk, k⟩ := h
    refine ⟨_, pss_one (ps_ret (pe_callB call_isiT (by rfl) B.isinstance (by decide +kernel) (pa_cons (pv 0) (pa_cons (pe_tup (pa_cons (pe_bltn (v := .ty "list") (by rfl) B.list (by decide +kernel) rfl)
      (pa_cons (pe_bltn (v := .ty "tuple") (by rfl) B.tuple (by decide +kernel) rfl) pa_nil))) pa_nil)))), ?_⟩
    refine ⟨_, rfl, (by show 2 ≤ sizeLine; decide), fun t ht => ?_⟩
    have kk := k _ (same_new (o := .tup [.ty "list", .ty "tuple"]) ht)
    rcases hk with ⟨xs, e⟩ | ⟨xs, e⟩
    · exact ⟨_, _, _, _, _, true, rfl, upd_same, .cons (ClsV.ty _) (.cons (ClsV.ty _) .nil), TyX.base (TyOf.lst (by rw [upd_ne (ne_of_none e ht)]; exact e)),
        kitAny_cons (b := true) (kit_ty (by decide +kernel)) (fun z => by cases z) (fun _ => rfl), kk⟩
    · exact ⟨_, _, _, _, _, true, rfl, upd_same, .cons (ClsV.ty _) (.cons (ClsV.ty _) .nil), TyX.base (TyOf.tup (by rw [upd_ne (ne_of_none e ht)]; exact e)),
        kitAny_cons (b := false) (kit_ty (by decide +kernel)) (fun _ => kitAny_cons (b := true) (kit_ty (by decide +kernel)) (fun z => by cases z) (fun _ => rfl)) (fun z => by cases z), kk⟩
/-! check_size, check_index -/
def spCkSize : Sp := fun vs H Q _ => ∃ n : Int, vs = [.int n] ∧ 2 ≤ n ∧ n ≤ 6 ∧ Q .non H
theorem scCkSize : FnScope ["size"] ["size"] (defScope sCkSize) := ⟨rfl, rfl, rfl, by decide +kernel, rfl, by decide +kernel, by decide +kernel⟩
theorem ok_cksize {f f1 : Addr} {fd fd1 : FuncData} (N : Nums mg) (F : Df K mg "check_size" sCkSize f fd) (F1 : Df K mg "is_between" sBetween f1 fd1) (b1 : Binds K fd1 ["value", "least", "most"] [])
    (G1 : FnOk P w K mg base CX0 2 f1 fd1 ["value", "least", "most"] spBetween) : FnOk P w K mg base CX0 3 f fd ["size"] spCkSize := by
  refine F.fn.ok scCkSize (fun vs H Q E h => ?_) (fun cdv A outer s H vs Q E hr h => ?_)
  · obtain ⟨n, rfl, _⟩ := h
    rfl
  · obtain ⟨n, rfl, h1, h2, k⟩ := h
    obtain ⟨t1, e1⟩ := N.least
    obtain ⟨t2, e2⟩ := N.mostS
    refine ⟨_, pss_one (ps_if (pt_not (pt_val (pe_call G1 hr (by rfl) F1.g F1.fn.kp b1 .nil pass0 (pa_cons (pv 0) (pa_cons (pe_glob (v := .int 2) (by rfl) e1 ⟨_, rfl⟩) (pa_cons (pe_glob (v := .int 6) (by rfl) e2 ⟨_, rfl⟩) pa_nil))))))
      pss_never pss_nil), ?_⟩
    refine ⟨_, rfl, n, 2, 6, rfl, _, rfl, ?_⟩
    rw [decide_eq_true (show 2 ≤ n ∧ n ≤ 6 from ⟨h1, h2⟩)]
    exact iteF k
def spCkIndex : Sp := fun vs H Q _ => ∃ n i : Int, vs = [.int n, .int i] ∧ 1 ≤ i ∧ i ≤ n - 1 ∧ Q .non H
theorem scCkIndex : FnScope ["size", "i"] ["size", "i"] (defScope sCkIndex) := ⟨rfl, rfl, rfl, by decide +kernel, rfl, by decide +kernel, by decide +kernel⟩
theorem ok_ckindex {f f1 : Addr} {fd fd1 : FuncData} (F : Df K mg "check_index" sCkIndex f fd) (F1 : Df K mg "is_between" sBetween f1 fd1) (b1 : Binds K fd1 ["value", "least", "most"] [])
    (G1 : FnOk P w K mg base CX0 2 f1 fd1 ["value", "least", "most"] spBetween) : FnOk P w K mg base CX0 3 f fd ["size", "i"] spCkIndex := by
  refine F.fn.ok scCkIndex (fun vs H Q E h => ?_) (fun cdv A outer s H vs Q E hr h => ?_)
  · obtain ⟨n, i, rfl, _⟩ := h
    rfl
  · obtain ⟨n, i, rfl, h1, h2, k⟩ := h
    refine ⟨_, pss_one (ps_if (pt_not (pt_val (pe_call G1 hr (by rfl) F1.g F1.fn.kp b1 .nil pass0 (pa_cons (pv 1) (pa_cons pe_int (pa_cons (pe_op op_sub (pv 0) pe_int) pa_nil)))))) pss_never pss_nil), ?_⟩
    refine ⟨_, rfl, _, rfl, _, _, rfl, rfl, i, 1, n - 1, rfl, _, rfl, ?_⟩
    rw [decide_eq_true (show 1 ≤ i ∧ i ≤ n - 1 from ⟨h1, h2⟩)]
    exact iteF k
end
end Lw
/-! list(range(a, b, -1)). -/
namespace LwE
open PySem PySem.Spec PyProof.Rows L2
/-- the ints a, a - 1, .. above b -/
def dnV (a b : Int) : List Int := (List.range (a - b).toNat).map fun i => a - (i : Nat)
theorem dnV_length (a b : Int) : (dnV a b).length = (a - b).toNat := by
  unfold dnV
  rw [List.length_map, List.length_range]
theorem dnV_mem {a b x : Int} (h : x ∈ dnV a b) : b < x ∧ x ≤ a := by
  unfold dnV at h
  obtain ⟨i, hi, rfl⟩ := List.mem_map.mp h
  have := List.mem_range.mp hi
  omega
theorem vals_dn {a b : Int} {acc : Array Value} (h : ItemsOf (fun i v => ∃ t, v = .int (a + i * (-1)) t) acc (a - b).toNat) : Vals ((dnV a b).map V.int) acc.toList := by
  have e : acc.toList.length = (a - b).toNat := by
    rw [Array.length_toList]
    exact h.1
  have e2 : (dnV a b).map V.int = (List.range acc.toList.length).map fun i => V.int (a - (i : Nat)) := by
    unfold dnV
    rw [e, List.map_map]
    rfl
  rw [e2]
  refine vals_of_get acc.toList _ fun j u hj => ?_
  obtain ⟨t, rfl⟩ := h.2 j u (by rw [← hj, Array.getElem?_toList])
  exact ⟨t, by rw [Int.mul_neg, Int.mul_one, Int.sub_eq_add_neg]⟩
section
variable {X : Cx} {a b : Expr} {ta : TA}
/-- bounds of such a range -/
def DnOk (a b : Int) : Prop := -1000 ≤ a ∧ a ≤ 1000 ∧ -1000 ≤ b ∧ b ≤ 1000
def tLstDn (ta : TA) : TE := fun σ H Q => ta σ H fun vs H1 => ∃ a b : Int, vs = [.int a, .int b, .int (-1)] ∧ DnOk a b ∧ ∀ q, H1 q = none → Q (.ref q) (upd H1 q (.lst ((dnV a b).map V.int)))
theorem pe_listDn {c : Expr} {p p' pos pos' : Pos} (hc : X.calm = true) (hg : Gl X "list") (hm : X.mg "list" = none) (hgr : Gl X "range") (hmr : X.mg "range" = none) (ha : PA X [a, b, c] ta)
    (hs : starEach [a, b, c] X.env = (false, eval a X.env) :: starEach [b, c] X.env := by rfl) (hpl : (backTo pos' (starEach [b, c] X.env)).any (·.1) = false := by rfl)
    (na : starEach [.Call (.Name "range" p') [a, b, c] [] pos'] X.env = (false, eval (.Call (.Name "range" p') [a, b, c] [] pos') X.env) :: starEach [] X.env := by rfl) :
    PE X (.Call (.Name "list" p) [.Call (.Name "range" p') [a, b, c] [] pos'] [] pos) (tLstDn ta) := by
  refine ⟨fun pins s σ H Q I h => ?_⟩
  have inner : wpAny (model X.prog X.w) X.A (eval (.Call (.Name "range" p') [a, b, c] [] pos') X.env)
      (fun x s' => ∃ r i j t u v H', x = .ref r ∧ IsRange s'.heap r i j (-1) t u v ∧ Inv X pins σ H' s' ∧ DnOk i j ∧ ∀ q, H' q = none → Q (.ref q) (upd H' q (.lst ((dnV i j).map V.int)))) X.xe s := by
    refine Call_ (ld_blt I hgr hmr boot_range (PyProof.Rows.callWith_type1 (thn (ha.run pos' pins s σ H _ I h) fun us s1 ⟨vs, H1, I1, r1, q1⟩ => ?_) hs hpl))
    obtain ⟨i, j, rfl, ok, q⟩ := q1
    obtain ⟨u1, u2, u3, rfl, ⟨t1, rfl⟩, ⟨t2, rfl⟩, ⟨t3, rfl⟩⟩ : ∃ u1 u2 u3, us = [u1, u2, u3] ∧ RelV (.int i) u1 ∧ RelV (.int j) u2 ∧ RelV (.int (-1)) u3 := by
      cases r1 with
      | cons x1 r1 =>
        cases r1 with
        | cons x2 r1 =>
          cases r1 with
          | cons x3 r1 =>
            cases r1
            exact ⟨_, _, _, rfl, x1, x2, x3⟩
    exact call_range_3 (by decide) ⟨_, i, j, _, _, _, H1, rfl, IsRange.new _ _ _ _ _ _ _, I1.kept (t' := s1.toks) fun b u e => Heap.get?_push_of_some _ e, ok, q⟩
      (Or.inl (PyProof.noPylong_small (by decide)))
  refine Call_ (ld_blt I hg hm boot_list (PyProof.Rows.callWith_type1 (args_cons (thn inner fun x s1 ⟨r, i, j, t, u, v, H1, ex, hr, I1, ok, q⟩ => args_nil ?_) na) na))
  subst ex
  obtain ⟨b1, b2, b3, b4⟩ := ok
  refine call_list_range (n := (i - j).toNat) (I1.ok.hd hc) hr (PySem.W.small_down (by omega) (by omega) (by omega) (by omega)) (PySem.W.rangeSize_downNat i j) (by omega) fun h' tk acc c' hk e' hi => ?_
  refine ⟨.ref s1.heap.objs.size, upd H1 s1.heap.objs.size (.lst ((dnV i j).map V.int)), I1.laid hk (Nat.le_refl _)
    (show ObjOk X.prog X.w _ _ _ (.lst ((dnV i j).map V.int)) from ⟨?_, acc.toList, c', vals_dn hi, ?_⟩), rfl, q _ (I1.hok.fresh (Nat.le_refl _))⟩
  · rw [List.length_map, dnV_length, sizeLine_eq]
    omega
  · rw [Array.toArray_toList]
    exact e'
end
/-- the ints a .. b - 1 -/
def upV (a b : Int) : List Int := (List.range (b - a).toNat).map fun i => a + (i : Nat)
theorem upV_eq (a b : Int) : rgV a b = (upV a b).map V.int := by
  unfold rgV upV
  rw [List.map_map]
  rfl
theorem upV_length (a b : Int) : (upV a b).length = (b - a).toNat := by
  unfold upV
  rw [List.length_map, List.length_range]
theorem upV_mem {a b x : Int} (h : x ∈ upV a b) : a ≤ x ∧ x < b := by
  unfold upV at h
  obtain ⟨i, hi, rfl⟩ := List.mem_map.mp h
  have := List.mem_range.mp hi
  omega
end LwE
/-! C. The draws: mixed, folded, draw, begun, size. -/
namespace Lw
open PySem L2 LwE
/-- sixty-four cells -/
structure Cells (cs : List Int) : Prop where
  len : cs.length = 64
  bd : ∀ x ∈ cs, 0 ≤ x ∧ x < 2147483647
theorem Cells.set {cs : List Int} (c : Cells cs) (j : Nat) {z : Int} (h0 : 0 ≤ z) (h1 : z < 2147483647) : Cells (cs.set j z) :=
  ⟨by rw [List.length_set]; exact c.len, fun x hx => by
    rcases List.mem_or_eq_of_mem_set hx with q | q
    · exact c.bd x q
    · rw [q]
      exact ⟨h0, h1⟩⟩
theorem Cells.at {cs : List Int} (c : Cells cs) {j : Nat} (hj : j < 64) : ∃ x, (nums cs)[j]? = some (.int x) ∧ 0 ≤ x ∧ x < 2147483647 := by
  have hl : j < cs.length := by rw [c.len]; exact hj
  refine ⟨cs[j], by simp [hl], c.bd _ (List.getElem_mem hl)⟩
theorem set_nums (cs : List Int) (j : Nat) (z : Int) : (nums cs).set j (.int z) = nums (cs.set j z) := by
  show _ = (cs.set j z).map V.int
  rw [List.map_set]
theorem ixN_lt {n j : Nat} (h : j < n) : ixN n (j : Int) = some j := by
  unfold ixN
  rw [if_pos (by omega), if_pos (by omega)]
  simp
section
variable {P : Program} {w : World} {K : PySem.W.Frag} {mg : Str → Option Value} {base : Heap}
/-! _law_mixed -/
def spMixed : Sp := fun vs H Q _ => ∃ c n : Int, vs = [.int c, .int n] ∧ 0 ≤ n ∧ n ≤ 1000000 ∧ ∀ z : Int, 0 ≤ z → z < 2147483647 → Q (.int z) H
theorem scMixed : FnScope ["cell", "n", "blend"] ["cell", "n"] (defScope sMixed) := ⟨rfl, rfl, rfl, by decide +kernel, rfl, by decide +kernel, by decide +kernel⟩
theorem ok_mixed {f : Addr} {fd : FuncData} (B : Bare mg) (F : Df K mg "_law_mixed" sMixed f fd) : FnOk P w K mg base CX0 1 f fd ["cell", "n"] spMixed := by
  refine F.fn.ok scMixed (fun vs H Q E h => ?_) (fun cdv A outer s H vs Q E hr h => ?_)
  · obtain ⟨c, n, rfl, _⟩ := h
    rfl
  · obtain ⟨c, n, rfl, h0, h1, k⟩ := h
    refine ⟨_, pss_cons (ps_set (i := 2) scMixed.nd rfl (Or.inl rfl)
        (pe_op op_add (pe_op op_add (pe_op op_mod (pe_callTy call_int1 (by rfl) B.int (by decide +kernel) (pa_cons (pe_op op_mul (pe_op op_mul (pv 0) (pe_op op_add pe_int (pe_op op_mul pe_int (pv 1)))) pe_int) pa_nil)) pe_int)
          (pe_op op_mul (pe_op op_mul pe_int (pv 1)) (pv 1))) (pe_op op_mul pe_int (pv 1))))
      (pss_one (ps_ret (pe_op op_fdiv (pe_op op_mod (pe_callTy call_int1 (by rfl) B.int (by decide +kernel) (pa_cons (pe_op op_mul (pv 2) pe_int) pa_nil)) pe_int) pe_int))), ?_⟩
    refine ⟨_, rfl, _, rfl, _, _, rfl, rfl, .inl ⟨by decide, by decide⟩, _, _, rfl, rfl, _, _, rfl, rfl, .inr ⟨by omega, by omega⟩, _, _, rfl, rfl, .inr ⟨by decide, by decide⟩,
      .inl ⟨_, rfl, _, _, rfl, rfl, (by show (0 : Int) < 2147483647; decide), _, rfl, _, _, rfl, rfl, .inl ⟨by decide, by decide⟩, _, rfl, _, _, rfl, rfl, .inr ⟨by omega, by omega⟩,
        _, _, rfl, rfl, _, rfl, _, _, rfl, rfl, .inl ⟨by decide, by decide⟩, _, _, rfl, rfl, ?_⟩⟩
    refine ⟨_, rfl, _, _, rfl, rfl, .inr ⟨by decide, by decide⟩, .inl ⟨_, rfl, _, _, rfl, rfl, (by show (0 : Int) < 2147483629; decide), _, _, rfl, rfl, ⟨by decide, by decide⟩, ?_⟩⟩
    refine k _ ?_ ?_ <;> omega
end
end Lw
/-! D. The sixty-four cells. -/
namespace Lw
open PySem L2 LwE
section
variable {P : Program} {w : World} {K : PySem.W.Frag} {mg : Str → Option Value} {base : Heap}
/-- behind H: a list of cells at D that was not there -/
structure FAt (H H' : Hp) (D : Addr) : Prop where
  same : Same H H'
  free : H D = none
  cells : ∃ cs, Cells cs ∧ H' D = some (.lst (nums cs))
theorem FAt.pair {H H' : Hp} {D T : Addr} {o : HO} (f : FAt H H' D) (h : H' T = none) : FAt H (upd H' T o) D :=
  ⟨f.same.trans (same_new h), f.free, let ⟨cs, c, e⟩ := f.cells; ⟨cs, c, (same_new h) _ _ e⟩⟩
theorem FAt.put {H H' : Hp} {D : Addr} {cs : List Int} (f : FAt H H' D) (c : Cells cs) : FAt H (upd H' D (.lst (nums cs))) D :=
  ⟨fun b o e => by
    rw [upd_ne (ne_of_none e f.free)]
    exact f.same _ _ e, f.free, cs, c, upd_same⟩
def spFolded (K : PySem.W.Frag) : Sp := fun vs H Q _ => ∃ (a : Addr) (ns : List Int), vs = [.ref a] ∧ SqL K H a (nums ns) ∧ ∀ D H', FAt H H' D → Q (.ref D) H'
theorem scFolded : FnScope ["script", "n", "found", "cell"] ["script"] (defScope sFolded) := ⟨rfl, rfl, rfl, by decide +kernel, rfl, by decide +kernel, by decide +kernel⟩
theorem ok_folded {f : Addr} {fd : FuncData} (B : Bare mg) (F : Df K mg "_law_folded" sFolded f fd) : FnOk P w K mg base CX0 1 f fd ["script"] (spFolded K) := by
  refine F.fn.ok scFolded (fun vs H Q E h => ?_) (fun cdv A outer s H vs Q E hr h => ?_)
  · obtain ⟨a, ns, rfl, _⟩ := h
    rfl
  · obtain ⟨a, ns, rfl, hS, k⟩ := h
    refine ⟨_, pss_cons (ps_setLc (i := 2) (own := [("n", 1)]) (g := gName 1) (tt := tYes) rfl scFolded.nd rfl rfl (sw_true rfl rfl rfl (by decide +kernel)) (pi_range1 (by rfl) B.range (pa_cons pe_int pa_nil))
        (blkOk_by (N := ["script", "n", "found", "cell"]) (sc := defScope sFolded) (by decide +kernel)) (fun _ _ _ _ _ => pg_name (i := 1) scFolded.nd rfl (Or.inl rfl)) (fun _ _ _ _ _ => pts_nil)
        (fun _ _ _ _ _ => pe_op op_add pe_int (pv 1)))
      (pss_cons (ps_for PassesOwn.never rfl (pi_enum (by rfl) B.enumerate (pa_cons (pv 0) pa_nil)) (pg_tup rfl (pgs_cons (pg_name (i := 1) scFolded.nd rfl (Or.inl rfl)) (pgs_cons (pg_name (i := 3) scFolded.nd rfl (Or.inl rfl)) pgs_nil)))
        (pss_one (ps_asg (pe_op op_mod (pe_callTy call_int1 (by rfl) B.int (by decide +kernel) (pa_cons (pe_op op_add (pe_op op_mul (pe_ix ix_list (pv 2)
            (pe_op op_mod (pe_callTy call_int1 (by rfl) B.int (by decide +kernel) (pa_cons (pv 1) pa_nil)) pe_int) (fun _ _ => rfl)) pe_int) (pv 3)) pa_nil)) pe_int)
          (pg_sub (pv 2) (pe_op op_mod (pe_callTy call_int1 (by rfl) B.int (by decide +kernel) (pa_cons (pv 1) pa_nil)) pe_int) set_list))))
      (pss_cons (ps_for PassesOwn.never rfl (pi_range2 (by rfl) B.range (pa_cons pe_int (pa_cons pe_int pa_nil))) (pg_name (i := 1) scFolded.nd rfl (Or.inl rfl))
        (pss_one (ps_asg (pe_op op_mod (pe_callTy call_int1 (by rfl) B.int (by decide +kernel) (pa_cons (pe_op op_add (pe_ix ix_list (pv 2) (pv 1) (fun _ _ => rfl))
            (pe_op op_mul (pe_ix ix_list (pv 2) (pe_op op_sub (pv 1) pe_int) (fun _ _ => rfl)) pe_int)) pa_nil)) pe_int)
          (pg_sub (pv 2) (pv 1) set_list))))
      (pss_one (ps_ret (pv 2))))), ?_⟩
    refine ⟨64, rfl, by decide, by decide, fun D hD => lc_range (lo := 0) (n := 64)
      (fun i H' => Same H H' ∧ ∃ cs : List Int, cs.length = i ∧ (∀ x ∈ cs, 0 ≤ x ∧ x < 2147483647) ∧ H' D = some (.lst (nums cs))) ⟨same_new hD, [], rfl, fun x hx => by simp at hx, upd_same⟩ ?_ ?_⟩
    · intro i H' hi ⟨h1, cs, h2, h3, h4⟩
      refine ⟨rfl, ?_⟩
      unfold tYes
      refine iteT ?_
      refine ⟨_, rfl, _, _, rfl, rfl, nums cs, h4, by rw [List.length_map]; exact small1000 (by omega), ?_, cs ++ [17 + (0 + (i : Int))], by simp [h2], fun x hx => ?_, by rw [upd_same]; simp [nums]⟩
      · intro b o e
        rw [upd_ne (ne_of_none e hD)]
        exact h1 _ _ e
      · rcases List.mem_append.mp hx with q | q
        · exact h3 x q
        · have e := List.mem_singleton.mp q
          omega
    · intro H' ⟨h1, cs, h2, h3, h4⟩
      have F0 : FAt H H' D := ⟨h1, hD, cs, ⟨h2, h3⟩, h4⟩
      refine ⟨_, rfl, a, _, rfl, h1.seq hS, for_enL (K := K) (a := a) (xs := nums ns) (fun i σ H'' => ∃ v1 v3 : Option V, σ = [some (.ref a), v1, some (.ref D), v3] ∧ FAt H H'' D) ⟨_, _, rfl, F0⟩ (fun i σ H'' _ ⟨_, _, _, f⟩ => f.same.seq hS) ?_ ?_⟩
      · rintro i x T σ H'' hx ⟨v1, v3, rfl, f⟩ hT
        obtain ⟨z, rfl, _, _⟩ := nums_get hx
        have f2 : FAt H (upd H'' T (.tup [.int (i : Nat), .int z])) D := f.pair hT
        obtain ⟨cs, cc, eD⟩ := f2.cells
        have hj : i % 64 < 64 := Nat.mod_lt _ (by decide)
        obtain ⟨y, hy, hy0, hy1⟩ := cc.at hj
        have ei : ((i : Nat) : Int) % 64 = ((i % 64 : Nat) : Int) := by omega
        refine ⟨T, _, rfl, SqT.of upd_same, rfl, _, _, rfl, _, _, rfl, rfl, ?_⟩
        refine ⟨_, rfl, _, rfl, .inl ⟨_, rfl, _, _, rfl, rfl, (by show (0 : Int) < 64; decide), D, _, _, _, rfl, rfl, SqL.of eD, at_of ei hy, _, _, rfl, rfl, .inr ⟨by decide, by decide⟩, _, rfl, _, _, rfl, rfl,
          .inl ⟨_, rfl, _, _, rfl, rfl, (by show (0 : Int) < 2147483647; decide), ?_⟩⟩⟩
        refine ⟨_, rfl, _, rfl, .inl ⟨_, rfl, _, _, rfl, rfl, (by show (0 : Int) < 64; decide), D, _, _, i % 64, rfl, rfl, eD, ?_, ?_⟩⟩
        · rw [ei]
          refine ixN_lt ?_
          rw [List.length_map, cc.len]
          exact hj
        · refine ⟨_, _, rfl, ?_⟩
          rw [set_nums]
          exact f2.put (cc.set _ (by omega) (by omega))
      · rintro σ H'' ⟨v1, v3, rfl, f⟩
        refine ⟨1, 64, rfl, ⟨by decide, by decide, by decide, by decide⟩, for_range (lo := 1) (n := 63) (fun i σ H'' => ∃ v1 v3 : Option V, σ = [some (.ref a), v1, some (.ref D), v3] ∧ FAt H H'' D) ⟨_, _, rfl, f⟩ ?_ ?_⟩
        · rintro i σ H3 hi ⟨v1, v3, rfl, f⟩
          obtain ⟨cs, cc, eD⟩ := f.cells
          obtain ⟨y, hy, hy0, hy1⟩ := cc.at (show i + 1 < 64 by omega)
          obtain ⟨z, hz, hz0, hz1⟩ := cc.at (show i < 64 by omega)
          have e1 : (1 + (i : Int)) = ((i + 1 : Nat) : Int) := by omega
          have e0 : (1 + (i : Int)) - 1 = ((i : Nat) : Int) := by omega
          refine ⟨_, rfl, _, rfl, D, _, _, _, rfl, rfl, SqL.of eD, at_of e1 hy, _, rfl, _, rfl, _, _, rfl, rfl, D, _, _, _, rfl, rfl, SqL.of eD, at_of e0 hz, _, _, rfl, rfl, .inr ⟨by decide, by decide⟩, _, _, rfl, rfl,
            .inl ⟨_, rfl, _, _, rfl, rfl, (by show (0 : Int) < 2147483647; decide), ?_⟩⟩
          refine ⟨_, rfl, _, rfl, D, _, _, i + 1, rfl, rfl, eD, ?_, ?_⟩
          · rw [e1]
            refine ixN_lt ?_
            rw [List.length_map, cc.len]
            omega
          · refine ⟨_, _, rfl, ?_⟩
            rw [set_nums]
            exact f.put (cc.set _ (by omega) (by omega))
        · rintro σ H3 ⟨v1, v3, rfl, f⟩
          exact ⟨_, rfl, k D H3 f⟩
end
end Lw
/-! F. The dict of the draws, one draw. -/
namespace Lw
open PySem L2 LwE
theorem nums_at {l : List Int} {i : Nat} (h : i < l.length) : (nums l)[i]? = some (.int l[i]) := by
  rw [List.getElem?_map, List.getElem?_eq_getElem h]
  rfl
abbrev kC : Key := Sum.inr "cells"
abbrev kG : Key := Sum.inr "great"
abbrev kS : Key := Sum.inr "spot"
theorem kCG : ¬ (("cells" : Str) = "great") := by decide +kernel
theorem kCS : ¬ (("cells" : Str) = "spot") := by decide +kernel
theorem kGS : ¬ (("great" : Str) = "spot") := by decide +kernel
theorem kSG : ¬ (("spot" : Str) = "great") := by decide +kernel
def mkd (c g : Addr) (n : Int) : List (Key × V) := [(kC, .ref c), (kG, .ref g), (kS, .int n)]
theorem mkd_c (c g : Addr) (n : Int) : valV (mkd c g n) kC = some (.ref c) := by
  simp [mkd, valV, List.find?_cons, kC, kG, kS, kCG, kCS, kGS, kSG]
theorem mkd_g (c g : Addr) (n : Int) : valV (mkd c g n) kG = some (.ref g) := by
  simp [mkd, valV, List.find?_cons, kC, kG, kS, kCG, kCS, kGS, kSG]
theorem mkd_s (c g : Addr) (n : Int) : valV (mkd c g n) kS = some (.int n) := by
  simp [mkd, valV, List.find?_cons, kC, kG, kS, kCG, kCS, kGS, kSG]
theorem mkd_ps (c g : Addr) (n z : Int) : putK (mkd c g n) kS (.int z) = mkd c g z := by
  simp [mkd, putK, kC, kG, kS, kCG, kCS, kGS, kSG]
theorem mkd_pg (c g h : Addr) (n : Int) : putK (mkd c g n) kG (.ref h) = mkd c h n := by
  simp [mkd, putK, kC, kG, kS, kCG, kCS, kGS, kSG]
/-- the dict of the draws at m, n of them drawn -/
structure Dr (H : Hp) (m g c : Addr) (n : Int) : Prop where
  hm : H m = some (.dK (mkd c g n))
  hc : ∃ cs, Cells cs ∧ H c = some (.lst (nums cs))
  hg : ∃ gs : List Int, gs.length ≤ 63 ∧ H g = some (.lst (nums gs))
  ne : c ≠ g
  n0 : 0 ≤ n
/-- all but the dict and its great cells stands -/
def Keep (m g : Addr) (H H' : Hp) : Prop := ∀ b o, H b = some o → b ≠ m → b ≠ g → H' b = some o
theorem Keep.refl (m g : Addr) (H : Hp) : Keep m g H H := fun _ _ e _ _ => e
theorem Keep.trans {m g : Addr} {H H1 H2 : Hp} (a : Keep m g H H1) (b : Keep m g H1 H2) : Keep m g H H2 := fun x o e h1 h2 => b x o (a x o e h1 h2) h1 h2
theorem Keep.of {m g : Addr} {H H1 : Hp} (a : Same H H1) : Keep m g H H1 := fun x o e _ _ => a x o e
theorem Dr.mg {H : Hp} {m g c : Addr} {n : Int} (d : Dr H m g c n) : m ≠ g := by
  obtain ⟨gs, _, e⟩ := d.hg
  exact ne_of d.hm e (by intro z; cases z)
theorem Dr.mc {H : Hp} {m g c : Addr} {n : Int} (d : Dr H m g c n) : m ≠ c := by
  obtain ⟨cs, _, e⟩ := d.hc
  exact ne_of d.hm e (by intro z; cases z)
theorem Dr.same {H H' : Hp} {m g c : Addr} {n : Int} (d : Dr H m g c n) (s : Same H H') : Dr H' m g c n :=
  ⟨s _ _ d.hm, let ⟨cs, a, b⟩ := d.hc; ⟨cs, a, s _ _ b⟩, let ⟨cs, a, b⟩ := d.hg; ⟨cs, a, s _ _ b⟩, d.ne, d.n0⟩
theorem Dr.next {H : Hp} {m g c : Addr} {n : Int} (d : Dr H m g c n) : Dr (upd H m (.dK (mkd c g (n + 1)))) m g c (n + 1) :=
  ⟨upd_same, let ⟨cs, a, b⟩ := d.hc; ⟨cs, a, by rw [upd_ne d.mc.symm]; exact b⟩, let ⟨cs, a, b⟩ := d.hg; ⟨cs, a, by rw [upd_ne d.mg.symm]; exact b⟩, d.ne, by have := d.n0; omega⟩
theorem Dr.great {H : Hp} {m g c : Addr} {n : Int} (d : Dr H m g c n) {gs : List Int} (h : gs.length ≤ 63) : Dr (upd H g (.lst (nums gs))) m g c n :=
  ⟨by rw [upd_ne d.mg]; exact d.hm, let ⟨cs, a, b⟩ := d.hc; ⟨cs, a, by rw [upd_ne d.ne]; exact b⟩, ⟨gs, h, upd_same⟩, d.ne, d.n0⟩
theorem dp_nums {K : PySem.W.Frag} {H : Hp} : ∀ l : List Int, DpAll K H (nums l) (l.map PyData.int)
  | [] => .nil
  | x :: l => .cons (.int x) (dp_nums l)
theorem lay_nums : ∀ l : List Int, PyData.canLayAll0 (l.map PyData.int) = true ∧ PyData.depthAll (l.map PyData.int) = 0
  | [] => by simp [PyData.canLayAll0, PyData.depthAll]
  | x :: l => by
    have ih := lay_nums l
    simp [PyData.canLayAll0, PyData.depthAll, PyData.canLay0, PyData.depth, ih.1, ih.2]
theorem shaped_nums (l : List Int) : SeqAt.shaped (.list (l.map PyData.int)) = true := by
  have h := lay_nums l
  unfold SeqAt.shaped
  simp [PyData.canLay0, PyData.depth, h.1, h.2]
theorem Dr.getS {H : Hp} {m g c : Addr} {n : Int} (d : Dr H m g c n) : DGet H m (.str "spot") (some (.int n)) := by
  have q := DGet.k (k := kS) d.hm
  rw [mkd_s] at q
  exact q
theorem Dr.getG {H : Hp} {m g c : Addr} {n : Int} (d : Dr H m g c n) : DGet H m (.str "great") (some (.ref g)) := by
  have q := DGet.k (k := kG) d.hm
  rw [mkd_g] at q
  exact q
theorem Dr.getC {H : Hp} {m g c : Addr} {n : Int} (d : Dr H m g c n) : DGet H m (.str "cells") (some (.ref c)) := by
  have q := DGet.k (k := kC) d.hm
  rw [mkd_c] at q
  exact q
section
variable {P : Program} {w : World} {K : PySem.W.Frag} {mg : Str → Option Value} {base : Heap}
def spDraw : Sp := fun vs H Q _ => ∃ (m g c : Addr) (n lim : Int), vs = [.ref m, .int lim] ∧ Dr H m g c n ∧ n ≤ 100000 ∧ 1 ≤ lim ∧ lim ≤ 1000 ∧
  ∀ (z : Int) (H' : Hp), 0 ≤ z → z < lim → Dr H' m g c (n + 1) → Keep m g H H' → Q (.int z) H'
theorem scDraw : FnScope ["m", "limit", "n", "lot", "here", "cell"] ["m", "limit"] (defScope sDraw) := ⟨rfl, rfl, rfl, by decide +kernel, rfl, by decide +kernel, by decide +kernel⟩
theorem ok_draw {f f1 : Addr} {fd fd1 : FuncData} (B : Bare mg) (F : Df K mg "_law_draw" sDraw f fd) (F1 : Df K mg "_law_mixed" sMixed f1 fd1) (b1 : Binds K fd1 ["cell", "n"] [])
    (G1 : FnOk P w K mg base CX0 1 f1 fd1 ["cell", "n"] spMixed) : FnOk P w K mg base CX0 2 f fd ["m", "limit"] spDraw := by
  refine F.fn.ok scDraw (fun vs H Q E h => ?_) (fun cdv A outer s H vs Q E hr h => ?_)
  · obtain ⟨m, g, c, n, lim, rfl, _⟩ := h
    rfl
  · obtain ⟨m, g, c, n, lim, rfl, d, hn, hl1, hl2, k⟩ := h
    have hu := hu_of hr
    refine ⟨_, pss_cons (ps_set (i := 2) scDraw.nd rfl (Or.inl rfl) (pe_dget hu (pv 0) pe_str (fun _ _ => rfl)))
      (pss_cons (ps_dput hu (pv 0) pe_str (pe_op op_add (pv 2) pe_int) rfl)
      (pss_cons (ps_if (pt_cmpR (op_neD hr.units) (pe_dget hu (pv 0) pe_str (fun _ _ => rfl)) (pe_lst pa_nil) (nomark _))
        (pss_cons (ps_set (i := 3) scDraw.nd rfl (Or.inl rfl) (pe_dget hu (pv 0) pe_str (fun _ _ => rfl)))
        (pss_cons (ps_set (i := 4) scDraw.nd rfl (Or.inl rfl) (pe_op op_mod (pe_callTy call_int1 (by rfl) B.int (by decide +kernel) (pa_cons (pv 2) pa_nil)) (pe_callB call_len_seq (by rfl) B.len PySem.boot_len (pa_cons (pv 3) pa_nil))))
        (pss_cons (ps_set (i := 5) scDraw.nd rfl (Or.inl rfl) (pe_ix ix_list (pv 3) (pv 4) (fun _ _ => rfl)))
        (pss_one (ps_if (pt_cmpR op_gt (pv 5) pe_int (nomark _))
          (pss_cons (ps_asg (pe_op op_fdiv (pv 5) (pv 1)) (pg_sub (pv 3) (pv 4) set_list))
          (pss_one (ps_ret (pe_op op_mod (pe_callTy call_int1 (by rfl) B.int (by decide +kernel) (pa_cons (pv 5) pa_nil)) (pv 1)))))
          pss_nil))))) pss_nil)
      (pss_cons (ps_set (i := 3) scDraw.nd rfl (Or.inl rfl) (pe_dget hu (pv 0) pe_str (fun _ _ => rfl)))
      (pss_one (ps_ret (pe_op op_mod (pe_callTy call_int1 (by rfl) B.int (by decide +kernel) (pa_cons
        (pe_call G1 hr (by rfl) F1.g F1.fn.kp b1 .nil pass0 (pa_cons (pe_call G1 hr (by rfl) F1.g F1.fn.kp b1 .nil pass0 (pa_cons
            (pe_op op_add (pe_ix ix_list (pv 3) (pe_op op_mod (pe_callTy call_int1 (by rfl) B.int (by decide +kernel) (pa_cons (pv 2) pa_nil)) pe_int) (fun _ _ => rfl)) (pe_op op_mul pe_int (pe_op op_fdiv (pv 2) pe_int)))
            (pa_cons (pv 2) pa_nil)))
          (pa_cons (pe_op op_add (pv 2) pe_int) pa_nil))) pa_nil)) (pv 1))))))), ?_⟩
    have n0 := d.n0
    -- n = m['spot']; m['spot'] = n + 1
    refine ⟨_, rfl, m, _, rfl, d.getS, ?_⟩
    refine ⟨_, rfl, _, _, rfl, rfl, _, rfl, m, _, rfl, DPut.k (k := kS) d.hm (by show 3 < sizeLine; decide), ?_⟩
    rw [mkd_ps]
    have d1 := d.next
    have k1 : Keep m g H (upd H m (.dK (mkd c g (n + 1)))) := fun b o e h1 _ => by
      rw [upd_ne h1]
      exact e
    generalize hH1 : upd H m (.dK (mkd c g (n + 1))) = H1 at d1 k1 ⊢
    clear hH1
    -- if m['great'] != []
    refine ⟨_, rfl, m, _, rfl, d1.getG, Nat.zero_le _, fun e he => ?_⟩
    have d2 : Dr (upd H1 e (.lst [])) m g c (n + 1) := d1.same (same_new he)
    have k2 : Keep m g H (upd H1 e (.lst [])) := k1.trans (.of (same_new he))
    obtain ⟨gs, hgl, hge⟩ := id d2.hg
    have hle : (upd H1 e (.lst [])) e = some (.lst []) := upd_same
    generalize hH2 : upd H1 e (.lst []) = H2 at d2 k2 hge hle ⊢
    clear hH2
    obtain ⟨cs, cc, hce⟩ := id d2.hc
    have hj : n.toNat % 64 < 64 := Nat.mod_lt _ (by decide)
    have ej : n % 64 = ((n.toNat % 64 : Nat) : Int) := by omega
    obtain ⟨y, hy, hy0, hy1⟩ := cc.at hj
    have el : (1 : Int) ≤ lim := hl1
    refine ⟨.list (gs.map PyData.int), .list [], .lst (SqL.of hge) (dp_nums gs), .lst (SqL.of hle) .nil, shaped_nums gs, by decide, _, rfl, ?_⟩
    cases gs with
    | nil =>
      refine iteF ?_
      refine ⟨_, rfl, m, _, rfl, d2.getC, ?_⟩
      refine ⟨_, rfl, _, rfl, .inl ⟨_, rfl, _, _, rfl, rfl, (by show (0 : Int) < 64; decide), c, _, _, _, rfl, rfl, SqL.of hce, at_of ej hy, _, rfl, _, _, rfl, rfl, ⟨by decide, by decide⟩,
        _, _, rfl, rfl, .inl ⟨by decide, by decide⟩, _, _, rfl, rfl, _, rfl, _, _, rfl, n0, by omega, fun z _ _ => ⟨_, rfl, _, _, rfl, rfl, _, _, rfl, by omega, by omega, fun z' h0' h1' =>
          .inl ⟨_, rfl, _, rfl, _, _, rfl, rfl, (by show (0 : Int) < lim; omega), k _ H2 (Int.emod_nonneg _ (by omega)) (Int.emod_lt_of_pos _ (by omega)) d2 k2⟩⟩⟩⟩
    | cons x gs =>
      refine iteT ?_
      have hlen : (nums (x :: gs)).length = (x :: gs).length := List.length_map ..
      have hpos : 0 < (x :: gs).length := Nat.succ_pos _
      have hi : n.toNat % (x :: gs).length < (x :: gs).length := Nat.mod_lt _ hpos
      have ei : n % (((nums (x :: gs)).length : Nat) : Int) = ((n.toNat % (x :: gs).length : Nat) : Int) := by
        rw [hlen]
        have e9 : ((n.toNat : Nat) : Int) = n := Int.toNat_of_nonneg n0
        have e8 : ((n.toNat % (x :: gs).length : Nat) : Int) = ((n.toNat : Nat) : Int) % (((x :: gs).length : Nat) : Int) := Int.natCast_emod _ _
        rw [e8, e9]
      generalize hi2 : n.toNat % (x :: gs).length = i at hi ei
      have hv : (nums (x :: gs))[i]? = some (.int ((x :: gs)[i])) := nums_at hi
      refine ⟨_, rfl, m, _, rfl, d2.getG, ?_⟩
      refine ⟨_, rfl, .inl ⟨_, rfl, _, rfl, g, _, rfl, .inl (SqL.of hge), _, _, rfl, rfl, (by rw [hlen]; omega), ?_⟩⟩
      refine ⟨_, rfl, _, rfl, g, _, _, _, rfl, rfl, SqL.of hge, at_of ei hv, ?_⟩
      refine ⟨_, rfl, _, _, rfl, rfl, _, rfl, ?_⟩
      refine ite2 (fun hc => ?_) (fun hc => ?_)
      · refine ⟨_, rfl, _, rfl, _, _, rfl, rfl, ⟨by omega, by omega⟩, _, rfl, _, rfl, g, _, _, i, rfl, rfl, hge, (by rw [ei]; exact ixN_lt (by rw [hlen]; exact hi)), ?_⟩
        rw [set_nums]
        refine ⟨_, rfl, .inl ⟨_, rfl, _, rfl, _, _, rfl, rfl, (by show (0 : Int) < lim; omega), ?_⟩⟩
        refine k _ _ (Int.emod_nonneg _ (by omega)) (Int.emod_lt_of_pos _ (by omega)) (d2.great (by rw [List.length_set]; exact hgl)) fun b o e1 h1 h2 => ?_
        rw [upd_ne h2]
        exact k2 _ _ e1 h1 h2
      · refine ⟨_, rfl, m, _, rfl, d2.getC, ?_⟩
        refine ⟨_, rfl, _, rfl, .inl ⟨_, rfl, _, _, rfl, rfl, (by show (0 : Int) < 64; decide), c, _, _, _, rfl, rfl, SqL.of hce, at_of ej hy, _, rfl, _, _, rfl, rfl, ⟨by decide, by decide⟩,
          _, _, rfl, rfl, .inl ⟨by decide, by decide⟩, _, _, rfl, rfl, _, rfl, _, _, rfl, n0, by omega, fun z _ _ => ⟨_, rfl, _, _, rfl, rfl, _, _, rfl, by omega, by omega, fun z' h0' h1' =>
            .inl ⟨_, rfl, _, rfl, _, _, rfl, rfl, (by show (0 : Int) < lim; omega), k _ H2 (Int.emod_nonneg _ (by omega)) (Int.emod_lt_of_pos _ (by omega)) d2 k2⟩⟩⟩⟩
end
end Lw
/-! G. The draws begin; sizes. -/
namespace Lw
open PySem L2 LwE
section
variable {P : Program} {w : World} {K : PySem.W.Frag} {mg : Str → Option Value} {base : Heap}
theorem merge_mkd (c g : Addr) : mergeK [] [(kC, V.ref c), (kG, V.ref g), (kS, V.int 0)] = mkd c g 0 := by
  simp [mergeK, putK, mkd, kC, kG, kS, kCG, kCS, kGS, kSG]
def spBegun (K : PySem.W.Frag) : Sp := fun vs H Q _ => ∃ (a : Addr) (ns : List Int), vs = [.ref a] ∧ SqL K H a (nums ns) ∧ ns.length ≤ 63 ∧ ∀ m g c H', Same H H' → Dr H' m g c 0 → Q (.ref m) H'
theorem scBegun : FnScope ["script", "m", "cell"] ["script"] (defScope sBegun) := ⟨rfl, rfl, rfl, by decide +kernel, rfl, by decide +kernel, by decide +kernel⟩
theorem ok_begun {f f1 : Addr} {fd fd1 : FuncData} (F : Df K mg "_law_begun" sBegun f fd) (F1 : Df K mg "_law_folded" sFolded f1 fd1) (b1 : Binds K fd1 ["script"] [])
    (G1 : FnOk P w K mg base CX0 1 f1 fd1 ["script"] (spFolded K)) : FnOk P w K mg base CX0 2 f fd ["script"] (spBegun K) := by
  refine F.fn.ok scBegun (fun vs H Q E h => ?_) (fun cdv A outer s H vs Q E hr h => ?_)
  · obtain ⟨a, ns, rfl, _⟩ := h
    rfl
  · obtain ⟨a, ns, rfl, hS, hl, k⟩ := h
    have hu := hu_of hr
    refine ⟨_, pss_cons (ps_set (i := 1) scBegun.nd rfl (Or.inl rfl) (pe_disp (pps_cons pe_str (pe_call G1 hr (by rfl) F1.g F1.fn.kp b1 .nil pass0 (pa_cons (pv 0) pa_nil))
        (pps_cons pe_str (pe_lst pa_nil) (pps_cons pe_str pe_int pps_nil))) (by rfl) (by rfl) (fun z => by cases z) (by decide)))
      (pss_cons (ps_dput hu (pv 1) pe_str (pe_lc (own := [("cell", 2)]) (g := gName 2) (tt := tYes) rfl scBegun.nd (pi_list (pv 0)) (blkOk_by (N := ["script", "m", "cell"]) (sc := defScope sBegun) (by decide +kernel))
          (fun _ _ _ _ _ => pg_name (i := 2) scBegun.nd rfl (Or.inl rfl)) (fun _ _ _ _ _ => pts_nil)
          (fun _ _ _ _ _ => pe_ifExp (pt_cmpR op_ge (pv 2) (pe_op op_pow pe_int pe_int) (nomark _)) (pv 2) pe_int)) rfl)
      (pss_one (ps_ret (pv 1)))), ?_⟩
    intro p hp
    refine ⟨_, rfl, a, ns, rfl, (same_new hp).seq hS, fun D H1 f1 => ?_⟩
    have s1 : Same H H1 := (same_new hp).trans f1.same
    have hp1 : H1 p = some (.dK []) := f1.same _ _ upd_same
    refine ⟨Nat.zero_le _, fun g hg => ?_⟩
    have npg : p ≠ g := ne_of_none hp1 hg
    refine ⟨by rw [upd_ne npg]; exact hp1, [(kC, .ref D), (kG, .ref g), (kS, .int 0)], rfl, (by show 3 ≤ 15; decide), ?_⟩
    rw [merge_mkd]
    obtain ⟨cs, cc, eD⟩ := f1.cells
    have nDp : D ≠ p := ne_of eD hp1 (by intro z; cases z)
    have nDg : D ≠ g := ne_of_none eD hg
    have d0 : Dr (upd (upd H1 g (.lst [])) p (.dK (mkd D g 0))) p g D 0 :=
      ⟨upd_same, ⟨cs, cc, by rw [upd_ne nDp, upd_ne nDg]; exact eD⟩, ⟨[], by decide, by rw [upd_ne npg.symm, upd_same]; rfl⟩, nDg, Int.le_refl 0⟩
    have s2 : Same H (upd (upd H1 g (.lst [])) p (.dK (mkd D g 0))) := fun b o e => by
      rw [upd_ne (ne_of_none e hp), upd_ne (ne_of_none (s1 _ _ e) hg)]
      exact s1 _ _ e
    generalize hH2 : upd (upd H1 g (.lst [])) p (.dK (mkd D g 0)) = H2 at d0 s2 ⊢
    clear hH2
    refine ⟨_, rfl, a, rfl, ⟨_, s2.seq hS⟩, fun q hq => lc_list (K := K) (a := a) (xs := nums ns) (fun i H' => Same H2 H' ∧ ∃ gs : List Int, gs.length = i ∧ H' q = some (.lst (nums gs))) ⟨same_new hq, [], rfl, upd_same⟩
      (fun i H' _ ⟨s3, _⟩ => (s2.trans s3).seq hS) ?_ ?_⟩
    · intro i x H' hx ⟨s3, gs, h2, h3⟩
      obtain ⟨z, rfl, hz, _⟩ := nums_get hx
      have hi : i < ns.length := (List.getElem?_eq_some_iff.mp hz).1
      refine ⟨rfl, ?_⟩
      unfold tYes
      refine iteT ?_
      refine ⟨_, rfl, _, _, rfl, rfl, ⟨by decide, by decide, by decide⟩, _, _, rfl, rfl, _, rfl, ?_⟩
      have put : ∀ y : Int, ∃ acc, H' q = some (.lst acc) ∧ acc.length < sizeLine ∧ Same H2 (upd H' q (.lst (acc ++ [.int y]))) ∧ ∃ gs : List Int, gs.length = i + 1 ∧ (upd H' q (.lst (acc ++ [.int y]))) q = some (.lst (nums gs)) := fun y => by
        refine ⟨nums gs, h3, by rw [List.length_map]; exact small1000 (by omega), fun b o e => ?_, gs ++ [y], by simp [h2], by rw [upd_same]; simp [nums]⟩
        rw [upd_ne (ne_of_none e hq)]
        exact s3 _ _ e
      refine ite2 (fun _ => ?_) (fun _ => ?_)
      · exact ⟨_, rfl, put z⟩
      · exact put 0
    · intro H' ⟨s3, gs, h2, h3⟩
      have d3 := d0.same s3
      refine ⟨_, rfl, p, _, rfl, DPut.k (k := kG) d3.hm (by show 3 < sizeLine; decide), ?_⟩
      rw [mkd_pg]
      have nqp : q ≠ p := ne_of h3 d3.hm (by intro z; cases z)
      obtain ⟨cs', cc', eD'⟩ := d0.hc
      have nDq : D ≠ q := ne_of_none eD' hq
      refine ⟨_, rfl, k p q D _ (fun b o e => ?_) ⟨upd_same, ⟨cs', cc', ?_⟩, ⟨gs, ?_, ?_⟩, nDq, Int.le_refl 0⟩⟩
      · rw [upd_ne (ne_of_none e hp)]
        exact s3 _ _ (s2 _ _ e)
      · rw [upd_ne nDp]
        exact s3 _ _ eD'
      · rw [h2, List.length_map]
        exact hl
      · rw [upd_ne nqp]
        exact h3
def spSize : Sp := fun vs H Q _ => ∃ (m g c : Addr) (n : Int), vs = [.ref m] ∧ Dr H m g c n ∧ n ≤ 100000 ∧ ∀ (z : Int) (H' : Hp), 2 ≤ z → z ≤ 6 → Dr H' m g c (n + 1) → Keep m g H H' → Q (.int z) H'
theorem scSize : FnScope ["m"] ["m"] (defScope sSize) := ⟨rfl, rfl, rfl, by decide +kernel, rfl, by decide +kernel, by decide +kernel⟩
theorem ok_size {f f1 : Addr} {fd fd1 : FuncData} (F : Df K mg "_law_size" sSize f fd) (F1 : Df K mg "_law_draw" sDraw f1 fd1) (b1 : Binds K fd1 ["m", "limit"] [])
    (G1 : FnOk P w K mg base CX0 2 f1 fd1 ["m", "limit"] spDraw) : FnOk P w K mg base CX0 3 f fd ["m"] spSize := by
  refine F.fn.ok scSize (fun vs H Q E h => ?_) (fun cdv A outer s H vs Q E hr h => ?_)
  · obtain ⟨m, g, c, n, rfl, _⟩ := h
    rfl
  · obtain ⟨m, g, c, n, rfl, d, hn, k⟩ := h
    refine ⟨_, pss_one (ps_ret (pe_op op_add pe_int (pe_call G1 hr (by rfl) F1.g F1.fn.kp b1 .nil pass0 (pa_cons (pv 0) (pa_cons pe_int pa_nil))))), ?_⟩
    refine ⟨_, rfl, m, g, c, n, 5, rfl, d, hn, by decide, by decide, fun z H' h0 h1 d' kp => ⟨_, _, rfl, rfl, k _ H' (by omega) (by omega) d' kp⟩⟩
end
end Lw
/-! H. Drawn letters. -/
namespace Lw
open PySem L2 LwE
theorem Dr.upd_at {H : Hp} {m g c q : Addr} {n : Int} {o : HO} (d : Dr H m g c n) (h1 : q ≠ m) (h2 : q ≠ g) (h3 : q ≠ c) : Dr (upd H q o) m g c n :=
  ⟨by rw [upd_ne h1.symm]; exact d.hm, let ⟨cs, a, b⟩ := d.hc; ⟨cs, a, by rw [upd_ne h3.symm]; exact b⟩, let ⟨cs, a, b⟩ := d.hg; ⟨cs, a, by rw [upd_ne h2.symm]; exact b⟩, d.ne, d.n0⟩
/-- what was not there ahead of a draw is none of its parts -/
structure Off (q m g c : Addr) : Prop where
  m : q ≠ m
  g : q ≠ g
  c : q ≠ c
theorem Dr.off {H : Hp} {m g c q : Addr} {n : Int} (d : Dr H m g c n) (h : H q = none) : Off q m g c :=
  ⟨(ne_of_none d.hm h).symm, let ⟨_, _, e⟩ := d.hg; (ne_of_none e h).symm, let ⟨_, _, e⟩ := d.hc; (ne_of_none e h).symm⟩
theorem Keep.free {m g c q : Addr} {n : Int} {H H' : Hp} (k : Keep m g H H') (d : Dr H' m g c n) (h : H' q = none) : H q = none := by
  have z := d.off h
  cases e : H q with
  | none => rfl
  | some o =>
    rw [k q o e z.m z.g] at h
    cases h
theorem Keep.put {m g q : Addr} {H H' : Hp} {o : HO} (k : Keep m g H H') (h : H q = none) : Keep m g H (upd H' q o) := fun b u e h1 h2 => by
  rw [upd_ne (ne_of_none e h)]
  exact k b u e h1 h2
theorem cut_take (l : List Int) {n : Int} (h : 0 ≤ n) : cutV (nums l) none (some n) = nums (l.take n.toNat) := by
  unfold cutV
  have e : HT.sIx (nums l).length (nums l).length (some n) = min n.toNat (nums l).length := by
    have q := HT.sIx_nat (nums l).length (nums l).length n.toNat
    rw [Int.toNat_of_nonneg h] at q
    exact q
  rw [HT.sIx_none, e, Nat.sub_zero, List.drop_zero]
  rw [List.length_map]
  show (l.map V.int).take _ = (l.take n.toNat).map V.int
  rw [← List.map_take]
  exact congrArg (List.map V.int) List.take_eq_take_min.symm
section
variable {P : Program} {w : World} {K : PySem.W.Frag} {mg : Str → Option Value} {base : Heap}
/-- between two turns -/
structure LW (H H' : Hp) (m g c : Addr) (n size : Int) (q : Addr) (fs : List Int) : Prop where
  dr : ∃ n', Dr H' m g c n' ∧ n ≤ n' ∧ n' ≤ n + 3 + 2 * fs.length
  kp : Keep m g H H'
  fr : H q = none
  at_ : H' q = some (.lst (nums fs))
  len : fs.length ≤ 46
  bd : ∀ x ∈ fs, 1 ≤ x ∧ x ≤ size
theorem LW.push {H H' H5 : Hp} {m g c : Addr} {n n1 size x : Int} {q : Addr} {fs : List Int} (W : LW H H' m g c n size q fs) (o : Off q m g c) (hl : fs.length ≤ 39) (k5 : Keep m g H' H5) (d5 : Dr H5 m g c n1) (h1 : n ≤ n1)
    (h2 : n1 ≤ n + 5 + 2 * fs.length) (x0 : 1 ≤ x) (x1 : x ≤ size) : LW H (upd H5 q (.lst (nums fs ++ [.int x]))) m g c n size q (fs ++ [x]) where
  dr := ⟨n1, d5.upd_at o.m o.g o.c, h1, by rw [List.length_append, List.length_singleton]; omega⟩
  kp := (W.kp.trans k5).put W.fr
  fr := W.fr
  at_ := by
    rw [upd_same]
    simp [nums]
  len := by
    rw [List.length_append, List.length_singleton]
    omega
  bd := fun y hy => by
    rcases List.mem_append.mp hy with z | z
    · exact W.bd y z
    · have e := List.mem_singleton.mp z
      omega
theorem LW.swap {H H' H5 : Hp} {m g c : Addr} {n n1 size : Int} {q p r : Addr} {fs xs : List Int} (W : LW H H' m g c n size q fs) (hl : fs.length ≤ 39) (hx : xs.length ≤ 6) (hx1 : 1 ≤ xs.length) (k5 : Keep m g H' H5) (d5 : Dr H5 m g c n1) (h1 : n ≤ n1)
    (h2 : n1 ≤ n + 5 + 2 * fs.length) (b : ∀ x ∈ xs, 1 ≤ x ∧ x ≤ size) (hp : H5 p = none) (hr : (upd H5 p (.lst (nums xs))) r = none) :
    LW H (upd (upd H5 p (.lst (nums xs))) r (.lst (nums fs ++ nums xs))) m g c n size r (fs ++ xs) where
  dr := ⟨n1, (d5.same (same_new hp)).same (same_new hr), h1, by rw [List.length_append]; omega⟩
  kp := ((W.kp.trans k5).trans (.of (same_new hp))).trans (.of (same_new hr))
  fr := ((W.kp.trans k5).trans (.of (same_new hp))).free (d5.same (same_new hp)) hr
  at_ := by
    rw [upd_same]
    simp [nums]
  len := by
    rw [List.length_append]
    omega
  bd := fun y hy => by
    rcases List.mem_append.mp hy with z | z
    · exact W.bd y z
    · exact b y z
/-- how long the list in the fifth place is -/
def lenOf (σ : List (Option V)) (H : Hp) : Nat := match (σ[5]? : Option (Option V)) with
  | some (some (V.ref q)) => (match H q with
    | some (HO.lst xs) => xs.length
    | _ => 0)
  | _ => 0
def spLetters : Sp := fun vs H Q _ => ∃ (m g c : Addr) (n size most : Int), vs = [.ref m, .int size, .int most] ∧ Dr H m g c n ∧ n ≤ 90000 ∧ 2 ≤ size ∧ size ≤ 6 ∧ 0 ≤ most ∧ most ≤ 40 ∧
  ∀ (p : Addr) (ls : List Int) (n' : Int) (H' : Hp), (ls.length : Int) ≤ most → (∀ x ∈ ls, 1 ≤ x ∧ x ≤ size) → n ≤ n' → n' ≤ n + 200 → Dr H' m g c n' → Keep m g H H' → H p = none → H' p = some (.lst (nums ls)) → Q (.ref p) H'
theorem scLetters : FnScope ["m", "size", "most", "kind", "many", "found", "low"] ["m", "size", "most"] (defScope sLetters) := ⟨rfl, rfl, rfl, by decide +kernel, rfl, by decide +kernel, by decide +kernel⟩
theorem ok_letters {f f1 : Addr} {fd fd1 : FuncData} (B : Bare mg) (F : Df K mg "_law_letters" sLetters f fd) (F1 : Df K mg "_law_draw" sDraw f1 fd1) (b1 : Binds K fd1 ["m", "limit"] [])
    (G1 : FnOk P w K mg base CX0 2 f1 fd1 ["m", "limit"] spDraw) : FnOk P w K mg base CX0 3 f fd ["m", "size", "most"] spLetters := by
  refine F.fn.ok scLetters (fun vs H Q E h => ?_) (fun cdv A outer s H vs Q E hr h => ?_)
  · obtain ⟨m, g, c, n, size, most, rfl, _⟩ := h
    rfl
  · obtain ⟨m, g, c, n, size, most, rfl, d, hn, hs1, hs2, hm1, hm2, k⟩ := h
    refine ⟨_, pss_cons (ps_par3 (i := 3) (j := 4) (l := 5) rfl scLetters.nd rfl rfl rfl (by decide) (by decide) (by decide) rfl rfl rfl
        (pa_cons (pe_call G1 hr (by rfl) F1.g F1.fn.kp b1 .nil pass0 (pa_cons (pv 0) (pa_cons pe_int pa_nil)))
        (pa_cons (pe_call G1 hr (by rfl) F1.g F1.fn.kp b1 .nil pass0 (pa_cons (pv 0) (pa_cons (pe_op op_add (pv 2) pe_int) pa_nil))) (pa_cons (pe_lst pa_nil) pa_nil))) (by rfl))
      (pss_cons (ps_set (i := 6) scLetters.nd rfl (Or.inl rfl) (pe_op op_add pe_int (pe_call G1 hr (by rfl) F1.g F1.fn.kp b1 .nil pass0 (pa_cons (pv 0) (pa_cons (pe_op op_sub (pv 1) pe_int) pa_nil)))))
      (pss_cons (ps_while PassesOwn.never (pt_cmpR op_lt (pe_callB call_len_seq (by rfl) B.len PySem.boot_len (pa_cons (pv 5) pa_nil)) (pv 4) (nomark _))
        (pss_one (ps_if (pt_cmpR op_eq (pv 3) pe_int (nomark _))
          (pss_one (ps_expr (pe_bm PySem.F.plainAttrs_list PySem.F.slot_list_append PySem.F.type_list_append mt_append (pv 5)
            (pa_cons (pe_op op_add pe_int (pe_call G1 hr (by rfl) F1.g F1.fn.kp b1 .nil pass0 (pa_cons (pv 0) (pa_cons (pv 1) pa_nil)))) pa_nil))))
          (pss_one (ps_if (pt_cmpR op_eq (pv 3) pe_int (nomark _))
            (pss_one (ps_expr (pe_bm PySem.F.plainAttrs_list PySem.F.slot_list_append PySem.F.type_list_append mt_append (pv 5)
              (pa_cons (pe_op op_add (pv 6) (pe_call G1 hr (by rfl) F1.g F1.fn.kp b1 .nil pass0 (pa_cons (pv 0) (pa_cons pe_int pa_nil)))) pa_nil))))
            (pss_one (ps_if (pt_cmpR op_eq (pv 3) pe_int (nomark _))
              (pss_one (ps_expr (pe_bm PySem.F.plainAttrs_list PySem.F.slot_list_append PySem.F.type_list_append mt_append (pv 5)
                (pa_cons (pe_ix ix_list (pe_lst (pa_cons (pv 6) (pa_cons (pv 6) (pa_cons (pe_op op_add pe_int (pe_call G1 hr (by rfl) F1.g F1.fn.kp b1 .nil pass0 (pa_cons (pv 0) (pa_cons (pv 1) pa_nil)))) pa_nil))))
                  (pe_call G1 hr (by rfl) F1.g F1.fn.kp b1 .nil pass0 (pa_cons (pv 0) (pa_cons pe_int pa_nil))) (fun _ _ => rfl)) pa_nil))))
              (pss_one (ps_if (pt_cmpR op_eq (pv 3) pe_int (nomark _))
                (pss_one (ps_set (i := 5) scLetters.nd rfl (Or.inl rfl) (pe_op op_cat (pv 5)
                  (pe_listDn rfl (by rfl) B.list (by rfl) B.range (pa_cons (pv 1) (pa_cons (pe_call G1 hr (by rfl) F1.g F1.fn.kp b1 .nil pass0 (pa_cons (pv 0) (pa_cons (pv 1) pa_nil))) (pa_cons (pe_un un_neg pe_int) pa_nil)))))))
                (pss_one (ps_set (i := 5) scLetters.nd rfl (Or.inl rfl) (pe_op op_cat (pv 5)
                  (pe_listRg rfl (by rfl) B.list (prg_2 (by rfl) B.range (pe_op op_add pe_int (pe_call G1 hr (by rfl) F1.g F1.fn.kp b1 .nil pass0 (pa_cons (pv 0) (pa_cons (pv 1) pa_nil)))) (pe_op op_add (pv 1) pe_int)))))))))))))))
      (pss_one (ps_ret (pe_slice sl_list (pv 5) po_none (po_some (pv 4))))))), ?_⟩
    refine ⟨_, rfl, m, g, c, n, 5, rfl, d, by omega, by decide, by decide, fun kd H1 kd0 kd1 d1 k1 => ?_⟩
    refine ⟨_, rfl, _, rfl, _, _, rfl, rfl, m, g, c, n + 1, most + 1, rfl, d1, by omega, by omega, by omega, fun many H2 m0 m1 d2 k2 => ?_⟩
    refine ⟨Nat.zero_le _, fun q hq => ⟨_, _, _, rfl, ?_⟩⟩
    have kk2 : Keep m g H H2 := k1.trans k2
    have d3 : Dr (upd H2 q (.lst [])) m g c (n + 1 + 1) := d2.same (same_new hq)
    have hq0 : H q = none := kk2.free d2 hq
    have off := d.off hq0
    refine ⟨_, rfl, _, rfl, _, _, rfl, rfl, m, g, c, n + 1 + 1, size - 1, rfl, d3, by omega, by omega, by omega, fun lw H4 l0 l1 d4 k4 => ?_⟩
    refine ⟨_, _, rfl, rfl, ?_⟩
    have W0 : LW H H4 m g c n size q [] := ⟨⟨_, d4, by omega, by simp; omega⟩, (kk2.trans (.of (same_new hq))).trans k4, hq0, k4 _ _ upd_same off.m off.g, by decide, fun x hx => by simp at hx⟩
    refine while_by (fun σ H' => ∃ q fs, σ = [some (.ref m), some (.int size), some (.int most), some (.int kd), some (.int many), some (.ref q), some (.int (1 + lw))] ∧ LW H H' m g c n size q fs)
      (fun σ H' => many.toNat - lenOf σ H') ⟨q, [], rfl, W0⟩ ?_ ?_
    · rintro σ H' ⟨q, fs, rfl, W⟩
      refine ⟨_, rfl, q, _, rfl, .inl (SqL.of W.at_), _, rfl, _, _, rfl, rfl, _, rfl, ?_⟩
      rw [List.length_map]
      have off := d.off W.fr
      obtain ⟨n1, dn, e1, e2⟩ := W.dr
      have lo : lenOf [some (.ref m), some (.int size), some (.int most), some (.int kd), some (.int many), some (.ref q), some (.int (1 + lw))] H' = fs.length := by
        unfold lenOf
        simp only [List.getElem?_cons_succ, List.getElem?_cons_zero, W.at_, List.length_map]
      refine ite2 (fun hc => ?_) (fun hc => ?_)
      · have hlt : (fs.length : Int) < many := of_decide_eq_true hc
        have hl : fs.length ≤ 39 := by omega
        rw [lo]
        have hsz : (nums fs).length < sizeLine := by
          rw [List.length_map]
          exact small1000 (by omega)
        have step : ∀ (H6 : Hp) (q' : Addr) (fs' : List Int), LW H H6 m g c n size q' fs' → fs.length < fs'.length →
            (∃ q fs, [some (V.ref m), some (.int size), some (.int most), some (.int kd), some (.int many), some (.ref q'), some (.int (1 + lw))] = [some (V.ref m), some (.int size), some (.int most), some (.int kd), some (.int many), some (.ref q), some (.int (1 + lw))] ∧ LW H H6 m g c n size q fs) ∧
            many.toNat - lenOf [some (.ref m), some (.int size), some (.int most), some (.int kd), some (.int many), some (.ref q'), some (.int (1 + lw))] H6 < many.toNat - fs.length := by
          intro H6 q' fs' W6 h6
          refine ⟨⟨q', fs', rfl, W6⟩, ?_⟩
          have lo6 : lenOf [some (.ref m), some (.int size), some (.int most), some (.int kd), some (.int many), some (.ref q'), some (.int (1 + lw))] H6 = fs'.length := by
            unfold lenOf
            simp only [List.getElem?_cons_succ, List.getElem?_cons_zero, W6.at_, List.length_map]
          rw [lo6]
          omega
        refine ⟨_, rfl, rfl, _, rfl, ite2 (fun _ => ?_) (fun _ => ?_)⟩
        · refine ⟨_, rfl, .inl ⟨rfl, _, SqL.of W.at_⟩, _, rfl, _, rfl, m, g, c, n1, size, rfl, dn, by omega, by omega, by omega, fun z H5 z0 z1 d5 k5 => ⟨_, _, rfl, rfl, q, _, _, rfl, rfl, k5 _ _ W.at_ off.m off.g, hsz, ?_⟩⟩
          exact step _ _ _ (W.push off hl k5 d5 (by omega) (by omega) (by omega) (by omega)) (by simp)
        refine ⟨_, rfl, rfl, _, rfl, ite2 (fun _ => ?_) (fun _ => ?_)⟩
        · refine ⟨_, rfl, .inl ⟨rfl, _, SqL.of W.at_⟩, _, rfl, _, rfl, m, g, c, n1, 2, rfl, dn, by omega, by omega, by omega, fun z H5 z0 z1 d5 k5 => ⟨_, _, rfl, rfl, q, _, _, rfl, rfl, k5 _ _ W.at_ off.m off.g, hsz, ?_⟩⟩
          exact step _ _ _ (W.push off hl k5 d5 (by omega) (by omega) (by omega) (by omega)) (by simp)
        refine ⟨_, rfl, rfl, _, rfl, ite2 (fun _ => ?_) (fun _ => ?_)⟩
        · refine ⟨_, rfl, .inl ⟨rfl, _, SqL.of W.at_⟩, _, rfl, _, rfl, _, rfl, _, rfl, m, g, c, n1, size, rfl, dn, by omega, by omega, by omega, fun z H5 z0 z1 d5 k5 => ⟨_, _, rfl, rfl, (by show 3 ≤ sizeLine; decide), fun l hl5 => ?_⟩⟩
          have d6 := d5.same (same_new (o := .lst [.int (1 + lw), .int (1 + lw), .int (1 + z)]) hl5)
          refine ⟨_, rfl, m, g, c, _, 3, rfl, d6, by omega, by omega, by omega, fun y H7 y0 y1 d7 k7 => ?_⟩
          have offl := d5.off hl5
          have h7 := k7 _ _ upd_same offl.m offl.g
          have k57 : Keep m g H' H7 := (k5.trans (.of (same_new hl5))).trans k7
          have fin : ∀ x : Int, 1 ≤ x → x ≤ size → ∃ (l' : Addr) (xs : List V) (y' : V), V.ref q = .ref l' ∧ [V.int x] = [y'] ∧ H7 l' = some (.lst xs) ∧ xs.length < sizeLine ∧
              (∃ q_1 fs, [some (V.ref m), some (.int size), some (.int most), some (.int kd), some (.int many), some (.ref q), some (.int (1 + lw))] = [some (V.ref m), some (.int size), some (.int most), some (.int kd), some (.int many), some (.ref q_1), some (.int (1 + lw))] ∧
                LW H (upd H7 l' (.lst (xs ++ [y']))) m g c n size q_1 fs) ∧
              many.toNat - lenOf [some (.ref m), some (.int size), some (.int most), some (.int kd), some (.int many), some (.ref q), some (.int (1 + lw))] (upd H7 l' (.lst (xs ++ [y']))) < many.toNat - fs.length := fun x x0 x1 =>
            ⟨q, _, _, rfl, rfl, k57 _ _ W.at_ off.m off.g, hsz, step _ _ _ (W.push off hl k57 d7 (by omega) (by omega) x0 x1) (by simp)⟩
          rcases (show y = 0 ∨ y = 1 ∨ y = 2 by omega) with e | e | e <;> subst e
          · exact ⟨l, _, _, _, rfl, rfl, SqL.of h7, at_of (j := 0) rfl rfl, fin _ (by omega) (by omega)⟩
          · exact ⟨l, _, _, _, rfl, rfl, SqL.of h7, at_of (j := 1) rfl rfl, fin _ (by omega) (by omega)⟩
          · exact ⟨l, _, _, _, rfl, rfl, SqL.of h7, at_of (j := 2) rfl rfl, fin _ (by omega) (by omega)⟩
        refine ⟨_, rfl, rfl, _, rfl, ite2 (fun _ => ?_) (fun _ => ?_)⟩
        · refine ⟨_, rfl, _, rfl, _, rfl, _, rfl, m, g, c, n1, size, rfl, dn, by omega, by omega, by omega, fun z H5 z0 z1 d5 k5 => ⟨1, rfl, size, z, rfl, ⟨by omega, by omega, by omega, by omega⟩, fun p hp => ?_⟩⟩
          refine ⟨q, p, _, _, rfl, rfl, (same_new hp) _ _ (k5 _ _ W.at_ off.m off.g), upd_same, ?_, fun r hr => ?_⟩
          · rw [List.length_map, List.length_map, dnV_length, sizeLine_eq]
            omega
          · exact step _ _ _ (W.swap hl (by rw [dnV_length]; omega) (by rw [dnV_length]; omega) k5 d5 (by omega) (by omega) (fun x hx => by have := dnV_mem hx; omega) hp hr) (by rw [List.length_append, dnV_length]; omega)
        · refine ⟨_, rfl, _, rfl, _, rfl, m, g, c, n1, size, rfl, dn, by omega, by omega, by omega, fun z H5 z0 z1 d5 k5 => ⟨_, _, rfl, rfl, _, rfl, _, _, rfl, rfl, _, _, rfl, rfl, RgOk.of_le (by omega) (by omega) (by omega) (by omega), fun p hp => ?_⟩⟩
          rw [upV_eq]
          refine ⟨q, p, _, _, rfl, rfl, (same_new hp) _ _ (k5 _ _ W.at_ off.m off.g), upd_same, ?_, fun r hr => ?_⟩
          · rw [List.length_map, List.length_map, upV_length, sizeLine_eq]
            omega
          · exact step _ _ _ (W.swap hl (by rw [upV_length]; omega) (by rw [upV_length]; omega) k5 d5 (by omega) (by omega) (fun x hx => by have := upV_mem hx; omega) hp hr) (by rw [List.length_append, upV_length]; omega)
      · refine ⟨_, rfl, _, rfl, _, rfl, q, _, rfl, SqL.of W.at_, fun p hp => ?_⟩
        rw [cut_take fs (by omega)]
        refine k p (fs.take many.toNat) n1 _ ?_ (fun x hx => W.bd x (List.mem_of_mem_take hx)) e1 ?_ (dn.same (same_new hp)) (W.kp.trans (.of (same_new hp))) (W.kp.free dn hp) upd_same
        · rw [List.length_take]
          omega
        · have := W.len
          omega
    · intro σ H' Q1 Q2 hq h
      obtain ⟨v, e1, p, ys, e2, e3, v2, e4, i, j, e5, e6, b, e7, h⟩ := h
      exact ⟨v, e1, p, ys, e2, e3, v2, e4, i, j, e5, e6, b, e7, hq _ _ h⟩
end
end Lw
/-! M. Brackets, in plain lists. -/
namespace LwM
/-- one letter x at the place p: the i left over so far, the i + 1 that wait -/
def stp (i : Int) (s : List Int × List Int) (p x : Int) : List Int × List Int :=
  if x = i + 1 then (s.1, s.2 ++ [p]) else if x = i then (if s.2 = [] then (s.1 ++ [p], s.2) else (s.1, s.2.dropLast)) else s
/-- letters from the place k on -/
def go (i : Int) : List Int × List Int → Int → List Int → List Int × List Int
  | s, _, [] => s
  | s, k, x :: l => go i (stp i s k x) (k + 1) l
def br (i : Int) (l : List Int) : List Int × List Int := go i ([], []) 0 l
def lows (i : Int) (l : List Int) : List Int := (br i l).1
def highs (i : Int) (l : List Int) : List Int := (br i l).2
theorem go_app (i : Int) : ∀ (l r : List Int) (s : List Int × List Int) (k : Int), go i s k (l ++ r) = go i (go i s k l) (k + l.length) r
  | [], r, s, k => by simp [go]
  | x :: l, r, s, k => by
    show go i (stp i s k x) (k + 1) (l ++ r) = go i (go i (stp i s k x) (k + 1) l) (k + ((x :: l).length : Nat)) r
    rw [go_app i l r, List.length_cons]
    congr 1
    omega
theorem br_snoc (i : Int) (l : List Int) (x : Int) : br i (l ++ [x]) = stp i (br i l) l.length x := by
  unfold br
  rw [go_app]
  show stp i _ (0 + (l.length : Int)) x = _
  rw [Int.zero_add]
/-- the lists get no longer than the letters -/
theorem go_len (i : Int) : ∀ (l : List Int) (s : List Int × List Int) (k : Int), (go i s k l).1.length + (go i s k l).2.length ≤ s.1.length + s.2.length + l.length
  | [], s, k => by simp [go]
  | x :: l, s, k => by
    have h := go_len i l (stp i s k x) (k + 1)
    have h2 : (stp i s k x).1.length + (stp i s k x).2.length ≤ s.1.length + s.2.length + 1 := by
      unfold stp
      split
      · simp; omega
      · split
        · split
          · simp; omega
          · simp; omega
        · omega
    show (go i (stp i s k x) (k + 1) l).1.length + (go i (stp i s k x) (k + 1) l).2.length ≤ _
    rw [List.length_cons]
    omega
theorem br_len (i : Int) (l : List Int) : (lows i l).length ≤ l.length ∧ (highs i l).length ≤ l.length := by
  have h := go_len i l ([], []) 0
  unfold lows highs br
  simp at h
  omega
/-- all places lie among the letters, and hold i, or i + 1 -/
theorem go_bd (i : Int) : ∀ (l : List Int) (s : List Int × List Int) (k : Int), ∀ p, p ∈ (go i s k l).1 ∨ p ∈ (go i s k l).2 → (p ∈ s.1 ∨ p ∈ s.2) ∨ (k ≤ p ∧ p < k + l.length)
  | [], s, k, p, h => .inl h
  | x :: l, s, k, p, h => by
    have ih := go_bd i l (stp i s k x) (k + 1) p h
    rw [List.length_cons]
    rcases ih with ih | ih
    · have e : p ∈ s.1 ∨ p ∈ s.2 ∨ p = k := by
        unfold stp at ih
        split at ih
        · rcases ih with ih | ih
          · exact .inl ih
          · rcases List.mem_append.mp ih with z | z
            · exact .inr (.inl z)
            · exact .inr (.inr (List.mem_singleton.mp z))
        · split at ih
          · split at ih
            · rcases ih with ih | ih
              · rcases List.mem_append.mp ih with z | z
                · exact .inl z
                · exact .inr (.inr (List.mem_singleton.mp z))
              · exact .inr (.inl ih)
            · rcases ih with ih | ih
              · exact .inl ih
              · exact .inr (.inl ((List.dropLast_sublist _).subset ih))
          · rcases ih with ih | ih
            · exact .inl ih
            · exact .inr (.inl ih)
      rcases e with e | e | e
      · exact .inl (.inl e)
      · exact .inl (.inr e)
      · exact .inr ⟨by omega, by omega⟩
    · exact .inr ⟨by omega, by omega⟩
theorem br_bd {i : Int} {l : List Int} {p : Int} (h : p ∈ lows i l ∨ p ∈ highs i l) : 0 ≤ p ∧ p < l.length := by
  rcases go_bd i l ([], []) 0 p h with z | z
  · rcases z with z | z <;> simp at z
  · omega
/-! ### words put together -/
/-- from an empty stack, and from one with things waiting: the first i + 1 that wait are taken by the i left over, from the last -/
theorem go_from (i : Int) : ∀ (l : List Int) (L W : List Int) (k : Int) (A B : List Int),
    go i (L ++ A.drop W.length, W.take (W.length - A.length) ++ B) k l =
      (L ++ (go i (A, B) k l).1.drop W.length, W.take (W.length - (go i (A, B) k l).1.length) ++ (go i (A, B) k l).2)
  | [], L, W, k, A, B => rfl
  | x :: l, L, W, k, A, B => by
    have step : stp i (L ++ A.drop W.length, W.take (W.length - A.length) ++ B) k x =
        (L ++ (stp i (A, B) k x).1.drop W.length, W.take (W.length - (stp i (A, B) k x).1.length) ++ (stp i (A, B) k x).2) := by
      unfold stp
      by_cases h1 : x = i + 1
      · simp only [h1, if_true]
        simp [List.append_assoc]
      · rw [if_neg h1, if_neg h1]
        by_cases h2 : x = i
        · rw [if_pos h2, if_pos h2]
          by_cases hB : B = []
          · subst hB
            simp only [List.append_nil, if_true]
            by_cases hW : W.take (W.length - A.length) = []
            · have hl : W.length ≤ A.length := by
                have := congrArg List.length hW
                rw [List.length_take] at this
                simp at this
                omega
              rw [if_pos hW]
              have e1 : (A ++ [k]).drop W.length = A.drop W.length ++ [k] := List.drop_append_of_le_length hl
              have e2 : W.length - (A ++ [k]).length = 0 := by
                rw [List.length_append, List.length_singleton]
                omega
              have e3 : W.length - A.length = 0 := by omega
              simp only [e1, e2, e3, List.take_zero, List.append_assoc]
            · have hl : A.length < W.length := by
                rcases Nat.lt_or_ge A.length W.length with z | z
                · exact z
                · exact absurd (by rw [Nat.sub_eq_zero_of_le z, List.take_zero]) hW
              rw [if_neg hW]
              have e1 : (A ++ [k]).drop W.length = A.drop W.length := by
                rw [List.drop_of_length_le (by rw [List.length_append, List.length_singleton]; omega), List.drop_of_length_le (by omega)]
              have e2 : (W.take (W.length - A.length)).dropLast = W.take (W.length - (A ++ [k]).length) := by
                rw [List.dropLast_eq_take, List.take_take, List.length_take, List.length_append, List.length_singleton]
                congr 1
                omega
              rw [e1, e2]
          · rw [if_neg (by simp [hB]), if_neg hB, List.dropLast_append_of_ne_nil hB]
        · rw [if_neg h2, if_neg h2]
    show go i (stp i _ k x) (k + 1) l = _
    rw [step]
    exact go_from i l L W (k + 1) _ _
/-- places moved on -/
theorem go_shift (i d : Int) : ∀ (l : List Int) (A B : List Int) (k : Int), go i (A.map (· + d), B.map (· + d)) (k + d) l = ((go i (A, B) k l).1.map (· + d), (go i (A, B) k l).2.map (· + d))
  | [], A, B, k => rfl
  | x :: l, A, B, k => by
    have step : stp i (A.map (· + d), B.map (· + d)) (k + d) x = ((stp i (A, B) k x).1.map (· + d), (stp i (A, B) k x).2.map (· + d)) := by
      unfold stp
      split
      · simp
      · split
        · by_cases hB : B = []
          · subst hB
            simp
          · rw [if_neg (by simp [hB]), if_neg hB]
            simp [List.map_dropLast]
        · rfl
    show go i (stp i _ (k + d) x) (k + d + 1) l = _
    rw [step]
    have e : k + d + 1 = k + 1 + d := by omega
    rw [e]
    exact go_shift i d l _ _ (k + 1)
theorem br_app (i : Int) (l r : List Int) :
    br i (l ++ r) = (lows i l ++ ((lows i r).map (· + (l.length : Int))).drop (highs i l).length, (highs i l).take ((highs i l).length - (lows i r).length) ++ (highs i r).map (· + (l.length : Int))) := by
  have h1 := go_from i r (lows i l) (highs i l) (0 + (l.length : Int)) [] []
  have h2 := go_shift i (l.length : Int) r [] [] 0
  unfold br
  rw [go_app]
  have e0 : go i ([], []) 0 l = (lows i l ++ ([] : List Int).drop (highs i l).length, (highs i l).take ((highs i l).length - ([] : List Int).length) ++ []) := by
    simp [lows, highs, br]
  rw [e0, h1]
  have e1 : go i (([] : List Int), ([] : List Int)) (0 + (l.length : Int)) r = ((lows i r).map (· + (l.length : Int)), (highs i r).map (· + (l.length : Int))) := h2
  rw [e1, List.length_map]
theorem lows_app (i : Int) (l r : List Int) : lows i (l ++ r) = lows i l ++ ((lows i r).map (· + (l.length : Int))).drop (highs i l).length := by
  show (br i (l ++ r)).1 = _
  rw [br_app]
theorem highs_app (i : Int) (l r : List Int) : highs i (l ++ r) = (highs i l).take ((highs i l).length - (lows i r).length) ++ (highs i r).map (· + (l.length : Int)) := by
  show (br i (l ++ r)).2 = _
  rw [br_app]
/-- how many are left over -/
def up (i : Int) (l : List Int) : Nat := (lows i l).length
def dn (i : Int) (l : List Int) : Nat := (highs i l).length
theorem up_app (i : Int) (l r : List Int) : up i (l ++ r) = up i l + (up i r - dn i l) := by
  unfold up dn
  rw [lows_app, List.length_append, List.length_drop, List.length_map]
theorem dn_app (i : Int) (l r : List Int) : dn i (l ++ r) = (dn i l - up i r) + dn i r := by
  unfold up dn
  rw [highs_app, List.length_append, List.length_take, List.length_map]
  omega
end LwM
/-! I. Letters checked; brackets read. -/
namespace Lw
open PySem L2 LwE LwM
section
variable {P : Program} {w : World} {K : PySem.W.Frag} {mg : Str → Option Value} {base : Heap}
/-- letters of the size, at most forty -/
structure Ls (size : Int) (ls : List Int) : Prop where
  s0 : 2 ≤ size
  s1 : size ≤ 6
  len : ls.length ≤ 40
  bd : ∀ x ∈ ls, 1 ≤ x ∧ x ≤ size
/-- a list, or a tuple, of them -/
def Seq (H : Hp) (a : Addr) (ls : List Int) : Prop := H a = some (.lst (nums ls)) ∨ H a = some (.tup (nums ls))
theorem Seq.same {H H' : Hp} {a : Addr} {ls : List Int} (h : Seq H a ls) (s : Same H H') : Seq H' a ls := h.elim (fun e => .inl (s _ _ e)) fun e => .inr (s _ _ e)
theorem Seq.is {H : Hp} {a : Addr} {ls : List Int} (h : Seq H a ls) : (∃ xs, H a = some (.lst xs)) ∨ ∃ xs, H a = some (.tup xs) := h.elim (fun e => .inl ⟨_, e⟩) fun e => .inr ⟨_, e⟩
theorem Seq.sq {H : Hp} {a : Addr} {ls : List Int} (h : Seq H a ls) : SqL K H a (nums ls) ∨ SqT K H a (nums ls) := h.elim (fun e => .inl (SqL.of e)) fun e => .inr (SqT.of e)
def spCkLetters : Sp := fun vs H Q _ => ∃ (size : Int) (a : Addr) (ls : List Int), vs = [.int size, .ref a] ∧ Seq H a ls ∧ Ls size ls ∧ ∀ H', Same H H' → Q .non H'
theorem scCkLetters : FnScope ["size", "letters", "place", "letter"] ["size", "letters"] (defScope sCkLetters) := ⟨rfl, rfl, rfl, by decide +kernel, rfl, by decide +kernel, by decide +kernel⟩
theorem ok_ckletters {f f1 f2 : Addr} {fd fd1 fd2 : FuncData} (B : Bare mg) (N : Nums mg) (F : Df K mg "check_letters" sCkLetters f fd) (F1 : Df K mg "is_between" sBetween f1 fd1) (b1 : Binds K fd1 ["value", "least", "most"] [])
    (G1 : FnOk P w K mg base CX0 2 f1 fd1 ["value", "least", "most"] spBetween) (F2 : Df K mg "is_listing" sListing f2 fd2) (b2 : Binds K fd2 ["value"] []) (G2 : FnOk P w K mg base CX0 1 f2 fd2 ["value"] spListing) :
    FnOk P w K mg base CX0 3 f fd ["size", "letters"] spCkLetters := by
  refine F.fn.ok scCkLetters (fun vs H Q E h => ?_) (fun cdv A outer s H vs Q E hr h => ?_)
  · obtain ⟨size, a, ls, rfl, _⟩ := h
    rfl
  · obtain ⟨size, a, ls, rfl, hq, L, k⟩ := h
    obtain ⟨t3, e3⟩ := N.mostL
    have hr1 : Room 1 _ := hr.mono (by decide)
    have turn : ∀ {X : Cx}, True := fun {_} => trivial
    have ck : ∀ (H1 : Hp), Same H H1 → Seq H1 a ls := fun H1 s1 => hq.same s1
    have lenOk : decide ((40 : Int) < (((nums ls).length : Nat) : Int)) = false := decide_eq_false (by rw [List.length_map]; have := L.len; omega)
    rcases hq with hq | hq
    · refine ⟨_, pss_cons (ps_if (pt_not (pt_val (pe_call G2 hr1 (by rfl) F2.g F2.fn.kp b2 .nil pass0 (pa_cons (pv 1) pa_nil)))) pss_never pss_nil)
        (pss_cons (ps_if (pt_cmpR op_gt (pe_callB call_len_seq (by rfl) B.len PySem.boot_len (pa_cons (pv 1) pa_nil)) (pe_glob (v := .int 40) (by rfl) e3 ⟨_, rfl⟩) (nomark _)) pss_never pss_nil)
        (pss_one (ps_for PassesOwn.never rfl (pi_enum (by rfl) B.enumerate (pa_cons (pv 1) pa_nil)) (pg_tup rfl (pgs_cons (pg_name (i := 2) scCkLetters.nd rfl (Or.inl rfl)) (pgs_cons (pg_name (i := 3) scCkLetters.nd rfl (Or.inl rfl)) pgs_nil)))
          (pss_one (ps_if (pt_not (pt_val (pe_call G1 hr (by rfl) F1.g F1.fn.kp b1 .nil pass0 (pa_cons (pv 3) (pa_cons pe_int (pa_cons (pv 0) pa_nil)))))) pss_never pss_nil))))), ?_⟩
      refine ⟨_, rfl, a, rfl, .inl ⟨_, hq⟩, fun H1 s1 => ⟨true, rfl, iteF ?_⟩⟩
      refine ⟨_, rfl, a, _, rfl, .inl (SqL.of (s1 _ _ hq)), _, _, rfl, rfl, _, rfl, ?_⟩
      rw [lenOk]
      refine iteF ?_
      refine ⟨_, rfl, a, _, rfl, SqL.of (s1 _ _ hq), for_enL (K := K) (a := a) (xs := nums ls) (fun i σ H2 => ∃ v2 v3 : Option V, σ = [some (.int size), some (.ref a), v2, v3] ∧ Same H H2) ⟨_, _, rfl, s1⟩
        (fun i σ H2 _ ⟨_, _, _, s2⟩ => SqL.of (s2 _ _ hq)) ?_ ?_⟩
      · rintro i x T σ H2 hx ⟨v2, v3, rfl, s2⟩ hT
        obtain ⟨z, rfl, _, hz⟩ := nums_get hx
        refine ⟨T, _, rfl, SqT.of upd_same, rfl, _, _, rfl, _, _, rfl, rfl, ?_⟩
        refine ⟨_, rfl, _, rfl, z, 1, size, rfl, _, rfl, ?_⟩
        rw [decide_eq_true (L.bd z hz)]
        exact iteF ⟨_, _, rfl, s2.trans (same_new hT)⟩
      · rintro σ H2 ⟨v2, v3, rfl, s2⟩
        exact k H2 s2
    · refine ⟨_, pss_cons (ps_if (pt_not (pt_val (pe_call G2 hr1 (by rfl) F2.g F2.fn.kp b2 .nil pass0 (pa_cons (pv 1) pa_nil)))) pss_never pss_nil)
        (pss_cons (ps_if (pt_cmpR op_gt (pe_callB call_len_seq (by rfl) B.len PySem.boot_len (pa_cons (pv 1) pa_nil)) (pe_glob (v := .int 40) (by rfl) e3 ⟨_, rfl⟩) (nomark _)) pss_never pss_nil)
        (pss_one (ps_for PassesOwn.never rfl (pi_enT (by rfl) B.enumerate (pa_cons (pv 1) pa_nil)) (pg_tup rfl (pgs_cons (pg_name (i := 2) scCkLetters.nd rfl (Or.inl rfl)) (pgs_cons (pg_name (i := 3) scCkLetters.nd rfl (Or.inl rfl)) pgs_nil)))
          (pss_one (ps_if (pt_not (pt_val (pe_call G1 hr (by rfl) F1.g F1.fn.kp b1 .nil pass0 (pa_cons (pv 3) (pa_cons pe_int (pa_cons (pv 0) pa_nil)))))) pss_never pss_nil))))), ?_⟩
      refine ⟨_, rfl, a, rfl, .inr ⟨_, hq⟩, fun H1 s1 => ⟨true, rfl, iteF ?_⟩⟩
      refine ⟨_, rfl, a, _, rfl, .inr (SqT.of (s1 _ _ hq)), _, _, rfl, rfl, _, rfl, ?_⟩
      rw [lenOk]
      refine iteF ?_
      refine ⟨_, rfl, a, _, rfl, SqT.of (s1 _ _ hq), for_enT (K := K) (a := a) (xs := nums ls) (fun i σ H2 => ∃ v2 v3 : Option V, σ = [some (.int size), some (.ref a), v2, v3] ∧ Same H H2) ⟨_, _, rfl, s1⟩
        (fun i σ H2 _ ⟨_, _, _, s2⟩ => SqT.of (s2 _ _ hq)) ?_ ?_⟩
      · rintro i x T σ H2 hx ⟨v2, v3, rfl, s2⟩ hT
        obtain ⟨z, rfl, _, hz⟩ := nums_get hx
        refine ⟨T, _, rfl, SqT.of upd_same, rfl, _, _, rfl, _, _, rfl, rfl, ?_⟩
        refine ⟨_, rfl, _, rfl, z, 1, size, rfl, _, rfl, ?_⟩
        rw [decide_eq_true (L.bd z hz)]
        exact iteF ⟨_, _, rfl, s2.trans (same_new hT)⟩
      · rintro σ H2 ⟨v2, v3, rfl, s2⟩
        exact k H2 s2
/-! bracketed -/
/-- between two turns: the three lists -/
structure BW (H H' : Hp) (pr lo wa : Addr) (i : Int) (ls : List Int) : Prop where
  same : Same H H'
  fp : H pr = none
  fl : H lo = none
  fw : H wa = none
  npl : pr ≠ lo
  npw : pr ≠ wa
  nlw : lo ≠ wa
  hp : ∃ ps, H' pr = some (.lst ps) ∧ ps.length ≤ ls.length ∧ ∀ x ∈ ps, ∃ t i j, x = V.ref t ∧ H' t = some (.tup [.int i, .int j])
  hl : H' lo = some (.lst (nums (lows i ls)))
  hw : H' wa = some (.lst (nums (highs i ls)))
/-- something new was laid -/
theorem BW.new {H H' : Hp} {pr lo wa T : Addr} {i : Int} {ls : List Int} {o : HO} (W : BW H H' pr lo wa i ls) (hT : H' T = none) : BW H (upd H' T o) pr lo wa i ls :=
  ⟨W.same.trans (same_new hT), W.fp, W.fl, W.fw, W.npl, W.npw, W.nlw, let ⟨ps, h1, h2, h3⟩ := W.hp; ⟨ps, same_new hT _ _ h1, h2, fun x hx => let ⟨t, a, b, e1, e2⟩ := h3 x hx; ⟨t, a, b, e1, same_new hT _ _ e2⟩⟩,
    same_new hT _ _ W.hl, same_new hT _ _ W.hw⟩
theorem brk (i : Int) (l : List Int) (x : Int) : lows i (l ++ [x]) = (stp i (lows i l, highs i l) l.length x).1 ∧ highs i (l ++ [x]) = (stp i (lows i l, highs i l) l.length x).2 := by
  unfold lows highs
  rw [br_snoc]
  exact ⟨rfl, rfl⟩
theorem BW.wait {H H' : Hp} {pr lo wa : Addr} {i : Int} {l : List Int} (W : BW H H' pr lo wa i l) {x : Int} (hx : x = i + 1) :
    BW H (upd H' wa (.lst (nums (highs i l) ++ [.int (l.length : Nat)]))) pr lo wa i (l ++ [x]) := by
  have e := brk i l x
  unfold stp at e
  rw [if_pos hx] at e
  refine ⟨fun b o z => ?_, W.fp, W.fl, W.fw, W.npl, W.npw, W.nlw, ?_, ?_, ?_⟩
  · rw [upd_ne (ne_of_none z W.fw)]
    exact W.same _ _ z
  · obtain ⟨ps, h1, h2, h3⟩ := W.hp
    refine ⟨ps, by rw [upd_ne W.npw]; exact h1, by rw [List.length_append]; omega, fun y hy => ?_⟩
    obtain ⟨t, a, b, e1, e2⟩ := h3 y hy
    exact ⟨t, a, b, e1, by rw [upd_ne (ne_of e2 W.hw (by intro z; cases z))]; exact e2⟩
  · rw [upd_ne W.nlw, e.1]
    exact W.hl
  · rw [upd_same, e.2]
    simp [nums]
theorem BW.low {H H' : Hp} {pr lo wa : Addr} {i : Int} {l : List Int} (W : BW H H' pr lo wa i l) {x : Int} (h1 : ¬ x = i + 1) (hx : x = i) (he : highs i l = []) :
    BW H (upd H' lo (.lst (nums (lows i l) ++ [.int (l.length : Nat)]))) pr lo wa i (l ++ [x]) := by
  have e := brk i l x
  unfold stp at e
  rw [if_neg h1, if_pos hx, if_pos he] at e
  refine ⟨fun b o z => ?_, W.fp, W.fl, W.fw, W.npl, W.npw, W.nlw, ?_, ?_, ?_⟩
  · rw [upd_ne (ne_of_none z W.fl)]
    exact W.same _ _ z
  · obtain ⟨ps, h1, h2, h3⟩ := W.hp
    refine ⟨ps, by rw [upd_ne W.npl]; exact h1, by rw [List.length_append]; omega, fun y hy => ?_⟩
    obtain ⟨t, a, b, e1, e2⟩ := h3 y hy
    exact ⟨t, a, b, e1, by rw [upd_ne (ne_of e2 W.hl (by intro z; cases z))]; exact e2⟩
  · rw [upd_same, e.1]
    simp [nums]
  · rw [upd_ne W.nlw.symm, e.2]
    exact W.hw
theorem BW.pass {H H' : Hp} {pr lo wa : Addr} {i : Int} {l : List Int} (W : BW H H' pr lo wa i l) {x : Int} (h1 : ¬ x = i + 1) (hx : ¬ x = i) : BW H H' pr lo wa i (l ++ [x]) := by
  have e := brk i l x
  unfold stp at e
  rw [if_neg h1, if_neg hx] at e
  refine ⟨W.same, W.fp, W.fl, W.fw, W.npl, W.npw, W.nlw, ?_, ?_, ?_⟩
  · obtain ⟨ps, h1, h2, h3⟩ := W.hp
    exact ⟨ps, h1, by rw [List.length_append]; omega, h3⟩
  · rw [e.1]
    exact W.hl
  · rw [e.2]
    exact W.hw
/-- the last that waits is taken away -/
theorem BW.popped {H H' : Hp} {pr lo wa T : Addr} {i a b : Int} {l : List Int} {ps : List V} (W : BW H H' pr lo wa i l) {x : Int} (h1 : ¬ x = i + 1) (hx : x = i) (he : ¬ highs i l = []) (hps : H' pr = some (.lst ps)) (hl : ps.length ≤ l.length)
    (h3 : ∀ x ∈ ps, ∃ t i j, x = V.ref t ∧ H' t = some (.tup [.int i, .int j])) (hT : upd H' wa (.lst (nums (highs i l)).dropLast) T = none) :
    BW H (upd (upd (upd H' wa (.lst (nums (highs i l)).dropLast)) T (.tup [.int a, .int b])) pr (.lst (ps ++ [.ref T]))) pr lo wa i (l ++ [x]) := by
  have e := brk i l x
  unfold stp at e
  rw [if_neg h1, if_pos hx, if_neg he] at e
  have nTw : T ≠ wa := fun z => by
    rw [z, upd_same] at hT
    cases hT
  have hT2 : H' T = none := by
    rw [upd_ne nTw] at hT
    exact hT
  have nTp : T ≠ pr := (ne_of_none hps hT2).symm
  have nTl : T ≠ lo := (ne_of_none W.hl hT2).symm
  refine ⟨fun c o z => ?_, W.fp, W.fl, W.fw, W.npl, W.npw, W.nlw, ⟨_, upd_same, by rw [List.length_append, List.length_append]; simp; omega, fun y hy => ?_⟩, ?_, ?_⟩
  · rw [upd_ne (ne_of_none z W.fp), upd_ne (ne_of_none (W.same _ _ z) hT2), upd_ne (ne_of_none z W.fw)]
    exact W.same _ _ z
  · rcases List.mem_append.mp hy with q | q
    · obtain ⟨t, c, d, e1, e2⟩ := h3 y q
      refine ⟨t, c, d, e1, ?_⟩
      rw [upd_ne (ne_of e2 hps (by intro z; cases z)), upd_ne (ne_of_none e2 hT2), upd_ne (ne_of e2 W.hw (by intro z; cases z))]
      exact e2
    · refine ⟨T, a, b, List.mem_singleton.mp q, ?_⟩
      rw [upd_ne nTp, upd_same]
  · rw [upd_ne W.npl.symm, upd_ne nTl.symm, upd_ne W.nlw, e.1]
    exact W.hl
  · rw [upd_ne W.npw.symm, upd_ne nTw.symm, upd_same, e.2]
    simp [nums, List.map_dropLast]
def spBrack : Sp := fun vs H Q _ => ∃ (t : Addr) (i : Int) (ls : List Int), vs = [.ref t, .int i] ∧ Seq H t ls ∧ ls.length ≤ 100 ∧
  ∀ (p a b c : Addr) (ps : List V) (H' : Hp), Same H H' → H' p = some (.tup [.ref a, .ref b, .ref c]) → H' a = some (.lst ps) → H' b = some (.lst (nums (lows i ls))) → H' c = some (.lst (nums (highs i ls))) → Q (.ref p) H'
theorem scBrack : FnScope ["letters", "i", "opening", "pairs", "lows", "waiting", "place", "letter"] ["letters", "i"] (defScope sBrack) := ⟨rfl, rfl, rfl, by decide +kernel, rfl, by decide +kernel, by decide +kernel⟩
theorem ok_brack {f : Addr} {fd : FuncData} (B : Bare mg) (F : Df K mg "bracketed" sBrack f fd) : FnOk P w K mg base CX0 1 f fd ["letters", "i"] spBrack := by
  refine F.fn.ok scBrack (fun vs H Q E h => ?_) (fun cdv A outer s H vs Q E hr h => ?_)
  · obtain ⟨t, i, ls, rfl, _⟩ := h
    rfl
  · obtain ⟨t, i, ls, rfl, ht, hlen, k⟩ := h
    rcases ht with ht | ht
    · refine ⟨_, pss_cons (ps_set (i := 2) scBrack.nd rfl (Or.inl rfl) (pe_op op_add (pv 1) pe_int)) (pss_cons (ps_set (i := 3) scBrack.nd rfl (Or.inl rfl) (pe_lst pa_nil)) (pss_cons (ps_set (i := 4) scBrack.nd rfl (Or.inl rfl) (pe_lst pa_nil)) (pss_cons (ps_set (i := 5) scBrack.nd rfl (Or.inl rfl) (pe_lst pa_nil))
        (pss_cons (ps_for PassesOwn.never rfl (pi_enum (by rfl) B.enumerate (pa_cons (pv 0) pa_nil)) (pg_tup rfl (pgs_cons (pg_name (i := 6) scBrack.nd rfl (Or.inl rfl)) (pgs_cons (pg_name (i := 7) scBrack.nd rfl (Or.inl rfl)) pgs_nil)))
          (pss_one (ps_if (pt_cmpR op_eq (pv 7) (pv 2) (nomark _))
            (pss_one (ps_expr (pe_bm PySem.F.plainAttrs_list PySem.F.slot_list_append PySem.F.type_list_append mt_append (pv 5) (pa_cons (pv 6) pa_nil))))
            (pss_one (ps_if (pt_cmpR op_eq (pv 7) (pv 1) (nomark _))
              (pss_one (ps_if (pt_truth (pv 5) (by intro _; rfl))
                (pss_one (ps_expr (pe_bm PySem.F.plainAttrs_list PySem.F.slot_list_append PySem.F.type_list_append mt_append (pv 3)
                  (pa_cons (pe_tup (pa_cons (pe_bm0 PySem.F.plainAttrs_list PySem.F.slot_list_pop PySem.F.type_list_pop mt_pop (pv 5)) (pa_cons (pv 6) pa_nil))) pa_nil))))
                (pss_one (ps_expr (pe_bm PySem.F.plainAttrs_list PySem.F.slot_list_append PySem.F.type_list_append mt_append (pv 4) (pa_cons (pv 6) pa_nil))))))
              pss_nil)))))
        (pss_one (ps_ret (pe_tup (pa_cons (pv 3) (pa_cons (pv 4) (pa_cons (pv 5) pa_nil)))))))))), ?_⟩
      refine ⟨_, rfl, _, _, rfl, rfl, ?_⟩
      refine ⟨Nat.zero_le _, fun pr hpr => ⟨Nat.zero_le _, fun lo hlo => ⟨Nat.zero_le _, fun wa hwa => ?_⟩⟩⟩
      have npl : pr ≠ lo := fun z => by
        rw [← z, upd_same] at hlo
        cases hlo
      have nlw : lo ≠ wa := fun z => by
        rw [← z, upd_same] at hwa
        cases hwa
      have npw : pr ≠ wa := fun z => by
        rw [← z, upd_ne npl, upd_same] at hwa
        cases hwa
      have s1 : Same H (upd (upd (upd H pr (.lst [])) lo (.lst [])) wa (.lst [])) := ((same_new hpr).trans (same_new hlo)).trans (same_new hwa)
      have fl : H lo = none := (same_new hpr).free hlo
      have fw : H wa = none := ((same_new hpr).trans (same_new hlo)).free hwa
      have W0 : BW H (upd (upd (upd H pr (.lst [])) lo (.lst [])) wa (.lst [])) pr lo wa i [] :=
        ⟨s1, hpr, fl, fw, npl, npw, nlw, ⟨[], by rw [upd_ne npw, upd_ne npl, upd_same], Nat.le_refl _, fun x hx => by simp at hx⟩, by rw [upd_ne nlw, upd_same]; rfl, by rw [upd_same]; rfl⟩
      refine ⟨_, rfl, t, _, rfl, SqL.of (s1 _ _ ht), for_enL (K := K) (a := t) (xs := nums ls)
        (fun j σ H' => ∃ v5 v6 : Option V, σ = [some (.ref t), some (.int i), some (.int (i + 1)), some (.ref pr), some (.ref lo), some (.ref wa), v5, v6] ∧ BW H H' pr lo wa i (ls.take j)) ⟨_, _, rfl, W0⟩ (fun j σ H' _ ⟨_, _, _, W⟩ => SqL.of (W.same _ _ ht)) ?_ ?_⟩
      · rintro j x T σ H' hx ⟨v5, v6, rfl, W1⟩ hT
        obtain ⟨z, rfl, hz, _⟩ := nums_get hx
        have hj : j < ls.length := (List.getElem?_eq_some_iff.mp hz).1
        have ej : (ls.take j).length = j := by
          rw [List.length_take]
          omega
        have en : ls.take (j + 1) = ls.take j ++ [z] := by
          rw [List.take_succ, hz]
          rfl
        have W := W1.new (o := .tup [.int (j : Nat), .int z]) hT
        have eT : (upd H' T (.tup [.int (j : Nat), .int z])) T = some (.tup [.int (j : Nat), .int z]) := upd_same
        generalize upd H' T (.tup [.int (j : Nat), .int z]) = H2 at W eT ⊢
        have szl : (nums (lows i (ls.take j))).length < sizeLine := by
          rw [List.length_map]
          exact small1000 (by have := (br_len i (ls.take j)).1; omega)
        have szh : (nums (highs i (ls.take j))).length < sizeLine := by
          rw [List.length_map]
          exact small1000 (by have := (br_len i (ls.take j)).2; omega)
        refine ⟨T, _, rfl, SqT.of eT, rfl, _, _, rfl, _, _, rfl, rfl, ?_⟩
        refine ⟨_, rfl, _, rfl, rfl, _, rfl, ite2 (fun hc => ?_) (fun hc => ?_)⟩
        · have hzi : z = i + 1 := by simpa using hc
          refine ⟨_, rfl, .inl ⟨rfl, _, SqL.of W.hw⟩, _, rfl, wa, _, _, rfl, rfl, W.hw, szh, ⟨_, _, rfl, ?_⟩⟩
          rw [en]
          have q := W.wait hzi
          rw [ej] at q
          exact q
        have hzi : ¬ z = i + 1 := by simpa using hc
        refine ⟨_, rfl, _, rfl, rfl, _, rfl, ite2 (fun hc2 => ?_) (fun hc2 => ?_)⟩
        · have hz2 : z = i := by simpa using hc2
          refine ⟨_, rfl, _, .inl ⟨_, SqL.of W.hw, rfl⟩, ?_⟩
          by_cases he : highs i (ls.take j) = []
          · rw [he]
            refine iteF ⟨_, rfl, .inl ⟨rfl, _, SqL.of W.hl⟩, _, rfl, lo, _, _, rfl, rfl, W.hl, szl, ⟨_, _, rfl, ?_⟩⟩
            rw [en]
            have q := W.low hzi hz2 he
            rw [ej] at q
            exact q
          · obtain ⟨ps, h1, h2, h3⟩ := W.hp
            have hne : (!(nums (highs i (ls.take j))).isEmpty) = true := by
              cases e : highs i (ls.take j) with
              | nil => exact absurd e he
              | cons a r => rfl
            rw [hne]
            have hlast : ∃ y, (highs i (ls.take j))[(highs i (ls.take j)).length - 1]? = some y := by
              cases e : highs i (ls.take j) with
              | nil => exact absurd e he
              | cons a r => exact ⟨(a :: r)[(a :: r).length - 1], by simp⟩
            obtain ⟨y, hy⟩ := hlast
            have hy2 : (nums (highs i (ls.take j)))[(nums (highs i (ls.take j))).length - 1]? = some (.int y) := by
              rw [List.length_map, List.getElem?_map, hy]
              rfl
            refine iteT ⟨_, rfl, .inl ⟨rfl, _, SqL.of h1⟩, _, rfl, .inl ⟨rfl, _, SqL.of W.hw⟩, wa, _, _, rfl, rfl, W.hw, hy2, ?_⟩
            refine ⟨_, rfl, (by show 2 ≤ sizeLine; decide), fun T2 hT2 => ⟨pr, ps, _, rfl, rfl, ?_, small1000 (by have := List.length_take_le j ls; omega), ⟨_, _, rfl, ?_⟩⟩⟩
            · have n2 : pr ≠ T2 := fun q => by
                rw [← q, upd_ne W.npw] at hT2
                rw [h1] at hT2
                cases hT2
              rw [upd_ne n2, upd_ne W.npw]
              exact h1
            · rw [en]
              exact W.popped hzi hz2 he h1 h2 h3 hT2
        · have hz2 : ¬ z = i := by simpa using hc2
          refine ⟨_, _, rfl, ?_⟩
          rw [en]
          exact W.pass hzi hz2
      · rintro σ H' ⟨v5, v6, rfl, W1⟩
        rw [List.length_map, List.take_length] at W1
        obtain ⟨ps, h1, h2, h3⟩ := W1.hp
        refine ⟨_, rfl, _, rfl, _, rfl, (by show 3 ≤ sizeLine; decide), fun p hp => ?_⟩
        have s6 := same_new (o := .tup [.ref pr, .ref lo, .ref wa]) hp
        exact k p pr lo wa ps _ (W1.same.trans s6) upd_same (s6 _ _ h1) (s6 _ _ W1.hl) (s6 _ _ W1.hw)
    · refine ⟨_, pss_cons (ps_set (i := 2) scBrack.nd rfl (Or.inl rfl) (pe_op op_add (pv 1) pe_int)) (pss_cons (ps_set (i := 3) scBrack.nd rfl (Or.inl rfl) (pe_lst pa_nil)) (pss_cons (ps_set (i := 4) scBrack.nd rfl (Or.inl rfl) (pe_lst pa_nil)) (pss_cons (ps_set (i := 5) scBrack.nd rfl (Or.inl rfl) (pe_lst pa_nil))
        (pss_cons (ps_for PassesOwn.never rfl (pi_enT (by rfl) B.enumerate (pa_cons (pv 0) pa_nil)) (pg_tup rfl (pgs_cons (pg_name (i := 6) scBrack.nd rfl (Or.inl rfl)) (pgs_cons (pg_name (i := 7) scBrack.nd rfl (Or.inl rfl)) pgs_nil)))
          (pss_one (ps_if (pt_cmpR op_eq (pv 7) (pv 2) (nomark _))
            (pss_one (ps_expr (pe_bm PySem.F.plainAttrs_list PySem.F.slot_list_append PySem.F.type_list_append mt_append (pv 5) (pa_cons (pv 6) pa_nil))))
            (pss_one (ps_if (pt_cmpR op_eq (pv 7) (pv 1) (nomark _))
              (pss_one (ps_if (pt_truth (pv 5) (by intro _; rfl))
                (pss_one (ps_expr (pe_bm PySem.F.plainAttrs_list PySem.F.slot_list_append PySem.F.type_list_append mt_append (pv 3)
                  (pa_cons (pe_tup (pa_cons (pe_bm0 PySem.F.plainAttrs_list PySem.F.slot_list_pop PySem.F.type_list_pop mt_pop (pv 5)) (pa_cons (pv 6) pa_nil))) pa_nil))))
                (pss_one (ps_expr (pe_bm PySem.F.plainAttrs_list PySem.F.slot_list_append PySem.F.type_list_append mt_append (pv 4) (pa_cons (pv 6) pa_nil))))))
              pss_nil)))))
        (pss_one (ps_ret (pe_tup (pa_cons (pv 3) (pa_cons (pv 4) (pa_cons (pv 5) pa_nil)))))))))), ?_⟩
      refine ⟨_, rfl, _, _, rfl, rfl, ?_⟩
      refine ⟨Nat.zero_le _, fun pr hpr => ⟨Nat.zero_le _, fun lo hlo => ⟨Nat.zero_le _, fun wa hwa => ?_⟩⟩⟩
      have npl : pr ≠ lo := fun z => by
        rw [← z, upd_same] at hlo
        cases hlo
      have nlw : lo ≠ wa := fun z => by
        rw [← z, upd_same] at hwa
        cases hwa
      have npw : pr ≠ wa := fun z => by
        rw [← z, upd_ne npl, upd_same] at hwa
        cases hwa
      have s1 : Same H (upd (upd (upd H pr (.lst [])) lo (.lst [])) wa (.lst [])) := ((same_new hpr).trans (same_new hlo)).trans (same_new hwa)
      have fl : H lo = none := (same_new hpr).free hlo
      have fw : H wa = none := ((same_new hpr).trans (same_new hlo)).free hwa
      have W0 : BW H (upd (upd (upd H pr (.lst [])) lo (.lst [])) wa (.lst [])) pr lo wa i [] :=
        ⟨s1, hpr, fl, fw, npl, npw, nlw, ⟨[], by rw [upd_ne npw, upd_ne npl, upd_same], Nat.le_refl _, fun x hx => by simp at hx⟩, by rw [upd_ne nlw, upd_same]; rfl, by rw [upd_same]; rfl⟩
      refine ⟨_, rfl, t, _, rfl, SqT.of (s1 _ _ ht), for_enT (K := K) (a := t) (xs := nums ls)
        (fun j σ H' => ∃ v5 v6 : Option V, σ = [some (.ref t), some (.int i), some (.int (i + 1)), some (.ref pr), some (.ref lo), some (.ref wa), v5, v6] ∧ BW H H' pr lo wa i (ls.take j)) ⟨_, _, rfl, W0⟩ (fun j σ H' _ ⟨_, _, _, W⟩ => SqT.of (W.same _ _ ht)) ?_ ?_⟩
      · rintro j x T σ H' hx ⟨v5, v6, rfl, W1⟩ hT
        obtain ⟨z, rfl, hz, _⟩ := nums_get hx
        have hj : j < ls.length := (List.getElem?_eq_some_iff.mp hz).1
        have ej : (ls.take j).length = j := by
          rw [List.length_take]
          omega
        have en : ls.take (j + 1) = ls.take j ++ [z] := by
          rw [List.take_succ, hz]
          rfl
        have W := W1.new (o := .tup [.int (j : Nat), .int z]) hT
        have eT : (upd H' T (.tup [.int (j : Nat), .int z])) T = some (.tup [.int (j : Nat), .int z]) := upd_same
        generalize upd H' T (.tup [.int (j : Nat), .int z]) = H2 at W eT ⊢
        have szl : (nums (lows i (ls.take j))).length < sizeLine := by
          rw [List.length_map]
          exact small1000 (by have := (br_len i (ls.take j)).1; omega)
        have szh : (nums (highs i (ls.take j))).length < sizeLine := by
          rw [List.length_map]
          exact small1000 (by have := (br_len i (ls.take j)).2; omega)
        refine ⟨T, _, rfl, SqT.of eT, rfl, _, _, rfl, _, _, rfl, rfl, ?_⟩
        refine ⟨_, rfl, _, rfl, rfl, _, rfl, ite2 (fun hc => ?_) (fun hc => ?_)⟩
        · have hzi : z = i + 1 := by simpa using hc
          refine ⟨_, rfl, .inl ⟨rfl, _, SqL.of W.hw⟩, _, rfl, wa, _, _, rfl, rfl, W.hw, szh, ⟨_, _, rfl, ?_⟩⟩
          rw [en]
          have q := W.wait hzi
          rw [ej] at q
          exact q
        have hzi : ¬ z = i + 1 := by simpa using hc
        refine ⟨_, rfl, _, rfl, rfl, _, rfl, ite2 (fun hc2 => ?_) (fun hc2 => ?_)⟩
        · have hz2 : z = i := by simpa using hc2
          refine ⟨_, rfl, _, .inl ⟨_, SqL.of W.hw, rfl⟩, ?_⟩
          by_cases he : highs i (ls.take j) = []
          · rw [he]
            refine iteF ⟨_, rfl, .inl ⟨rfl, _, SqL.of W.hl⟩, _, rfl, lo, _, _, rfl, rfl, W.hl, szl, ⟨_, _, rfl, ?_⟩⟩
            rw [en]
            have q := W.low hzi hz2 he
            rw [ej] at q
            exact q
          · obtain ⟨ps, h1, h2, h3⟩ := W.hp
            have hne : (!(nums (highs i (ls.take j))).isEmpty) = true := by
              cases e : highs i (ls.take j) with
              | nil => exact absurd e he
              | cons a r => rfl
            rw [hne]
            have hlast : ∃ y, (highs i (ls.take j))[(highs i (ls.take j)).length - 1]? = some y := by
              cases e : highs i (ls.take j) with
              | nil => exact absurd e he
              | cons a r => exact ⟨(a :: r)[(a :: r).length - 1], by simp⟩
            obtain ⟨y, hy⟩ := hlast
            have hy2 : (nums (highs i (ls.take j)))[(nums (highs i (ls.take j))).length - 1]? = some (.int y) := by
              rw [List.length_map, List.getElem?_map, hy]
              rfl
            refine iteT ⟨_, rfl, .inl ⟨rfl, _, SqL.of h1⟩, _, rfl, .inl ⟨rfl, _, SqL.of W.hw⟩, wa, _, _, rfl, rfl, W.hw, hy2, ?_⟩
            refine ⟨_, rfl, (by show 2 ≤ sizeLine; decide), fun T2 hT2 => ⟨pr, ps, _, rfl, rfl, ?_, small1000 (by have := List.length_take_le j ls; omega), ⟨_, _, rfl, ?_⟩⟩⟩
            · have n2 : pr ≠ T2 := fun q => by
                rw [← q, upd_ne W.npw] at hT2
                rw [h1] at hT2
                cases hT2
              rw [upd_ne n2, upd_ne W.npw]
              exact h1
            · rw [en]
              exact W.popped hzi hz2 he h1 h2 h3 hT2
        · have hz2 : ¬ z = i := by simpa using hc2
          refine ⟨_, _, rfl, ?_⟩
          rw [en]
          exact W.pass hzi hz2
      · rintro σ H' ⟨v5, v6, rfl, W1⟩
        rw [List.length_map, List.take_length] at W1
        obtain ⟨ps, h1, h2, h3⟩ := W1.hp
        refine ⟨_, rfl, _, rfl, _, rfl, (by show 3 ≤ sizeLine; decide), fun p hp => ?_⟩
        have s6 := same_new (o := .tup [.ref pr, .ref lo, .ref wa]) hp
        exact k p pr lo wa ps _ (W1.same.trans s6) upd_same (s6 _ _ h1) (s6 _ _ W1.hl) (s6 _ _ W1.hw)
end
end Lw
/-! An own class's +, !=, len; the text of a list of numbers. -/
namespace LwE
open PySem PySem.Spec PyProof.Rows L2
section
variable {X : Cx} {pins : List (Addr × Obj)} {σ : L2.St} {H : Hp} {s : Shared} {k : Nat} {f C : Addr} {fd : FuncData} {ps : List Str} {sp : Sp}
/-- a def called anywhere below the running body -/
theorem run_below {A : Around} {Q : VK} {us : List Value} {vs : List V} (F : FnOk X.prog X.w X.K X.mg X.base CX0 k f fd ps sp) (hr : Room k A) (e0 : Env0 X.prog X.w X.K X.mg X.base A X.stack s H) (hb : Binds X.K fd ps [])
    (I : Inv X pins σ H s) (r : Vals vs us) (h : sp vs H Q E0) : wpAny (model X.prog X.w) A (call (.ref f) us) (EP X pins σ Q) X.xe s := by
  have hl : (us ++ []).length = ps.length := by
    rw [List.append_nil, ← r.length]
    exact F.len _ _ _ _ h
  have b0 := hb s us I.kIn hl
  rw [List.append_nil] at b0
  refine wpAny_call (codeAny_mono (F.run A X.stack s H ⟨us, []⟩ us vs Q E0 hr e0 b0 r h) fun r s' hq => ?_)
  cases r with
  | error e => exact (show False from hq).elim
  | ok fl =>
    cases fl with
    | ret u => exact I.after hq
    | next => exact False.elim hq
    | brk => exact False.elim hq
    | cont => exact False.elim hq
theorem inst_of {dx a : Addr} {fs : List (Str × V)} (I : Inv X pins σ H s) (e : H a = some (.ins C dx fs)) : ∃ ox od, PySem.W.InstAt s.heap a ox C (some od) := by
  obtain ⟨mA, O, _⟩ := ins_get I.hok e
  obtain ⟨od, J, _⟩ := O.look
  exact ⟨_, od, J⟩
/-- len(o) -/
def rLenO (C : Addr) (sp : Sp) : List V → Hp → VK → Prop := fun xs H Q => ∃ a dx fs, xs = [V.ref a] ∧ H a = some (.ins C dx fs) ∧ sp [.ref a] H (fun z H' => ∃ i : Int, z = .int i ∧ (0 ≤ i ∧ i < 2 ^ 63) ∧ Q (.int i) H') E0
theorem call_lenO (hs : PySem.W.findIn X.K (.ref C) "__len__" = some (some (.ref f))) (hf : PySem.W.isFn X.K (.ref f) = true) (F : FnOk X.prog X.w X.K X.mg X.base CX0 k f fd ps sp) (hb : Binds X.K fd ps []) (hr : Room (k + 1) X.A) :
    CallR X (.builtin "len") (rLenO C sp) := by
  intro pins s σ H xs us Q I r h
  obtain ⟨a, dx, fs, rfl, e, q⟩ := h
  obtain ⟨u, rfl, ru⟩ := vals1 r
  obtain rfl : u = Value.ref a := ru
  obtain ⟨ox, od, J⟩ := inst_of I e
  obtain ⟨m, hF⟩ := I.fr
  refine PySem.W.len_K hF I.ok.mod.kin J hs hf (wpAny_mono (run_below (vs := [.ref a]) F hr.in1 I.env0.in1 hb I (.cons rfl .nil) q) (fun v s' z => ?_) fun _ _ x => x)
  obtain ⟨z', H', I', rz, i, rfl, hi, q'⟩ := z
  obtain ⟨t, rfl⟩ := (show ∃ t, v = Value.int i t from rz)
  exact ⟨hi, .int i, H', I'.tok _, ⟨_, rfl⟩, q'⟩
/-- a + b, two of one class -/
def rTwoO (C : Addr) (sp : Sp) : R2 := fun x y H Q => ∃ a dx fs b dy gs, x = .ref a ∧ y = .ref b ∧ H a = some (.ins C dx fs) ∧ H b = some (.ins C dy gs) ∧ sp [x, y] H Q E0
theorem op_addO (hs : PySem.W.findIn X.K (.ref C) "__add__" = some (some (.ref f))) (hf : PySem.W.isFn X.K (.ref f) = true) (hc : PySem.W.selfFirst X.K C = true) (F : FnOk X.prog X.w X.K X.mg X.base CX0 k f fd ps sp) (hb : Binds X.K fd ps [])
    (hr : Room k X.A) : OpR X (binaryOp .Add) (rTwoO C sp) := by
  intro pins s σ H x y v u Q I rx ry h
  obtain ⟨a, dx, fs, b, dy, gs, rfl, rfl, ea, eb, q⟩ := h
  obtain rfl : v = Value.ref a := rx
  obtain rfl : u = Value.ref b := ry
  obtain ⟨ox, od, J⟩ := inst_of I ea
  obtain ⟨oy, oe, J'⟩ := inst_of I eb
  obtain ⟨m, hF⟩ := I.fr
  refine PySem.W.binop_K hF I.ok.mod.kin J J'.type hc hs hf (wpAny_mono (run_below (vs := [.ref a, .ref b]) F hr I.env0 hb I (.cons rfl (.cons rfl .nil)) q) (fun w s' z => ?_) fun _ _ x => x)
  obtain ⟨z', H', I', rz, qz⟩ := z
  exact SlX.cmpback rz ⟨z', H', I', rz, qz⟩
/-- a special method that is a built-in's, bound and called -/
theorem bound_slot {M : Model} {A : Around} {E : Value → Shared → Prop} {K : PySem.W.Frag} {x : Addr} {ox : Obj} {od : Option Obj} {name : Str} {B id : String} {args : List Value} {Q : Option Value → Shared → Prop} (Xk : K.In s.heap) (I : PySem.W.InstAt s.heap x ox C od)
    (hs : PySem.W.findIn K (.ref C) name = some (some (.builtin id))) (S : Slot B name id) (h : wpAny M A (call (.builtin id) (.ref x :: args)) (fun v => Q (some v)) E s) : wpAny M A (callSpecialIfBound? (.ref x) name args) Q E s := by
  simp only [callSpecialIfBound?, bindSpecialIfBound?]
  refine wpAny_holding (wpAny_bind (wpAny_bind (wpAny_bind (I.type.here ((PySem.W.looks_findIn Xk hs).here ?_)))))
  simp only [S.bind]
  refine wpAny_bind (wpAny_askSetting (wpAny_ite ?_))
  have fin : wpAny M A (call (.builtin id) ([.ref x] ++ args) >>= fun v => pure (some v)) Q E s := wpAny_bind (wpAny_mono h (fun v s' z => wpAny_pure z) fun _ _ z => z)
  split
  · exact wpAny_bind (wpAny_pure (wpAny_pure fin))
  · exact wpAny_tryCatch (wpAny_bind (wpAny_pure (wpAny_pure fin)))
/-- a != b by the class's own == -/
def rNeO (C : Addr) (sp : Sp) : R2 := fun x y H Q => ∃ a dx fs b dy gs, x = .ref a ∧ y = .ref b ∧ H a = some (.ins C dx fs) ∧ H b = some (.ins C dy gs) ∧ sp [x, y] H (fun z H' => ∃ c : Bool, z = .bl c ∧ Q (.bl (!c)) H') E0
theorem op_neO (hs : PySem.W.findIn X.K (.ref C) "__eq__" = some (some (.ref f))) (hf : PySem.W.isFn X.K (.ref f) = true) (hn : PySem.W.findIn X.K (.ref C) "__ne__" = some (some (.builtin "object.__ne__"))) (hm : PySem.W.mroIn X.K C (.type "object") = some true)
    (F : FnOk X.prog X.w X.K X.mg X.base CX0 k f fd ps sp) (hb : Binds X.K fd ps []) (hr : Room (k + 1) X.A) : OpR X (compareOp .NotEq) (rNeO C sp) := by
  intro pins s σ H x y v u Q I rx ry h
  obtain ⟨a, dx, fs, b, dy, gs, rfl, rfl, ea, eb, q⟩ := h
  obtain rfl : v = Value.ref a := rx
  obtain rfl : u = Value.ref b := ry
  obtain ⟨ox, od, J⟩ := inst_of I ea
  obtain ⟨oy, oe, J'⟩ := inst_of I eb
  have Xk := I.kIn
  have hcall : wpAny (model X.prog X.w) X.A.in1 (call (.ref f) [.ref a, .ref b]) (fun w s' => ∃ c, w = .bool c ∧ EP X pins σ Q (.bool (!c)) s') X.xe s :=
    wpAny_mono (run_below (vs := [.ref a, .ref b]) F hr.in1 I.env0.in1 hb I (.cons rfl (.cons rfl .nil)) q) (fun w s' z => by
      obtain ⟨z', H', I', rz, c, rfl, qz⟩ := z
      obtain rfl : w = Value.bool c := rz
      exact ⟨c, rfl, .bl (!c), H', I', rfl, qz⟩) fun _ _ x => x
  have h1 : X.A.units < cLine := hr.units0
  have h2 : X.A.in1.units < cLine := by
    have := hr.units
    show X.A.units + 1 < cLine
    omega
  have sub : PySem.W.Looks (model X.prog X.w) s.heap (isInstance (.ref a) (.type "object")) true := J.type.andThen (PySem.W.looks_mroIn Xk hm)
  have body : wpAny (model X.prog X.w) X.A.in1 (Builtin.«object.__ne__» ⟨[.ref a, .ref b], []⟩) (fun fin s' => ∃ c, fin = .done (.ret (.bool (!c))) ∧ EP X pins σ Q (.bool (!c)) s') X.xe s := by
    unfold Builtin.«object.__ne__»
    repeat (first
      | with_reducible refine wpAny_cRoomFor h2 ?_
      | (refine wpAny_bind (m := callSpecialIfBound? (.ref a) (Str.ofString "__eq__") [.ref b]) (PySem.W.ifBound_K Xk J hs hf (wpAny_mono hcall (fun r s' hq => by
          obtain ⟨c, rfl, qz⟩ := hq
          repeat (first | exact ⟨c, rfl, qz⟩ | exact wpAny_pure ⟨c, rfl, qz⟩ | exact wpAny_truthy_bool ⟨c, rfl, qz⟩ | (refine wpAny_bind (m := truthy (.bool _)) (wpAny_truthy_bool ?_)) | wp_step)) fun _ _ e => e)))
      | wp_step)
  have one : wpAny (model X.prog X.w) X.A (tryCompare (.ref a) "__ne__" (.ref b)) (fun r s' => ∃ c : Bool, r = some (.bool (!c)) ∧ EP X pins σ Q (.bool (!c)) s') X.xe s := by
    simp only [tryCompare]
    refine wpAny_bind (bound_slot (B := "object") Xk J hn PySem.F.cmp_object.ne (wpAny_call (codeAny_call_builtin PySem.F.cmp_object.ne.plain PySem.F.cmpEntry_ne
      (@PySem.W.check_slot (model X.prog X.w) _ _ s "object.__ne__" "object" "__ne__" (.ref a) [.ref b] [] _ PySem.F.cmpKind_ne PySem.F.cmpSplit_ne sub (PySem.F.cmpArgs_ne _ _) ?_))))
    refine wpAny_mono body (fun fin s' z => ?_) fun _ _ e => e
    obtain ⟨c, rfl, qz⟩ := z
    first | exact ⟨c, rfl, qz⟩ | exact wpAny_pure ⟨c, rfl, qz⟩
  show wpAny _ _ (richCompare .NotEq (.ref a) (.ref b)) _ _ _
  unfold richCompare
  simp only [oneThing_ref]
  refine wpAny_holding (wpAny_bind (wpAny_cRoomFor h1 ?_))
  rw [cmpInfo_NotEq]
  dsimp only
  refine wpAny_bind (J.type.here (wpAny_bind (J'.type.here ?_)))
  rw [show (Value.ref C != Value.ref C) = false from by simp]
  simp only [Bool.false_eq_true, if_false]
  refine wpAny_bind (wpAny_pure ?_)
  simp only [Bool.false_eq_true, if_false]
  refine wpAny_bind (wpAny_mono one (fun r s' z => ?_) fun _ _ e => e)
  obtain ⟨c, rfl, qz⟩ := z
  first | exact wpAny_pure qz | exact wpAny_pure (wpAny_pure qz)
/-- repr(x), x a list or tuple of what is data -/
def rReprD (K : PySem.W.Frag) : List V → Hp → VK → Prop := fun xs H Q => ∃ (a : Addr) (d : PyData), xs = [V.ref a] ∧ Dp K H (.ref a) d ∧ d.showable = true ∧ d.hasDict = false ∧ d.depth ≤ 8 ∧ d.shown.length ≤ sizeLine ∧ Q (.str d.shown) H
theorem call_reprD (hg : X.A.guards = some []) (hu : X.A.units + 64 < cLine) : CallR X (.builtin "repr") (rReprD X.K) := by
  intro pins s σ H xs us Q I r h
  obtain ⟨a, d, rfl, hd, h1, h2, h3, h4, q⟩ := h
  obtain ⟨u, rfl, ru⟩ := vals1 r
  obtain ⟨as, rd⟩ := Dp.reads I d _ _ hd ru
  obtain rfl : u = Value.ref a := ru
  refine repr_of_reads' rd h1 (fun z => by rw [h2] at z; cases z) hg (by omega) (fun b o e => e) (fun h' t tk kp => ?_) h4
  exact ⟨.str d.shown, H, I.kept kp, ⟨_, rfl⟩, q⟩
end
end LwE
/-! J. The class of words. -/
namespace Lw
open PySem L2 LwE LwM
theorem sl_ : ¬ (("size" : Str) = "letters") := by decide +kernel
theorem ls_ : ¬ (("letters" : Str) = "size") := by decide +kernel
/-- a word's attributes -/
def wf (t : Addr) (z : Int) : List (Str × V) := putF "letters" (.ref t) (putF "size" (.int z) [])
theorem wf_size (t : Addr) (z : Int) : (wf t z).lookup ("size" : Str) = some (.int z) := by
  unfold wf
  rw [lookup_putF, if_neg sl_, lookup_putF, if_pos rfl]
theorem wf_letters (t : Addr) (z : Int) : (wf t z).lookup ("letters" : Str) = some (.ref t) := by
  unfold wf
  rw [lookup_putF, if_pos rfl]
theorem wf_no (t : Addr) (z : Int) {m : Str} (h1 : ¬ m = "letters") (h2 : ¬ m = "size") : (wf t z).lookup m = none := by
  unfold wf
  rw [lookup_putF, if_neg h1, lookup_putF, if_neg h2]
  rfl
/-- a word of the class at C stands at p -/
structure WAt (C : Addr) (H : Hp) (p : Addr) (size : Int) (ls : List Int) : Prop where
  ob : ∃ dx t, H p = some (.ins C dx (wf t size)) ∧ H t = some (.tup (nums ls))
  ls : Ls size ls
theorem WAt.same {C : Addr} {H H' : Hp} {p : Addr} {size : Int} {ls : List Int} (W : WAt C H p size ls) (s : Same H H') : WAt C H' p size ls :=
  ⟨let ⟨dx, t, a, b⟩ := W.ob; ⟨dx, t, s _ _ a, s _ _ b⟩, W.ls⟩
theorem WAt.keep {C : Addr} {H H' : Hp} {p m g c : Addr} {n size : Int} {ls : List Int} (W : WAt C H p size ls) (d : Dr H m g c n) (k : Keep m g H H') : WAt C H' p size ls := by
  obtain ⟨dx, t, a, b⟩ := W.ob
  obtain ⟨gs, _, e⟩ := d.hg
  exact ⟨⟨dx, t, k _ _ a (ne_of a d.hm (by intro z; cases z)) (ne_of a e (by intro z; cases z)), k _ _ b (ne_of b d.hm (by intro z; cases z)) (ne_of b e (by intro z; cases z))⟩, W.ls⟩
/-- what the top has made of the class -/
structure Cw (K : PySem.W.Frag) (mg : Str → Option Value) (C : Addr) : Prop where
  cl : Cls K C
  nS : NoAttr K C "size"
  nL : NoAttr K C "letters"
  mgC : mg "Word" = some (.ref C)
  ca : PySem.W.findIn K (.ref C) "__class__" = some (some (.builtin "object.__class__"))
  cn : PySem.W.specialIn K (.builtin "object.__class__") "__get__" = some (some (.builtin "getset_descriptor.__get__"))
  ct : PySem.W.takesIn K (.builtin "object.__class__") = some true
  cm : PySem.W.mroIn K C (.type "object") = some true
theorem cut_drop (l : List Int) {n : Int} (h : 0 ≤ n) : cutV (nums l) (some n) none = nums (l.drop n.toNat) := by
  unfold cutV
  have e : HT.sIx (nums l).length 0 (some n) = min n.toNat (nums l).length := by
    have q := HT.sIx_nat (nums l).length 0 n.toNat
    rw [Int.toNat_of_nonneg h] at q
    exact q
  rw [HT.sIx_none, e]
  rw [List.length_map]
  show ((l.map V.int).drop _).take _ = (l.drop n.toNat).map V.int
  rw [← List.map_drop, ← List.map_take]
  congr 1
  rw [List.take_of_length_le (by rw [List.length_drop]; omega)]
  rcases Nat.le_total n.toNat l.length with z | z
  · rw [Nat.min_eq_left z]
  · rw [Nat.min_eq_right z, List.drop_of_length_le (Nat.le_refl _), List.drop_of_length_le z]
/-- t + u, whichever is empty -/
theorem cat_any {K : PySem.W.Frag} {H : Hp} {Q : VK} {a b : Addr} {xs ys : List V} (ha : H a = some (.tup xs)) (hb : H b = some (.tup ys)) (hl : xs.length + ys.length ≤ sizeLine)
    (k : ∀ r H', Same H H' → H' r = some (.tup (xs ++ ys)) → Q (.ref r) H') : rCatA K (.ref a) (.ref b) H Q := by
  refine ⟨a, b, xs, ys, rfl, rfl, SqT.of ha, SqT.of hb, hl, fun e => ?_, fun _ e => ?_, fun _ _ p hp => k p _ (same_new hp) upd_same⟩
  · subst e
    exact k b H (Same.refl H) hb
  · subst e
    refine k a H (Same.refl H) ?_
    rw [List.append_nil]
    exact ha
theorem set_cut (l : List Int) (p : Nat) (x : Int) (h : p < l.length) : l.take p ++ [x] ++ l.drop (p + 1) = l.set p x := by
  rw [List.set_eq_take_append_cons_drop, if_pos h, List.append_assoc]
  rfl
theorem Ls.set {size : Int} {ls : List Int} (L : Ls size ls) (p : Nat) {x : Int} (h0 : 1 ≤ x) (h1 : x ≤ size) : Ls size (ls.set p x) :=
  ⟨L.s0, L.s1, by rw [List.length_set]; exact L.len, fun y hy => by
    rcases List.mem_or_eq_of_mem_set hy with q | q
    · exact L.bd y q
    · rw [q]
      exact ⟨h0, h1⟩⟩
section
variable {P : Program} {w : World} {K : PySem.W.Frag} {mg : Str → Option Value} {base : Heap}
/-! __init__ -/
def spInit (C : Addr) : Sp := fun vs H Q _ => ∃ (p dx : Addr) (size : Int) (a : Addr) (ls : List Int), vs = [.ref p, .int size, .ref a] ∧ H p = some (.ins C dx []) ∧ Seq H a ls ∧ Ls size ls ∧
  ∀ H', (∀ b o, H b = some o → b ≠ p → H' b = some o) → WAt C H' p size ls → Q .non H'
theorem scInit : FnScope ["self", "size", "letters"] ["self", "size", "letters"] (defScope sInit) := ⟨rfl, rfl, rfl, by decide +kernel, rfl, by decide +kernel, by decide +kernel⟩
theorem ok_init {f f1 f2 C : Addr} {fd fd1 fd2 : FuncData} (B : Bare mg) (T : Cw K mg C) (F : Fun K "__init__" "Word.__init__" sInit f fd) (F1 : Df K mg "check_size" sCkSize f1 fd1) (b1 : Binds K fd1 ["size"] [])
    (G1 : FnOk P w K mg base CX0 3 f1 fd1 ["size"] spCkSize) (F2 : Df K mg "check_letters" sCkLetters f2 fd2) (b2 : Binds K fd2 ["size", "letters"] []) (G2 : FnOk P w K mg base CX0 3 f2 fd2 ["size", "letters"] spCkLetters) :
    FnOk P w K mg base CX0 4 f fd ["self", "size", "letters"] (spInit C) := by
  refine F.ok scInit (fun vs H Q E h => ?_) (fun cdv A outer s H vs Q E hr h => ?_)
  · obtain ⟨p, dx, size, a, ls, rfl, _⟩ := h
    rfl
  · obtain ⟨p, dx, size, a, ls, rfl, hp, hq, L, k⟩ := h
    refine ⟨_, pss_cons (ps_expr (pe_call G1 hr (by rfl) F1.g F1.fn.kp b1 .nil pass0 (pa_cons (pv 1) pa_nil))) (pss_cons (ps_expr (pe_call G2 hr (by rfl) F2.g F2.fn.kp b2 .nil pass0 (pa_cons (pv 1) (pa_cons (pv 2) pa_nil))))
      (pss_cons (ps_fld (pv 0) (pv 1) rfl) (pss_one (ps_fld (pv 0) (pe_callTy call_tuple_of (by rfl) B.tuple (by decide +kernel) (pa_cons (pv 2) pa_nil)) rfl)))), ?_⟩
    refine ⟨_, rfl, size, rfl, L.s0, L.s1, ?_⟩
    refine ⟨_, rfl, _, rfl, size, a, ls, rfl, hq, L, fun H1 s1 => ?_⟩
    refine ⟨_, rfl, _, rfl, p, C, dx, _, rfl, s1 _ _ hp, T.cl, T.nS, (by show 0 < 1000; decide), ?_⟩
    have nap : a ≠ p := hq.elim (fun e => ne_of e hp (by intro z; cases z)) fun e => ne_of e hp (by intro z; cases z)
    have hq2 : Seq (upd H1 p (.ins C dx (putF "size" (.int size) []))) a ls := by
      rcases hq.same s1 with e | e
      · exact .inl (by rw [upd_ne nap]; exact e)
      · exact .inr (by rw [upd_ne nap]; exact e)
    have hp2 : (upd H1 p (.ins C dx (putF "size" (.int size) []))) p = some (.ins C dx (putF "size" (.int size) [])) := upd_same
    have k2 : ∀ b o, H b = some o → b ≠ p → (upd H1 p (.ins C dx (putF "size" (.int size) []))) b = some o := fun b o e h => by
      rw [upd_ne h]
      exact s1 _ _ e
    generalize upd H1 p (.ins C dx (putF "size" (.int size) [])) = H2 at hq2 hp2 k2 ⊢
    rcases hq2 with e | e
    · refine ⟨_, rfl, a, _, rfl, .inl ⟨SqL.of e, fun t ht => ?_⟩⟩
      have npt : p ≠ t := ne_of_none hp2 ht
      refine ⟨_, rfl, p, C, dx, _, rfl, same_new ht _ _ hp2, T.cl, T.nL, (by show 1 < 1000; decide), ?_⟩
      refine k _ (fun b o z h => ?_) ⟨⟨dx, t, upd_same, ?_⟩, L⟩
      · rw [upd_ne h]
        exact same_new ht _ _ (k2 _ _ z h)
      · rw [upd_ne npt.symm, upd_same]
    · refine ⟨_, rfl, a, _, rfl, .inr ⟨SqT.of e, ?_⟩⟩
      refine ⟨_, rfl, p, C, dx, _, rfl, hp2, T.cl, T.nL, (by show 1 < 1000; decide), ?_⟩
      refine k _ (fun b o z h => ?_) ⟨⟨dx, a, upd_same, ?_⟩, L⟩
      · rw [upd_ne h]
        exact k2 _ _ z h
      · rw [upd_ne nap]
        exact e
/-! a word made -/
theorem made {C : Addr} {H : Hp} {Q : VK} {size : Int} {a : Addr} {ls : List Int} (hq : Seq H a ls) (L : Ls size ls) (k : ∀ x H', Same H H' → H x = none → WAt C H' x size ls → Q (.ref x) H') :
    ∀ x dx, H x = none → H dx = none → dx ≠ x → spInit C (.ref x :: ([.int size, .ref a] ++ [])) (upd (upd H dx (.own x)) x (.ins C dx [])) (fun v H2 => v = .non ∧ Q (.ref x) H2) E0 := fun x dx nx ndx ne => by
  have s2 : Same H (upd (upd H dx (.own x)) x (.ins C dx [])) := fun b o e => by
    rw [upd_ne (ne_of_none e nx), upd_ne (ne_of_none e ndx)]
    exact e
  exact ⟨x, dx, size, a, ls, rfl, upd_same, hq.same s2, L, fun H' kp W => ⟨rfl, k x H' (Same.made nx ndx kp) nx W⟩⟩
end
end Lw
/-! K. The methods of words. -/
namespace Lw
open PySem L2 LwE LwM
/-- what is known of __init__ -/
structure In_ (P : Program) (w : World) (K : PySem.W.Frag) (mg : Str → Option Value) (base : Heap) (C : Addr) (fI : Addr) (fdI : FuncData) : Prop where
  m : Mk K C fI
  ok : FnOk P w K mg base CX0 4 fI fdI ["self", "size", "letters"] (spInit C)
  b : Binds K fdI ["self", "size", "letters"] []
end Lw
/-! N. What can be done at an index. -/
namespace LwM
def lst (l : List Int) : Int := l.getLast?.getD 0
def fst (l : List Int) : Int := l.head?.getD 0
def upL (i : Int) (l : List Int) : List Int := l.set (lst (lows i l)).toNat (i + 1)
def dnL (i : Int) (l : List Int) : List Int := l.set (fst (highs i l)).toNat i
theorem lst_app (l r : List Int) (h : r ≠ []) : lst (l ++ r) = lst r := by
  unfold lst
  rw [List.getLast?_append]
  cases r with
  | nil => exact absurd rfl h
  | cons a r =>
    rw [List.getLast?_eq_some_getLast (List.cons_ne_nil a r)]
    rfl
theorem lst_mem {l : List Int} (h : l ≠ []) : lst l ∈ l := by
  cases l with
  | nil => exact absurd rfl h
  | cons a r =>
    unfold lst
    rw [List.getLast?_eq_some_getLast (List.cons_ne_nil a r)]
    exact List.getLast_mem _
theorem lst_snoc {l : List Int} (h : l ≠ []) : ∃ r, l = r ++ [lst l] := by
  refine ⟨l.dropLast, ?_⟩
  unfold lst
  rw [List.getLast?_eq_some_getLast h]
  exact (List.dropLast_concat_getLast h).symm
theorem fst_mem {l : List Int} (h : l ≠ []) : fst l ∈ l := by
  cases l with
  | nil => exact absurd rfl h
  | cons a r => exact List.mem_cons_self ..
end LwM
namespace Lw
open PySem L2 LwE LwM
section
variable {P : Program} {w : World} {K : PySem.W.Frag} {mg : Str → Option Value} {base : Heap}
def spSpare (C : Addr) : Sp := fun vs H Q _ => ∃ (a : Addr) (i size : Int) (ls : List Int), vs = [.ref a, .int i] ∧ WAt C H a size ls ∧ 1 ≤ i ∧ i ≤ size - 1 ∧
  ∀ (p b c : Addr) H', Same H H' → H' p = some (.tup [.ref b, .ref c]) → H' b = some (.tup (nums (lows i ls))) → H' c = some (.tup (nums (highs i ls))) → Q (.ref p) H'
theorem scSpare : FnScope ["self", "i", "pairs", "lows", "highs"] ["self", "i"] (defScope sSpare) := ⟨rfl, rfl, rfl, by decide +kernel, rfl, by decide +kernel, by decide +kernel⟩
theorem ok_spare {f f1 f2 C : Addr} {fd fd1 fd2 : FuncData} (B : Bare mg) (T : Cw K mg C) (F : Fun K "spare" "Word.spare" sSpare f fd) (F1 : Df K mg "check_index" sCkIndex f1 fd1) (b1 : Binds K fd1 ["size", "i"] [])
    (G1 : FnOk P w K mg base CX0 3 f1 fd1 ["size", "i"] spCkIndex) (F2 : Df K mg "bracketed" sBrack f2 fd2) (b2 : Binds K fd2 ["letters", "i"] []) (G2 : FnOk P w K mg base CX0 1 f2 fd2 ["letters", "i"] spBrack) :
    FnOk P w K mg base CX0 4 f fd ["self", "i"] (spSpare C) := by
  refine F.ok scSpare (fun vs H Q E h => ?_) (fun cdv A outer s H vs Q E hr h => ?_)
  · obtain ⟨a, i, size, ls, rfl, _⟩ := h
    rfl
  · obtain ⟨a, i, size, ls, rfl, W, i0, i1, k⟩ := h
    obtain ⟨dx, t, h1, h2⟩ := W.ob
    have hr1 : Room 1 _ := hr.mono (by decide)
    refine ⟨_, pss_cons (ps_expr (pe_call G1 hr (by rfl) F1.g F1.fn.kp b1 .nil pass0 (pa_cons (pe_fld (pv 0) rfl) (pa_cons (pv 1) pa_nil))))
      (pss_cons (ps_asg (pe_call G2 hr1 (by rfl) F2.g F2.fn.kp b2 .nil pass0 (pa_cons (pe_fld (pv 0) rfl) (pa_cons (pv 1) pa_nil)))
        (pg_tup rfl (pgs_cons (pg_name (i := 2) scSpare.nd rfl (Or.inl rfl)) (pgs_cons (pg_name (i := 3) scSpare.nd rfl (Or.inl rfl)) (pgs_cons (pg_name (i := 4) scSpare.nd rfl (Or.inl rfl)) pgs_nil)))))
      (pss_one (ps_ret (pe_tup (pa_cons (pe_callTy call_tuple_of (by rfl) B.tuple (by decide +kernel) (pa_cons (pv 3) pa_nil)) (pa_cons (pe_callTy call_tuple_of (by rfl) B.tuple (by decide +kernel) (pa_cons (pv 4) pa_nil)) pa_nil)))))), ?_⟩
    refine ⟨_, rfl, a, C, dx, _, _, rfl, h1, T.cl, T.nS, wf_size _ _, _, rfl, size, i, rfl, i0, i1, ?_⟩
    refine ⟨_, rfl, a, C, dx, _, _, rfl, h1, T.cl, T.nL, wf_letters _ _, _, rfl, t, i, ls, rfl, .inr h2, by have := W.ls.len; omega, fun p x b c ps H1 s1 e1 e2 e3 e4 => ?_⟩
    refine ⟨p, _, rfl, SqT.of e1, rfl, _, _, rfl, _, _, rfl, _, _, rfl, rfl, ?_⟩
    refine ⟨_, rfl, b, _, rfl, .inl ⟨SqL.of e3, fun u hu => ?_⟩⟩
    have s2 := same_new (o := .tup (nums (lows i ls))) hu
    refine ⟨_, rfl, c, _, rfl, .inl ⟨SqL.of (s2 _ _ e4), fun v hv => ?_⟩⟩
    have s3 := same_new (o := .tup (nums (highs i ls))) hv
    refine ⟨(by show 2 ≤ sizeLine; decide), fun q hq => ?_⟩
    have s4 := same_new (o := .tup [.ref u, .ref v]) hq
    exact k q u v _ (((s1.trans s2).trans s3).trans s4) upd_same (s4 _ _ (s3 _ _ upd_same)) (s4 _ _ upd_same)
/-! how often -/
structure Sp_ (P : Program) (w : World) (K : PySem.W.Frag) (mg : Str → Option Value) (base : Heap) (C : Addr) (f : Addr) (fd : FuncData) : Prop where
  m : Meth K C "spare" f
  ok : FnOk P w K mg base CX0 4 f fd ["self", "i"] (spSpare C)
  b : Binds K fd ["self", "i"] []
def spUps (C : Addr) : Sp := fun vs H Q _ => ∃ (a : Addr) (i size : Int) (ls : List Int), vs = [.ref a, .int i] ∧ WAt C H a size ls ∧ 1 ≤ i ∧ i ≤ size - 1 ∧ ∀ H', Same H H' → Q (.int (up i ls : Nat)) H'
def spDowns (C : Addr) : Sp := fun vs H Q _ => ∃ (a : Addr) (i size : Int) (ls : List Int), vs = [.ref a, .int i] ∧ WAt C H a size ls ∧ 1 ≤ i ∧ i ≤ size - 1 ∧ ∀ H', Same H H' → Q (.int (dn i ls : Nat)) H'
theorem no_spare (t : Addr) (z : Int) : (wf t z).lookup ("spare" : Str) = none := wf_no t z (by decide +kernel) (by decide +kernel)
theorem scUps : FnScope ["self", "i"] ["self", "i"] (defScope sUps) := ⟨rfl, rfl, rfl, by decide +kernel, rfl, by decide +kernel, by decide +kernel⟩
theorem ok_ups {f fS C : Addr} {fd fdS : FuncData} (B : Bare mg) (T : Cw K mg C) (F : Fun K "ups" "Word.ups" sUps f fd) (S : Sp_ P w K mg base C fS fdS) : FnOk P w K mg base CX0 5 f fd ["self", "i"] (spUps C) := by
  refine F.ok scUps (fun vs H Q E h => ?_) (fun cdv A outer s H vs Q E hr h => ?_)
  · obtain ⟨a, i, size, ls, rfl, _⟩ := h
    rfl
  · obtain ⟨a, i, size, ls, rfl, W, i0, i1, k⟩ := h
    obtain ⟨dx, t, h1, h2⟩ := W.ob
    refine ⟨_, pss_one (ps_ret (pe_callB call_len_seq (by rfl) B.len PySem.boot_len (pa_cons (pe_ix ix_tup (pe_meth (pv 0) T.cl S.m S.ok hr S.b .nil pass0 (pa_cons (pv 1) pa_nil)) pe_int (fun _ _ => rfl)) pa_nil))), ?_⟩
    refine ⟨_, rfl, a, dx, _, rfl, h1, no_spare _ _, _, rfl, a, i, size, ls, rfl, W, i0, i1, fun p b c H1 s1 e1 e2 e3 => ?_⟩
    refine ⟨p, _, _, _, rfl, rfl, SqT.of e1, at_of (j := 0) rfl rfl, b, _, rfl, .inr (SqT.of e2), ?_⟩
    rw [List.length_map]
    exact k H1 s1
theorem scDowns : FnScope ["self", "i"] ["self", "i"] (defScope sDowns) := ⟨rfl, rfl, rfl, by decide +kernel, rfl, by decide +kernel, by decide +kernel⟩
theorem ok_downs {f fS C : Addr} {fd fdS : FuncData} (B : Bare mg) (T : Cw K mg C) (F : Fun K "downs" "Word.downs" sDowns f fd) (S : Sp_ P w K mg base C fS fdS) : FnOk P w K mg base CX0 5 f fd ["self", "i"] (spDowns C) := by
  refine F.ok scDowns (fun vs H Q E h => ?_) (fun cdv A outer s H vs Q E hr h => ?_)
  · obtain ⟨a, i, size, ls, rfl, _⟩ := h
    rfl
  · obtain ⟨a, i, size, ls, rfl, W, i0, i1, k⟩ := h
    obtain ⟨dx, t, h1, h2⟩ := W.ob
    refine ⟨_, pss_one (ps_ret (pe_callB call_len_seq (by rfl) B.len PySem.boot_len (pa_cons (pe_ix ix_tup (pe_meth (pv 0) T.cl S.m S.ok hr S.b .nil pass0 (pa_cons (pv 1) pa_nil)) pe_int (fun _ _ => rfl)) pa_nil))), ?_⟩
    refine ⟨_, rfl, a, dx, _, rfl, h1, no_spare _ _, _, rfl, a, i, size, ls, rfl, W, i0, i1, fun p b c H1 s1 e1 e2 e3 => ?_⟩
    refine ⟨p, _, _, _, rfl, rfl, SqT.of e1, at_of (j := 1) rfl rfl, c, _, rfl, .inr (SqT.of e3), ?_⟩
    rw [List.length_map]
    exact k H1 s1
end
end Lw
/-! V. Neighbors taken out, in plain lists. -/
namespace LwM
/-- the letter at a place -/
def val (ls : List Int) (p : Int) : Int := ls[p.toNat]?.getD 0
/-- places read one after another -/
def gp (i : Int) (f : Int → Int) : List Int × List Int → List Int → List Int × List Int
  | s, [] => s
  | s, p :: r => gp i f (stp i s p (f p)) r
theorem gp_app (i : Int) (f : Int → Int) : ∀ (A B : List Int) (s : List Int × List Int), gp i f s (A ++ B) = gp i f (gp i f s A) B
  | [], B, s => rfl
  | p :: A, B, s => gp_app i f A B _
theorem go_gp (i : Int) (f : Int → Int) : ∀ (l : List Int) (s : List Int × List Int) (k : Int), (∀ (j : Nat) x, l[j]? = some x → f (k + j) = x) → go i s k l = gp i f s ((List.range l.length).map fun j => k + (j : Nat))
  | [], s, k, h => rfl
  | x :: l, s, k, h => by
    have h0 : f k = x := by
      have := h 0 x rfl
      simpa using this
    have ih := go_gp i f l (stp i s k x) (k + 1) fun j y hy => by
      have := h (j + 1) y (by simpa using hy)
      rw [← this]
      congr 1
      omega
    show go i (stp i s k x) (k + 1) l = _
    rw [ih, List.length_cons, List.range_succ_eq_map, List.map_cons, List.map_map]
    show _ = gp i f (stp i s (k + ((0 : Nat) : Int)) (f (k + ((0 : Nat) : Int)))) _
    have e0 : k + ((0 : Nat) : Int) = k := by omega
    rw [e0, h0]
    congr 1
    apply List.map_congr_left
    intro j _
    show k + 1 + (j : Int) = k + ((Nat.succ j : Nat) : Int)
    omega
/-- what is passed over changes nothing -/
theorem gp_filter (i : Int) (f : Int → Int) : ∀ (A : List Int) (s : List Int × List Int), gp i f s (A.filter fun p => decide (f p = i ∨ f p = i + 1)) = gp i f s A
  | [], s => rfl
  | p :: A, s => by
    rw [List.filter_cons]
    by_cases h : f p = i ∨ f p = i + 1
    · rw [if_pos (by simpa using h)]
      exact gp_filter i f A _
    · rw [if_neg (by simpa using h)]
      show gp i f s _ = gp i f (stp i s p (f p)) A
      have e : stp i s p (f p) = s := by
        unfold stp
        rw [if_neg (fun z => h (.inr z)), if_neg (fun z => h (.inl z))]
      rw [e]
      exact gp_filter i f A s
/-- a pair of neighbors changes nothing -/
theorem gp_pair (i : Int) (f : Int → Int) (A B : List Int) (s : List Int × List Int) {p q : Int} (hp : f p = i + 1) (hq : f q = i) : gp i f s (A ++ p :: q :: B) = gp i f s (A ++ B) := by
  rw [gp_app, gp_app]
  show gp i f (stp i (stp i _ p (f p)) q (f q)) B = _
  generalize gp i f s A = t
  congr 1
  rw [hp, hq]
  unfold stp
  rw [if_pos rfl, if_neg (by omega), if_pos rfl]
  simp
theorem gp_ups (i : Int) (f : Int → Int) : ∀ (B : List Int) (L W : List Int), (∀ p ∈ B, f p = i + 1) → gp i f (L, W) B = (L, W ++ B)
  | [], L, W, _ => by simp [gp]
  | p :: B, L, W, h => by
    show gp i f (stp i (L, W) p (f p)) B = _
    have e : stp i (L, W) p (f p) = (L, W ++ [p]) := by
      unfold stp
      rw [if_pos (h p (List.mem_cons_self ..))]
    rw [e, gp_ups i f B L _ fun q hq => h q (List.mem_cons_of_mem _ hq)]
    simp
/-- no i + 1 stands right ahead of an i -/
def NoAdj (i : Int) (f : Int → Int) (A : List Int) : Prop := ∀ (j : Nat) a b, A[j]? = some a → A[j + 1]? = some b → ¬ (f a = i + 1 ∧ f b = i)
theorem NoAdj.tail {i : Int} {f : Int → Int} {p : Int} {A : List Int} (h : NoAdj i f (p :: A)) : NoAdj i f A := fun j a b ha hb => h (j + 1) a b (by simpa using ha) (by simpa using hb)
theorem NoAdj.all {i : Int} {f : Int → Int} : ∀ {A : List Int} {p : Int}, NoAdj i f (p :: A) → f p = i + 1 → (∀ q ∈ A, f q = i ∨ f q = i + 1) → ∀ q ∈ A, f q = i + 1
  | [], _, _, _, _, q, hq => by simp at hq
  | a :: A, p, h, hp, hA, q, hq => by
    have ha : f a = i + 1 := by
      rcases hA a (List.mem_cons_self ..) with z | z
      · exact absurd ⟨hp, z⟩ (h 0 p a rfl rfl)
      · exact z
    rcases List.mem_cons.mp hq with z | z
    · rw [z]
      exact ha
    · exact NoAdj.all h.tail ha (fun q hq => hA q (List.mem_cons_of_mem _ hq)) q z
theorem gp_end (i : Int) (f : Int → Int) : ∀ (A L : List Int), (∀ p ∈ A, f p = i ∨ f p = i + 1) → NoAdj i f A →
    gp i f (L, []) A = (L ++ A.filter (fun p => decide (f p = i)), A.filter fun p => decide (f p = i + 1))
  | [], L, _, _ => by simp [gp]
  | p :: A, L, h, hn => by
    have hA : ∀ q ∈ A, f q = i ∨ f q = i + 1 := fun q hq => h q (List.mem_cons_of_mem _ hq)
    rcases h p (List.mem_cons_self ..) with z | z
    · show gp i f (stp i (L, []) p (f p)) A = _
      have e : stp i (L, []) p (f p) = (L ++ [p], []) := by
        unfold stp
        rw [if_neg (by omega), if_pos z]
        simp
      rw [e, gp_end i f A _ hA hn.tail, List.filter_cons, List.filter_cons, if_pos (by simpa using z), if_neg (by simp; omega)]
      simp
    · have hall := NoAdj.all hn z hA
      have e1 := gp_ups i f (p :: A) L [] (fun q hq => by
        rcases List.mem_cons.mp hq with y | y
        · rw [y]
          exact z
        · exact hall q y)
      rw [e1]
      have e2 : (p :: A).filter (fun q => decide (f q = i)) = [] := by
        rw [List.filter_eq_nil_iff]
        intro q hq
        rcases List.mem_cons.mp hq with y | y
        · rw [y]
          simp
          omega
        · have := hall q y
          simp
          omega
      have e3 : (p :: A).filter (fun q => decide (f q = i + 1)) = p :: A := by
        rw [List.filter_eq_self]
        intro q hq
        rcases List.mem_cons.mp hq with y | y
        · rw [y]
          simpa using z
        · simpa using hall q y
      rw [e2, e3]
      simp
/-- the first places that hold i or i + 1 -/
def plc (i : Int) (ls : List Int) (n : Nat) : List Int := ((List.range n).map fun j => ((j : Nat) : Int)).filter fun p => decide (val ls p = i ∨ val ls p = i + 1)
theorem plc_succ (i : Int) (ls : List Int) (n : Nat) : plc i ls (n + 1) = plc i ls n ++ (if val ls (n : Nat) = i ∨ val ls (n : Nat) = i + 1 then [((n : Nat) : Int)] else []) := by
  unfold plc
  rw [List.range_succ, List.map_append, List.filter_append]
  congr 1
  simp only [List.map_cons, List.map_nil, List.filter_cons, List.filter_nil, decide_eq_true_eq]
theorem br_plc (i : Int) (ls : List Int) : br i ls = gp i (val ls) ([], []) (plc i ls ls.length) := by
  unfold plc
  rw [gp_filter]
  have h := go_gp i (val ls) ls ([], []) 0 fun j x hx => by
    unfold val
    have e : (0 + (j : Int)).toNat = j := by omega
    rw [e, hx]
    rfl
  unfold br
  rw [h]
  congr 1
  apply List.map_congr_left
  intro j _
  omega
/-- the word of the loop that takes neighbors out -/
structure Out (i : Int) (ls rest : List Int) (at_ : Nat) : Prop where
  br : gp i (val ls) ([], []) rest = br i ls
  two : ∀ p ∈ rest, val ls p = i ∨ val ls p = i + 1
  bd : ∀ p ∈ rest, 0 ≤ p ∧ p < ls.length
  far : ∀ (j : Nat) a b, j < at_ → rest[j]? = some a → rest[j + 1]? = some b → ¬ (val ls a = i + 1 ∧ val ls b = i)
  len : rest.length ≤ ls.length
theorem Out.start (i : Int) (ls : List Int) : Out i ls (plc i ls ls.length) 0 where
  br := (br_plc i ls).symm
  two := fun p hp => by
    have := (List.mem_filter.mp hp).2
    simpa using this
  bd := fun p hp => by
    obtain ⟨j, hj, rfl⟩ := List.mem_map.mp (List.mem_filter.mp hp).1
    have := List.mem_range.mp hj
    omega
  far := fun j a b h => absurd h (Nat.not_lt_zero j)
  len := by
    unfold plc
    refine Nat.le_trans (List.length_filter_le _ _) ?_
    rw [List.length_map, List.length_range]
    exact Nat.le_refl _
theorem Out.pass {i : Int} {ls rest : List Int} {n : Nat} (o : Out i ls rest n) {a b : Int} (ha : rest[n]? = some a) (hb : rest[n + 1]? = some b) (h : ¬ (val ls a = i + 1 ∧ val ls b = i)) : Out i ls rest (n + 1) :=
  ⟨o.br, o.two, o.bd, fun j x y hj hx hy => by
    rcases Nat.lt_or_ge j n with z | z
    · exact o.far j x y z hx hy
    · have e : j = n := by omega
      subst e
      rw [ha] at hx
      rw [hb] at hy
      cases hx
      cases hy
      exact h, o.len⟩
theorem split_at {rest : List Int} {n : Nat} {a b : Int} (ha : rest[n]? = some a) (hb : rest[n + 1]? = some b) : rest = rest.take n ++ a :: b :: rest.drop (n + 2) := by
  obtain ⟨h1, e1⟩ := List.getElem?_eq_some_iff.mp ha
  obtain ⟨h2, e2⟩ := List.getElem?_eq_some_iff.mp hb
  have := List.take_append_drop n rest
  rw [List.drop_eq_getElem_cons h1, List.drop_eq_getElem_cons h2, e1, e2] at this
  exact this.symm
theorem Out.take {i : Int} {ls rest : List Int} {n : Nat} (o : Out i ls rest n) {a b : Int} (ha : rest[n]? = some a) (hb : rest[n + 1]? = some b) (h1 : val ls a = i + 1) (h2 : val ls b = i) :
    Out i ls (rest.take n ++ rest.drop (n + 2)) (n - 1) := by
  have e := split_at ha hb
  have hlen : (rest.take n ++ rest.drop (n + 2)).length + 2 = rest.length := by
    have := congrArg List.length e
    rw [List.length_append, List.length_cons, List.length_cons] at this
    rw [List.length_append]
    omega
  have sub : ∀ p, p ∈ rest.take n ++ rest.drop (n + 2) → p ∈ rest := fun p hp => by
    rcases List.mem_append.mp hp with z | z
    · exact List.mem_of_mem_take z
    · exact List.mem_of_mem_drop z
  refine ⟨?_, fun p hp => o.two p (sub p hp), fun p hp => o.bd p (sub p hp), fun j x y hj hx hy => ?_, by have := o.len; omega⟩
  · rw [← o.br]
    conv => rhs; rw [e]
    exact (gp_pair i (val ls) _ _ _ h1 h2).symm
  · have hn : n < rest.length := (List.getElem?_eq_some_iff.mp ha).1
    have lt1 : j < (rest.take n).length := by
      rw [List.length_take]
      omega
    have lt2 : j + 1 < (rest.take n).length := by
      rw [List.length_take]
      omega
    rw [List.getElem?_append_left lt1, List.getElem?_take_of_lt (by omega)] at hx
    rw [List.getElem?_append_left lt2, List.getElem?_take_of_lt (by omega)] at hy
    exact o.far j x y (by omega) hx hy
theorem Out.done {i : Int} {ls rest : List Int} {n : Nat} (o : Out i ls rest n) (h : rest.length ≤ n + 1) : lows i ls = rest.filter (fun p => decide (val ls p = i)) ∧ highs i ls = rest.filter (fun p => decide (val ls p = i + 1)) := by
  have hn : NoAdj i (val ls) rest := fun j a b ha hb => by
    have := (List.getElem?_eq_some_iff.mp hb).1
    exact o.far j a b (by omega) ha hb
  have e := gp_end i (val ls) rest [] o.two hn
  rw [o.br] at e
  unfold lows highs
  rw [e]
  exact ⟨List.nil_append _, rfl⟩
end LwM
/-! W. The law's own brackets: neighbors taken out. -/
namespace LwE
open PySem PySem.Spec PyProof.Rows L2
/-- a comprehension over enumerate(list) -/
theorem lc_enL {K : PySem.W.Frag} {a : Addr} {xs : List V} {g : TG} {tt : TT} {te : TE} {vs : List Nat} {σ : L2.St} {H1 : Hp} {D : Addr} {Qd : Hp → Prop} (Pv : Nat → Hp → Prop) (h0 : Pv 0 (upd H1 D (.lst []))) (hl : ∀ i H, i ≤ xs.length → Pv i H → SqL K H a xs)
    (hs : ∀ i x T H, xs[i]? = some x → Pv i H → H T = none → g (.ref T) (wipe σ vs) (upd H T (.tup [.int (i : Nat), x])) fun σ2 H2 => wipe σ2 vs = wipe σ vs ∧ tt σ2 H2 fun b H3 =>
      if b = true then te σ2 H3 fun y H4 => ∃ acc, H4 D = some (.lst acc) ∧ acc.length < sizeLine ∧ Pv (i + 1) (upd H4 D (.lst (acc ++ [y]))) else Pv (i + 1) H3) (hd : ∀ H, Pv xs.length H → Qd H) :
    ∃ W : Nat → Nat → Hp → Prop, (∃ m, W 0 m (upd H1 D (.lst []))) ∧ ∀ i m H, W i m H →
      ((Ite K a).stop i H ∧ Qd H) ∨ ((Ite K a).go i H ∧ ∃ Nx : Hp → Prop, (∀ H', Nx H' → ∃ m', m' < m ∧ W (i + 1) m' H') ∧ ∀ x H', (Ite K a).yld i H x H' → g x (wipe σ vs) H' fun σ2 H2 => wipe σ2 vs = wipe σ vs ∧ tt σ2 H2 fun b H3 =>
        if b = true then te σ2 H3 fun y H4 => ∃ acc, H4 D = some (.lst acc) ∧ acc.length < sizeLine ∧ Nx (upd H4 D (.lst (acc ++ [y]))) else Nx H3) := by
  refine ⟨fun i m H => m = xs.length - i ∧ i ≤ xs.length ∧ Pv i H, ⟨xs.length, by simp, Nat.zero_le _, h0⟩, ?_⟩
  intro i m H hW
  obtain ⟨rfl, hi, p⟩ := hW
  have q := hl i H hi p
  by_cases hlt : i < xs.length
  · refine .inr ⟨⟨xs, xs[i], q, by simp [hlt]⟩, Pv (i + 1), fun H' p' => ⟨xs.length - (i + 1), by omega, rfl, hlt, p'⟩, fun x H' y => ?_⟩
    obtain ⟨T, v, rfl, hT, rfl, y2⟩ := y
    exact hs i v T H (y2 xs q) p hT
  · obtain rfl : i = xs.length := by omega
    exact .inl ⟨⟨xs, q, Nat.le_refl _⟩, hd H p⟩
end LwE
namespace Lw
open PySem L2 LwE LwM
theorem inV2 (z a b : Int) : inV (.int z) [.int a, .int b] = decide (z = a ∨ z = b) := by
  show ((a == z) || ((b == z) || false)) = decide (z = a ∨ z = b)
  rw [Bool.or_false, Bool.eq_iff_iff]
  simp only [Bool.or_eq_true, beq_iff_eq, decide_eq_true_eq]
  omega
theorem val_at {ls : List Int} {j : Nat} {z : Int} (h : ls[j]? = some z) : val ls (j : Nat) = z := by
  unfold val
  rw [Int.toNat_natCast, h]
  rfl
theorem val_get {ls : List Int} {p : Int} (h0 : 0 ≤ p) (h1 : p < ls.length) : atI (nums ls) p = some (.int (val ls p)) := by
  have hl : p.toNat < ls.length := by omega
  have e : ls[p.toNat]? = some ls[p.toNat] := List.getElem?_eq_getElem hl
  refine at_of (j := p.toNat) (by omega) ?_
  rw [List.getElem?_map, e]
  unfold val
  rw [e]
  rfl
theorem filt_snoc {l : List Int} {j : Nat} {x : Int} (h : l[j]? = some x) (p : Int → Bool) : (l.take (j + 1)).filter p = (l.take j).filter p ++ (if p x = true then [x] else []) := by
  rw [List.take_succ, h, List.filter_append]
  congr 1
  show List.filter p [x] = _
  rw [List.filter_cons, List.filter_nil]
/-- how long the list in a place is; the number in a place -/
def lenAt (k : Nat) (σ : List (Option V)) (H : Hp) : Nat := match (σ[k]? : Option (Option V)) with
  | some (some (V.ref q)) => (match H q with
    | some (HO.lst xs) => xs.length
    | _ => 0)
  | _ => 0
def intAt (k : Nat) (σ : List (Option V)) : Nat := match (σ[k]? : Option (Option V)) with
  | some (some (V.int z)) => z.toNat
  | _ => 0
section
variable {P : Program} {w : World} {K : PySem.W.Frag} {mg : Str → Option Value} {base : Heap}
/-- a list of pairs of numbers -/
def PairL (H : Hp) (p : Addr) (n : Nat) : Prop := ∃ ps, H p = some (.lst ps) ∧ ps.length ≤ n ∧ ∀ x ∈ ps, ∃ t i j, x = V.ref t ∧ H t = some (.tup [.int i, .int j])
theorem PairL.same {H H' : Hp} {p : Addr} {n : Nat} (h : PairL H p n) (s : Same H H') : PairL H' p n := by
  obtain ⟨ps, h1, h2, h3⟩ := h
  exact ⟨ps, s _ _ h1, h2, fun x hx => let ⟨t, i, j, e1, e2⟩ := h3 x hx; ⟨t, i, j, e1, s _ _ e2⟩⟩
def spLeft : Sp := fun vs H Q _ => ∃ (a : Addr) (i : Int) (ls : List Int), vs = [.ref a, .int i] ∧ H a = some (.lst (nums ls)) ∧ ls.length ≤ 100 ∧
  ∀ (q r lo hi : Addr) (ps : List V) (H' : Hp), Same H H' → H' q = some (.lst [.ref r, .ref lo, .ref hi]) → H' r = some (.lst ps) → H' lo = some (.lst (nums (lows i ls))) → H' hi = some (.lst (nums (highs i ls))) → Q (.ref q) H'
theorem scLeft : FnScope ["letters", "i", "rest", "pairs", "at", "lows", "place", "letter"] ["letters", "i"] (defScope sLeft) := ⟨rfl, rfl, rfl, by decide +kernel, rfl, by decide +kernel, by decide +kernel⟩
theorem ok_left {f : Addr} {fd : FuncData} (B : Bare mg) (F : Df K mg "_law_left" sLeft f fd) : FnOk P w K mg base CX0 1 f fd ["letters", "i"] spLeft := by
  refine F.fn.ok scLeft (fun vs H Q E h => ?_) (fun cdv A outer s H vs Q E hr h => ?_)
  · obtain ⟨a, i, ls, rfl, _⟩ := h
    rfl
  · obtain ⟨a, i, ls, rfl, ha, hlen, k⟩ := h
    refine ⟨_, pss_cons (ps_setLc (i := 2) (own := [("place", 6), ("letter", 7)]) (g := gTup K 2 (gCons (gName 6) (gCons (gName 7) gNil)))
        (tt := tTest (tOp (rIn K false) (tVar 7) (tTup (tCons (tVar 1) (tCons (tOp (rI0 fun i j => .int (i + j)) (tVar 1) (tC (.int 1))) tNil))))) rfl scLeft.nd rfl rfl (sw_true rfl rfl rfl (by decide +kernel)) (pi_enum (by rfl) B.enumerate (pa_cons (pv 0) pa_nil))
        (blkOk_by (N := ["letters", "i", "rest", "pairs", "at", "lows", "place", "letter"]) (sc := defScope sLeft) (by decide +kernel))
        (fun _ _ _ _ _ => pg_tup rfl (pgs_cons (pg_name (i := 6) scLeft.nd rfl (Or.inl rfl)) (pgs_cons (pg_name (i := 7) scLeft.nd rfl (Or.inl rfl)) pgs_nil)))
        (fun _ _ _ _ _ => pts_one (pt_cmpR op_in_seq (pv 7) (pe_tup (pa_cons (pv 1) (pa_cons (pe_op op_add (pv 1) pe_int) pa_nil))) (by rfl))) (fun _ _ _ _ _ => pv 6))
      (pss_cons (ps_par (i := 3) (j := 4) (by rfl) scLeft.nd rfl rfl (by decide) rfl rfl (pa_cons (pe_lst pa_nil) (pa_cons pe_int pa_nil)) (by rfl))
      (pss_cons (ps_while PassesOwn.never (pt_cmpR op_lt (pe_op op_add (pv 4) pe_int) (pe_callB call_len_seq (by rfl) B.len PySem.boot_len (pa_cons (pv 2) pa_nil)) (nomark _))
        (pss_one (ps_if (PW.pt (pw_and (pt_cmpR op_eq (pe_ix ix_list (pv 0) (pe_ix ix_list (pv 2) (pv 4) (fun _ _ => rfl)) (fun _ _ => rfl)) (pe_op op_add (pv 1) pe_int) (nomark _))
            (pw_and1 (pt_cmpR op_eq (pe_ix ix_list (pv 0) (pe_ix ix_list (pv 2) (pe_op op_add (pv 4) pe_int) (fun _ _ => rfl)) (fun _ _ => rfl)) (pv 1) (nomark _)))))
          (pss_cons (ps_expr (pe_bm PySem.F.plainAttrs_list PySem.F.slot_list_append PySem.F.type_list_append mt_append (pv 3) (pa_cons (pe_tup (pa_cons (pe_ix ix_list (pv 2) (pv 4) (fun _ _ => rfl)) (pa_cons (pe_ix ix_list (pv 2) (pe_op op_add (pv 4) pe_int) (fun _ _ => rfl)) pa_nil))) pa_nil)))
          (pss_cons (ps_set (i := 2) scLeft.nd rfl (Or.inl rfl) (pe_op op_cat (pe_slice sl_list (pv 2) po_none (po_some (pv 4))) (pe_slice sl_list (pv 2) (po_some (pe_op op_add (pv 4) pe_int)) po_none)))
          (pss_one (ps_set (i := 4) scLeft.nd rfl (Or.inl rfl) (pe_callB (call_max2 rfl) (by rfl) B.max (by decide +kernel) (pa_cons pe_int (pa_cons (pe_op op_sub (pv 4) pe_int) pa_nil)))))))
          (pss_one (ps_set (i := 4) scLeft.nd rfl (Or.inl rfl) (pe_op op_add (pv 4) pe_int))))))
      (pss_cons (ps_setLc (i := 5) (own := [("place", 6)]) (g := gName 6) (tt := tTest (tOp rEq (tOp (rIxL K) (tVar 0) (tVar 6)) (tVar 1))) rfl scLeft.nd rfl rfl (sw_true rfl rfl rfl (by decide +kernel)) (pi_list (pv 2))
        (blkOk_by (N := ["letters", "i", "rest", "pairs", "at", "lows", "place", "letter"]) (sc := defScope sLeft) (by decide +kernel))
        (fun _ _ _ _ _ => pg_name (i := 6) scLeft.nd rfl (Or.inl rfl)) (fun _ _ _ _ _ => pts_one (pt_cmpR op_eq (pe_ix ix_list (pv 0) (pv 6) (fun _ _ => rfl)) (pv 1) (nomark _))) (fun _ _ _ _ _ => pv 6))
      (pss_one (ps_ret (pe_lst (pa_cons (pe_callB cr_sortedP (by rfl) B.sorted (by decide +kernel) (pa_cons (pv 3) pa_nil)) (pa_cons (pv 5) (pa_cons
        (pe_lc (own := [("place", 6)]) (g := gName 6) (tt := tTest (tOp rEq (tOp (rIxL K) (tVar 0) (tVar 6)) (tOp (rI0 fun i j => .int (i + j)) (tVar 1) (tC (.int 1))))) rfl scLeft.nd (pi_list (pv 2)) (blkOk_by (N := ["letters", "i", "rest", "pairs", "at", "lows", "place", "letter"]) (sc := defScope sLeft) (by decide +kernel))
          (fun _ _ _ _ _ => pg_name (i := 6) scLeft.nd rfl (Or.inl rfl)) (fun _ _ _ _ _ => pts_one (pt_cmpR op_eq (pe_ix ix_list (pv 0) (pv 6) (fun _ _ => rfl)) (pe_op op_add (pv 1) pe_int) (nomark _))) (fun _ _ _ _ _ => pv 6)) pa_nil)))))))))
      , ?_⟩
    refine ⟨_, rfl, a, _, rfl, SqL.of ha, fun D hD => ?_⟩
    have s0 : Same H (upd H D (.lst [])) := same_new hD
    refine lc_enL (K := K) (a := a) (xs := nums ls) (fun j H' => Same H H' ∧ H' D = some (.lst (nums (plc i ls j)))) ⟨s0, by rw [upd_same]; rfl⟩ (fun j H' _ ⟨s1, _⟩ => SqL.of (s1 _ _ ha)) ?_ ?_
    · rintro j x T H' hx ⟨s1, e1⟩ hT
      obtain ⟨z, rfl, hz, _⟩ := nums_get hx
      have hj : j < ls.length := (List.getElem?_eq_some_iff.mp hz).1
      have s2 : Same H' (upd H' T (.tup [.int (j : Nat), .int z])) := same_new hT
      have eT : (upd H' T (.tup [.int (j : Nat), .int z])) T = some (.tup [.int (j : Nat), .int z]) := upd_same
      generalize upd H' T (.tup [.int (j : Nat), .int z]) = H2 at s2 eT ⊢
      have e2 := s2 _ _ e1
      refine ⟨T, _, rfl, SqT.of eT, rfl, _, _, rfl, _, _, rfl, rfl, rfl, ?_⟩
      refine ⟨_, rfl, _, rfl, _, rfl, _, _, rfl, rfl, (by show 2 ≤ sizeLine; decide), fun T2 hT2 => ?_⟩
      refine ⟨T2, _, rfl, .inr (SqT.of upd_same), rfl, rfl, _, rfl, ?_⟩
      have e3 := same_new (o := .tup [.int i, .int (i + 1)]) hT2 _ _ e2
      have s3 : Same H (upd H2 T2 (.tup [.int i, .int (i + 1)])) := (s1.trans s2).trans (same_new hT2)
      generalize upd H2 T2 (.tup [.int i, .int (i + 1)]) = H3 at s3 e3 ⊢
      rw [if_neg Bool.false_ne_true, inV2]
      have ep := plc_succ i ls j
      rw [val_at hz] at ep
      refine ite2 (fun hc => ?_) (fun hc => ?_)
      · rw [if_pos (of_decide_eq_true hc)] at ep
        refine ⟨_, rfl, _, e3, ?_, ?_, ?_⟩
        · rw [List.length_map]
          refine small1000 ?_
          have := List.length_filter_le (fun p => decide (val ls p = i ∨ val ls p = i + 1)) ((List.range j).map fun j => ((j : Nat) : Int))
          rw [List.length_map, List.length_range] at this
          show (plc i ls j).length ≤ 1000
          unfold plc
          omega
        · exact fun b o e => by
            rw [upd_ne (ne_of_none e hD)]
            exact s3 _ _ e
        · rw [upd_same, ep]
          simp [nums]
      · rw [if_neg (fun z => hc (decide_eq_true z)), List.append_nil] at ep
        exact ⟨s3, by rw [ep]; exact e3⟩
    · rintro H1 ⟨s1, e1⟩
      rw [List.length_map] at e1
      refine ⟨Nat.zero_le _, fun pr hpr => ⟨_, _, rfl, ?_⟩⟩
      have s2 : Same H (upd H1 pr (.lst [])) := s1.trans (same_new hpr)
      have fp : H pr = none := s1.free hpr
      refine while_by (fun σ H' => ∃ (rp : Addr) (rest : List Int) (n : Nat), σ = [some (.ref a), some (.int i), some (.ref rp), some (.ref pr), some (.int (n : Nat)), none, none, none] ∧ Same H H' ∧ H rp = none ∧ rp ≠ pr ∧ H' rp = some (.lst (nums rest)) ∧
          PairL H' pr (ls.length - rest.length) ∧ Out i ls rest n ∧ n ≤ ls.length)
        (fun σ H' => 2 * lenAt 2 σ H' + 2 * ls.length - intAt 4 σ) ⟨D, plc i ls ls.length, 0, rfl, s2, hD, ?_, ?_, ?_, Out.start i ls, Nat.zero_le _⟩ ?_ ?_
      · exact ne_of_none e1 hpr
      · rw [upd_ne (ne_of_none e1 hpr)]
        exact e1
      · exact ⟨[], upd_same, Nat.zero_le _, fun x hx => by simp at hx⟩
      · rintro σ H' ⟨rp, rest, n, rfl, s3, frp, npr, e3, PL, O, hn⟩
        have mu : ∀ (rp' : Addr) (rest' : List Int) (n' : Nat) (H'' : Hp), H'' rp' = some (.lst (nums rest')) →
            2 * lenAt 2 [some (.ref a), some (.int i), some (.ref rp'), some (.ref pr), some (.int (n' : Nat)), none, none, none] H'' + 2 * ls.length - intAt 4 [some (.ref a), some (.int i), some (.ref rp'), some (.ref pr), some (.int (n' : Nat)), none, none, none] = 2 * rest'.length + 2 * ls.length - n' := fun rp' rest' n' H'' e => by
          unfold lenAt intAt
          simp only [List.getElem?_cons_succ, List.getElem?_cons_zero, e, List.length_map, Int.toNat_natCast]
        have hrl := O.len
        refine ⟨_, rfl, _, _, rfl, rfl, _, rfl, rp, _, rfl, .inl (SqL.of e3), _, _, rfl, rfl, _, rfl, ?_⟩
        rw [List.length_map]
        refine ite2 (fun hc => ?_) (fun hc => ?_)
        · have hlt : n + 1 < rest.length := by
            have := of_decide_eq_true hc
            omega
          rw [mu rp rest n H' e3]
          have hx0 : rest[n]? = some rest[n] := List.getElem?_eq_getElem (by omega)
          have hx1 : rest[n + 1]? = some rest[n + 1] := List.getElem?_eq_getElem hlt
          generalize rest[n] = x0 at hx0
          generalize rest[n + 1] = x1 at hx1
          have nx0 : (nums rest)[n]? = some (.int x0) := by
            rw [List.getElem?_map, hx0]
            rfl
          have nx1 : (nums rest)[n + 1]? = some (.int x1) := by
            rw [List.getElem?_map, hx1]
            rfl
          have b0 := O.bd x0 (List.mem_of_getElem? hx0)
          have b1 := O.bd x1 (List.mem_of_getElem? hx1)
          have ea := s3 _ _ ha
          have els : ¬ (val ls x0 = i + 1 ∧ val ls x1 = i) → (∃ (rp_1 : Addr) (rest_1 : List Int) (n_1 : Nat), [some (V.ref a), some (.int i), some (.ref rp), some (.ref pr), some (.int ((n : Nat) + 1)), none, none, none] =
              [some (V.ref a), some (.int i), some (.ref rp_1), some (.ref pr), some (.int (n_1 : Nat)), none, none, none] ∧ Same H H' ∧ H rp_1 = none ∧ rp_1 ≠ pr ∧ H' rp_1 = some (.lst (nums rest_1)) ∧ PairL H' pr (ls.length - rest_1.length) ∧ Out i ls rest_1 n_1 ∧ n_1 ≤ ls.length) ∧
              2 * lenAt 2 [some (.ref a), some (.int i), some (.ref rp), some (.ref pr), some (.int ((n : Nat) + 1)), none, none, none] H' + 2 * ls.length - intAt 4 [some (.ref a), some (.int i), some (.ref rp), some (.ref pr), some (.int ((n : Nat) + 1)), none, none, none] < 2 * rest.length + 2 * ls.length - n := fun z => by
            have ec : ((n : Nat) : Int) + 1 = ((n + 1 : Nat) : Int) := by omega
            rw [ec]
            refine ⟨⟨rp, rest, n + 1, rfl, s3, frp, npr, e3, PL, O.pass hx0 hx1 z, by omega⟩, ?_⟩
            rw [mu rp rest (n + 1) H' e3]
            omega
          refine ⟨_, rfl, _, rfl, _, rfl, rp, _, _, _, rfl, rfl, SqL.of e3, at_of (j := n) rfl nx0, a, _, _, _, rfl, rfl, SqL.of ea, val_get b0.1 b0.2, _, rfl, _, _, rfl, rfl, rfl, _, rfl, ite2 (fun h1 => ?_) (fun h1 => iteF ?_)⟩
          · have v0 : val ls x0 = i + 1 := by simpa using h1
            have e1n : ((n : Nat) : Int) + 1 = ((n + 1 : Nat) : Int) := by omega
            refine ⟨_, rfl, _, rfl, _, rfl, _, _, rfl, rfl, rp, _, _, _, rfl, rfl, SqL.of e3, at_of e1n nx1, a, _, _, _, rfl, rfl, SqL.of ea, val_get b1.1 b1.2, _, rfl, rfl, _, rfl, ite2 (fun h2 => ?_) (fun h2 => ?_)⟩
            · have v1 : val ls x1 = i := by simpa using h2
              obtain ⟨ps, p1, p2, p3⟩ := PL
              refine ⟨_, rfl, .inl ⟨rfl, _, SqL.of p1⟩, _, rfl, _, rfl, rp, _, _, _, rfl, rfl, SqL.of e3, at_of (j := n) rfl nx0, _, rfl, _, rfl, _, _, rfl, rfl, rp, _, _, _, rfl, rfl, SqL.of e3, at_of e1n nx1, (by show 2 ≤ sizeLine; decide), fun T hT => ?_⟩
              have nTp : T ≠ pr := (ne_of_none p1 hT).symm
              refine ⟨pr, ps, _, rfl, rfl, by rw [upd_ne nTp.symm]; exact p1, small1000 (by omega), ?_⟩
              have s4 : Same H (upd (upd H' T (.tup [.int x0, .int x1])) pr (.lst (ps ++ [.ref T]))) := fun b o e => by
                rw [upd_ne (ne_of_none e fp), upd_ne (ne_of_none (s3 _ _ e) hT)]
                exact s3 _ _ e
              have e4 : (upd (upd H' T (.tup [.int x0, .int x1])) pr (.lst (ps ++ [.ref T]))) rp = some (.lst (nums rest)) := by
                rw [upd_ne npr, upd_ne (ne_of_none e3 hT)]
                exact e3
              have PL4 : PairL (upd (upd H' T (.tup [.int x0, .int x1])) pr (.lst (ps ++ [.ref T]))) pr (ls.length - (rest.take n ++ rest.drop (n + 2)).length) := by
                refine ⟨_, upd_same, ?_, fun x hx => ?_⟩
                · rw [List.length_append, List.length_singleton, List.length_append, List.length_take, List.length_drop]
                  omega
                · rcases List.mem_append.mp hx with q | q
                  · obtain ⟨t, c, d, f1, f2⟩ := p3 x q
                    refine ⟨t, c, d, f1, ?_⟩
                    rw [upd_ne (ne_of f2 p1 (by intro z; cases z)), upd_ne (ne_of_none f2 hT)]
                    exact f2
                  · exact ⟨T, x0, x1, List.mem_singleton.mp q, by rw [upd_ne nTp, upd_same]⟩
              generalize upd (upd H' T (.tup [.int x0, .int x1])) pr (.lst (ps ++ [.ref T])) = H4 at s4 e4 PL4 ⊢
              refine ⟨_, rfl, _, rfl, _, rfl, rp, _, rfl, SqL.of e4, fun q1 hq1 => ?_⟩
              rw [cut_take rest (show (0 : Int) ≤ (n : Nat) by omega), Int.toNat_natCast]
              have s5 : Same H4 (upd H4 q1 (.lst (nums (rest.take n)))) := same_new hq1
              have e5 : (upd H4 q1 (.lst (nums (rest.take n)))) q1 = some (.lst (nums (rest.take n))) := upd_same
              generalize upd H4 q1 (.lst (nums (rest.take n))) = H5 at s5 e5 ⊢
              refine ⟨_, rfl, _, rfl, _, _, rfl, rfl, _, rfl, rp, _, rfl, SqL.of (s5 _ _ e4), fun q2 hq2 => ?_⟩
              rw [cut_drop rest (show (0 : Int) ≤ (n : Nat) + 2 by omega), show (((n : Nat) : Int) + 2).toNat = n + 2 by omega]
              have s6 : Same H4 (upd H5 q2 (.lst (nums (rest.drop (n + 2))))) := s5.trans (same_new hq2)
              refine ⟨q1, q2, _, _, rfl, rfl, same_new hq2 _ _ e5, upd_same, ?_, fun q3 hq3 => ?_⟩
              · rw [List.length_map, List.length_map, List.length_take, List.length_drop, sizeLine_eq]
                omega
              rw [show nums (rest.take n) ++ nums (rest.drop (n + 2)) = nums (rest.take n ++ rest.drop (n + 2)) by simp [nums]]
              have s7 : Same H4 (upd (upd H5 q2 (.lst (nums (rest.drop (n + 2))))) q3 (.lst (nums (rest.take n ++ rest.drop (n + 2))))) := s6.trans (same_new hq3)
              have e7 : (upd (upd H5 q2 (.lst (nums (rest.drop (n + 2))))) q3 (.lst (nums (rest.take n ++ rest.drop (n + 2))))) q3 = some (.lst (nums (rest.take n ++ rest.drop (n + 2)))) := upd_same
              have f7 : H4 q3 = none := s6.free hq3
              generalize upd (upd H5 q2 (.lst (nums (rest.drop (n + 2))))) q3 (.lst (nums (rest.take n ++ rest.drop (n + 2)))) = H7 at s7 e7 ⊢
              refine ⟨_, rfl, _, _, rfl, rfl, _, _, rfl, ?_⟩
              have em : (if ((n : Nat) : Int) - 1 > 0 then ((n : Nat) : Int) - 1 else 0) = ((n - 1 : Nat) : Int) := by
                split <;> omega
              rw [em]
              have nq3 : q3 ≠ pr := fun z => by
                obtain ⟨ps4, h4, _⟩ := PL4
                rw [z, h4] at f7
                cases f7
              refine ⟨⟨q3, rest.take n ++ rest.drop (n + 2), n - 1, rfl, s4.trans s7, s4.free f7, nq3, e7, PL4.same s7, O.take hx0 hx1 v0 v1, by omega⟩, ?_⟩
              refine Nat.lt_of_le_of_lt (Nat.le_of_eq (mu q3 (rest.take n ++ rest.drop (n + 2)) (n - 1) H7 e7)) ?_
              rw [List.length_append, List.length_take, List.length_drop]
              omega
            · have v1 : ¬ val ls x1 = i := by simpa using h2
              exact ⟨_, rfl, _, _, rfl, rfl, els fun z => v1 z.2⟩
          · have v0 : ¬ val ls x0 = i + 1 := by simpa using h1
            exact ⟨_, rfl, _, _, rfl, rfl, els fun z => v0 z.1⟩
        · have hle : rest.length ≤ n + 1 := by
            have : ¬ (((n : Nat) : Int) + 1 < (rest.length : Nat)) := fun z => hc (decide_eq_true z)
            omega
          obtain ⟨dl, dh⟩ := O.done hle
          refine ⟨_, rfl, rp, rfl, ⟨_, SqL.of e3⟩, fun D2 hD2 => lc_list (K := K) (a := rp) (xs := nums rest) (fun j H2 => Same H' H2 ∧ H2 D2 = some (.lst (nums ((rest.take j).filter fun p => decide (val ls p = i))))) ⟨same_new hD2, upd_same⟩
            (fun j H2 _ ⟨s4, _⟩ => SqL.of (s4 _ _ e3)) ?_ ?_⟩
          · rintro j x H2 hx ⟨s4, e4⟩
            obtain ⟨z, rfl, hz, hzm⟩ := nums_get hx
            have hj : j < rest.length := (List.getElem?_eq_some_iff.mp hz).1
            have bz := O.bd z hzm
            refine ⟨rfl, _, rfl, _, rfl, a, _, _, _, rfl, rfl, SqL.of (s4 _ _ (s3 _ _ ha)), val_get bz.1 bz.2, _, rfl, rfl, _, rfl, ?_⟩
            have ef := filt_snoc hz fun p => decide (val ls p = i)
            refine ite2 (fun hv => ?_) (fun hv => ?_)
            · have v : val ls z = i := by simpa using hv
              rw [if_pos (by simpa using v)] at ef
              refine ⟨_, rfl, _, e4, ?_, fun b o e => ?_, ?_⟩
              · rw [List.length_map]
                have := List.length_filter_le (fun p => decide (val ls p = i)) (rest.take j)
                rw [List.length_take] at this
                exact small1000 (by omega)
              · rw [upd_ne (ne_of_none e hD2)]
                exact s4 _ _ e
              · rw [upd_same, ef]
                simp [nums]
            · have v : ¬ val ls z = i := by simpa using hv
              rw [if_neg (by simpa using v), List.append_nil] at ef
              exact ⟨s4, by rw [ef]; exact e4⟩
          · rintro H2 ⟨s4, e4⟩
            rw [List.length_map, List.take_length, ← dl] at e4
            obtain ⟨ps, p1, p2, p3⟩ := PL.same s4
            refine ⟨_, rfl, pr, ps, rfl, SqL.of p1, p3, fun ys q1 _ hq1 => ?_⟩
            have s5 : Same H2 (upd H2 q1 (.lst ys)) := same_new hq1
            have e5 : (upd H2 q1 (.lst ys)) q1 = some (.lst ys) := upd_same
            generalize upd H2 q1 (.lst ys) = H3 at s5 e5 ⊢
            have s45 : Same H' H3 := s4.trans s5
            refine ⟨_, rfl, _, rfl, rp, rfl, ⟨_, SqL.of (s45 _ _ e3)⟩, fun D3 hD3 => lc_list (K := K) (a := rp) (xs := nums rest) (fun j H6 => Same H3 H6 ∧ H6 D3 = some (.lst (nums ((rest.take j).filter fun p => decide (val ls p = i + 1))))) ⟨same_new hD3, upd_same⟩
              (fun j H6 _ ⟨s6, _⟩ => SqL.of (s6 _ _ (s45 _ _ e3))) ?_ ?_⟩
            · rintro j x H6 hx ⟨s6, e6⟩
              obtain ⟨z, rfl, hz, hzm⟩ := nums_get hx
              have hj : j < rest.length := (List.getElem?_eq_some_iff.mp hz).1
              have bz := O.bd z hzm
              refine ⟨rfl, _, rfl, _, rfl, a, _, _, _, rfl, rfl, SqL.of (s6 _ _ (s45 _ _ (s3 _ _ ha))), val_get bz.1 bz.2, _, rfl, _, _, rfl, rfl, rfl, _, rfl, ?_⟩
              have ef := filt_snoc hz fun p => decide (val ls p = i + 1)
              refine ite2 (fun hv => ?_) (fun hv => ?_)
              · have v : val ls z = i + 1 := by simpa using hv
                rw [if_pos (by simpa using v)] at ef
                refine ⟨_, rfl, _, e6, ?_, fun b o e => ?_, ?_⟩
                · rw [List.length_map]
                  have := List.length_filter_le (fun p => decide (val ls p = i + 1)) (rest.take j)
                  rw [List.length_take] at this
                  exact small1000 (by omega)
                · rw [upd_ne (ne_of_none e hD3)]
                  exact s6 _ _ e
                · rw [upd_same, ef]
                  simp [nums]
              · have v : ¬ val ls z = i + 1 := by simpa using hv
                rw [if_neg (by simpa using v), List.append_nil] at ef
                exact ⟨s6, by rw [ef]; exact e6⟩
            · rintro H6 ⟨s6, e6⟩
              rw [List.length_map, List.take_length, ← dh] at e6
              refine ⟨(by show 3 ≤ sizeLine; decide), fun q hq => ?_⟩
              have s7 := same_new (o := .lst [.ref q1, .ref D2, .ref D3]) hq
              exact k q q1 D2 D3 ys _ ((s3.trans s45).trans (s6.trans s7)) upd_same (s7 _ _ (s6 _ _ e5)) (s7 _ _ (s6 _ _ (s5 _ _ e4))) (s7 _ _ e6)
      · intro σ H' Q1 Q2 hq h
        obtain ⟨v, e1, i1, j1, e2, e3, v2, e4, p, ys, e5, e6, i2, j2, e7, e8, b, e9, h⟩ := h
        exact ⟨v, e1, i1, j1, e2, e3, v2, e4, p, ys, e5, e6, i2, j2, e7, e8, b, e9, hq _ _ h⟩
end
end Lw
/-! X. Tops and bottoms by counts; a deed done. -/
namespace LwM
theorem one_up (i x : Int) : up i [x] = if x = i then 1 else 0 := by
  unfold up lows br go go stp
  by_cases h : x = i
  · rw [if_neg (by omega), if_pos h, if_pos h]
    rfl
  · by_cases h2 : x = i + 1
    · rw [if_pos h2, if_neg h]
      rfl
    · rw [if_neg h2, if_neg h, if_neg h]
      rfl
theorem one_dn (i x : Int) : dn i [x] = if x = i + 1 then 1 else 0 := by
  unfold dn highs br go go stp
  by_cases h2 : x = i + 1
  · rw [if_pos h2, if_pos h2]
    rfl
  · rw [if_neg h2, if_neg h2]
    by_cases h : x = i
    · rw [if_pos h]
      rfl
    · rw [if_neg h]
      rfl
/-- what is left over is what is more -/
theorem more (i : Int) : ∀ l : List Int, (up i l : Int) - dn i l = (l.count i : Int) - l.count (i + 1)
  | [] => by simp [up, dn, lows, highs, br, go]
  | x :: l => by
    have ih := more i l
    have e1 := up_app i [x] l
    have e2 := dn_app i [x] l
    rw [one_up, one_dn] at *
    show (up i ([x] ++ l) : Int) - dn i ([x] ++ l) = _
    rw [e1, e2, List.count_cons, List.count_cons]
    by_cases h : x = i
    · subst h
      have hn : ¬ x = x + 1 := by omega
      simp only [if_pos rfl, if_neg hn, beq_self_eq_true, if_true]
      rw [if_neg (by simpa using hn)]
      omega
    · by_cases h2 : x = i + 1
      · subst h2
        simp only [if_neg h, if_pos rfl, beq_self_eq_true, if_true]
        rw [if_neg (by simpa using h)]
        omega
      · simp only [if_neg h, if_neg h2]
        rw [if_neg (by simpa using h), if_neg (by simpa using h2)]
        omega
/-- nothing can go down: each end has enough -/
theorem dn_ends (i : Int) : ∀ l : List Int, dn i l = 0 ↔ ∀ k, k < l.length → (l.drop k).count (i + 1) ≤ (l.drop k).count i
  | [] => by simp [dn, highs, br, go]
  | x :: l => by
    have ih := dn_ends i l
    have e2 := dn_app i [x] l
    have m := more i (x :: l)
    rw [one_dn] at e2
    have e3 : dn i (x :: l) = (if x = i + 1 then 1 else 0) - up i l + dn i l := e2
    constructor
    · intro h k hk
      cases k with
      | zero =>
        rw [List.drop_zero]
        omega
      | succ k =>
        rw [List.drop_succ_cons]
        exact ih.mp (by omega) k (by rw [List.length_cons] at hk; omega)
    · intro h
      have h0 : dn i l = 0 := ih.mpr fun k hk => by
        have := h (k + 1) (by rw [List.length_cons]; omega)
        rwa [List.drop_succ_cons] at this
      have h1 := h 0 (by rw [List.length_cons]; omega)
      rw [List.drop_zero] at h1
      have e1 := up_app i [x] l
      have e4 : up i (x :: l) = up i [x] + (up i l - dn i [x]) := e1
      rw [one_up, one_dn] at e4
      split at e3 <;> split at e4 <;> omega
/-- nothing can go up: each beginning has enough -/
theorem up_starts (i : Int) (l : List Int) : up i l = 0 ↔ ∀ k, k ≤ l.length → (l.take k).count i ≤ (l.take k).count (i + 1) := by
  constructor
  · intro h k hk
    have e := up_app i (l.take k) (l.drop k)
    rw [List.take_append_drop] at e
    have m := more i (l.take k)
    omega
  · suffices key : ∀ n, n ≤ l.length → (∀ k, k ≤ n → (l.take k).count i ≤ (l.take k).count (i + 1)) → up i (l.take n) = 0 by
      intro h
      have := key l.length (Nat.le_refl _) h
      rwa [List.take_length] at this
    intro n
    induction n with
    | zero =>
      intro _ _
      rfl
    | succ n ih =>
      intro hn h
      have h0 := ih (by omega) fun k hk => h k (by omega)
      have hx : l[n]? = some l[n] := List.getElem?_eq_getElem (by omega)
      have e : l.take (n + 1) = l.take n ++ [l[n]] := by
        rw [List.take_succ, hx]
        rfl
      have m := more i (l.take (n + 1))
      have c := h (n + 1) (Nat.le_refl _)
      have e1 := up_app i (l.take n) [l[n]]
      have e2 := dn_app i (l.take n) [l[n]]
      rw [← e, one_up] at e1
      rw [← e, one_up, one_dn] at e2
      generalize l[n] = x at e1 e2
      by_cases c1 : x = i
      · rw [if_pos c1] at e1 e2
        rw [if_neg (by omega)] at e2
        omega
      · rw [if_neg c1] at e1 e2
        omega
/-- which letter changes -/
theorem low_val {i : Int} {l : List Int} {p : Int} (h : p ∈ lows i l) : val l p = i := by
  have key : ∀ (A : List Int) (s : List Int × List Int), (∀ q ∈ s.1, val l q = i) → (∀ q ∈ s.2, val l q = i + 1) → (∀ q ∈ (gp i (val l) s A).1, val l q = i) ∧ ∀ q ∈ (gp i (val l) s A).2, val l q = i + 1 := by
    intro A
    induction A with
    | nil => intro s h1 h2; exact ⟨h1, h2⟩
    | cons a A ih =>
      intro s h1 h2
      refine ih (stp i s a (val l a)) ?_ ?_
      · intro q hq
        unfold stp at hq
        split at hq
        · exact h1 q hq
        · split at hq
          · split at hq
            · rcases List.mem_append.mp hq with z | z
              · exact h1 q z
              · rw [List.mem_singleton.mp z]
                assumption
            · exact h1 q hq
          · exact h1 q hq
      · intro q hq
        unfold stp at hq
        split at hq
        · rcases List.mem_append.mp hq with z | z
          · exact h2 q z
          · rw [List.mem_singleton.mp z]
            assumption
        · split at hq
          · split at hq
            · exact h2 q hq
            · exact h2 q ((List.dropLast_sublist _).subset hq)
          · exact h2 q hq
  have k := key (plc i l l.length) ([], []) (fun q hq => by simp at hq) fun q hq => by simp at hq
  rw [← br_plc] at k
  exact k.1 p h
theorem high_val {i : Int} {l : List Int} {p : Int} (h : p ∈ highs i l) : val l p = i + 1 := by
  have key : ∀ (A : List Int) (s : List Int × List Int), (∀ q ∈ s.2, val l q = i + 1) → ∀ q ∈ (gp i (val l) s A).2, val l q = i + 1 := by
    intro A
    induction A with
    | nil => intro s h2; exact h2
    | cons a A ih =>
      intro s h2
      refine ih (stp i s a (val l a)) ?_
      intro q hq
      unfold stp at hq
      split at hq
      · rcases List.mem_append.mp hq with z | z
        · exact h2 q z
        · rw [List.mem_singleton.mp z]
          assumption
      · split at hq
        · split at hq
          · exact h2 q hq
          · exact h2 q ((List.dropLast_sublist _).subset hq)
        · exact h2 q hq
  have k := key (plc i l l.length) ([], []) fun q hq => by simp at hq
  rw [← br_plc] at k
  exact k p h
theorem val_some {l : List Int} {p : Int} (h0 : 0 ≤ p) (h1 : p < l.length) : l[p.toNat]? = some (val l p) := by
  have e : l[p.toNat]? = some l[p.toNat] := List.getElem?_eq_getElem (by omega)
  unfold val
  rw [e]
  rfl
theorem up_sum {i : Int} {l : List Int} (h : lows i l ≠ []) : (upL i l).sum = l.sum + 1 := by
  have hm := lst_mem h
  have b := br_bd (i := i) (l := l) (.inl hm)
  have e := val_some b.1 b.2
  rw [low_val hm] at e
  unfold upL
  rw [L2.sum_set e]
  omega
theorem dn_sum {i : Int} {l : List Int} (h : highs i l ≠ []) : (dnL i l).sum = l.sum - 1 := by
  have hm := fst_mem h
  have b := br_bd (i := i) (l := l) (.inr hm)
  have e := val_some b.1 b.2
  rw [high_val hm] at e
  unfold dnL
  rw [L2.sum_set e]
  omega
/-- what the law's deed makes of letters -/
def doneL (d : Int) (l : List Int) : Option (List Int) := if 0 < d then (if lows d l = [] then none else some (upL d l)) else (if highs (-d) l = [] then none else some (dnL (-d) l))
theorem sum_bd {l : List Int} {n : Int} (h : ∀ x ∈ l, 1 ≤ x ∧ x ≤ n) : (l.length : Int) ≤ l.sum ∧ l.sum ≤ n * l.length := by
  induction l with
  | nil => simp
  | cons a l ih =>
    have h1 := ih fun x hx => h x (List.mem_cons_of_mem _ hx)
    have h2 := h a (List.mem_cons_self ..)
    rw [List.sum_cons, List.length_cons]
    have e : n * ((l.length + 1 : Nat) : Int) = n * (l.length : Int) + n := by
      rw [Int.natCast_add, Int.mul_add]
      simp
    rw [e]
    omega
end LwM
/-! Y. Tops and bottoms, as the program tells them and as the law does; a deed done. -/
namespace LwE
open PySem PySem.Spec PyProof.Rows L2
theorem truth_nums {prog : Program} {w : World} {A : Around} {ns : List Int} {its : List Value} (rv : Vals (ns.map V.int) its) :
    TruthOf prog w A (fun i v => its.toArray[i]? = some v) (fun i => (ns.map fun n => n != 0).getD i false) := fun i v s Q E hv hq => by
  have hv' : its[i]? = some v := by simpa using hv
  have hi : i < its.length := (List.getElem?_eq_some_iff.mp hv').1
  have hn : i < ns.length := by
    have := rv.length
    rw [List.length_map] at this
    omega
  obtain ⟨u, hu, ru⟩ := rv.get (i := i) (x := .int ns[i]) (by rw [List.getElem?_map, List.getElem?_eq_getElem hn]; rfl)
  rw [hv'] at hu
  cases hu
  obtain ⟨t, rfl⟩ := (show ∃ t, v = Value.int ns[i] t from ru)
  have e : (ns.map fun n => n != 0).getD i false = (ns[i] != 0) := by
    rw [List.getD_eq_getElem?_getD, List.getElem?_map, List.getElem?_eq_getElem hn]
    rfl
  have hq' : Q ((ns.map fun n => n != 0).getD i false) s := hq
  rw [e] at hq'
  exact PyProof.Rows.truthy_int hq'
/-- any(xs), xs a list of numbers -/
def rAnyN (K : PySem.W.Frag) : List V → Hp → VK → Prop := fun vs H Q => ∃ (a : Addr) (ns : List Int), vs = [V.ref a] ∧ SqL K H a (ns.map V.int) ∧ Q (.bl (ns.any fun n => n != 0)) H
theorem cr_anyN {X : Cx} (hc : X.calm = true) : CallR X (.builtin "any") (rAnyN X.K) := by
  intro pins s σ H vs us Q I r h
  obtain ⟨a, ns, rfl, hs, q⟩ := h
  obtain ⟨its, rv, hl, _⟩ := I.list hs
  obtain ⟨u, rfl, ru⟩ := vals1 r
  obtain rfl : u = Value.ref a := ru
  refine call_any_walk (iter_any hl.isList fun s₂ e2 st hne => ?_)
  subst e2
  refine ⟨_, _, _, _, _, _, _, rfl, Walks.list (A := X.A.in1) (I.ok.hd hc) _ a hne its.toArray, st, truth_nums rv, fun h' tk hk => ?_⟩
  refine ⟨.bl (ns.any fun n => n != 0), H, I.kept fun b o eo => hk b o (fun z => ?_) (Heap.get?_push_of_some _ eo), ?_, q⟩
  · have lt := Heap.lt_size eo
    rcases List.mem_cons.mp z with e1 | z
    · rw [e1] at lt
      exact absurd lt (Nat.lt_irrefl _)
    · cases z
  · show Value.bool _ = Value.bool _
    have e := any_range (ns.map fun n => n != 0)
    have el : its.toArray.size = (ns.map fun n => n != 0).length := by
      rw [List.size_toArray, List.length_map, ← rv.length, List.length_map]
    rw [el, e, List.any_map]
    rfl
end LwE
namespace Lw
open PySem L2 LwE LwM
section
variable {P : Program} {w : World} {K : PySem.W.Frag} {mg : Str → Option Value} {base : Heap} {C : Addr}
theorem no_ups (t : Addr) (z : Int) : (wf t z).lookup ("ups" : Str) = none := wf_no t z (by decide +kernel) (by decide +kernel)
theorem no_downs (t : Addr) (z : Int) : (wf t z).lookup ("downs" : Str) = none := wf_no t z (by decide +kernel) (by decide +kernel)
/-- the indexes of a size -/
def ixs (n : Nat) : List Int := (List.range n).map fun q => 1 + ((q : Nat) : Int)
theorem ixs_succ (n : Nat) : ixs (n + 1) = ixs n ++ [1 + ((n : Nat) : Int)] := by
  unfold ixs
  rw [List.range_succ, List.map_append]
  rfl
theorem ixs_mem {n : Nat} {i : Int} : i ∈ ixs n ↔ 1 ≤ i ∧ i ≤ n := by
  unfold ixs
  rw [List.mem_map]
  constructor
  · rintro ⟨q, hq, rfl⟩
    have := List.mem_range.mp hq
    omega
  · rintro ⟨h1, h2⟩
    exact ⟨(i - 1).toNat, List.mem_range.mpr (by omega), by omega⟩
theorem ixs_len (n : Nat) : (ixs n).length = n := by
  unfold ixs
  rw [List.length_map, List.length_range]
/-- is_top, is_bottom -/
def isTop (size : Int) (l : List Int) : Bool := (ixs (size - 1).toNat).all fun i => dn i l == 0
def isBot (size : Int) (l : List Int) : Bool := (ixs (size - 1).toNat).all fun i => up i l == 0
theorem isTop_iff (size : Int) (l : List Int) : isTop size l = true ↔ ∀ i : Int, 1 ≤ i → i ≤ size - 1 → dn i l = 0 := by
  unfold isTop
  simp only [List.all_eq_true, beq_iff_eq, ixs_mem]
  constructor
  · intro h i h1 h2
    exact h i ⟨h1, by omega⟩
  · rintro h i ⟨h1, h2⟩
    exact h i h1 (by omega)
theorem isBot_iff (size : Int) (l : List Int) : isBot size l = true ↔ ∀ i : Int, 1 ≤ i → i ≤ size - 1 → up i l = 0 := by
  unfold isBot
  simp only [List.all_eq_true, beq_iff_eq, ixs_mem]
  constructor
  · intro h i h1 h2
    exact h i ⟨h1, by omega⟩
  · rintro h i ⟨h1, h2⟩
    exact h i h1 (by omega)
theorem any_all (f : Int → Nat) : ∀ l : List Int, (!(l.map fun i => ((f i : Nat) : Int)).any fun n => n != 0) = l.all fun i => f i == 0
  | [] => rfl
  | a :: l => by
    rw [List.map_cons, List.any_cons, List.all_cons, Bool.not_or, any_all f l]
    congr 1
    show (!(((f a : Nat) : Int) != 0)) = (f a == 0)
    rw [Bool.eq_iff_iff]
    simp
structure Mt (P : Program) (w : World) (K : PySem.W.Frag) (mg : Str → Option Value) (base : Heap) (C : Addr) (m : Str) (f : Addr) (fd : FuncData) (sp : Sp) : Prop where
  m : Meth K C m f
  ok : FnOk P w K mg base CX0 5 f fd ["self", "i"] sp
  b : Binds K fd ["self", "i"] []
def spIsTop (C : Addr) : Sp := fun vs H Q _ => ∃ (a : Addr) (size : Int) (l : List Int), vs = [.ref a] ∧ WAt C H a size l ∧ ∀ H', Same H H' → Q (.bl (isTop size l)) H'
def spIsBot (C : Addr) : Sp := fun vs H Q _ => ∃ (a : Addr) (size : Int) (l : List Int), vs = [.ref a] ∧ WAt C H a size l ∧ ∀ H', Same H H' → Q (.bl (isBot size l)) H'
theorem scIsTop : FnScope ["self", "i"] ["self"] (defScope sIsTop) := ⟨rfl, rfl, rfl, by decide +kernel, rfl, by decide +kernel, by decide +kernel⟩
theorem scIsBot : FnScope ["self", "i"] ["self"] (defScope sIsBottom) := ⟨rfl, rfl, rfl, by decide +kernel, rfl, by decide +kernel, by decide +kernel⟩
theorem ok_istop {f fd' : Addr} {fd dD : FuncData} (B : Bare mg) (T : Cw K mg C) (F : Fun K "is_top" "Word.is_top" sIsTop f fd) (D : Mt P w K mg base C "downs" fd' dD (spDowns C)) : FnOk P w K mg base CX0 6 f fd ["self"] (spIsTop C) := by
  refine F.ok scIsTop (fun vs H Q E h => ?_) (fun cdv A outer s H vs Q E hr h => ?_)
  · obtain ⟨a, size, l, rfl, _⟩ := h
    rfl
  · obtain ⟨a, size, l, rfl, W, k⟩ := h
    obtain ⟨dx, t, h1, h2⟩ := W.ob
    have z0 := W.ls.s0
    have z1 := W.ls.s1
    refine ⟨_, pss_one (ps_ret (pe_not (pe_callB (cr_anyN rfl) (by rfl) B.any (by decide +kernel) (pa_cons (pe_lc (own := [("i", 1)]) (g := gName 1) (tt := tYes) rfl scIsTop.nd
      (pi_range2 (by rfl) B.range (pa_cons pe_int (pa_cons (pe_fld (pv 0) rfl) pa_nil))) (blkOk_by (N := ["self", "i"]) (sc := defScope sIsTop) (by decide +kernel)) (fun _ _ _ _ _ => pg_name (i := 1) scIsTop.nd rfl (Or.inl rfl)) (fun _ _ _ _ _ => pts_nil)
      (fun _ _ _ _ _ => pe_meth (pv 0) T.cl D.m D.ok hr D.b .nil pass0 (pa_cons (pv 1) pa_nil))) pa_nil)))), ?_⟩
    refine ⟨_, rfl, a, C, dx, _, _, rfl, h1, T.cl, T.nS, wf_size _ _, 1, size, rfl, ⟨by decide, by decide, by omega, by omega⟩, fun D' hD => ?_⟩
    refine lc_range (lo := 1) (n := (size - 1).toNat) (fun j H' => Same H H' ∧ H' D' = some (.lst (nums ((ixs j).map fun i => ((dn i l : Nat) : Int))))) ⟨same_new hD, upd_same⟩ ?_ ?_
    · rintro j H' hj ⟨s1, e1⟩
      refine ⟨rfl, ?_⟩
      unfold tYes
      refine iteT ?_
      refine ⟨_, rfl, a, dx, _, rfl, s1 _ _ h1, no_downs _ _, _, rfl, a, 1 + (j : Int), size, l, rfl, W.same s1, by omega, by omega, fun H2 s2 => ?_⟩
      refine ⟨_, s2 _ _ e1, by rw [List.length_map, List.length_map, ixs_len]; exact small1000 (by omega), fun b o e => ?_, ?_⟩
      · rw [upd_ne (ne_of_none e hD)]
        exact s2 _ _ (s1 _ _ e)
      · rw [upd_same, ixs_succ]
        simp [nums]
    · rintro H' ⟨s1, e1⟩
      refine ⟨D', _, rfl, SqL.of e1, _, rfl, ?_⟩
      have e := any_all (fun i => dn i l) (ixs (size - 1).toNat)
      have k2 := k H' s1
      unfold isTop at k2
      rw [← e] at k2
      exact k2
theorem ok_isbot {f fd' : Addr} {fd dD : FuncData} (B : Bare mg) (T : Cw K mg C) (F : Fun K "is_bottom" "Word.is_bottom" sIsBottom f fd) (D : Mt P w K mg base C "ups" fd' dD (spUps C)) : FnOk P w K mg base CX0 6 f fd ["self"] (spIsBot C) := by
  refine F.ok scIsBot (fun vs H Q E h => ?_) (fun cdv A outer s H vs Q E hr h => ?_)
  · obtain ⟨a, size, l, rfl, _⟩ := h
    rfl
  · obtain ⟨a, size, l, rfl, W, k⟩ := h
    obtain ⟨dx, t, h1, h2⟩ := W.ob
    have z0 := W.ls.s0
    have z1 := W.ls.s1
    refine ⟨_, pss_one (ps_ret (pe_not (pe_callB (cr_anyN rfl) (by rfl) B.any (by decide +kernel) (pa_cons (pe_lc (own := [("i", 1)]) (g := gName 1) (tt := tYes) rfl scIsBot.nd
      (pi_range2 (by rfl) B.range (pa_cons pe_int (pa_cons (pe_fld (pv 0) rfl) pa_nil))) (blkOk_by (N := ["self", "i"]) (sc := defScope sIsBottom) (by decide +kernel)) (fun _ _ _ _ _ => pg_name (i := 1) scIsBot.nd rfl (Or.inl rfl)) (fun _ _ _ _ _ => pts_nil)
      (fun _ _ _ _ _ => pe_meth (pv 0) T.cl D.m D.ok hr D.b .nil pass0 (pa_cons (pv 1) pa_nil))) pa_nil)))), ?_⟩
    refine ⟨_, rfl, a, C, dx, _, _, rfl, h1, T.cl, T.nS, wf_size _ _, 1, size, rfl, ⟨by decide, by decide, by omega, by omega⟩, fun D' hD => ?_⟩
    refine lc_range (lo := 1) (n := (size - 1).toNat) (fun j H' => Same H H' ∧ H' D' = some (.lst (nums ((ixs j).map fun i => ((up i l : Nat) : Int))))) ⟨same_new hD, upd_same⟩ ?_ ?_
    · rintro j H' hj ⟨s1, e1⟩
      refine ⟨rfl, ?_⟩
      unfold tYes
      refine iteT ?_
      refine ⟨_, rfl, a, dx, _, rfl, s1 _ _ h1, no_ups _ _, _, rfl, a, 1 + (j : Int), size, l, rfl, W.same s1, by omega, by omega, fun H2 s2 => ?_⟩
      refine ⟨_, s2 _ _ e1, by rw [List.length_map, List.length_map, ixs_len]; exact small1000 (by omega), fun b o e => ?_, ?_⟩
      · rw [upd_ne (ne_of_none e hD)]
        exact s2 _ _ (s1 _ _ e)
      · rw [upd_same, ixs_succ]
        simp [nums]
    · rintro H' ⟨s1, e1⟩
      refine ⟨D', _, rfl, SqL.of e1, _, rfl, ?_⟩
      have e := any_all (fun i => up i l) (ixs (size - 1).toNat)
      have k2 := k H' s1
      unfold isBot at k2
      rw [← e] at k2
      exact k2
theorem eqv_nums : ∀ l r : List Int, PyData.eqvAll (l.map PyData.int) (r.map PyData.int) = decide (l = r)
  | [], [] => by simp [PyData.eqvAll]
  | [], _ :: _ => by simp [PyData.eqvAll]
  | _ :: _, [] => by simp [PyData.eqvAll]
  | x :: l, y :: r => by
    have ih := eqv_nums l r
    simp only [List.map_cons, PyData.eqvAll, PyData.eqv, ih]
    by_cases h1 : x = y
    · subst h1
      simp
    · simp [h1]
/-! the law's own looks -/
def bad (n : Nat) (l : List Int) : List Int := (ixs n).filter fun i => decide (l.count i < l.count (i + 1))
def bad2 (n : Nat) (l : List Int) : List Int := (ixs n).filter fun i => decide (l.count (i + 1) < l.count i)
theorem bad_nil {n : Nat} {l : List Int} : bad n l = [] ↔ ∀ i : Int, 1 ≤ i → i ≤ n → l.count (i + 1) ≤ l.count i := by
  unfold bad
  rw [List.filter_eq_nil_iff]
  constructor
  · intro h i h1 h2
    have := h i (ixs_mem.mpr ⟨h1, h2⟩)
    simp at this
    exact this
  · intro h i hi
    have := ixs_mem.mp hi
    have := h i this.1 this.2
    simp
    exact this
theorem bad2_nil {n : Nat} {l : List Int} : bad2 n l = [] ↔ ∀ i : Int, 1 ≤ i → i ≤ n → l.count i ≤ l.count (i + 1) := by
  unfold bad2
  rw [List.filter_eq_nil_iff]
  constructor
  · intro h i h1 h2
    have := h i (ixs_mem.mpr ⟨h1, h2⟩)
    simp at this
    exact this
  · intro h i hi
    have := ixs_mem.mp hi
    have := h i this.1 this.2
    simp
    exact this
theorem eqv_empty (l : List Int) : PyData.eqv (.list (l.map PyData.int)) (.list []) = decide (l = []) := by
  have := eqv_nums l []
  exact this
def spIsTopL : Sp := fun vs H Q _ => ∃ (a : Addr) (size : Int) (l : List Int), vs = [.int size, .ref a] ∧ H a = some (.lst (nums l)) ∧ 2 ≤ size ∧ size ≤ 6 ∧ l.length ≤ 100 ∧ ∀ H', Same H H' → Q (.bl (isTop size l)) H'
theorem scIsTopL : FnScope ["size", "letters", "at", "end", "i"] ["size", "letters"] (defScope sIsTopL) := ⟨rfl, rfl, rfl, by decide +kernel, rfl, by decide +kernel, by decide +kernel⟩
theorem ok_istopL {f : Addr} {fd : FuncData} (B : Bare mg) (F : Df K mg "_law_is_top" sIsTopL f fd) : FnOk P w K mg base CX0 1 f fd ["size", "letters"] spIsTopL := by
  refine F.fn.ok scIsTopL (fun vs H Q E h => ?_) (fun cdv A outer s H vs Q E hr h => ?_)
  · obtain ⟨a, size, l, rfl, _⟩ := h
    rfl
  · obtain ⟨a, size, l, rfl, ha, z0, z1, hlen, k⟩ := h
    refine ⟨_, pss_cons (ps_for PassesOwn.never rfl (pi_range1 (by rfl) B.range (pa_cons (pe_callB call_len_seq (by rfl) B.len PySem.boot_len (pa_cons (pv 1) pa_nil)) pa_nil)) (pg_name (i := 2) scIsTopL.nd rfl (Or.inl rfl))
        (pss_cons (ps_set (i := 3) scIsTopL.nd rfl (Or.inr rfl) (pe_slice sl_list (pv 1) (po_some (pv 2)) po_none))
        (pss_one (ps_if (pt_cmpR (op_neD hr.units) (pe_lc (own := [("i", 4)]) (g := gName 4)
            (tt := tTest (tOp (rI0 fun i j => .bl (decide (j < i))) (tBM K "list" (rCntI K) (tVar 3) (tCons (tOp (rI0 fun i j => .int (i + j)) (tVar 4) (tC (.int 1))) tNil)) (tBM K "list" (rCntI K) (tVar 3) (tCons (tVar 4) tNil))))
            rfl scIsTopL.nd (pi_range2 (by rfl) B.range (pa_cons pe_int (pa_cons (pv 0) pa_nil))) (blkOk_by (N := ["size", "letters", "at", "end", "i"]) (sc := defScope sIsTopL) (by decide +kernel))
            (fun _ _ _ _ _ => pg_name (i := 4) scIsTopL.nd rfl (Or.inl rfl))
            (fun _ _ _ _ _ => pts_one (pt_cmpR op_gt (pe_bm PySem.F.plainAttrs_list PySem.F.slot_list_count PySem.F.type_list_count mt_lcount (pv 3) (pa_cons (pe_op op_add (pv 4) pe_int) pa_nil))
              (pe_bm PySem.F.plainAttrs_list PySem.F.slot_list_count PySem.F.type_list_count mt_lcount (pv 3) (pa_cons (pv 4) pa_nil)) (nomark _))) (fun _ _ _ _ _ => pv 4)) (pe_lst pa_nil) (nomark _)) (pss_one (ps_ret pe_bl)) pss_nil))))
      (pss_one (ps_ret pe_bl)), ?_⟩
    have hN : (((nums l).length : Nat) : Int).toNat = l.length := by
      rw [Int.toNat_natCast, List.length_map]
    refine ⟨_, rfl, a, _, rfl, .inl (SqL.of ha), _, rfl, by omega, by rw [List.length_map]; omega, for_range (lo := 0) (n := (((nums l).length : Nat) : Int).toNat) (fun j σ H' => ∃ v2 v3 v4 : Option V, σ = [some (.int size), some (.ref a), v2, v3, v4] ∧ Same H H' ∧
      ∀ q, q < j → bad (size - 1).toNat (l.drop q) = []) ⟨_, _, _, rfl, Same.refl H, fun q hq => absurd hq (Nat.not_lt_zero q)⟩ ?_ ?_⟩
    · rintro j σ H' hj ⟨v2, v3, v4, rfl, s1, hb⟩
      rw [hN] at hj
      have ea := s1 _ _ ha
      refine ⟨_, rfl, _, rfl, _, rfl, a, _, rfl, SqL.of ea, fun e he => ?_⟩
      rw [cut_drop l (show (0 : Int) ≤ 0 + (j : Int) by omega), show (0 + (j : Int)).toNat = j by omega]
      have s2 : Same H (upd H' e (.lst (nums (l.drop j)))) := s1.trans (same_new he)
      have ee : (upd H' e (.lst (nums (l.drop j)))) e = some (.lst (nums (l.drop j))) := upd_same
      generalize upd H' e (.lst (nums (l.drop j))) = H2 at s2 ee ⊢
      refine ⟨_, rfl, 1, size, rfl, ⟨by decide, by decide, by omega, by omega⟩, fun D hD => lc_range (lo := 1) (n := (size - 1).toNat) (fun q H3 => Same H2 H3 ∧ H3 D = some (.lst (nums (bad q (l.drop j))))) ⟨same_new hD, upd_same⟩ ?_ ?_⟩
      · rintro q H3 hq ⟨s3, e3⟩
        have ee3 := s3 _ _ ee
        refine ⟨rfl, _, rfl, .inl ⟨rfl, _, SqL.of ee3⟩, _, rfl, _, _, rfl, rfl, e, _, _, rfl, rfl, SqL.of ee3, _, rfl, .inl ⟨rfl, _, SqL.of ee3⟩, _, rfl, e, _, _, rfl, rfl, SqL.of ee3, _, _, rfl, rfl, _, rfl, ?_⟩
        have eb : bad (q + 1) (l.drop j) = bad q (l.drop j) ++ (if (l.drop j).count (1 + (q : Int)) < (l.drop j).count (1 + (q : Int) + 1) then [1 + (q : Int)] else []) := by
          unfold bad
          rw [ixs_succ, List.filter_append]
          congr 1
          simp only [List.filter_cons, List.filter_nil, decide_eq_true_eq]
        refine ite2 (fun hc => ?_) (fun hc => ?_)
        · have c := of_decide_eq_true hc
          rw [if_pos (by omega)] at eb
          refine ⟨_, rfl, _, e3, ?_, fun b o z => ?_, by rw [upd_same, eb]; simp [nums]⟩
          · rw [List.length_map]
            have := List.length_filter_le (fun i => decide ((l.drop j).count i < (l.drop j).count (i + 1))) (ixs q)
            rw [ixs_len] at this
            refine small1000 ?_
            unfold bad
            omega
          · rw [upd_ne (ne_of_none z hD)]
            exact s3 _ _ z
        · have c : ¬ (((l.drop j).count (1 + (q : Int)) : Nat) : Int) < ((l.drop j).count (1 + (q : Int) + 1) : Nat) := fun z => hc (decide_eq_true z)
          rw [if_neg (by omega), List.append_nil] at eb
          exact ⟨s3, by rw [eb]; exact e3⟩
      · rintro H3 ⟨s3, e3⟩
        refine ⟨Nat.zero_le _, fun e2 he2 => ?_⟩
        have s4 : Same H3 (upd H3 e2 (.lst [])) := same_new he2
        refine ⟨.list ((bad (size - 1).toNat (l.drop j)).map PyData.int), .list [], .lst (SqL.of (s4 _ _ e3)) (dp_nums _), .lst (SqL.of upd_same) .nil, shaped_nums _, by decide, _, rfl, ?_⟩
        rw [eqv_empty]
        by_cases hz : bad (size - 1).toNat (l.drop j) = []
        · rw [decide_eq_true hz]
          refine iteF ⟨_, _, _, rfl, (s2.trans s3).trans s4, fun q hq => ?_⟩
          rcases Nat.lt_or_ge q j with z | z
          · exact hb q z
          · rw [show q = j by omega]
            exact hz
        · rw [decide_eq_false hz]
          refine iteT ?_
          have kk := k _ ((s2.trans s3).trans s4)
          have ef : isTop size l = false := by
            rw [Bool.eq_false_iff]
            intro z
            refine hz (bad_nil.mpr fun i i0 i1 => ?_)
            exact (dn_ends i l).mp ((isTop_iff size l).mp z i i0 (by omega)) j hj
          rw [ef] at kk
          exact kk
    · rintro σ H' ⟨v2, v3, v4, rfl, s1, hb⟩
      rw [hN] at hb
      have kk := k H' s1
      have ef : isTop size l = true := (isTop_iff size l).mpr fun i i0 i1 => (dn_ends i l).mpr fun q hq => bad_nil.mp (hb q hq) i i0 (by omega)
      rw [ef] at kk
      exact kk
def spIsBotL : Sp := fun vs H Q _ => ∃ (a : Addr) (size : Int) (l : List Int), vs = [.int size, .ref a] ∧ H a = some (.lst (nums l)) ∧ 2 ≤ size ∧ size ≤ 6 ∧ l.length ≤ 100 ∧ ∀ H', Same H H' → Q (.bl (isBot size l)) H'
theorem scIsBotL : FnScope ["size", "letters", "at", "ahead", "i"] ["size", "letters"] (defScope sIsBottomL) := ⟨rfl, rfl, rfl, by decide +kernel, rfl, by decide +kernel, by decide +kernel⟩
theorem ok_isbotL {f : Addr} {fd : FuncData} (B : Bare mg) (F : Df K mg "_law_is_bottom" sIsBottomL f fd) : FnOk P w K mg base CX0 1 f fd ["size", "letters"] spIsBotL := by
  refine F.fn.ok scIsBotL (fun vs H Q E h => ?_) (fun cdv A outer s H vs Q E hr h => ?_)
  · obtain ⟨a, size, l, rfl, _⟩ := h
    rfl
  · obtain ⟨a, size, l, rfl, ha, z0, z1, hlen, k⟩ := h
    refine ⟨_, pss_cons (ps_for PassesOwn.never rfl (pi_range1 (by rfl) B.range (pa_cons (pe_op op_add (pe_callB call_len_seq (by rfl) B.len PySem.boot_len (pa_cons (pv 1) pa_nil)) pe_int) pa_nil)) (pg_name (i := 2) scIsBotL.nd rfl (Or.inl rfl))
        (pss_cons (ps_set (i := 3) scIsBotL.nd rfl (Or.inr rfl) (pe_slice sl_list (pv 1) po_none (po_some (pv 2))))
        (pss_one (ps_if (pt_cmpR (op_neD hr.units) (pe_lc (own := [("i", 4)]) (g := gName 4)
            (tt := tTest (tOp (rI0 fun i j => .bl (decide (j < i))) (tBM K "list" (rCntI K) (tVar 3) (tCons (tVar 4) tNil)) (tBM K "list" (rCntI K) (tVar 3) (tCons (tOp (rI0 fun i j => .int (i + j)) (tVar 4) (tC (.int 1))) tNil))))
            rfl scIsBotL.nd (pi_range2 (by rfl) B.range (pa_cons pe_int (pa_cons (pv 0) pa_nil))) (blkOk_by (N := ["size", "letters", "at", "ahead", "i"]) (sc := defScope sIsBottomL) (by decide +kernel))
            (fun _ _ _ _ _ => pg_name (i := 4) scIsBotL.nd rfl (Or.inl rfl))
            (fun _ _ _ _ _ => pts_one (pt_cmpR op_gt (pe_bm PySem.F.plainAttrs_list PySem.F.slot_list_count PySem.F.type_list_count mt_lcount (pv 3) (pa_cons (pv 4) pa_nil))
              (pe_bm PySem.F.plainAttrs_list PySem.F.slot_list_count PySem.F.type_list_count mt_lcount (pv 3) (pa_cons (pe_op op_add (pv 4) pe_int) pa_nil)) (nomark _))) (fun _ _ _ _ _ => pv 4)) (pe_lst pa_nil) (nomark _)) (pss_one (ps_ret pe_bl)) pss_nil))))
      (pss_one (ps_ret pe_bl)), ?_⟩
    have hN : ((((nums l).length : Nat) : Int) + 1).toNat = l.length + 1 := by
      rw [List.length_map]
      omega
    refine ⟨_, rfl, a, _, rfl, .inl (SqL.of ha), _, _, rfl, rfl, _, rfl, by omega, by rw [List.length_map]; omega, for_range (lo := 0) (n := ((((nums l).length : Nat) : Int) + 1).toNat) (fun j σ H' => ∃ v2 v3 v4 : Option V, σ = [some (.int size), some (.ref a), v2, v3, v4] ∧ Same H H' ∧
      ∀ q, q < j → bad2 (size - 1).toNat (l.take q) = []) ⟨_, _, _, rfl, Same.refl H, fun q hq => absurd hq (Nat.not_lt_zero q)⟩ ?_ ?_⟩
    · rintro j σ H' hj ⟨v2, v3, v4, rfl, s1, hb⟩
      rw [hN] at hj
      have ea := s1 _ _ ha
      refine ⟨_, rfl, _, rfl, _, rfl, a, _, rfl, SqL.of ea, fun e he => ?_⟩
      rw [cut_take l (show (0 : Int) ≤ 0 + (j : Int) by omega), show (0 + (j : Int)).toNat = j by omega]
      have s2 : Same H (upd H' e (.lst (nums (l.take j)))) := s1.trans (same_new he)
      have ee : (upd H' e (.lst (nums (l.take j)))) e = some (.lst (nums (l.take j))) := upd_same
      generalize upd H' e (.lst (nums (l.take j))) = H2 at s2 ee ⊢
      refine ⟨_, rfl, 1, size, rfl, ⟨by decide, by decide, by omega, by omega⟩, fun D hD => lc_range (lo := 1) (n := (size - 1).toNat) (fun q H3 => Same H2 H3 ∧ H3 D = some (.lst (nums (bad2 q (l.take j))))) ⟨same_new hD, upd_same⟩ ?_ ?_⟩
      · rintro q H3 hq ⟨s3, e3⟩
        have ee3 := s3 _ _ ee
        refine ⟨rfl, _, rfl, .inl ⟨rfl, _, SqL.of ee3⟩, _, rfl, e, _, _, rfl, rfl, SqL.of ee3, _, rfl, .inl ⟨rfl, _, SqL.of ee3⟩, _, rfl, _, _, rfl, rfl, e, _, _, rfl, rfl, SqL.of ee3, _, _, rfl, rfl, _, rfl, ?_⟩
        have eb : bad2 (q + 1) (l.take j) = bad2 q (l.take j) ++ (if (l.take j).count (1 + (q : Int) + 1) < (l.take j).count (1 + (q : Int)) then [1 + (q : Int)] else []) := by
          unfold bad2
          rw [ixs_succ, List.filter_append]
          congr 1
          simp only [List.filter_cons, List.filter_nil, decide_eq_true_eq]
        refine ite2 (fun hc => ?_) (fun hc => ?_)
        · have c := of_decide_eq_true hc
          rw [if_pos (by omega)] at eb
          refine ⟨_, rfl, _, e3, ?_, fun b o z => ?_, by rw [upd_same, eb]; simp [nums]⟩
          · rw [List.length_map]
            have := List.length_filter_le (fun i => decide ((l.take j).count (i + 1) < (l.take j).count i)) (ixs q)
            rw [ixs_len] at this
            refine small1000 ?_
            unfold bad2
            omega
          · rw [upd_ne (ne_of_none z hD)]
            exact s3 _ _ z
        · have c : ¬ (((l.take j).count (1 + (q : Int) + 1) : Nat) : Int) < ((l.take j).count (1 + (q : Int)) : Nat) := fun z => hc (decide_eq_true z)
          rw [if_neg (by omega), List.append_nil] at eb
          exact ⟨s3, by rw [eb]; exact e3⟩
      · rintro H3 ⟨s3, e3⟩
        refine ⟨Nat.zero_le _, fun e2 he2 => ?_⟩
        have s4 : Same H3 (upd H3 e2 (.lst [])) := same_new he2
        refine ⟨.list ((bad2 (size - 1).toNat (l.take j)).map PyData.int), .list [], .lst (SqL.of (s4 _ _ e3)) (dp_nums _), .lst (SqL.of upd_same) .nil, shaped_nums _, by decide, _, rfl, ?_⟩
        rw [eqv_empty]
        by_cases hz : bad2 (size - 1).toNat (l.take j) = []
        · rw [decide_eq_true hz]
          refine iteF ⟨_, _, _, rfl, (s2.trans s3).trans s4, fun q hq => ?_⟩
          rcases Nat.lt_or_ge q j with z | z
          · exact hb q z
          · rw [show q = j by omega]
            exact hz
        · rw [decide_eq_false hz]
          refine iteT ?_
          have kk := k _ ((s2.trans s3).trans s4)
          have ef : isBot size l = false := by
            rw [Bool.eq_false_iff]
            intro z
            refine hz (bad2_nil.mpr fun i i0 i1 => ?_)
            exact (up_starts i l).mp ((isBot_iff size l).mp z i i0 (by omega)) j (by omega)
          rw [ef] at kk
          exact kk
    · rintro σ H' ⟨v2, v3, v4, rfl, s1, hb⟩
      rw [hN] at hb
      have kk := k H' s1
      have ef : isBot size l = true := (isBot_iff size l).mpr fun i i0 i1 => (up_starts i l).mpr fun q hq => bad2_nil.mp (hb q (by omega)) i i0 (by omega)
      rw [ef] at kk
      exact kk
end
end Lw
/-! U. A deed done by the law; deeds until none is left. -/
namespace LwM
theorem upL_len (i : Int) (l : List Int) : (upL i l).length = l.length := List.length_set ..
theorem dnL_len (i : Int) (l : List Int) : (dnL i l).length = l.length := List.length_set ..
theorem doneL_len {d : Int} {l r : List Int} (h : doneL d l = some r) : r.length = l.length := by
  unfold doneL at h
  split at h
  · split at h
    · cases h
    · cases h
      exact upL_len _ _
  · split at h
    · cases h
    · cases h
      exact dnL_len _ _
theorem set_bd {l : List Int} {n : Int} (h : ∀ x ∈ l, 1 ≤ x ∧ x ≤ n) (p : Nat) {z : Int} (z0 : 1 ≤ z) (z1 : z ≤ n) : ∀ x ∈ l.set p z, 1 ≤ x ∧ x ≤ n := fun y hy => by
  rcases List.mem_or_eq_of_mem_set hy with q | q
  · exact h y q
  · rw [q]
    exact ⟨z0, z1⟩
theorem doneL_bd {d n : Int} {l r : List Int} (hl : ∀ x ∈ l, 1 ≤ x ∧ x ≤ n) (h0 : d ≠ 0) (h1 : -(n - 1) ≤ d) (h2 : d ≤ n - 1) (h : doneL d l = some r) : ∀ x ∈ r, 1 ≤ x ∧ x ≤ n := by
  unfold doneL at h
  split at h
  · split at h
    · cases h
    · cases h
      exact set_bd hl _ (by omega) (by omega)
  · split at h
    · cases h
    · cases h
      exact set_bd hl _ (by omega) (by omega)
theorem doneL_sum {d : Int} {l r : List Int} (h : doneL d l = some r) : r.sum = l.sum + (if 0 < d then 1 else -1) := by
  unfold doneL at h
  by_cases hd : 0 < d
  · rw [if_pos hd] at h ⊢
    split at h
    · cases h
    · rename_i z
      cases h
      exact up_sum z
  · rw [if_neg hd] at h ⊢
    split at h
    · cases h
    · rename_i z
      cases h
      have := dn_sum z
      omega
end LwM
namespace Lw
open PySem L2 LwE LwM
section
variable {P : Program} {w : World} {K : PySem.W.Frag} {mg : Str → Option Value} {base : Heap} {C : Addr}
def spDone : Sp := fun vs H Q _ => ∃ (a : Addr) (d : Int) (ls : List Int), vs = [.ref a, .int d] ∧ H a = some (.lst (nums ls)) ∧ ls.length ≤ 100 ∧ d ≠ 0 ∧
  (doneL d ls = none → ∀ H', Same H H' → Q .non H') ∧ ∀ r, doneL d ls = some r → ∀ q H', Same H H' → H q = none → H' q = some (.lst (nums r)) → Q (.ref q) H'
theorem scDone : FnScope ["letters", "deed", "i", "pairs", "lows", "highs"] ["letters", "deed"] (defScope sDone) := ⟨rfl, rfl, rfl, by decide +kernel, rfl, by decide +kernel, by decide +kernel⟩
theorem at_lst {l : List Int} (h : l ≠ []) : atI (nums l) (-1) = some (.int (lst l)) := by
  obtain ⟨r, e⟩ := lst_snoc h
  have e2 : nums l = nums r ++ [.int (lst l)] := by
    rw [e]
    simp [nums, lst]
  rw [e2]
  exact atI_last _ _
theorem at_fst {l : List Int} (h : l ≠ []) : atI (nums l) 0 = some (.int (fst l)) := by
  cases l with
  | nil => exact absurd rfl h
  | cons a r => exact at_of (j := 0) rfl rfl
theorem ok_done {f f1 : Addr} {fd fd1 : FuncData} (F : Df K mg "_law_done" sDone f fd) (F1 : Df K mg "_law_left" sLeft f1 fd1) (b1 : Binds K fd1 ["letters", "i"] []) (G1 : FnOk P w K mg base CX0 1 f1 fd1 ["letters", "i"] spLeft) :
    FnOk P w K mg base CX0 2 f fd ["letters", "deed"] spDone := by
  refine F.fn.ok scDone (fun vs H Q E h => ?_) (fun cdv A outer s H vs Q E hr h => ?_)
  · obtain ⟨a, d, ls, rfl, _⟩ := h
    rfl
  · obtain ⟨a, d, ls, rfl, ha, hlen, hd, kn, ks⟩ := h
    refine ⟨_, pss_cons (ps_set (i := 2) scDone.nd rfl (Or.inl rfl) (pe_ifExp (pt_cmpR op_gt (pv 1) pe_int (nomark _)) (pv 1) (pe_op op_sub pe_int (pv 1))))
      (pss_cons (ps_asg (pe_call G1 hr (by rfl) F1.g F1.fn.kp b1 .nil pass0 (pa_cons (pv 0) (pa_cons (pv 2) pa_nil)))
        (pg_unl rfl (pgs_cons (pg_name (i := 3) scDone.nd rfl (Or.inl rfl)) (pgs_cons (pg_name (i := 4) scDone.nd rfl (Or.inl rfl)) (pgs_cons (pg_name (i := 5) scDone.nd rfl (Or.inl rfl)) pgs_nil)))))
      (pss_cons (ps_if (PW.pt (pw_and (pt_cmpR op_gt (pv 1) pe_int (nomark _)) (pw_and1 (pt_cmpR (op_neD hr.units) (pv 4) (pe_lst pa_nil) (nomark _)))))
        (pss_one (ps_ret (pe_op op_cat (pe_op op_cat (pe_slice sl_list (pv 0) po_none (po_some (pe_ix ix_list (pv 4) (pe_un un_neg pe_int) (fun _ _ => rfl)))) (pe_lst (pa_cons (pe_op op_add (pv 2) pe_int) pa_nil)))
          (pe_slice sl_list (pv 0) (po_some (pe_op op_add (pe_ix ix_list (pv 4) (pe_un un_neg pe_int) (fun _ _ => rfl)) pe_int)) po_none)))) pss_nil)
      (pss_cons (ps_if (PW.pt (pw_and (pt_cmpR op_lt (pv 1) pe_int (nomark _)) (pw_and1 (pt_cmpR (op_neD hr.units) (pv 5) (pe_lst pa_nil) (nomark _)))))
        (pss_one (ps_ret (pe_op op_cat (pe_op op_cat (pe_slice sl_list (pv 0) po_none (po_some (pe_ix ix_list (pv 5) pe_int (fun _ _ => rfl)))) (pe_lst (pa_cons (pv 2) pa_nil)))
          (pe_slice sl_list (pv 0) (po_some (pe_op op_add (pe_ix ix_list (pv 5) pe_int (fun _ _ => rfl)) pe_int)) po_none)))) pss_nil)
      (pss_one (ps_ret pe_non))))), ?_⟩
    have out : ∀ (H1 : Hp) (p x : Int) (r : List Int), Same H H1 → 0 ≤ p → p < ls.length → r = ls.set p.toNat x → doneL d ls = some r → ∀ q1, H1 q1 = none → ∀ q2, (upd H1 q1 (.lst (nums (ls.take p.toNat)))) q2 = none →
        ∀ q3, (upd (upd H1 q1 (.lst (nums (ls.take p.toNat)))) q2 (.lst [.int x])) q3 = none → ∀ q4, (upd (upd (upd H1 q1 (.lst (nums (ls.take p.toNat)))) q2 (.lst [.int x])) q3 (.lst (nums (ls.take p.toNat) ++ [.int x]))) q4 = none →
        ∀ q5, (upd (upd (upd (upd H1 q1 (.lst (nums (ls.take p.toNat)))) q2 (.lst [.int x])) q3 (.lst (nums (ls.take p.toNat) ++ [.int x]))) q4 (.lst (nums (ls.drop (p + 1).toNat)))) q5 = none →
        Q (.ref q5) (upd (upd (upd (upd (upd H1 q1 (.lst (nums (ls.take p.toNat)))) q2 (.lst [.int x])) q3 (.lst (nums (ls.take p.toNat) ++ [.int x]))) q4 (.lst (nums (ls.drop (p + 1).toNat)))) q5 (.lst (nums (ls.take p.toNat) ++ [.int x] ++ nums (ls.drop (p + 1).toNat)))) := by
      intro H1 p x r s1 p0 p1 er ed q1 n1 q2 n2 q3 n3 q4 n4 q5 n5
      have s2 := (((s1.trans (same_new n1)).trans (same_new n2)).trans (same_new n3)).trans (same_new (o := .lst (nums (ls.drop (p + 1).toNat))) n4)
      refine ks r ed q5 _ (s2.trans (same_new n5)) (s2.free n5) ?_
      rw [upd_same, er]
      have e3 : (p + 1).toNat = p.toNat + 1 := by omega
      rw [e3, ← set_cut ls p.toNat x (by omega)]
      simp [nums]
    have szs : ∀ (p : Int), (nums (ls.take p.toNat)).length ≤ 100 ∧ (nums (ls.drop (p + 1).toNat)).length ≤ 100 := fun p => by
      rw [List.length_map, List.length_map, List.length_take, List.length_drop]
      omega
    refine ⟨_, rfl, _, _, rfl, rfl, _, rfl, ?_⟩
    by_cases hpos : 0 < d
    · rw [decide_eq_true hpos]
      refine iteT ⟨_, rfl, ?_⟩
      refine ⟨_, rfl, _, rfl, a, d, ls, rfl, ha, hlen, fun q r lo hi ps H1 s1 e1 e2 e3 e4 => ?_⟩
      refine ⟨q, _, rfl, SqL.of e1, rfl, _, _, rfl, _, _, rfl, _, _, rfl, rfl, ?_⟩
      refine ⟨_, rfl, _, _, rfl, rfl, _, rfl, ?_⟩
      rw [decide_eq_true hpos]
      refine iteT ⟨_, rfl, Nat.zero_le _, fun z hz => ?_⟩
      have s2 : Same H1 (upd H1 z (.lst [])) := same_new hz
      have ez : (upd H1 z (.lst [])) z = some (.lst []) := upd_same
      generalize upd H1 z (.lst []) = H2 at s2 ez ⊢
      have s12 := s1.trans s2
      refine ⟨.list ((lows d ls).map PyData.int), .list [], .lst (SqL.of (s2 _ _ e3)) (dp_nums _), .lst (SqL.of ez) .nil, shaped_nums _, by decide, _, rfl, ?_⟩
      rw [eqv_empty]
      by_cases hz0 : lows d ls = []
      · rw [decide_eq_true hz0]
        have ed : doneL d ls = none := by
          unfold doneL
          rw [if_pos hpos, if_pos hz0]
        refine iteF ⟨_, rfl, _, _, rfl, rfl, _, rfl, ?_⟩
        rw [decide_eq_false (by omega)]
        exact iteF (iteF (kn ed H2 s12))
      · rw [decide_eq_false hz0]
        have ed : doneL d ls = some (upL d ls) := by
          unfold doneL
          rw [if_pos hpos, if_neg hz0]
        have b := br_bd (i := d) (l := ls) (.inl (lst_mem hz0))
        have el := at_lst hz0
        have sz := szs (lst (lows d ls))
        refine iteT ⟨_, rfl, _, rfl, 1, rfl, lo, _, _, _, rfl, rfl, SqL.of (s2 _ _ e3), el, _, rfl, a, _, rfl, SqL.of (s12 _ _ ha), fun q1 n1 => ?_⟩
        rw [cut_take ls b.1]
        refine ⟨_, rfl, _, _, rfl, rfl, (by show 1 ≤ sizeLine; decide), fun q2 n2 => ?_⟩
        refine ⟨q1, q2, _, _, rfl, rfl, same_new n2 _ _ upd_same, upd_same, by rw [sizeLine_eq]; simp; omega, fun q3 n3 => ?_⟩
        have s3 := (same_new (o := .lst (nums (ls.take (lst (lows d ls)).toNat))) n1).trans ((same_new (o := .lst [.int (d + 1)]) n2).trans (same_new (o := .lst (nums (ls.take (lst (lows d ls)).toNat) ++ [.int (d + 1)])) n3))
        refine ⟨_, rfl, _, rfl, 1, rfl, lo, _, _, _, rfl, rfl, SqL.of (s3 _ _ (s2 _ _ e3)), el, _, _, rfl, rfl, _, rfl, a, _, rfl, SqL.of (s3 _ _ (s12 _ _ ha)), fun q4 n4 => ?_⟩
        rw [cut_drop ls (by omega)] at *
        refine ⟨q3, q4, _, _, rfl, rfl, same_new n4 _ _ upd_same, upd_same, by rw [sizeLine_eq]; simp; omega, fun q5 n5 => ?_⟩
        exact out H2 _ (d + 1) _ s12 b.1 b.2 rfl ed q1 n1 q2 n2 q3 n3 q4 n4 q5 n5
    · rw [decide_eq_false hpos]
      refine iteF ⟨_, rfl, _, _, rfl, rfl, ?_⟩
      refine ⟨_, rfl, _, rfl, a, 0 - d, ls, rfl, ha, hlen, fun q r lo hi ps H1 s1 e1 e2 e3 e4 => ?_⟩
      refine ⟨q, _, rfl, SqL.of e1, rfl, _, _, rfl, _, _, rfl, _, _, rfl, rfl, ?_⟩
      refine ⟨_, rfl, _, _, rfl, rfl, _, rfl, ?_⟩
      rw [decide_eq_false hpos]
      refine iteF (iteF ⟨_, rfl, _, _, rfl, rfl, _, rfl, ?_⟩)
      rw [decide_eq_true (show d < 0 by omega)]
      refine iteT ⟨_, rfl, Nat.zero_le _, fun z hz => ?_⟩
      have s2 : Same H1 (upd H1 z (.lst [])) := same_new hz
      have ez : (upd H1 z (.lst [])) z = some (.lst []) := upd_same
      generalize upd H1 z (.lst []) = H2 at s2 ez ⊢
      have s12 := s1.trans s2
      have em : 0 - d = -d := by omega
      rw [em] at e3 e4
      refine ⟨.list ((highs (-d) ls).map PyData.int), .list [], .lst (SqL.of (s2 _ _ e4)) (dp_nums _), .lst (SqL.of ez) .nil, shaped_nums _, by decide, _, rfl, ?_⟩
      rw [eqv_empty]
      by_cases hz0 : highs (-d) ls = []
      · rw [decide_eq_true hz0]
        have ed : doneL d ls = none := by
          unfold doneL
          rw [if_neg hpos, if_pos hz0]
        exact iteF (kn ed H2 s12)
      · rw [decide_eq_false hz0]
        have ed : doneL d ls = some (dnL (-d) ls) := by
          unfold doneL
          rw [if_neg hpos, if_neg hz0]
        have b := br_bd (i := -d) (l := ls) (.inr (fst_mem hz0))
        have el := at_fst hz0
        have sz := szs (fst (highs (-d) ls))
        refine iteT ⟨_, rfl, _, rfl, hi, _, _, _, rfl, rfl, SqL.of (s2 _ _ e4), el, _, rfl, a, _, rfl, SqL.of (s12 _ _ ha), fun q1 n1 => ?_⟩
        rw [cut_take ls b.1]
        refine ⟨_, rfl, (by show 1 ≤ sizeLine; decide), fun q2 n2 => ?_⟩
        refine ⟨q1, q2, _, _, rfl, rfl, same_new n2 _ _ upd_same, upd_same, by rw [sizeLine_eq]; simp; omega, fun q3 n3 => ?_⟩
        have s3 := (same_new (o := .lst (nums (ls.take (fst (highs (-d) ls)).toNat))) n1).trans ((same_new (o := .lst [.int (0 - d)]) n2).trans (same_new (o := .lst (nums (ls.take (fst (highs (-d) ls)).toNat) ++ [.int (0 - d)])) n3))
        refine ⟨_, rfl, _, rfl, hi, _, _, _, rfl, rfl, SqL.of (s3 _ _ (s2 _ _ e4)), el, _, _, rfl, rfl, _, rfl, a, _, rfl, SqL.of (s3 _ _ (s12 _ _ ha)), fun q4 n4 => ?_⟩
        rw [cut_drop ls (by omega)] at *
        refine ⟨q3, q4, _, _, rfl, rfl, same_new n4 _ _ upd_same, upd_same, by rw [sizeLine_eq]; simp; omega, fun q5 n5 => ?_⟩
        exact out H2 _ (0 - d) _ s12 b.1 b.2 (by rw [em]; rfl) ed q1 n1 q2 n2 q3 n3 q4 n4 q5 n5
end
end Lw
/-! En. Deeds until none is left. -/
namespace Lw
open PySem L2 LwE LwM
/-- the deeds of one sign -/
def dds (sign : Int) (n : Nat) : List Int := (ixs n).map fun i => sign * i
theorem dds_succ (sign : Int) (n : Nat) : dds sign (n + 1) = dds sign n ++ [sign * (1 + ((n : Nat) : Int))] := by
  unfold dds
  rw [ixs_succ, List.map_append]
  rfl
theorem dds_len (sign : Int) (n : Nat) : (dds sign n).length = n := by
  unfold dds
  rw [List.length_map, ixs_len]
theorem dds_mem {sign : Int} {n : Nat} {d : Int} (hs : sign = 1 ∨ sign = -1) (h : d ∈ dds sign n) : d ≠ 0 ∧ -(n : Int) ≤ d ∧ d ≤ n ∧ (0 < d ↔ 0 < sign) := by
  obtain ⟨i, hi, rfl⟩ := List.mem_map.mp h
  have := ixs_mem.mp hi
  rcases hs with e | e <;> subst e <;> omega
/-- how far letters may still be led -/
def far (sign : Int) (l : List Int) : Int := if 0 < sign then 6 * (l.length : Int) - l.sum else l.sum - l.length
theorem far_done {sign d n : Int} {l r : List Int} (hd : 0 < d ↔ 0 < sign) (h : doneL d l = some r) : far sign r = far sign l - 1 := by
  have e1 := doneL_len h
  have e2 := doneL_sum h
  unfold far
  by_cases c : 0 < sign
  · rw [if_pos (hd.mpr c)] at e2
    rw [if_pos c, if_pos c, e1, e2]
    omega
  · rw [if_neg (fun z => c (hd.mp z))] at e2
    rw [if_neg c, if_neg c, e1, e2]
    omega
theorem far_bd {sign n : Int} {l : List Int} (h : ∀ x ∈ l, 1 ≤ x ∧ x ≤ n) (hn : n ≤ 6) : 0 ≤ far sign l ∧ far sign l ≤ 5 * l.length := by
  have b := sum_bd (l := l) (n := 6) fun x hx => ⟨(h x hx).1, by have := (h x hx).2; omega⟩
  unfold far
  split <;> omega
/-- how many are drawn -/
def spotAt (m : Addr) (H : Hp) : Nat := match H m with
  | some (HO.dK [_, _, (_, V.int z)]) => z.toNat
  | _ => 0
theorem Dr.spot {H : Hp} {m g c : Addr} {n : Int} (d : Dr H m g c n) : spotAt m H = n.toNat := by
  unfold spotAt
  rw [d.hm]
  rfl
section
variable {P : Program} {w : World} {K : PySem.W.Frag} {mg : Str → Option Value} {base : Heap} {C : Addr}
def spEnded : Sp := fun vs H Q _ => ∃ (m g c a : Addr) (n size sign : Int) (l : List Int), vs = [.ref m, .int size, .ref a, .int sign] ∧ Dr H m g c n ∧ n ≤ 90000 ∧ 2 ≤ size ∧ size ≤ 6 ∧ (sign = 1 ∨ sign = -1) ∧ H a = some (.lst (nums l)) ∧ a ≠ g ∧ l.length ≤ 16 ∧ (∀ x ∈ l, 1 ≤ x ∧ x ≤ size) ∧
  ∀ (q : Addr) (r : List Int) (n' : Int) (H' : Hp), Keep m g H H' → Dr H' m g c n' → n ≤ n' → n' ≤ n + 600 → H' q = some (.lst (nums r)) → q ≠ g → r.length = l.length → (∀ x ∈ r, 1 ≤ x ∧ x ≤ size) → (∀ d ∈ dds sign (size - 1).toNat, doneL d r = none) → Q (.ref q) H'
theorem scEnded : FnScope ["m", "size", "letters", "sign", "some", "deed", "more", "i", "one"] ["m", "size", "letters", "sign"] (defScope sEnded) := ⟨rfl, rfl, rfl, by decide +kernel, rfl, by decide +kernel, by decide +kernel⟩
structure EW (H H' : Hp) (m g c : Addr) (n size sign : Int) (l : List Int) (q r : Addr) (cur ss : List Int) : Prop where
  dr : ∃ n', Dr H' m g c n' ∧ n ≤ n' ∧ n' + 6 * far sign cur + ss.length ≤ n + 600
  kp : Keep m g H H'
  hq : H' q = some (.lst (nums cur))
  hr : H' r = some (.lst (nums ss))
  qg : q ≠ g
  rg : r ≠ g
  len : cur.length = l.length
  bd : ∀ x ∈ cur, 1 ≤ x ∧ x ≤ size
  sub : ∀ d ∈ ss, d ∈ dds sign (size - 1).toNat
  sl : ss.length ≤ 5
  out : ∀ d ∈ dds sign (size - 1).toNat, d ∉ ss → doneL d cur = none
theorem ok_ended {f f1 f2 : Addr} {fd fd1 fd2 : FuncData} (B : Bare mg) (F : Df K mg "_law_ended" sEnded f fd) (F1 : Df K mg "_law_draw" sDraw f1 fd1) (b1 : Binds K fd1 ["m", "limit"] [])
    (G1 : FnOk P w K mg base CX0 2 f1 fd1 ["m", "limit"] spDraw) (F2 : Df K mg "_law_done" sDone f2 fd2) (b2 : Binds K fd2 ["letters", "deed"] []) (G2 : FnOk P w K mg base CX0 2 f2 fd2 ["letters", "deed"] spDone) :
    FnOk P w K mg base CX0 3 f fd ["m", "size", "letters", "sign"] spEnded := by
  refine F.fn.ok scEnded (fun vs H Q E h => ?_) (fun cdv A outer s H vs Q E hr h => ?_)
  · obtain ⟨m, g, c, a, n, size, sign, l, rfl, _⟩ := h
    rfl
  · obtain ⟨m, g, c, a, n, size, sign, l, rfl, d0, hn, z0, z1, hsg, ha, nag, hlen, hbd, k⟩ := h
    refine ⟨_, pss_cons (ps_setLc (i := 4) (own := [("i", 7)]) (g := gName 7) (tt := tYes) rfl scEnded.nd rfl rfl (sw_true rfl rfl rfl (by decide +kernel)) (pi_range2 (by rfl) B.range (pa_cons pe_int (pa_cons (pv 1) pa_nil)))
        (blkOk_by (N := ["m", "size", "letters", "sign", "some", "deed", "more", "i", "one"]) (sc := defScope sEnded) (by decide +kernel))
        (fun _ _ _ _ _ => pg_name (i := 7) scEnded.nd rfl (Or.inl rfl)) (fun _ _ _ _ _ => pts_nil) (fun _ _ _ _ _ => pe_op op_mul (pv 3) (pv 7)))
      (pss_cons (ps_while PassesOwn.never (pt_cmpR (op_neD hr.units) (pv 4) (pe_lst pa_nil) (nomark _))
        (pss_cons (ps_set (i := 5) scEnded.nd rfl (Or.inr rfl) (pe_ix ix_list (pv 4) (pe_call G1 hr (by rfl) F1.g F1.fn.kp b1 .nil pass0 (pa_cons (pv 0) (pa_cons (pe_callB call_len_seq (by rfl) B.len PySem.boot_len (pa_cons (pv 4) pa_nil)) pa_nil))) (fun _ _ => rfl)))
        (pss_cons (ps_set (i := 6) scEnded.nd rfl (Or.inl rfl) (pe_call G2 hr (by rfl) F2.g F2.fn.kp b2 .nil pass0 (pa_cons (pv 2) (pa_cons (pv 5) pa_nil))))
        (pss_cons (ps_set (i := 4) scEnded.nd rfl (Or.inl rfl) (pe_ifExp (pt_cmpR op_isN (pv 6) pe_non (nomark _))
          (pe_lc (own := [("one", 8)]) (g := gName 8) (tt := tTest (tOp rNe (tVar 8) (tVar 5))) rfl scEnded.nd (pi_list (pv 4))
            (blkOk_by (N := ["m", "size", "letters", "sign", "some", "deed", "more", "i", "one"]) (sc := defScope sEnded) (by decide +kernel))
            (fun _ _ _ _ _ => pg_name (i := 8) scEnded.nd rfl (Or.inl rfl)) (fun _ _ _ _ _ => pts_one (pt_cmpR op_ne (pv 8) (pv 5) (nomark _))) (fun _ _ _ _ _ => pv 8))
          (pe_lc (own := [("i", 7)]) (g := gName 7) (tt := tYes) rfl scEnded.nd (pi_range2 (by rfl) B.range (pa_cons pe_int (pa_cons (pv 1) pa_nil)))
            (blkOk_by (N := ["m", "size", "letters", "sign", "some", "deed", "more", "i", "one"]) (sc := defScope sEnded) (by decide +kernel))
            (fun _ _ _ _ _ => pg_name (i := 7) scEnded.nd rfl (Or.inl rfl)) (fun _ _ _ _ _ => pts_nil) (fun _ _ _ _ _ => pe_op op_mul (pv 3) (pv 7)))))
        (pss_one (ps_set (i := 2) scEnded.nd rfl (Or.inl rfl) (pe_ifExp (pt_cmpR op_isN (pv 6) pe_non (nomark _)) (pv 2) (pv 6))))))))
      (pss_one (ps_ret (pv 2)))), ?_⟩
    have cm : ∀ j : Int, CMul sign j := fun j => .inl (by rcases hsg with e | e <;> rw [e] <;> decide)
    have fb := far_bd (sign := sign) hbd z1
    refine ⟨_, rfl, 1, size, rfl, ⟨by decide, by decide, by omega, by omega⟩, fun D hD => ?_⟩
    refine lc_range (lo := 1) (n := (size - 1).toNat) (fun j H' => Same H H' ∧ H' D = some (.lst (nums (dds sign j)))) ⟨same_new hD, upd_same⟩ ?_ ?_
    · rintro j H' hj ⟨s1, e1⟩
      refine ⟨rfl, ?_⟩
      unfold tYes
      refine iteT ⟨_, rfl, _, rfl, _, _, rfl, rfl, cm _, _, e1, ?_, fun b o e => ?_, ?_⟩
      · rw [List.length_map, dds_len]
        exact small1000 (by omega)
      · rw [upd_ne (ne_of_none e hD)]
        exact s1 _ _ e
      · rw [upd_same, dds_succ]
        simp [nums]
    · rintro H1 ⟨s1, e1⟩
      refine while_by (fun σ H' => ∃ (q r : Addr) (cur ss : List Int) (v5 v6 : Option V), σ = [some (.ref m), some (.int size), some (.ref q), some (.int sign), some (.ref r), v5, v6, none, none] ∧ EW H H' m g c n size sign l q r cur ss)
        (fun _ H' => (n + 600).toNat - spotAt m H') ⟨a, D, l, dds sign (size - 1).toNat, none, none, rfl, ⟨n, d0.same s1, by omega, ?_⟩, .of s1, s1 _ _ ha, e1, nag, (d0.off hD).g, rfl, hbd, fun _ h => h, ?_, fun d h1 h2 => absurd h1 h2⟩ ?_ ?_
      · rw [dds_len]
        omega
      · rw [dds_len]
        omega
      · rintro σ H' ⟨q, r, cur, ss, v5, v6, rfl, W⟩
        obtain ⟨n', dn, n0, n1⟩ := W.dr
        have fc := far_bd (sign := sign) W.bd z1
        have wl := W.len
        have wsl := W.sl
        have nn0 := d0.n0
        rw [dn.spot]
        refine ⟨_, rfl, Nat.zero_le _, fun z hz => ?_⟩
        have s2 : Same H' (upd H' z (.lst [])) := same_new hz
        have ez : (upd H' z (.lst [])) z = some (.lst []) := upd_same
        generalize upd H' z (.lst []) = H2 at s2 ez ⊢
        refine ⟨.list (ss.map PyData.int), .list [], .lst (SqL.of (s2 _ _ W.hr)) (dp_nums _), .lst (SqL.of ez) .nil, shaped_nums _, by decide, _, rfl, ?_⟩
        rw [eqv_empty]
        by_cases hz0 : ss = []
        · rw [decide_eq_true hz0]
          refine iteF ⟨_, rfl, ?_⟩
          exact k q cur n' H2 (W.kp.trans (.of s2)) (dn.same s2) n0 (by omega) (s2 _ _ W.hq) W.qg W.len W.bd fun d hd => W.out d hd (by rw [hz0]; simp)
        · rw [decide_eq_false hz0]
          have hpos : 0 < ss.length := List.length_pos_iff.mpr hz0
          have d2 := dn.same s2
          have hr2 := s2 _ _ W.hr
          have hq2 := s2 _ _ W.hq
          have rm : r ≠ m := ne_of hr2 d2.hm (by intro z; cases z)
          have qm : q ≠ m := ne_of hq2 d2.hm (by intro z; cases z)
          refine iteT ⟨_, rfl, _, rfl, _, rfl, r, _, rfl, .inl (SqL.of hr2), m, g, c, n', _, rfl, d2, by omega, by rw [List.length_map]; omega, by rw [List.length_map]; omega, fun y H5 y0 y1 d5 k5 => ?_⟩
          rw [List.length_map] at y1
          have hr5 := k5 _ _ hr2 rm W.rg
          have hq5 := k5 _ _ hq2 qm W.qg
          have kk5 := (W.kp.trans (.of s2)).trans k5
          have hx : ss[y.toNat]? = some ss[y.toNat] := List.getElem?_eq_getElem (by omega)
          have hmem : ss[y.toNat] ∈ ss := List.getElem_mem _
          have nx : (nums ss)[y.toNat]? = some (.int ss[y.toNat]) := by
            rw [List.getElem?_map, hx]
            rfl
          generalize ss[y.toNat] = dd at hmem nx
          clear hx
          have hdd := W.sub dd hmem
          obtain ⟨dd0, dd1, dd2, dd3⟩ := dds_mem hsg hdd
          refine ⟨r, _, _, _, rfl, rfl, SqL.of hr5, at_of (j := y.toNat) (by omega) nx, ?_⟩
          refine ⟨_, rfl, _, rfl, q, dd, cur, rfl, hq5, by omega, dd0, fun ed H6 s6 => ?_, fun rr ed p H6 s6 np ep => ?_⟩
          · have d6 := d5.same s6
            refine ⟨_, rfl, rfl, _, rfl, ?_⟩
            rw [decide_eq_true (rfl : V.non = V.non)]
            refine iteT ?_
            refine ⟨_, rfl, r, rfl, ⟨_, SqL.of (s6 _ _ hr5)⟩, fun D2 hD2 => lc_list (K := K) (a := r) (xs := nums ss) (fun j H7 => Same H6 H7 ∧ H7 D2 = some (.lst (nums ((ss.take j).filter fun y => decide (y ≠ dd))))) ⟨same_new hD2, upd_same⟩
              (fun j H7 _ ⟨s7, _⟩ => SqL.of (s7 _ _ (s6 _ _ hr5))) ?_ ?_⟩
            · rintro j x H7 hx ⟨s7, e7⟩
              obtain ⟨z, rfl, hz, _⟩ := nums_get hx
              have ef := filt_snoc hz (fun y => decide (y ≠ dd))
              refine ⟨rfl, _, rfl, _, rfl, rfl, _, rfl, ite2 (fun hc => ?_) (fun hc => ?_)⟩
              · have c : z ≠ dd := by simpa using hc
                rw [if_pos (decide_eq_true c)] at ef
                refine ⟨_, rfl, _, e7, ?_, fun b o e => ?_, by rw [upd_same, ef]; simp [nums]⟩
                · rw [List.length_map]
                  have := List.length_filter_le (fun y => decide (y ≠ dd)) (ss.take j)
                  rw [List.length_take] at this
                  exact small1000 (by omega)
                · rw [upd_ne (ne_of_none e hD2)]
                  exact s7 _ _ e
              · have c : z = dd := by simpa using hc
                rw [if_neg (by simpa using c), List.append_nil] at ef
                exact ⟨s7, by rw [ef]; exact e7⟩
            · rintro H7 ⟨s7, e7⟩
              rw [List.length_map, List.take_length] at e7
              have hlt : (ss.filter fun y => decide (y ≠ dd)).length < ss.length := List.length_filter_lt_length_iff_exists.mpr ⟨dd, hmem, by simp⟩
              refine ⟨_, rfl, rfl, _, rfl, ?_⟩
              rw [decide_eq_true (rfl : V.non = V.non)]
              refine iteT ⟨_, rfl, ⟨q, D2, cur, _, _, _, rfl, ⟨n' + 1, d6.same s7, by omega, by omega⟩, (kk5.trans (.of s6)).trans (.of s7), s7 _ _ (s6 _ _ hq5), e7, W.qg, (d6.off hD2).g, W.len, W.bd, fun d h => W.sub d (List.mem_filter.mp h).1, by omega, fun d h1 h2 => ?_⟩, ?_⟩
              · by_cases e : d = dd
                · rw [e]
                  exact ed
                · refine W.out d h1 fun h3 => h2 (List.mem_filter.mpr ⟨h3, decide_eq_true e⟩)
              · rw [(d6.same s7).spot]
                omega
          · have d6 := d5.same s6
            have ef := far_done (n := size) dd3 ed
            have eL := doneL_len ed
            have bd6 := doneL_bd W.bd dd0 (by omega) (by omega) ed
            have fr := far_bd (sign := sign) bd6 z1
            refine ⟨_, rfl, rfl, _, rfl, ?_⟩
            rw [decide_eq_false (by intro z; cases z)]
            refine iteF ?_
            refine ⟨_, rfl, 1, size, rfl, ⟨by decide, by decide, by omega, by omega⟩, fun D2 hD2 => ?_⟩
            refine lc_range (lo := 1) (n := (size - 1).toNat) (fun j H7 => Same H6 H7 ∧ H7 D2 = some (.lst (nums (dds sign j)))) ⟨same_new hD2, upd_same⟩ ?_ ?_
            · rintro j H7 hj ⟨s7, e7⟩
              refine ⟨rfl, ?_⟩
              unfold tYes
              refine iteT ⟨_, rfl, _, rfl, _, _, rfl, rfl, cm _, _, e7, ?_, fun b o e => ?_, ?_⟩
              · rw [List.length_map, dds_len]
                exact small1000 (by omega)
              · rw [upd_ne (ne_of_none e hD2)]
                exact s7 _ _ e
              · rw [upd_same, dds_succ]
                simp [nums]
            · rintro H7 ⟨s7, e7⟩
              refine ⟨_, rfl, rfl, _, rfl, ?_⟩
              rw [decide_eq_false (by intro z; cases z)]
              refine iteF ⟨_, rfl, ⟨p, D2, rr, _, _, _, rfl, ⟨n' + 1, d6.same s7, by omega, ?_⟩, (kk5.trans (.of s6)).trans (.of s7), s7 _ _ ep, e7, (d5.off np).g, (d6.off hD2).g, by omega, bd6, fun _ h => h, ?_, fun d h1 h2 => absurd h1 h2⟩, ?_⟩
              · rw [dds_len]
                omega
              · rw [dds_len]
                omega
              · rw [(d6.same s7).spot]
                omega
      · intro σ H' Q1 Q2 hq h
        obtain ⟨v, e1, l0, h⟩ := h
        exact ⟨v, e1, l0, fun z hz => let ⟨x, y, e2, e3, e4, e5, b, e6, q⟩ := h z hz; ⟨x, y, e2, e3, e4, e5, b, e6, hq _ _ q⟩⟩
end
end Lw
/-! Gd. Defs that are called where no text is being made: the guards are known to be none. -/
namespace LwE
open PySem PySem.Spec PyProof.Rows L2
/-- a def's promise where no guard stands -/
structure FnG (P : Program) (w : World) (K : PySem.W.Frag) (mg : Str → Option Value) (base : Heap) (k : Nat) (f : Addr) (fd : FuncData) (ps : List Str) (sp : Sp) : Prop where
  len : ∀ vs H Q E, sp vs H Q E → vs.length = ps.length
  run : ∀ (A : Around) (outer : List Env) (s : Shared) (H : Hp) (args : Args) (us : List Value) (vs : List V) (Q : VK) (E : XK), A.guards = some [] → Room k A →
    Env0 P w K mg base A outer s H → BindsTo s fd args (ps.zip us) → Vals vs us → sp vs H Q E → codeAny (model P w) A (.call (.ref f) args) (CR CX0 outer P w H s Q E) s
section
variable {P : Program} {w : World} {K : PySem.W.Frag} {mg : Str → Option Value} {base : Heap}
theorem okG {x qual : Str} {st : Stmt} {f : Addr} {fd : FuncData} {N ps : List Str} {k : Nat} {sp : Sp} (F : Fun K x qual st f fd) (S : FnScope N ps (defScope st)) (len : ∀ vs H Q E, sp vs H Q E → vs.length = ps.length)
    (hbody : ∀ (cdv : Value) (A : Around) (outer : List Env) (s : Shared) (H : Hp) (vs : List V) (Q : VK) (E : XK), A.guards = some [] → Room k (A.deeper (PyProof.Rows.envOfC qual (defScope st) s.heap.objs.size f cdv)) → sp vs H Q E →
      ∃ t, PSs (cxOf CX0 P w K mg base N qual (defScope st) f cdv A outer s H E).nox (defBody st) t ∧ t { nx := fun _ H' => Q .non H', rt := Q } (L2.start N vs) H) : FnG P w K mg base (k + 1) f fd ps sp := by
  obtain ⟨oc, od, kV, doc, pm, an, cdv, ct, osl, rfl, lk, hcd⟩ := F.ex
  refine ⟨len, fun A outer s H args us vs Q E hg hr e0 hb r h => ?_⟩
  have old : ∀ b o, base.get? b = some o → s.heap.get? b = some o := fun b o e => (e0.bs b o e).1
  have Ks : K.In s.heap := e0.mod.kin.keeps old
  have free : s.heap.NoLimit := e0.mod.nolimit.keeps old
  have kinds : ∀ y ∈ ps.zip us, (defScope st).names.lookup y.1 = some .local ∨
      ((defScope st).names.lookup y.1 = some .cell ∧ ((cellsFrom (s.heap.objs.size + 1) (defScope st).names []).lookup y.1).isSome = true) := by
    rintro ⟨n, v⟩ hy
    rcases S.par n (List.of_mem_zip hy).1 with z | z
    · exact .inl z
    · exact .inr ⟨z, PySem.W.cellsFrom_some _ _ _ (.inl z)⟩
  refine codeAny_call_function hr.depth (Ks _ _ lk) rfl S.co S.gen rfl (PySem.W.codeRec_of Ks hcd) (hb _ _ _ _ ?_)
  refine wpAny_newFunctionEnv_cells S.kind kinds fun env eq s1 entry => ?_
  subst eq
  refine ⟨free.keeps entry.toInCall.keep, codeAny_func ?_⟩
  obtain ⟨t, ht, q⟩ := hbody cdv A outer s H vs Q E hg (hr.deeper _) h
  have I := inv_start (CX := CX0) (E := E) S hr.hd e0 (len _ _ _ _ h) r entry
  refine wpAny_mono (ht.nox.run [] s1 (L2.start N vs) H _ I q) (fun fl s' z => ?_) fun _ _ z => z
  cases fl with
  | brk =>
    obtain ⟨_, _, _, z⟩ := z
    exact z.elim
  | cont =>
    obtain ⟨_, _, _, z⟩ := z
    exact z.elim
  | next =>
    obtain ⟨σ', H', J, z⟩ := z
    exact ⟨.non, H', J.os, J.bare, J.base, J.hok, rfl, z⟩
  | ret u =>
    obtain ⟨v, σ', H', J, rv, z⟩ := z
    exact ⟨v, H', J.os, J.bare, J.base, J.hok, rv, z⟩
end
section
variable {X : Cx} {x : Str} {p pos : Pos} {e : Expr} {es : List Expr} {t : TA} {k : Nat} {f : Addr} {fd : FuncData} {ps : List Str} {sp : Sp}
/-- f(e, ..) where no guard stands -/
theorem pe_callG (hg : X.A.guards = some []) (F : FnG X.prog X.w X.K X.mg X.base k f fd ps sp) (hr : Room k X.A) (gx : Gl X x) (hm : X.mg x = some (.ref f)) (hk : PySem.W.keepIn X.K (.ref f) = true) (hb : Binds X.K fd ps [])
    (ha : PA X (e :: es) t) (hdb : (x == ("__debug__" : Str)) = false := by decide) (he : starEach (e :: es) X.env = (false, eval e X.env) :: starEach es X.env := by rfl)
    (hpl : (backTo pos (starEach es X.env)).any (·.1) = false := by rfl) : PE X (.Call (.Name x p) (e :: es) [] pos) (tCall sp [] E0 t) := by
  refine ⟨fun pins s σ H Q I h => ?_⟩
  refine wpAny_Call_Name_kw (ld_glob I gx hm ?_ hdb)
  refine PySem.W.callWith_K (h₀ := X.base) I.ok.mod.kin hk (thn (ha.run pos pins s σ H _ I h) fun us s1 ⟨vs, H1, I1, r, q⟩ => ⟨I1.kIn, ?_⟩) he hpl
  have q' : sp vs H1 Q E0 := by
    have z : sp (vs ++ []) H1 Q E0 := q
    rw [List.append_nil] at z
    exact z
  have hl : (us ++ []).length = ps.length := by
    rw [List.append_nil, ← r.length]
    exact F.len _ _ _ _ q'
  have b0 := hb s1 us I1.kIn hl
  rw [List.append_nil] at b0
  refine wpAny_call (codeAny_mono (F.run X.A X.stack s1 H1 ⟨us, []⟩ us vs Q E0 hg hr I1.env0 b0 r q') fun r s' z => ?_)
  cases r with
  | error e => exact (show False from z).elim
  | ok fl =>
    cases fl with
    | ret u => exact I1.after z
    | next => exact False.elim z
    | brk => exact False.elim z
    | cont => exact False.elim z
end
/-- the law's call -/
theorem call_law {P : Program} {w : World} {K : PySem.W.Frag} {mg mb : Str → Option Value} {k : Nat} {fa a : Addr} {fd : FuncData} {x : Str} {sp : Sp} {s₁ : Shared} {vs : List Value} {ns : List Int}
    (KX : K.In s₁.heap) (hns : s₁.heap.Ns mainGlobals mg) (hb : s₁.heap.Ns builtinsNs mb) (hbb : ∀ x : Str, x ≠ "__name__" → mb x = bootBuiltins x) (hlim : s₁.heap.NoLimit) (hgen : s₁.gens = #[])
    (ha : s₁.heap.get? a = some { cls := .type "list", data := .seq vs.toArray }) (hi : IntsAre vs ns) (hl : ns.length ≤ sizeLine) (hr : Room k callerA)
    (F : ∀ base : Heap, K.In base → base.Ns mainGlobals mg → FnG P w K mg base k fa fd [x] sp) (hbind : ∀ (s : Shared) (u : Value), BindsTo s fd ⟨[u], []⟩ [(x, u)])
    (hsp : ∀ H : Hp, Only H → SqL K H a (ns.map V.int) → sp [.ref a] H (fun v _ => v = .bl true) fun _ _ _ => False) :
    codeAny (model P w) callerA (.call (.ref fa) ⟨[.ref a], []⟩) (fun r s' => r = .ok (.ret (.bool true)) ∧ OldK s₁.heap s'.heap ∧ s'.os = s₁.os ∧ AllBare s'.gens) s₁ := by
  have rv := vals_ints hi
  have nlen := hi.length
  have core : ∀ H : Hp, Only H → SqL K H a (ns.map V.int) → HOk P w H s₁.heap → (∀ b, H b ≠ none → b = a) → (H a ≠ none → K.lookup a = none) →
      codeAny (model P w) callerA (.call (.ref fa) ⟨[.ref a], []⟩) (fun r s' => r = .ok (.ret (.bool true)) ∧ OldK s₁.heap s'.heap ∧ s'.os = s₁.os ∧ AllBare s'.gens) s₁ := by
    intro H hO hS hok only unk
    have keepsNs : ∀ {b : Addr} {m : Str → Option Value}, s₁.heap.Ns b m → (hidT s₁.heap H).Ns b m := by
      rintro b m ⟨o, es, ep, e, d, r⟩
      refine ⟨o, es, ep, hidT_get e ?_, d, r⟩
      cases q : H b with
      | none => rfl
      | some u =>
        have z := only b (by rw [q]; simp)
        rw [z, ha] at e
        cases e
        cases d
    have inK : K.In (hidT s₁.heap H) := by
      intro b o e
      refine hidT_get (KX b o e) ?_
      cases q : H b with
      | none => rfl
      | some u =>
        have z := only b (by rw [q]; simp)
        subst z
        rw [unk (by rw [q]; simp)] at e
        cases e
    have M : Mod K mg (hidT s₁.heap H) := ⟨inK, keepsNs hns, ⟨mb, keepsNs hb, hbb⟩, by
      obtain ⟨mc, z1, z2⟩ := hlim
      exact ⟨mc, keepsNs z1, z2⟩⟩
    have e0 : Env0 P w K mg (hidT s₁.heap H) callerA [] s₁ H := by
      refine ⟨rfl, M, fun b o e => of_hidT e, Nat.le_of_eq (hidT_size _ _), trivial, fun b hb => ?_, hok, .of_eq hgen⟩
      exact absurd (show b ∈ ([] : List Addr) from hb) (by simp)
    refine codeAny_mono ((F _ inK (keepsNs hns)).run callerA [] s₁ H ⟨[.ref a], []⟩ [.ref a] [.ref a] _ _ rfl hr e0 (hbind s₁ (.ref a)) (.cons rfl .nil) (hsp H hO hS)) fun r s' z => ?_
    cases r with
    | error e => exact (show False from z).elim
    | ok fl =>
      cases fl with
      | ret u =>
        obtain ⟨v, H', os, bare, un, hok', r', q⟩ := z
        obtain rfl : v = .bl true := q
        obtain rfl : u = Value.bool true := r'
        refine ⟨rfl, OldK.of_keep fun b o e => ?_, os, bare⟩
        cases q : H b with
        | none => exact un.keep b o e q (fun z => absurd (show b ∈ ([] : List Addr) from z) (by simp)) (by simp)
        | some u =>
          rcases hO b with z | ⟨ob, xs, z⟩
          · rw [q] at z
            cases z
          · obtain ⟨z1, _⟩ := hok b _ z
            obtain ⟨z2, _⟩ := hok' b _ (un.frzs b ob _ z)
            rw [e] at z1
            cases z1
            exact z2
      | next => exact False.elim z
      | brk => exact False.elim z
      | cont => exact False.elim z
  cases hk : K.lookup a with
  | some o =>
    have e := KX a o hk
    rw [ha] at e
    cases e
    refine core (fun _ => none) (fun _ => .inl rfl) ?_ (fun b u z => by cases (show (none : Option HO) = some u from z)) (fun b z => absurd rfl z) fun z => absurd rfl z
    exact .inr ⟨_, vs.toArray, _, hk, rfl, rfl, rfl, by rw [List.size_toArray, nlen]; exact hl, by simpa using rv⟩
  | none =>
    refine core (fun b => if b = a then some (.frz { cls := .type "list", data := .seq vs.toArray } (.lst (ns.map V.int))) else none) (fun b => ?_) ?_ (fun b u z => ?_) (fun b z => ?_) fun _ => hk
    · by_cases hb : b = a
      · exact .inr ⟨_, _, if_pos hb⟩
      · exact .inl (if_neg hb)
    · exact .inl (.inr ⟨_, if_pos rfl⟩)
    · by_cases hb : b = a
      · cases (if_pos hb).symm.trans z
        subst hb
        exact ⟨ha, by rw [List.length_map]; exact hl, vs, _, rv, ha⟩
      · cases (if_neg hb).symm.trans z
    · by_cases hb : b = a
      · exact hb
      · exact absurd (if_neg hb) z
/-- the goal behind the head -/
theorem walkG {l : PySem.W.OpenLaw} {n k : Nat} {q : Program} {loose : List Str} {XP : (Str → Option Value) → Heap → Prop} {YP : World → Heap → Prop} {d : DefRec} {K : Params → PySem.W.Frag} {sp : World → Sp} {x : Str}
    (hn : l.most = some n) (hn2 : n ≤ sizeLine) (hdf : d.params.defaults = []) (hr : Room k callerA) (hY : ∀ (w : World) (h : Heap), YP w h → (K w.params).In h)
    (F : ∀ (w : World) (mg : Str → Option Value) (fa : Addr) (h : Heap), (K w.params).In h → h.Ns mainGlobals mg → mg d.name = some (.ref fa) →
      ∃ fd : FuncData, (∀ (s : Shared) (u : Value), BindsTo s fd ⟨[u], []⟩ [(x, u)]) ∧ ∀ base : Heap, (K w.params).In base → base.Ns mainGlobals mg → FnG l.prog w (K w.params) mg base k fa fd [x] (sp w))
    (hsp : ∀ (w : World) (H : Hp) (a : Addr) (ns : List Int), ns.length ≤ n → Only H → SqL (K w.params) H a (ns.map V.int) → sp w [.ref a] H (fun v _ => v = .bl true) fun _ _ _ => False) :
    PySem.W.WalkO q loose XP YP l.row.toRowW d [] (fun f vs => PySem.call f vs) := by
  refine Att.attach_call hn hdf fun w s₀ s₁ mg mb fa o pm cd doc a vs ns G Y ho hd hcd hmg hobj hints hlen hg => ?_
  have KX := hY w _ Y
  obtain ⟨fd, hb, hF⟩ := F w mg fa _ KX G.T.g hmg
  exact call_law KX G.T.g G.T.b G.T.builtins G.T.nolimit hg hobj hints (Nat.le_trans hlen hn2) hr hF hb fun H hO hS => hsp w H a ns hlen hO hS
end LwE
/-! S. Two texts alike. -/
namespace Lw
open PySem L2 LwE LwM
theorem two_bl (x y : Bool) : (PyData.shown (.list [.bool x, .bool y])).length ≤ sizeLine := by
  rw [sizeLine_eq]
  cases x <;> cases y <;> decide +kernel
section
variable {P : Program} {w : World} {K : PySem.W.Frag} {mg : Str → Option Value} {base : Heap}
def spLike : Sp := fun vs H Q _ => ∃ (a b : Addr) (x y : Bool), vs = [.ref a, .ref b] ∧ H a = some (.lst [.bl x, .bl y]) ∧ H b = some (.lst [.bl x, .bl y]) ∧ Q (.bl true) H
theorem scLike : FnScope ["told", "due"] ["told", "due"] (defScope sLike) := ⟨rfl, rfl, rfl, by decide +kernel, rfl, by decide +kernel, by decide +kernel⟩
theorem ok_like {f : Addr} {fd : FuncData} (B : Bare mg) (F : Df K mg "_law_like" sLike f fd) : FnG P w K mg base 1 f fd ["told", "due"] spLike := by
  refine okG F.fn scLike (fun vs H Q E h => ?_) (fun cdv A outer s H vs Q E hg hr h => ?_)
  · obtain ⟨a, b, x, y, rfl, _⟩ := h
    rfl
  · obtain ⟨a, b, x, y, rfl, ha, hb, k⟩ := h
    refine ⟨_, pss_one (ps_ret (pe_cmpR op_eq (pe_callB (call_reprD (by exact hg) hr.units) (by rfl) B.repr (by decide +kernel) (pa_cons (pv 0) pa_nil))
      (pe_callB (call_reprD (by exact hg) hr.units) (by rfl) B.repr (by decide +kernel) (pa_cons (pv 1) pa_nil)) (nomark _))), ?_⟩
    have sh : (PyData.list [.bool x, .bool y]).showable = true := by simp [PyData.showable, PyData.showableAll]
    have nd : (PyData.list [.bool x, .bool y]).hasDict = false := by simp [PyData.hasDict, PyData.hasDictAll]
    have dp : (PyData.list [.bool x, .bool y]).depth ≤ 8 := by simp [PyData.depth, PyData.depthAll]
    refine ⟨_, rfl, a, _, rfl, .lst (SqL.of ha) (.cons (.bl x) (.cons (.bl y) .nil)), sh, nd, dp, two_bl x y, ?_⟩
    refine ⟨_, rfl, b, _, rfl, .lst (SqL.of hb) (.cons (.bl x) (.cons (.bl y) .nil)), sh, nd, dp, two_bl x y, ?_⟩
    refine ⟨rfl, ?_⟩
    rw [decide_eq_true rfl]
    exact k
end
end Lw
/-! T. The law. -/
namespace Lw
open PySem L2 LwE LwM
theorem made_same {C x dx : Addr} {H : Hp} (nx : H x = none) (ndx : H dx = none) : Same H (upd (upd H dx (.own x)) x (.ins C dx [])) := fun b o e => by
  rw [upd_ne (ne_of_none e nx), upd_ne (ne_of_none e ndx)]
  exact e
structure Mt0 (P : Program) (w : World) (K : PySem.W.Frag) (mg : Str → Option Value) (base : Heap) (C : Addr) (m : Str) (f : Addr) (fd : FuncData) (sp : Sp) : Prop where
  m : Meth K C m f
  ok : FnOk P w K mg base CX0 6 f fd ["self"] sp
  b : Binds K fd ["self"] []
theorem no_top (t : Addr) (z : Int) : (wf t z).lookup ("is_top" : Str) = none := wf_no t z (by decide +kernel) (by decide +kernel)
theorem no_bot (t : Addr) (z : Int) : (wf t z).lookup ("is_bottom" : Str) = none := wf_no t z (by decide +kernel) (by decide +kernel)
/-- the law's own defs -/
structure Ow (P : Program) (w : World) (K : PySem.W.Frag) (mg : Str → Option Value) (base : Heap) (fB fZ fD fL fE fK fT fU : Addr) (dB dZ dD dL dE dK dT dU : FuncData) : Prop where
  gB : Df K mg "_law_begun" sBegun fB dB
  B : FnOk P w K mg base CX0 2 fB dB ["script"] (spBegun K)
  bB : Binds K dB ["script"] []
  gZ : Df K mg "_law_size" sSize fZ dZ
  Z : FnOk P w K mg base CX0 3 fZ dZ ["m"] spSize
  bZ : Binds K dZ ["m"] []
  gD : Df K mg "_law_draw" sDraw fD dD
  D : FnOk P w K mg base CX0 2 fD dD ["m", "limit"] spDraw
  bD : Binds K dD ["m", "limit"] []
  gL : Df K mg "_law_letters" sLetters fL dL
  L : FnOk P w K mg base CX0 3 fL dL ["m", "size", "most"] spLetters
  bL : Binds K dL ["m", "size", "most"] []
  gE : Df K mg "_law_ended" sEnded fE dE
  E : FnOk P w K mg base CX0 3 fE dE ["m", "size", "letters", "sign"] spEnded
  bE : Binds K dE ["m", "size", "letters", "sign"] []
  gK : Df K mg "_law_like" sLike fK dK
  K_ : FnG P w K mg base 1 fK dK ["told", "due"] spLike
  bK : Binds K dK ["told", "due"] []
  gT : Df K mg "_law_is_top" sIsTopL fT dT
  T : FnOk P w K mg base CX0 1 fT dT ["size", "letters"] spIsTopL
  bT : Binds K dT ["size", "letters"] []
  gU : Df K mg "_law_is_bottom" sIsBottomL fU dU
  U : FnOk P w K mg base CX0 1 fU dU ["size", "letters"] spIsBotL
  bU : Binds K dU ["size", "letters"] []
/-- where nothing can be done -/
theorem dn_of {size : Int} {r : List Int} (h : ∀ d ∈ dds (-1) (size - 1).toNat, doneL d r = none) (i : Int) (i0 : 1 ≤ i) (i1 : i ≤ size - 1) : dn i r = 0 := by
  have q := h (-1 * i) (List.mem_map.mpr ⟨i, ixs_mem.mpr ⟨i0, by omega⟩, rfl⟩)
  unfold doneL at q
  rw [if_neg (by omega), show -(-1 * i) = i by omega] at q
  split at q
  · rename_i e
    unfold dn
    rw [e]
    rfl
  · cases q
theorem up_of {size : Int} {r : List Int} (h : ∀ d ∈ dds 1 (size - 1).toNat, doneL d r = none) (i : Int) (i0 : 1 ≤ i) (i1 : i ≤ size - 1) : up i r = 0 := by
  have q := h (1 * i) (List.mem_map.mpr ⟨i, ixs_mem.mpr ⟨i0, by omega⟩, rfl⟩)
  unfold doneL at q
  rw [if_pos (by omega), show 1 * i = i by omega] at q
  split at q
  · rename_i e
    unfold up
    rw [e]
    rfl
  · cases q
/-- the rows -/
structure RowsAt (H : Hp) (m g R : Addr) (size : Int) (xs : List V) : Prop where
  at_ : H R = some (.lst xs)
  rm : R ≠ m
  rg : R ≠ g
  all : ∀ x ∈ xs, ∃ b l, x = V.ref b ∧ b ≠ R ∧ b ≠ m ∧ b ≠ g ∧ H b = some (.lst (nums l)) ∧ Ls size l
theorem RowsAt.keep {H H' : Hp} {m g R : Addr} {size : Int} {xs : List V} (h : RowsAt H m g R size xs) (k : Keep m g H H') : RowsAt H' m g R size xs :=
  ⟨k _ _ h.at_ h.rm h.rg, h.rm, h.rg, fun x hx => let ⟨b, l, e, b1, b2, b3, eb, L⟩ := h.all x hx; ⟨b, l, e, b1, b2, b3, k _ _ eb b2 b3, L⟩⟩
theorem RowsAt.push {H : Hp} {m g R b : Addr} {size : Int} {xs : List V} {l : List Int} (h : RowsAt H m g R size xs) (b1 : b ≠ R) (b2 : b ≠ m) (b3 : b ≠ g) (eb : H b = some (.lst (nums l))) (L : Ls size l) :
    RowsAt (upd H R (.lst (xs ++ [.ref b]))) m g R size (xs ++ [.ref b]) :=
  ⟨upd_same, h.rm, h.rg, fun x hx => by
    rcases List.mem_append.mp hx with z | z
    · obtain ⟨b', l', e, c1, c2, c3, eb', L'⟩ := h.all x z
      exact ⟨b', l', e, c1, c2, c3, by rw [upd_ne c1]; exact eb', L'⟩
    · exact ⟨b, l, List.mem_singleton.mp z, b1, b2, b3, by rw [upd_ne b1]; exact eb, L⟩⟩
theorem ls_mid {size x : Int} {A : List Int} {k : Nat} (z0 : 2 ≤ size) (z1 : size ≤ 6) (hl : A.length ≤ 16) (h : ∀ x ∈ A, 1 ≤ x ∧ x ≤ size) (x0 : 1 ≤ x) (x1 : x ≤ size) : Ls size (A.take k ++ [x] ++ A.drop k) :=
  ⟨z0, z1, by
    rw [List.length_append, List.length_append, List.length_take, List.length_drop, List.length_singleton]
    omega, fun y hy => by
    rcases List.mem_append.mp hy with z | z
    · rcases List.mem_append.mp z with z | z
      · exact h y (List.mem_of_mem_take z)
      · rw [List.mem_singleton.mp z]
        exact ⟨x0, x1⟩
    · exact h y (List.mem_of_mem_drop z)⟩
section
variable {P : Program} {w : World} {K : PySem.W.Frag} {mg : Str → Option Value} {base : Heap} {C fI fUps fDowns fTop fBot fB fZ fD fL fE fK fT fU : Addr} {dI dUps dDowns dTop dBot dB dZ dD dL dE dK dT dU : FuncData}
def spLaw (K : PySem.W.Frag) : Sp := fun vs H Q _ => ∃ (a : Addr) (ns : List Int), vs = [.ref a] ∧ SqL K H a (nums ns) ∧ ns.length ≤ 63 ∧ ∀ H', Q (.bl true) H'
theorem scLaw : FnScope ["script", "m", "turn", "size", "letters", "top", "bottom", "rows", "at", "row", "word", "i"] ["script"] (defScope sLaw) := ⟨rfl, rfl, rfl, by decide +kernel, rfl, by decide +kernel, by decide +kernel⟩
set_option maxHeartbeats 1000000 in
theorem ok_law {f : Addr} {fd : FuncData} (B : Bare mg) (T : Cw K mg C) (F : Df K mg "law" sLaw f fd) (I : In_ P w K mg base C fI dI) (Mu : Mt P w K mg base C "ups" fUps dUps (spUps C)) (Md : Mt P w K mg base C "downs" fDowns dDowns (spDowns C))
    (Mt_ : Mt0 P w K mg base C "is_top" fTop dTop (spIsTop C)) (Mb : Mt0 P w K mg base C "is_bottom" fBot dBot (spIsBot C)) (O : Ow P w K mg base fB fZ fD fL fE fK fT fU dB dZ dD dL dE dK dT dU) : FnG P w K mg base 10 f fd ["script"] (spLaw K) := by
  refine okG F.fn scLaw (fun vs H Q E h => ?_) (fun cdv A outer s H vs Q E hg hr h => ?_)
  · obtain ⟨a, ns, rfl, _⟩ := h
    rfl
  · obtain ⟨a, ns, rfl, hS, hlen, k⟩ := h
    have hr1 : Room 1 _ := hr.mono (by decide)
    have hr2 : Room 2 _ := hr.mono (by decide)
    have hr3 : Room 3 _ := hr.mono (by decide)
    have hr5 : Room 5 _ := hr.mono (by decide)
    have hr6 : Room 6 _ := hr.mono (by decide)
    refine ⟨_, pss_cons (ps_set (i := 1) scLaw.nd rfl (Or.inl rfl) (pe_call O.B hr2 (by rfl) O.gB.g O.gB.fn.kp O.bB .nil pass0 (pa_cons (pv 0) pa_nil)))
      (pss_cons (ps_for PassesOwn.never rfl (pi_range1 (by rfl) B.range (pa_cons pe_int pa_nil)) (pg_name (i := 2) scLaw.nd rfl (Or.inl rfl))
        (pss_cons (ps_set (i := 3) scLaw.nd rfl (Or.inr rfl) (pe_call O.Z hr3 (by rfl) O.gZ.g O.gZ.fn.kp O.bZ .nil pass0 (pa_cons (pv 1) pa_nil)))
        (pss_cons (ps_set (i := 4) scLaw.nd rfl (Or.inl rfl) (pe_call O.L hr3 (by rfl) O.gL.g O.gL.fn.kp O.bL .nil pass0 (pa_cons (pv 1) (pa_cons (pv 3) (pa_cons pe_int pa_nil)))))
        (pss_cons (ps_asg (pe_tup (pa_cons (pe_call O.E hr3 (by rfl) O.gE.g O.gE.fn.kp O.bE .nil pass0 (pa_cons (pv 1) (pa_cons (pv 3) (pa_cons (pv 4) (pa_cons (pe_un un_neg pe_int) pa_nil)))))
            (pa_cons (pe_call O.E hr3 (by rfl) O.gE.g O.gE.fn.kp O.bE .nil pass0 (pa_cons (pv 1) (pa_cons (pv 3) (pa_cons (pv 4) (pa_cons pe_int pa_nil))))) pa_nil)))
            (pg_tup rfl (pgs_cons (pg_name (i := 5) scLaw.nd rfl (Or.inr rfl)) (pgs_cons (pg_name (i := 6) scLaw.nd rfl (Or.inr rfl)) pgs_nil))))
        (pss_cons (ps_par (i := 7) (j := 8) (by rfl) scLaw.nd rfl rfl (by decide) rfl rfl (pa_cons (pe_lst (pa_cons (pv 4) (pa_cons (pv 5) (pa_cons (pv 6) pa_nil))))
            (pa_cons (pe_call O.D hr2 (by rfl) O.gD.g O.gD.fn.kp O.bD .nil pass0 (pa_cons (pv 1) (pa_cons (pe_op op_add (pe_callB call_len_seq (by rfl) B.len PySem.boot_len (pa_cons (pv 4) pa_nil)) pe_int) pa_nil))) pa_nil)) (by rfl))
        (pss_cons (ps_expr (pe_bm PySem.F.plainAttrs_list PySem.F.slot_list_append PySem.F.type_list_append mt_append (pv 7)
            (pa_cons (pe_op op_cat (pe_op op_cat (pe_slice sl_list (pv 5) po_none (po_some (pv 8))) (pe_lst (pa_cons (pe_op op_add pe_int (pe_call O.D hr2 (by rfl) O.gD.g O.gD.fn.kp O.bD .nil pass0 (pa_cons (pv 1) (pa_cons (pv 3) pa_nil)))) pa_nil)))
              (pe_slice sl_list (pv 5) (po_some (pv 8)) po_none)) pa_nil)))
        (pss_cons (ps_expr (pe_bm PySem.F.plainAttrs_list PySem.F.slot_list_append PySem.F.type_list_append mt_append (pv 7)
            (pa_cons (pe_op op_cat (pe_op op_cat (pe_slice sl_list (pv 6) po_none (po_some (pv 8))) (pe_lst (pa_cons (pe_op op_add pe_int (pe_call O.D hr2 (by rfl) O.gD.g O.gD.fn.kp O.bD .nil pass0 (pa_cons (pv 1) (pa_cons (pv 3) pa_nil)))) pa_nil)))
              (pe_slice sl_list (pv 6) (po_some (pv 8)) po_none)) pa_nil)))
        (pss_cons (ps_for PassesOwn.never rfl (pi_list (pv 7)) (pg_name (i := 9) scLaw.nd rfl (Or.inl rfl))
          (pss_cons (ps_set (i := 10) scLaw.nd rfl (Or.inl rfl) (pe_make I.m I.ok hr5 (by rfl) T.mgC I.b .nil pass0 (pa_cons (pv 3) (pa_cons (pv 9) pa_nil))))
          (pss_one (ps_if (pt_not (pt_val (pe_callG (by exact hg) O.K_ hr1 (by rfl) O.gK.g O.gK.fn.kp O.bK (pa_cons (pe_lst (pa_cons (pe_meth0 (pv 10) T.cl Mt_.m Mt_.ok hr6 Mt_.b .nil pass0) (pa_cons (pe_meth0 (pv 10) T.cl Mb.m Mb.ok hr6 Mb.b .nil pass0) pa_nil)))
              (pa_cons (pe_lst (pa_cons (pe_call O.T hr1 (by rfl) O.gT.g O.gT.fn.kp O.bT .nil pass0 (pa_cons (pv 3) (pa_cons (pv 9) pa_nil))) (pa_cons (pe_call O.U hr1 (by rfl) O.gU.g O.gU.fn.kp O.bU .nil pass0 (pa_cons (pv 3) (pa_cons (pv 9) pa_nil))) pa_nil))) pa_nil))))) pss_never pss_nil))))
        (pss_cons (ps_if (PW.pt (pw_or (pt_not (pt_val (pe_meth0 (pe_make I.m I.ok hr5 (by rfl) T.mgC I.b .nil pass0 (pa_cons (pv 3) (pa_cons (pv 5) pa_nil))) T.cl Mt_.m Mt_.ok hr6 Mt_.b .nil pass0)))
              (pw_or1 (pt_not (pt_val (pe_meth0 (pe_make I.m I.ok hr5 (by rfl) T.mgC I.b .nil pass0 (pa_cons (pv 3) (pa_cons (pv 6) pa_nil))) T.cl Mb.m Mb.ok hr6 Mb.b .nil pass0)))))) pss_never pss_nil)
        (pss_one (ps_if (pt_cmpR (op_neD hr.units) (pe_lc (own := [("i", 11)]) (g := gName 11) rfl scLaw.nd (pi_range2 (by rfl) B.range (pa_cons pe_int (pa_cons (pv 3) pa_nil)))
            (blkOk_by (N := ["script", "m", "turn", "size", "letters", "top", "bottom", "rows", "at", "row", "word", "i"]) (sc := defScope sLaw) (by decide +kernel))
            (fun _ _ _ _ _ => pg_name (i := 11) scLaw.nd rfl (Or.inl rfl))
            (fun _ _ _ _ _ => pts_one (pt_cmpR op_gt (pe_op op_add (pe_meth (pe_make I.m I.ok hr5 (by rfl) T.mgC I.b .nil pass0 (pa_cons (pv 3) (pa_cons (pv 5) pa_nil))) T.cl Md.m Md.ok hr5 Md.b .nil pass0 (pa_cons (pv 11) pa_nil))
              (pe_meth (pe_make I.m I.ok hr5 (by rfl) T.mgC I.b .nil pass0 (pa_cons (pv 3) (pa_cons (pv 6) pa_nil))) T.cl Mu.m Mu.ok hr5 Mu.b .nil pass0 (pa_cons (pv 11) pa_nil))) pe_int (nomark _)))
            (fun _ _ _ _ _ => pv 11)) (pe_lst pa_nil) (nomark _)) pss_never pss_nil)))))))))))
      (pss_one (ps_ret (pe_and (pe_cmpR op_isBl (pe_meth0 (pe_make I.m I.ok hr5 (by rfl) T.mgC I.b .nil pass0 (pa_cons pe_int (pa_cons (pe_tup pa_nil) pa_nil))) T.cl Mt_.m Mt_.ok hr6 Mt_.b .nil pass0) pe_bl (nomark _))
        (pe_one (pe_cmpR op_isBl (pe_meth0 (pe_make I.m I.ok hr5 (by rfl) T.mgC I.b .nil pass0 (pa_cons pe_int (pa_cons (pe_lst (pa_cons pe_int (pa_cons pe_int (pa_cons pe_int pa_nil)))) pa_nil))) T.cl Mb.m Mb.ok hr6 Mb.b .nil pass0) pe_bl (nomark _))))))), ?_⟩
    refine ⟨_, rfl, a, ns, rfl, hS, hlen, fun m g c H0 s0 d0 => ?_⟩
    refine ⟨4, rfl, by decide, by decide, for_range (lo := 0) (n := 4) (fun j σ H' => ∃ (v2 v3 v4 v5 v6 v7 v8 v9 v10 : Option V) (n : Int),
      σ = [some (.ref a), some (.ref m), v2, v3, v4, v5, v6, v7, v8, v9, v10, none] ∧ Dr H' m g c n ∧ n ≤ 1500 * (j : Int))
      ⟨_, _, _, _, _, _, _, _, _, 0, rfl, d0, by omega⟩ ?_ ?_⟩
    · rintro j σ H' hj ⟨v2, v3, v4, v5, v6, v7, v8, v9, v10, n, rfl, d, hn⟩
      have nn0 := d.n0
      refine ⟨_, rfl, m, g, c, n, rfl, d, by omega, fun size H1 z0 z1 d1 k1 => ?_⟩
      refine ⟨_, rfl, _, rfl, m, g, c, n + 1, size, 16, rfl, d1, by omega, z0, z1, by decide, by decide, fun p ls n2 H2 l1 bdls l3 l4 d2 k2 nf ep => ?_⟩
      have op := d1.off nf
      refine ⟨_, rfl, _, rfl, _, rfl, 1, rfl, m, g, c, p, n2, size, -1, ls, rfl, d2, by omega, z0, z1, .inr rfl, ep, op.g, by omega, bdls, fun q1 r1 n3 H3 k3 d3 m1 m2 e3 gq1 len3 bdr1 no3 => ?_⟩
      have ep3 := k3 _ _ ep op.m op.g
      refine ⟨_, rfl, _, rfl, _, rfl, m, g, c, p, n3, size, 1, ls, rfl, d3, by omega, z0, z1, .inl rfl, ep3, op.g, by omega, bdls, fun q2 r2 n4 H4 k4 d4 m3 m4 e4 gq2 len4 bdr2 no4 => ?_⟩
      have ep4 := k4 _ _ ep3 op.m op.g
      have mq1 : q1 ≠ m := ne_of e3 d3.hm (by intro z; cases z)
      have mq2 : q2 ≠ m := ne_of e4 d4.hm (by intro z; cases z)
      have e34 := k4 _ _ e3 mq1 gq1
      refine ⟨(by show 2 ≤ sizeLine; decide), fun t ht => ?_⟩
      have s5 : Same H4 (upd H4 t (.tup [.ref q1, .ref q2])) := same_new ht
      have et : (upd H4 t (.tup [.ref q1, .ref q2])) t = some (.tup [.ref q1, .ref q2]) := upd_same
      generalize upd H4 t (.tup [.ref q1, .ref q2]) = H5 at s5 et ⊢
      refine ⟨t, _, rfl, SqT.of et, rfl, _, _, rfl, _, _, rfl, rfl, ?_⟩
      have d5 := d4.same s5
      -- rows, at
      refine ⟨_, rfl, _, rfl, _, rfl, (by show 3 ≤ sizeLine; decide), fun R hR => ?_⟩
      have offR := d5.off hR
      have s6 : Same H5 (upd H5 R (.lst [.ref p, .ref q1, .ref q2])) := same_new hR
      have eR : (upd H5 R (.lst [.ref p, .ref q1, .ref q2])) R = some (.lst [.ref p, .ref q1, .ref q2]) := upd_same
      have np : p ≠ R := ne_of_none (s5 _ _ ep4) hR
      have nq1 : q1 ≠ R := ne_of_none (s5 _ _ e34) hR
      have nq2 : q2 ≠ R := ne_of_none (s5 _ _ e4) hR
      generalize upd H5 R (.lst [.ref p, .ref q1, .ref q2]) = H6 at s6 eR ⊢
      have d6 := d5.same s6
      have s46 := s5.trans s6
      have L0 : Ls size ls := ⟨z0, z1, by omega, bdls⟩
      have L1 : Ls size r1 := ⟨z0, z1, by omega, bdr1⟩
      have L2 : Ls size r2 := ⟨z0, z1, by omega, bdr2⟩
      have ra0 : RowsAt H6 m g R size [.ref p, .ref q1, .ref q2] := ⟨eR, offR.m, offR.g, fun x hx => by
        rcases List.mem_cons.mp hx with z | hx
        · exact ⟨p, ls, z, np, op.m, op.g, s46 _ _ ep4, L0⟩
        rcases List.mem_cons.mp hx with z | hx
        · exact ⟨q1, r1, z, nq1, mq1, gq1, s46 _ _ e34, L1⟩
        · exact ⟨q2, r2, List.mem_singleton.mp hx, nq2, mq2, gq2, s46 _ _ e4, L2⟩⟩
      refine ⟨_, rfl, _, rfl, p, _, rfl, .inl (SqL.of (s46 _ _ ep4)), _, _, rfl, rfl, m, g, c, n4, _, rfl, d6, by omega, by omega, by rw [List.length_map]; omega, fun at' H7 t0 t1 da1 k7 => ⟨_, _, rfl, ?_⟩⟩
      have ra1 := ra0.keep k7
      have eq11 := k7 _ _ (s46 _ _ e34) mq1 gq1
      have eq21 := k7 _ _ (s46 _ _ e4) mq2 gq2
      -- rows.append, 1
      refine ⟨_, rfl, .inl ⟨rfl, _, SqL.of ra1.at_⟩, _, rfl, _, rfl, at', rfl, q1, _, rfl, SqL.of eq11, fun b1 hb1 => ?_⟩
      rw [cut_take r1 t0]
      have sa1 : Same H7 (upd H7 b1 (.lst (nums (r1.take at'.toNat)))) := same_new hb1
      have ea1 : (upd H7 b1 (.lst (nums (r1.take at'.toNat)))) b1 = some (.lst (nums (r1.take at'.toNat))) := upd_same
      have of1 := da1.off hb1
      generalize upd H7 b1 (.lst (nums (r1.take at'.toNat))) = Ha1 at sa1 ea1 ⊢
      refine ⟨_, rfl, _, rfl, m, g, c, _, size, rfl, da1.same sa1, by omega, by omega, by omega, fun x1 Hb1 xl xu db1 kb1 => ⟨_, _, rfl, rfl, (by show 1 ≤ sizeLine; decide), fun b2 hb2 => ?_⟩⟩
      have eb1 := kb1 _ _ ea1 of1.m of1.g
      have kk1 : Keep m g H7 Hb1 := (Keep.of sa1).trans kb1
      have s21 : Same Hb1 (upd Hb1 b2 (.lst [.int (1 + x1)])) := same_new hb2
      have e21 : (upd Hb1 b2 (.lst [.int (1 + x1)])) b2 = some (.lst [.int (1 + x1)]) := upd_same
      generalize upd Hb1 b2 (.lst [.int (1 + x1)]) = Hc1 at s21 e21 ⊢
      refine ⟨b1, b2, _, _, rfl, rfl, s21 _ _ eb1, e21, by rw [List.length_map, List.length_take, sizeLine_eq]; simp; omega, fun b3 hb3 => ?_⟩
      have s31 : Same Hc1 (upd Hc1 b3 (.lst (nums (r1.take at'.toNat) ++ [.int (1 + x1)]))) := same_new hb3
      have e31 : (upd Hc1 b3 (.lst (nums (r1.take at'.toNat) ++ [.int (1 + x1)]))) b3 = some (.lst (nums (r1.take at'.toNat) ++ [.int (1 + x1)])) := upd_same
      generalize upd Hc1 b3 (.lst (nums (r1.take at'.toNat) ++ [.int (1 + x1)])) = Hd1 at s31 e31 ⊢
      have s231 : Same Hb1 Hd1 := s21.trans s31
      have kd1 : Keep m g H7 Hd1 := kk1.trans (.of s231)
      refine ⟨_, rfl, _, rfl, at', rfl, q1, _, rfl, SqL.of (kd1 _ _ eq11 mq1 gq1), fun b4 hb4 => ?_⟩
      rw [cut_drop r1 t0]
      have s41 : Same Hd1 (upd Hd1 b4 (.lst (nums (r1.drop at'.toNat)))) := same_new hb4
      have e41 : (upd Hd1 b4 (.lst (nums (r1.drop at'.toNat)))) b4 = some (.lst (nums (r1.drop at'.toNat))) := upd_same
      generalize upd Hd1 b4 (.lst (nums (r1.drop at'.toNat))) = He1 at s41 e41 ⊢
      refine ⟨b3, b4, _, _, rfl, rfl, s41 _ _ e31, e41, by rw [List.length_append, List.length_map, List.length_map, List.length_take, List.length_drop, sizeLine_eq]; simp; omega, fun b5 hb5 => ?_⟩
      rw [show nums (r1.take at'.toNat) ++ [V.int (1 + x1)] ++ nums (r1.drop at'.toNat) = nums (r1.take at'.toNat ++ [1 + x1] ++ r1.drop at'.toNat) by simp [nums]]
      have s51 : Same He1 (upd He1 b5 (.lst (nums (r1.take at'.toNat ++ [1 + x1] ++ r1.drop at'.toNat)))) := same_new hb5
      have e51 : (upd He1 b5 (.lst (nums (r1.take at'.toNat ++ [1 + x1] ++ r1.drop at'.toNat)))) b5 = some (.lst (nums (r1.take at'.toNat ++ [1 + x1] ++ r1.drop at'.toNat))) := upd_same
      have dz1 := ((db1.same s231).same s41)
      have ow1 := dz1.off hb5
      have kz1 : Keep m g H7 He1 := kd1.trans (.of s41)
      have rz1 := ra1.keep kz1
      have nR1 : b5 ≠ R := (ne_of_none rz1.at_ hb5).symm
      generalize upd He1 b5 (.lst (nums (r1.take at'.toNat ++ [1 + x1] ++ r1.drop at'.toNat))) = Hf1 at s51 e51 ⊢
      have kf1 : Keep m g H7 Hf1 := kz1.trans (.of s51)
      have rf1 := ra1.keep kf1
      refine ⟨R, _, _, rfl, rfl, rf1.at_, by rw [sizeLine_eq]; simp, ?_⟩
      have ra2 := rf1.push nR1 ow1.m ow1.g e51 (ls_mid z0 z1 (by omega) bdr1 (by omega) (by omega))
      have da2 := (dz1.same s51).upd_at (o := .lst ([.ref p, .ref q1, .ref q2] ++ [.ref b5])) offR.m offR.g offR.c
      have eq12 : (upd Hf1 R (.lst ([.ref p, .ref q1, .ref q2] ++ [.ref b5]))) q1 = some (.lst (nums r1)) := by
        rw [upd_ne nq1]
        exact kf1 _ _ eq11 mq1 gq1
      have eq22 : (upd Hf1 R (.lst ([.ref p, .ref q1, .ref q2] ++ [.ref b5]))) q2 = some (.lst (nums r2)) := by
        rw [upd_ne nq2]
        exact kf1 _ _ eq21 mq2 gq2
      generalize upd Hf1 R (.lst ([.ref p, .ref q1, .ref q2] ++ [.ref b5])) = Hg2 at ra2 da2 eq12 eq22 ⊢
      -- rows.append, 2
      refine ⟨_, rfl, .inl ⟨rfl, _, SqL.of ra2.at_⟩, _, rfl, _, rfl, at', rfl, q2, _, rfl, SqL.of eq22, fun c1 hc1 => ?_⟩
      rw [cut_take r2 t0]
      have sa2 : Same Hg2 (upd Hg2 c1 (.lst (nums (r2.take at'.toNat)))) := same_new hc1
      have ea2 : (upd Hg2 c1 (.lst (nums (r2.take at'.toNat)))) c1 = some (.lst (nums (r2.take at'.toNat))) := upd_same
      have of2 := da2.off hc1
      generalize upd Hg2 c1 (.lst (nums (r2.take at'.toNat))) = Ha2 at sa2 ea2 ⊢
      refine ⟨_, rfl, _, rfl, m, g, c, _, size, rfl, da2.same sa2, by omega, by omega, by omega, fun x2 Hb2 xl xu db2 kb2 => ⟨_, _, rfl, rfl, (by show 1 ≤ sizeLine; decide), fun c2 hc2 => ?_⟩⟩
      have eb2 := kb2 _ _ ea2 of2.m of2.g
      have kk2 : Keep m g Hg2 Hb2 := (Keep.of sa2).trans kb2
      have s22 : Same Hb2 (upd Hb2 c2 (.lst [.int (1 + x2)])) := same_new hc2
      have e22 : (upd Hb2 c2 (.lst [.int (1 + x2)])) c2 = some (.lst [.int (1 + x2)]) := upd_same
      generalize upd Hb2 c2 (.lst [.int (1 + x2)]) = Hc2 at s22 e22 ⊢
      refine ⟨c1, c2, _, _, rfl, rfl, s22 _ _ eb2, e22, by rw [List.length_map, List.length_take, sizeLine_eq]; simp; omega, fun c3 hc3 => ?_⟩
      have s32 : Same Hc2 (upd Hc2 c3 (.lst (nums (r2.take at'.toNat) ++ [.int (1 + x2)]))) := same_new hc3
      have e32 : (upd Hc2 c3 (.lst (nums (r2.take at'.toNat) ++ [.int (1 + x2)]))) c3 = some (.lst (nums (r2.take at'.toNat) ++ [.int (1 + x2)])) := upd_same
      generalize upd Hc2 c3 (.lst (nums (r2.take at'.toNat) ++ [.int (1 + x2)])) = Hd2 at s32 e32 ⊢
      have s232 : Same Hb2 Hd2 := s22.trans s32
      have kd2 : Keep m g Hg2 Hd2 := kk2.trans (.of s232)
      refine ⟨_, rfl, _, rfl, at', rfl, q2, _, rfl, SqL.of (kd2 _ _ eq22 mq2 gq2), fun c4 hc4 => ?_⟩
      rw [cut_drop r2 t0]
      have s42 : Same Hd2 (upd Hd2 c4 (.lst (nums (r2.drop at'.toNat)))) := same_new hc4
      have e42 : (upd Hd2 c4 (.lst (nums (r2.drop at'.toNat)))) c4 = some (.lst (nums (r2.drop at'.toNat))) := upd_same
      generalize upd Hd2 c4 (.lst (nums (r2.drop at'.toNat))) = He2 at s42 e42 ⊢
      refine ⟨c3, c4, _, _, rfl, rfl, s42 _ _ e32, e42, by rw [List.length_append, List.length_map, List.length_map, List.length_take, List.length_drop, sizeLine_eq]; simp; omega, fun c5 hc5 => ?_⟩
      rw [show nums (r2.take at'.toNat) ++ [V.int (1 + x2)] ++ nums (r2.drop at'.toNat) = nums (r2.take at'.toNat ++ [1 + x2] ++ r2.drop at'.toNat) by simp [nums]]
      have s52 : Same He2 (upd He2 c5 (.lst (nums (r2.take at'.toNat ++ [1 + x2] ++ r2.drop at'.toNat)))) := same_new hc5
      have e52 : (upd He2 c5 (.lst (nums (r2.take at'.toNat ++ [1 + x2] ++ r2.drop at'.toNat)))) c5 = some (.lst (nums (r2.take at'.toNat ++ [1 + x2] ++ r2.drop at'.toNat))) := upd_same
      have dz2 := ((db2.same s232).same s42)
      have ow2 := dz2.off hc5
      have kz2 : Keep m g Hg2 He2 := kd2.trans (.of s42)
      have rz2 := ra2.keep kz2
      have nR2 : c5 ≠ R := (ne_of_none rz2.at_ hc5).symm
      generalize upd He2 c5 (.lst (nums (r2.take at'.toNat ++ [1 + x2] ++ r2.drop at'.toNat))) = Hf2 at s52 e52 ⊢
      have kf2 : Keep m g Hg2 Hf2 := kz2.trans (.of s52)
      have rf2 := ra2.keep kf2
      refine ⟨R, _, _, rfl, rfl, rf2.at_, by rw [sizeLine_eq]; simp, ?_⟩
      have ra3 := rf2.push nR2 ow2.m ow2.g e52 (ls_mid z0 z1 (by omega) bdr2 (by omega) (by omega))
      have da3 := (dz2.same s52).upd_at (o := .lst ([.ref p, .ref q1, .ref q2] ++ [.ref b5] ++ [.ref c5])) offR.m offR.g offR.c
      have eq13 : (upd Hf2 R (.lst ([.ref p, .ref q1, .ref q2] ++ [.ref b5] ++ [.ref c5]))) q1 = some (.lst (nums r1)) := by
        rw [upd_ne nq1]
        exact kf2 _ _ eq12 mq1 gq1
      have eq23 : (upd Hf2 R (.lst ([.ref p, .ref q1, .ref q2] ++ [.ref b5] ++ [.ref c5]))) q2 = some (.lst (nums r2)) := by
        rw [upd_ne nq2]
        exact kf2 _ _ eq22 mq2 gq2
      generalize upd Hf2 R (.lst ([.ref p, .ref q1, .ref q2] ++ [.ref b5] ++ [.ref c5])) = Hg3 at ra3 da3 eq13 eq23 ⊢
      -- for row in rows
      have hrow := ra3.all
      refine ⟨_, rfl, R, rfl, ⟨_, SqL.of ra3.at_⟩, for_list (K := K) (a := R) (xs := [.ref p, .ref q1, .ref q2] ++ [.ref b5] ++ [.ref c5]) (fun q σ H' => ∃ v9 v10 : Option V,
        σ = [some (.ref a), some (.ref m), some (.int (0 + (j : Int))), some (.int size), some (.ref p), some (.ref q1), some (.ref q2), some (.ref R), some (.int at'), v9, v10, none] ∧ Same Hg3 H')
        ⟨_, _, rfl, Same.refl _⟩ (fun q σ H' _ ⟨_, _, _, s⟩ => SqL.of (s _ _ ra3.at_)) ?_ ?_⟩
      · rintro q x σ H8 hx ⟨v9, v10, rfl, s8⟩
        obtain ⟨b, l, rfl, _, _, _, eb, L⟩ := hrow x (List.mem_of_getElem? hx)
        have eb8 := s8 _ _ eb
        refine ⟨_, rfl, _, rfl, fun w0 dx nw ndx ne => ⟨w0, dx, size, b, l, rfl, upd_same, .inl (made_same nw ndx _ _ eb8), L, fun H9 kp W => ⟨rfl, ?_⟩⟩⟩
        have s9 : Same H8 H9 := Same.made nw ndx kp
        obtain ⟨dx2, tx, g1, g2⟩ := W.ob
        refine ⟨_, rfl, w0, dx2, _, rfl, g1, no_top _ _, w0, size, l, rfl, W, fun H10 s10 => ?_⟩
        refine ⟨_, rfl, w0, dx2, _, rfl, s10 _ _ g1, no_bot _ _, w0, size, l, rfl, W.same s10, fun H11 s11 => ⟨(by show 2 ≤ sizeLine; decide), fun y1 hy1 => ?_⟩⟩
        have s12 : Same H11 (upd H11 y1 (.lst [.bl (isTop size l), .bl (isBot size l)])) := same_new hy1
        have e12 : (upd H11 y1 (.lst [.bl (isTop size l), .bl (isBot size l)])) y1 = some (.lst [.bl (isTop size l), .bl (isBot size l)]) := upd_same
        generalize upd H11 y1 (.lst [.bl (isTop size l), .bl (isBot size l)]) = H12 at s12 e12 ⊢
        have sa := ((s9.trans s10).trans s11).trans s12
        have lL := L.len
        refine ⟨_, rfl, _, rfl, b, size, l, rfl, sa _ _ eb8, z0, z1, by omega, fun H13 s13 => ?_⟩
        refine ⟨_, rfl, _, rfl, b, size, l, rfl, s13 _ _ (sa _ _ eb8), z0, z1, by omega, fun H14 s14 => ⟨(by show 2 ≤ sizeLine; decide), fun y2 hy2 => ?_⟩⟩
        refine ⟨y1, y2, _, _, rfl, same_new hy2 _ _ (s14 _ _ (s13 _ _ e12)), upd_same, _, rfl, iteF ?_⟩
        exact ⟨_, _, rfl, (((s8.trans sa).trans s13).trans s14).trans (same_new hy2)⟩
      · rintro σ H8 ⟨v9, v10, rfl, s8⟩
        have e1 := s8 _ _ eq13
        have e2 := s8 _ _ eq23
        have t1 : isTop size r1 = true := (isTop_iff size r1).mpr fun i i0 i1 => dn_of no3 i i0 i1
        have t2 : isBot size r2 = true := (isBot_iff size r2).mpr fun i i0 i1 => up_of no4 i i0 i1
        refine ⟨_, rfl, _, rfl, fun w0 dx nw ndx ne => ⟨w0, dx, size, q1, r1, rfl, upd_same, .inl (made_same nw ndx _ _ e1), L1, fun H9 kp W => ⟨rfl, ?_⟩⟩⟩
        have s9 : Same H8 H9 := Same.made nw ndx kp
        obtain ⟨dx2, tx, g1, g2⟩ := W.ob
        refine ⟨w0, dx2, _, rfl, g1, no_top _ _, w0, size, r1, rfl, W, fun H10 s10 => ⟨_, rfl, ?_⟩⟩
        rw [t1]
        refine iteF ?_
        have s10' := s9.trans s10
        refine ⟨_, rfl, _, rfl, fun w1 dy nw1 ndy ne1 => ⟨w1, dy, size, q2, r2, rfl, upd_same, .inl (made_same nw1 ndy _ _ (s10' _ _ e2)), L2, fun H11 kp1 W1 => ⟨rfl, ?_⟩⟩⟩
        have s11 : Same H10 H11 := Same.made nw1 ndy kp1
        obtain ⟨dy2, ty, f1, f2⟩ := W1.ob
        refine ⟨w1, dy2, _, rfl, f1, no_bot _ _, w1, size, r2, rfl, W1, fun H12 s12 => ⟨_, rfl, ?_⟩⟩
        rw [t2]
        refine iteF ?_
        have s812 : Same H8 H12 := (s10'.trans s11).trans s12
        refine ⟨_, rfl, 1, size, rfl, ⟨by decide, by decide, by omega, by omega⟩, fun D hD => lc_range (lo := 1) (n := (size - 1).toNat) (fun _ H' => Same H12 H' ∧ H' D = some (.lst (nums []))) ⟨same_new hD, upd_same⟩ ?_ ?_⟩
        · rintro q H13 hq ⟨s13, e13⟩
          have i0 : (1 : Int) ≤ 1 + (q : Int) := by omega
          have i1 : 1 + (q : Int) ≤ size - 1 := by omega
          have u1 := dn_of no3 _ i0 i1
          have u2 := up_of no4 _ i0 i1
          have s813 := s812.trans s13
          refine ⟨rfl, ?_⟩
          refine ⟨_, rfl, _, rfl, fun w2 dz nw2 ndz ne2 => ⟨w2, dz, size, q1, r1, rfl, upd_same, .inl (made_same nw2 ndz _ _ (s813 _ _ e1)), L1, fun H14 kp2 W2 => ⟨rfl, ?_⟩⟩⟩
          have s14 : Same H13 H14 := Same.made nw2 ndz kp2
          obtain ⟨dz2, tz, h1, h2⟩ := W2.ob
          refine ⟨w2, dz2, _, rfl, h1, no_downs _ _, _, rfl, w2, _, size, r1, rfl, W2, i0, i1, fun H15 s15 => ?_⟩
          have s815 := (s813.trans s14).trans s15
          refine ⟨_, rfl, _, rfl, fun w3 dw nw3 ndw ne3 => ⟨w3, dw, size, q2, r2, rfl, upd_same, .inl (made_same nw3 ndw _ _ (s815 _ _ e2)), L2, fun H16 kp3 W3 => ⟨rfl, ?_⟩⟩⟩
          have s16 : Same H15 H16 := Same.made nw3 ndw kp3
          obtain ⟨dw2, tw, w1', w2'⟩ := W3.ob
          refine ⟨w3, dw2, _, rfl, w1', no_ups _ _, _, rfl, w3, _, size, r2, rfl, W3, i0, i1, fun H17 s17 => ?_⟩
          have s1317 : Same H13 H17 := ((s14.trans s15).trans s16).trans s17
          refine ⟨_, _, rfl, rfl, _, _, rfl, rfl, _, rfl, ?_⟩
          rw [u1, u2]
          exact iteF ⟨s13.trans s1317, s1317 _ _ e13⟩
        · rintro H13 ⟨s13, e13⟩
          refine ⟨Nat.zero_le _, fun z hz => ?_⟩
          have s14 : Same H13 (upd H13 z (.lst [])) := same_new hz
          refine ⟨.list [], .list [], .lst (SqL.of (s14 _ _ e13)) .nil, .lst (SqL.of upd_same) .nil, by decide, by decide, _, rfl, ?_⟩
          refine iteF ?_
          refine ⟨_, _, _, _, _, _, _, _, _, _, rfl, ((da3.same s8).same s812).same (s13.trans s14), by omega⟩
    · rintro σ H' ⟨v2, v3, v4, v5, v6, v7, v8, v9, v10, n, rfl, d, hn⟩
      -- the words that are told
      refine ⟨Nat.zero_le _, fun e he => ?_⟩
      have se : Same H' (upd H' e (.tup [])) := same_new he
      refine fun w0 dx nw ndx ne => ⟨w0, dx, 2, e, [], rfl, upd_same, .inr (made_same nw ndx _ _ upd_same), ⟨by decide, by decide, by decide, fun x hx => by simp at hx⟩, fun H9 kp W => ⟨rfl, ?_⟩⟩
      obtain ⟨dx2, tx, g1, g2⟩ := W.ob
      refine ⟨w0, dx2, _, rfl, g1, no_top _ _, w0, 2, [], rfl, W, fun H10 s10 => ?_⟩
      have t1 : isTop 2 [] = true := by decide +kernel
      rw [t1]
      refine ⟨true, true, rfl, rfl, _, rfl, ?_⟩
      refine iteT ?_
      refine ⟨(by show 3 ≤ sizeLine; decide), fun e2 he2 => ?_⟩
      refine fun w1 dy nw1 ndy ne1 => ⟨w1, dy, 3, e2, [3, 2, 1], rfl, upd_same, .inl (made_same nw1 ndy _ _ upd_same), ⟨by decide, by decide, by decide, by decide⟩, fun H11 kp1 W1 => ⟨rfl, ?_⟩⟩
      obtain ⟨dy2, ty, f1, f2⟩ := W1.ob
      refine ⟨w1, dy2, _, rfl, f1, no_bot _ _, w1, 3, [3, 2, 1], rfl, W1, fun H12 s12 => ?_⟩
      have t2 : isBot 3 [3, 2, 1] = true := by decide +kernel
      rw [t2]
      refine ⟨true, true, rfl, rfl, ?_⟩
      exact k _
end
end Lw
/-! Z. What the top has written; the end. -/
namespace Lw
open PySem L2 LwE LwM
theorem all_mk {l : PySem.W.OpenLaw} {w : World} {K : PySem.W.Frag} {h : Heap} {mg : Str → Option Value} {fa C f0 f1 f2 f3 f4 f5 f6 f7 f8 f9 f10 f11 f12 f13 f14 f15 f16 f17 f18 f19 f20 f21 f22 f23 f24 f25 : Addr} {t2 t6 t40 : Tok} (X : K.In h) (G : h.Ns mainGlobals mg) (hfa : mg "law" = some (.ref fa))
    {od0 an0 : Option Addr} {sl0 : Array (Option Value)} {oc0 kV0 dc0 pm0 cd0 ct0 : Value}
    {od1 an1 : Option Addr} {sl1 : Array (Option Value)} {oc1 kV1 dc1 pm1 cd1 ct1 : Value}
    {od2 an2 : Option Addr} {sl2 : Array (Option Value)} {oc2 kV2 dc2 pm2 cd2 ct2 : Value}
    {od3 an3 : Option Addr} {sl3 : Array (Option Value)} {oc3 kV3 dc3 pm3 cd3 ct3 : Value}
    {od4 an4 : Option Addr} {sl4 : Array (Option Value)} {oc4 kV4 dc4 pm4 cd4 ct4 : Value}
    {od5 an5 : Option Addr} {sl5 : Array (Option Value)} {oc5 kV5 dc5 pm5 cd5 ct5 : Value}
    {od6 an6 : Option Addr} {sl6 : Array (Option Value)} {oc6 kV6 dc6 pm6 cd6 ct6 : Value}
    {od7 an7 : Option Addr} {sl7 : Array (Option Value)} {oc7 kV7 dc7 pm7 cd7 ct7 : Value}
    {od8 an8 : Option Addr} {sl8 : Array (Option Value)} {oc8 kV8 dc8 pm8 cd8 ct8 : Value}
    {od9 an9 : Option Addr} {sl9 : Array (Option Value)} {oc9 kV9 dc9 pm9 cd9 ct9 : Value}
    {od10 an10 : Option Addr} {sl10 : Array (Option Value)} {oc10 kV10 dc10 pm10 cd10 ct10 : Value}
    {od11 an11 : Option Addr} {sl11 : Array (Option Value)} {oc11 kV11 dc11 pm11 cd11 ct11 : Value}
    {od12 an12 : Option Addr} {sl12 : Array (Option Value)} {oc12 kV12 dc12 pm12 cd12 ct12 : Value}
    {od13 an13 : Option Addr} {sl13 : Array (Option Value)} {oc13 kV13 dc13 pm13 cd13 ct13 : Value}
    {od14 an14 : Option Addr} {sl14 : Array (Option Value)} {oc14 kV14 dc14 pm14 cd14 ct14 : Value}
    {od15 an15 : Option Addr} {sl15 : Array (Option Value)} {oc15 kV15 dc15 pm15 cd15 ct15 : Value}
    {od16 an16 : Option Addr} {sl16 : Array (Option Value)} {oc16 kV16 dc16 pm16 cd16 ct16 : Value}
    {od17 an17 : Option Addr} {sl17 : Array (Option Value)} {oc17 kV17 dc17 pm17 cd17 ct17 : Value}
    {od18 an18 : Option Addr} {sl18 : Array (Option Value)} {oc18 kV18 dc18 pm18 cd18 ct18 : Value}
    {od19 an19 : Option Addr} {sl19 : Array (Option Value)} {oc19 kV19 dc19 pm19 cd19 ct19 : Value}
    {od20 an20 : Option Addr} {sl20 : Array (Option Value)} {oc20 kV20 dc20 pm20 cd20 ct20 : Value}
    {od21 an21 : Option Addr} {sl21 : Array (Option Value)} {oc21 kV21 dc21 pm21 cd21 ct21 : Value}
    {od22 an22 : Option Addr} {sl22 : Array (Option Value)} {oc22 kV22 dc22 pm22 cd22 ct22 : Value}
    {od23 an23 : Option Addr} {sl23 : Array (Option Value)} {oc23 kV23 dc23 pm23 cd23 ct23 : Value}
    {od24 an24 : Option Addr} {sl24 : Array (Option Value)} {oc24 kV24 dc24 pm24 cd24 ct24 : Value}
    {od25 an25 : Option Addr} {sl25 : Array (Option Value)} {oc25 kV25 dc25 pm25 cd25 ct25 : Value}
    (aC : PySem.W.nsIn K mainGlobals "Word" = some (some (.ref C)))
    (a0 : PySem.W.nsIn K mainGlobals "is_whole" = some (some (.ref f0)))
    (l0 : K.lookup f0 = some ⟨oc0, od0, .func (PySem.W.fnOf "is_whole" "is_whole" (defArgs sWhole) (defBody sWhole) (defScope sWhole) .none kV0 dc0 pm0 an0 cd0 ct0), sl0⟩)
    (c0 : PySem.W.codeIn K cd0 "is_whole" = true) (k0 : PySem.W.keepIn K (.ref f0) = true)
    (a1 : PySem.W.nsIn K mainGlobals "is_between" = some (some (.ref f1)))
    (l1 : K.lookup f1 = some ⟨oc1, od1, .func (PySem.W.fnOf "is_between" "is_between" (defArgs sBetween) (defBody sBetween) (defScope sBetween) .none kV1 dc1 pm1 an1 cd1 ct1), sl1⟩)
    (c1 : PySem.W.codeIn K cd1 "is_between" = true) (k1 : PySem.W.keepIn K (.ref f1) = true)
    (a2 : PySem.W.nsIn K mainGlobals "is_listing" = some (some (.ref f2)))
    (l2 : K.lookup f2 = some ⟨oc2, od2, .func (PySem.W.fnOf "is_listing" "is_listing" (defArgs sListing) (defBody sListing) (defScope sListing) .none kV2 dc2 pm2 an2 cd2 ct2), sl2⟩)
    (c2 : PySem.W.codeIn K cd2 "is_listing" = true) (k2 : PySem.W.keepIn K (.ref f2) = true)
    (a3 : PySem.W.nsIn K mainGlobals "check_size" = some (some (.ref f3)))
    (l3 : K.lookup f3 = some ⟨oc3, od3, .func (PySem.W.fnOf "check_size" "check_size" (defArgs sCkSize) (defBody sCkSize) (defScope sCkSize) .none kV3 dc3 pm3 an3 cd3 ct3), sl3⟩)
    (c3 : PySem.W.codeIn K cd3 "check_size" = true) (k3 : PySem.W.keepIn K (.ref f3) = true)
    (a4 : PySem.W.nsIn K mainGlobals "check_index" = some (some (.ref f4)))
    (l4 : K.lookup f4 = some ⟨oc4, od4, .func (PySem.W.fnOf "check_index" "check_index" (defArgs sCkIndex) (defBody sCkIndex) (defScope sCkIndex) .none kV4 dc4 pm4 an4 cd4 ct4), sl4⟩)
    (c4 : PySem.W.codeIn K cd4 "check_index" = true) (k4 : PySem.W.keepIn K (.ref f4) = true)
    (a5 : PySem.W.nsIn K mainGlobals "check_letters" = some (some (.ref f5)))
    (l5 : K.lookup f5 = some ⟨oc5, od5, .func (PySem.W.fnOf "check_letters" "check_letters" (defArgs sCkLetters) (defBody sCkLetters) (defScope sCkLetters) .none kV5 dc5 pm5 an5 cd5 ct5), sl5⟩)
    (c5 : PySem.W.codeIn K cd5 "check_letters" = true) (k5 : PySem.W.keepIn K (.ref f5) = true)
    (a6 : PySem.W.nsIn K mainGlobals "bracketed" = some (some (.ref f6)))
    (l6 : K.lookup f6 = some ⟨oc6, od6, .func (PySem.W.fnOf "bracketed" "bracketed" (defArgs sBrack) (defBody sBrack) (defScope sBrack) .none kV6 dc6 pm6 an6 cd6 ct6), sl6⟩)
    (c6 : PySem.W.codeIn K cd6 "bracketed" = true) (k6 : PySem.W.keepIn K (.ref f6) = true)
    (a7 : PySem.W.nsIn K mainGlobals "_law_mixed" = some (some (.ref f7)))
    (l7 : K.lookup f7 = some ⟨oc7, od7, .func (PySem.W.fnOf "_law_mixed" "_law_mixed" (defArgs sMixed) (defBody sMixed) (defScope sMixed) .none kV7 dc7 pm7 an7 cd7 ct7), sl7⟩)
    (c7 : PySem.W.codeIn K cd7 "_law_mixed" = true) (k7 : PySem.W.keepIn K (.ref f7) = true)
    (a8 : PySem.W.nsIn K mainGlobals "_law_folded" = some (some (.ref f8)))
    (l8 : K.lookup f8 = some ⟨oc8, od8, .func (PySem.W.fnOf "_law_folded" "_law_folded" (defArgs sFolded) (defBody sFolded) (defScope sFolded) .none kV8 dc8 pm8 an8 cd8 ct8), sl8⟩)
    (c8 : PySem.W.codeIn K cd8 "_law_folded" = true) (k8 : PySem.W.keepIn K (.ref f8) = true)
    (a9 : PySem.W.nsIn K mainGlobals "_law_draw" = some (some (.ref f9)))
    (l9 : K.lookup f9 = some ⟨oc9, od9, .func (PySem.W.fnOf "_law_draw" "_law_draw" (defArgs sDraw) (defBody sDraw) (defScope sDraw) .none kV9 dc9 pm9 an9 cd9 ct9), sl9⟩)
    (c9 : PySem.W.codeIn K cd9 "_law_draw" = true) (k9 : PySem.W.keepIn K (.ref f9) = true)
    (a10 : PySem.W.nsIn K mainGlobals "_law_begun" = some (some (.ref f10)))
    (l10 : K.lookup f10 = some ⟨oc10, od10, .func (PySem.W.fnOf "_law_begun" "_law_begun" (defArgs sBegun) (defBody sBegun) (defScope sBegun) .none kV10 dc10 pm10 an10 cd10 ct10), sl10⟩)
    (c10 : PySem.W.codeIn K cd10 "_law_begun" = true) (k10 : PySem.W.keepIn K (.ref f10) = true)
    (a11 : PySem.W.nsIn K mainGlobals "_law_left" = some (some (.ref f11)))
    (l11 : K.lookup f11 = some ⟨oc11, od11, .func (PySem.W.fnOf "_law_left" "_law_left" (defArgs sLeft) (defBody sLeft) (defScope sLeft) .none kV11 dc11 pm11 an11 cd11 ct11), sl11⟩)
    (c11 : PySem.W.codeIn K cd11 "_law_left" = true) (k11 : PySem.W.keepIn K (.ref f11) = true)
    (a12 : PySem.W.nsIn K mainGlobals "_law_done" = some (some (.ref f12)))
    (l12 : K.lookup f12 = some ⟨oc12, od12, .func (PySem.W.fnOf "_law_done" "_law_done" (defArgs sDone) (defBody sDone) (defScope sDone) .none kV12 dc12 pm12 an12 cd12 ct12), sl12⟩)
    (c12 : PySem.W.codeIn K cd12 "_law_done" = true) (k12 : PySem.W.keepIn K (.ref f12) = true)
    (a13 : PySem.W.nsIn K mainGlobals "_law_size" = some (some (.ref f13)))
    (l13 : K.lookup f13 = some ⟨oc13, od13, .func (PySem.W.fnOf "_law_size" "_law_size" (defArgs sSize) (defBody sSize) (defScope sSize) .none kV13 dc13 pm13 an13 cd13 ct13), sl13⟩)
    (c13 : PySem.W.codeIn K cd13 "_law_size" = true) (k13 : PySem.W.keepIn K (.ref f13) = true)
    (a14 : PySem.W.nsIn K mainGlobals "_law_letters" = some (some (.ref f14)))
    (l14 : K.lookup f14 = some ⟨oc14, od14, .func (PySem.W.fnOf "_law_letters" "_law_letters" (defArgs sLetters) (defBody sLetters) (defScope sLetters) .none kV14 dc14 pm14 an14 cd14 ct14), sl14⟩)
    (c14 : PySem.W.codeIn K cd14 "_law_letters" = true) (k14 : PySem.W.keepIn K (.ref f14) = true)
    (a15 : PySem.W.nsIn K mainGlobals "_law_like" = some (some (.ref f15)))
    (l15 : K.lookup f15 = some ⟨oc15, od15, .func (PySem.W.fnOf "_law_like" "_law_like" (defArgs sLike) (defBody sLike) (defScope sLike) .none kV15 dc15 pm15 an15 cd15 ct15), sl15⟩)
    (c15 : PySem.W.codeIn K cd15 "_law_like" = true) (k15 : PySem.W.keepIn K (.ref f15) = true)
    (a16 : PySem.W.nsIn K mainGlobals "_law_is_top" = some (some (.ref f16)))
    (l16 : K.lookup f16 = some ⟨oc16, od16, .func (PySem.W.fnOf "_law_is_top" "_law_is_top" (defArgs sIsTopL) (defBody sIsTopL) (defScope sIsTopL) .none kV16 dc16 pm16 an16 cd16 ct16), sl16⟩)
    (c16 : PySem.W.codeIn K cd16 "_law_is_top" = true) (k16 : PySem.W.keepIn K (.ref f16) = true)
    (a17 : PySem.W.nsIn K mainGlobals "_law_is_bottom" = some (some (.ref f17)))
    (l17 : K.lookup f17 = some ⟨oc17, od17, .func (PySem.W.fnOf "_law_is_bottom" "_law_is_bottom" (defArgs sIsBottomL) (defBody sIsBottomL) (defScope sIsBottomL) .none kV17 dc17 pm17 an17 cd17 ct17), sl17⟩)
    (c17 : PySem.W.codeIn K cd17 "_law_is_bottom" = true) (k17 : PySem.W.keepIn K (.ref f17) = true)
    (a18 : PySem.W.nsIn K mainGlobals "_law_ended" = some (some (.ref f18)))
    (l18 : K.lookup f18 = some ⟨oc18, od18, .func (PySem.W.fnOf "_law_ended" "_law_ended" (defArgs sEnded) (defBody sEnded) (defScope sEnded) .none kV18 dc18 pm18 an18 cd18 ct18), sl18⟩)
    (c18 : PySem.W.codeIn K cd18 "_law_ended" = true) (k18 : PySem.W.keepIn K (.ref f18) = true)
    (a19 : PySem.W.nsIn K mainGlobals "law" = some (some (.ref f19)))
    (l19 : K.lookup f19 = some ⟨oc19, od19, .func (PySem.W.fnOf "law" "law" (defArgs sLaw) (defBody sLaw) (defScope sLaw) .none kV19 dc19 pm19 an19 cd19 ct19), sl19⟩)
    (c19 : PySem.W.codeIn K cd19 "law" = true) (k19 : PySem.W.keepIn K (.ref f19) = true)
    (a20 : PySem.W.findIn K (.ref C) "__init__" = some (some (.ref f20))) (i20 : PySem.W.isFn K (.ref f20) = true)
    (l20 : K.lookup f20 = some ⟨oc20, od20, .func (PySem.W.fnOf "__init__" "Word.__init__" (defArgs sInit) (defBody sInit) (defScope sInit) .none kV20 dc20 pm20 an20 cd20 ct20), sl20⟩)
    (c20 : PySem.W.codeIn K cd20 "Word.__init__" = true) (k20 : PySem.W.keepIn K (.ref f20) = true)
    (a21 : PySem.W.findIn K (.ref C) "spare" = some (some (.ref f21))) (i21 : PySem.W.isFn K (.ref f21) = true)
    (l21 : K.lookup f21 = some ⟨oc21, od21, .func (PySem.W.fnOf "spare" "Word.spare" (defArgs sSpare) (defBody sSpare) (defScope sSpare) .none kV21 dc21 pm21 an21 cd21 ct21), sl21⟩)
    (c21 : PySem.W.codeIn K cd21 "Word.spare" = true) (k21 : PySem.W.keepIn K (.ref f21) = true)
    (a22 : PySem.W.findIn K (.ref C) "ups" = some (some (.ref f22))) (i22 : PySem.W.isFn K (.ref f22) = true)
    (l22 : K.lookup f22 = some ⟨oc22, od22, .func (PySem.W.fnOf "ups" "Word.ups" (defArgs sUps) (defBody sUps) (defScope sUps) .none kV22 dc22 pm22 an22 cd22 ct22), sl22⟩)
    (c22 : PySem.W.codeIn K cd22 "Word.ups" = true) (k22 : PySem.W.keepIn K (.ref f22) = true)
    (a23 : PySem.W.findIn K (.ref C) "downs" = some (some (.ref f23))) (i23 : PySem.W.isFn K (.ref f23) = true)
    (l23 : K.lookup f23 = some ⟨oc23, od23, .func (PySem.W.fnOf "downs" "Word.downs" (defArgs sDowns) (defBody sDowns) (defScope sDowns) .none kV23 dc23 pm23 an23 cd23 ct23), sl23⟩)
    (c23 : PySem.W.codeIn K cd23 "Word.downs" = true) (k23 : PySem.W.keepIn K (.ref f23) = true)
    (a24 : PySem.W.findIn K (.ref C) "is_top" = some (some (.ref f24))) (i24 : PySem.W.isFn K (.ref f24) = true)
    (l24 : K.lookup f24 = some ⟨oc24, od24, .func (PySem.W.fnOf "is_top" "Word.is_top" (defArgs sIsTop) (defBody sIsTop) (defScope sIsTop) .none kV24 dc24 pm24 an24 cd24 ct24), sl24⟩)
    (c24 : PySem.W.codeIn K cd24 "Word.is_top" = true) (k24 : PySem.W.keepIn K (.ref f24) = true)
    (a25 : PySem.W.findIn K (.ref C) "is_bottom" = some (some (.ref f25))) (i25 : PySem.W.isFn K (.ref f25) = true)
    (l25 : K.lookup f25 = some ⟨oc25, od25, .func (PySem.W.fnOf "is_bottom" "Word.is_bottom" (defArgs sIsBottom) (defBody sIsBottom) (defScope sIsBottom) .none kV25 dc25 pm25 an25 cd25 ct25), sl25⟩)
    (c25 : PySem.W.codeIn K cd25 "Word.is_bottom" = true) (k25 : PySem.W.keepIn K (.ref f25) = true)
    (pg : PySem.W.plainGet K C Str.empty = true)
    (hd : PySem.W.hasDictIn K C = true)
    (po : PySem.W.plainOver K C = true)
    (sa : PySem.W.findIn K (.ref C) "__setattr__" = some (some (.builtin "object.__setattr__")))
    (mkC : PySem.W.makesIn K C = true)
    (kc : PySem.W.keepIn K (.ref C) = true)
    (nS : PySem.W.findIn K (.ref C) "size" = some none)
    (nL : PySem.W.findIn K (.ref C) "letters" = some none)
    (ca : PySem.W.findIn K (.ref C) "__class__" = some (some (.builtin "object.__class__")))
    (cn : PySem.W.specialIn K (.builtin "object.__class__") "__get__" = some (some (.builtin "getset_descriptor.__get__")))
    (ct : PySem.W.takesIn K (.builtin "object.__class__") = some true)
    (cm : PySem.W.mroIn K C (.type "object") = some true)
    (n2 : PySem.W.nsIn K mainGlobals "LEAST_SIZE" = some (some (.int 2 t2)))
    (n6 : PySem.W.nsIn K mainGlobals "MOST_SIZE" = some (some (.int 6 t6)))
    (n40 : PySem.W.nsIn K mainGlobals "MOST_LETTERS" = some (some (.int 40 t40)))
    (z_isinstance : PySem.W.nsIn K mainGlobals "isinstance" = some none)
    (z_int : PySem.W.nsIn K mainGlobals "int" = some none)
    (z_bool : PySem.W.nsIn K mainGlobals "bool" = some none)
    (z_list : PySem.W.nsIn K mainGlobals "list" = some none)
    (z_tuple : PySem.W.nsIn K mainGlobals "tuple" = some none)
    (z_len : PySem.W.nsIn K mainGlobals "len" = some none)
    (z_range : PySem.W.nsIn K mainGlobals "range" = some none)
    (z_enumerate : PySem.W.nsIn K mainGlobals "enumerate" = some none)
    (z_sorted : PySem.W.nsIn K mainGlobals "sorted" = some none)
    (z_min : PySem.W.nsIn K mainGlobals "min" = some none)
    (z_repr : PySem.W.nsIn K mainGlobals "repr" = some none)
    (z_any : PySem.W.nsIn K mainGlobals "any" = some none)
    (z_max : PySem.W.nsIn K mainGlobals "max" = some none) :
    ∃ fd : FuncData, (∀ (s : Shared) (v : Value), BindsTo s fd ⟨[v], []⟩ [("script", v)]) ∧ ∀ base : Heap, K.In base → base.Ns mainGlobals mg → FnG l.prog w K mg base 10 fa fd ["script"] (spLaw K) := by
  have e := hfa.symm.trans (PySem.W.mg_of X G a19)
  cases e
  have B : Bare mg := ⟨PySem.W.mg_none_of X G z_isinstance, PySem.W.mg_none_of X G z_int, PySem.W.mg_none_of X G z_bool, PySem.W.mg_none_of X G z_list, PySem.W.mg_none_of X G z_tuple, PySem.W.mg_none_of X G z_len, PySem.W.mg_none_of X G z_range, PySem.W.mg_none_of X G z_enumerate, PySem.W.mg_none_of X G z_sorted, PySem.W.mg_none_of X G z_min, PySem.W.mg_none_of X G z_repr, PySem.W.mg_none_of X G z_any, PySem.W.mg_none_of X G z_max⟩
  have N : Nums mg := ⟨⟨_, PySem.W.mg_of X G n2⟩, ⟨_, PySem.W.mg_of X G n6⟩, ⟨_, PySem.W.mg_of X G n40⟩⟩
  have T : Cw K mg C := ⟨⟨pg, hd, po, sa⟩, nS, nL, PySem.W.mg_of X G aC, ca, cn, ct, cm⟩
  have F0 := fun_mk (st := sWhole) l0 c0 k0
  have b0 := F0.binds (ps := ["value"]) fun _ _ _ _ _ _ us hl => match us, hl with | [_], _ => rfl
  have D0 : Df K mg "is_whole" sWhole f0 _ := ⟨F0, PySem.W.mg_of X G a0⟩
  have F1 := fun_mk (st := sBetween) l1 c1 k1
  have b1 := F1.binds (ps := ["value", "least", "most"]) fun _ _ _ _ _ _ us hl => match us, hl with | [_, _, _], _ => rfl
  have D1 : Df K mg "is_between" sBetween f1 _ := ⟨F1, PySem.W.mg_of X G a1⟩
  have F2 := fun_mk (st := sListing) l2 c2 k2
  have b2 := F2.binds (ps := ["value"]) fun _ _ _ _ _ _ us hl => match us, hl with | [_], _ => rfl
  have D2 : Df K mg "is_listing" sListing f2 _ := ⟨F2, PySem.W.mg_of X G a2⟩
  have F3 := fun_mk (st := sCkSize) l3 c3 k3
  have b3 := F3.binds (ps := ["size"]) fun _ _ _ _ _ _ us hl => match us, hl with | [_], _ => rfl
  have D3 : Df K mg "check_size" sCkSize f3 _ := ⟨F3, PySem.W.mg_of X G a3⟩
  have F4 := fun_mk (st := sCkIndex) l4 c4 k4
  have b4 := F4.binds (ps := ["size", "i"]) fun _ _ _ _ _ _ us hl => match us, hl with | [_, _], _ => rfl
  have D4 : Df K mg "check_index" sCkIndex f4 _ := ⟨F4, PySem.W.mg_of X G a4⟩
  have F5 := fun_mk (st := sCkLetters) l5 c5 k5
  have b5 := F5.binds (ps := ["size", "letters"]) fun _ _ _ _ _ _ us hl => match us, hl with | [_, _], _ => rfl
  have D5 : Df K mg "check_letters" sCkLetters f5 _ := ⟨F5, PySem.W.mg_of X G a5⟩
  have F6 := fun_mk (st := sBrack) l6 c6 k6
  have b6 := F6.binds (ps := ["letters", "i"]) fun _ _ _ _ _ _ us hl => match us, hl with | [_, _], _ => rfl
  have D6 : Df K mg "bracketed" sBrack f6 _ := ⟨F6, PySem.W.mg_of X G a6⟩
  have F7 := fun_mk (st := sMixed) l7 c7 k7
  have b7 := F7.binds (ps := ["cell", "n"]) fun _ _ _ _ _ _ us hl => match us, hl with | [_, _], _ => rfl
  have D7 : Df K mg "_law_mixed" sMixed f7 _ := ⟨F7, PySem.W.mg_of X G a7⟩
  have F8 := fun_mk (st := sFolded) l8 c8 k8
  have b8 := F8.binds (ps := ["script"]) fun _ _ _ _ _ _ us hl => match us, hl with | [_], _ => rfl
  have D8 : Df K mg "_law_folded" sFolded f8 _ := ⟨F8, PySem.W.mg_of X G a8⟩
  have F9 := fun_mk (st := sDraw) l9 c9 k9
  have b9 := F9.binds (ps := ["m", "limit"]) fun _ _ _ _ _ _ us hl => match us, hl with | [_, _], _ => rfl
  have D9 : Df K mg "_law_draw" sDraw f9 _ := ⟨F9, PySem.W.mg_of X G a9⟩
  have F10 := fun_mk (st := sBegun) l10 c10 k10
  have b10 := F10.binds (ps := ["script"]) fun _ _ _ _ _ _ us hl => match us, hl with | [_], _ => rfl
  have D10 : Df K mg "_law_begun" sBegun f10 _ := ⟨F10, PySem.W.mg_of X G a10⟩
  have F11 := fun_mk (st := sLeft) l11 c11 k11
  have b11 := F11.binds (ps := ["letters", "i"]) fun _ _ _ _ _ _ us hl => match us, hl with | [_, _], _ => rfl
  have D11 : Df K mg "_law_left" sLeft f11 _ := ⟨F11, PySem.W.mg_of X G a11⟩
  have F12 := fun_mk (st := sDone) l12 c12 k12
  have b12 := F12.binds (ps := ["letters", "deed"]) fun _ _ _ _ _ _ us hl => match us, hl with | [_, _], _ => rfl
  have D12 : Df K mg "_law_done" sDone f12 _ := ⟨F12, PySem.W.mg_of X G a12⟩
  have F13 := fun_mk (st := sSize) l13 c13 k13
  have b13 := F13.binds (ps := ["m"]) fun _ _ _ _ _ _ us hl => match us, hl with | [_], _ => rfl
  have D13 : Df K mg "_law_size" sSize f13 _ := ⟨F13, PySem.W.mg_of X G a13⟩
  have F14 := fun_mk (st := sLetters) l14 c14 k14
  have b14 := F14.binds (ps := ["m", "size", "most"]) fun _ _ _ _ _ _ us hl => match us, hl with | [_, _, _], _ => rfl
  have D14 : Df K mg "_law_letters" sLetters f14 _ := ⟨F14, PySem.W.mg_of X G a14⟩
  have F15 := fun_mk (st := sLike) l15 c15 k15
  have b15 := F15.binds (ps := ["told", "due"]) fun _ _ _ _ _ _ us hl => match us, hl with | [_, _], _ => rfl
  have D15 : Df K mg "_law_like" sLike f15 _ := ⟨F15, PySem.W.mg_of X G a15⟩
  have F16 := fun_mk (st := sIsTopL) l16 c16 k16
  have b16 := F16.binds (ps := ["size", "letters"]) fun _ _ _ _ _ _ us hl => match us, hl with | [_, _], _ => rfl
  have D16 : Df K mg "_law_is_top" sIsTopL f16 _ := ⟨F16, PySem.W.mg_of X G a16⟩
  have F17 := fun_mk (st := sIsBottomL) l17 c17 k17
  have b17 := F17.binds (ps := ["size", "letters"]) fun _ _ _ _ _ _ us hl => match us, hl with | [_, _], _ => rfl
  have D17 : Df K mg "_law_is_bottom" sIsBottomL f17 _ := ⟨F17, PySem.W.mg_of X G a17⟩
  have F18 := fun_mk (st := sEnded) l18 c18 k18
  have b18 := F18.binds (ps := ["m", "size", "letters", "sign"]) fun _ _ _ _ _ _ us hl => match us, hl with | [_, _, _, _], _ => rfl
  have D18 : Df K mg "_law_ended" sEnded f18 _ := ⟨F18, PySem.W.mg_of X G a18⟩
  have F19 := fun_mk (st := sLaw) l19 c19 k19
  have b19 := F19.binds (ps := ["script"]) fun _ _ _ _ _ _ us hl => match us, hl with | [_], _ => rfl
  have D19 : Df K mg "law" sLaw fa _ := ⟨F19, PySem.W.mg_of X G a19⟩
  have F20 := fun_mk (st := sInit) l20 c20 k20
  have b20 := F20.binds (ps := ["self", "size", "letters"]) fun _ _ _ _ _ _ us hl => match us, hl with | [_, _, _], _ => rfl
  have M20 : Meth K C "__init__" f20 := ⟨a20, i20, k20⟩
  have F21 := fun_mk (st := sSpare) l21 c21 k21
  have b21 := F21.binds (ps := ["self", "i"]) fun _ _ _ _ _ _ us hl => match us, hl with | [_, _], _ => rfl
  have M21 : Meth K C "spare" f21 := ⟨a21, i21, k21⟩
  have F22 := fun_mk (st := sUps) l22 c22 k22
  have b22 := F22.binds (ps := ["self", "i"]) fun _ _ _ _ _ _ us hl => match us, hl with | [_, _], _ => rfl
  have M22 : Meth K C "ups" f22 := ⟨a22, i22, k22⟩
  have F23 := fun_mk (st := sDowns) l23 c23 k23
  have b23 := F23.binds (ps := ["self", "i"]) fun _ _ _ _ _ _ us hl => match us, hl with | [_, _], _ => rfl
  have M23 : Meth K C "downs" f23 := ⟨a23, i23, k23⟩
  have F24 := fun_mk (st := sIsTop) l24 c24 k24
  have b24 := F24.binds (ps := ["self"]) fun _ _ _ _ _ _ us hl => match us, hl with | [_], _ => rfl
  have M24 : Meth K C "is_top" f24 := ⟨a24, i24, k24⟩
  have F25 := fun_mk (st := sIsBottom) l25 c25 k25
  have b25 := F25.binds (ps := ["self"]) fun _ _ _ _ _ _ us hl => match us, hl with | [_], _ => rfl
  have M25 : Meth K C "is_bottom" f25 := ⟨a25, i25, k25⟩
  refine ⟨PySem.W.fnOf "law" "law" (defArgs sLaw) (defBody sLaw) (defScope sLaw) .none kV19 dc19 pm19 an19 cd19 ct19, fun s v => .of_eq rfl, fun base _ _ => ?_⟩
  have Gwhole := ok_whole (P := l.prog) (w := w) (base := base) B D0
  have Gbet := ok_between (P := l.prog) (w := w) (base := base) B D1
  have Glist := ok_listing (P := l.prog) (w := w) (base := base) B D2
  have Gcs := ok_cksize (P := l.prog) (w := w) (base := base) N D3 D1 b1 Gbet
  have Gci := ok_ckindex (P := l.prog) (w := w) (base := base) D4 D1 b1 Gbet
  have Gcl := ok_ckletters (P := l.prog) (w := w) (base := base) B N D5 D1 b1 Gbet D2 b2 Glist
  have Gbr := ok_brack (P := l.prog) (w := w) (base := base) B D6
  have Gin := ok_init (P := l.prog) (w := w) (base := base) B T F20 D3 b3 Gcs D5 b5 Gcl
  have I : In_ l.prog w K mg base C f20 _ := ⟨⟨mkC, a20, i20, kc⟩, Gin, b20⟩
  have Gsp := ok_spare (P := l.prog) (w := w) (base := base) B T F21 D4 b4 Gci D6 b6 Gbr
  have S : Sp_ l.prog w K mg base C f21 _ := ⟨M21, Gsp, b21⟩
  have Gups := ok_ups B T F22 S
  have Gdowns := ok_downs B T F23 S
  have Mu : Mt l.prog w K mg base C "ups" f22 _ (spUps C) := ⟨M22, Gups, b22⟩
  have Md : Mt l.prog w K mg base C "downs" f23 _ (spDowns C) := ⟨M23, Gdowns, b23⟩
  have Gtop := ok_istop B T F24 Md
  have Gbot := ok_isbot B T F25 Mu
  have Mtt : Mt0 l.prog w K mg base C "is_top" f24 _ (spIsTop C) := ⟨M24, Gtop, b24⟩
  have Mbb : Mt0 l.prog w K mg base C "is_bottom" f25 _ (spIsBot C) := ⟨M25, Gbot, b25⟩
  have Gmix := ok_mixed (P := l.prog) (w := w) (base := base) B D7
  have Gfol := ok_folded (P := l.prog) (w := w) (base := base) B D8
  have Gdr := ok_draw (P := l.prog) (w := w) (base := base) B D9 D7 b7 Gmix
  have Gbe := ok_begun (P := l.prog) (w := w) (base := base) D10 D8 b8 Gfol
  have Gsz := ok_size (P := l.prog) (w := w) (base := base) D13 D9 b9 Gdr
  have Gle := ok_letters (P := l.prog) (w := w) (base := base) B D14 D9 b9 Gdr
  have Glf := ok_left (P := l.prog) (w := w) (base := base) B D11
  have Gdo := ok_done (P := l.prog) (w := w) (base := base) D12 D11 b11 Glf
  have Gen := ok_ended (P := l.prog) (w := w) (base := base) B D18 D9 b9 Gdr D12 b12 Gdo
  have Gli := ok_like (P := l.prog) (w := w) (base := base) B D15
  have Git := ok_istopL (P := l.prog) (w := w) (base := base) B D16
  have Gib := ok_isbotL (P := l.prog) (w := w) (base := base) B D17
  have O : Ow l.prog w K mg base f10 f13 f9 f14 f18 f15 f16 f17 _ _ _ _ _ _ _ _ := ⟨D10, Gbe, b10, D13, Gsz, b13, D9, Gdr, b9, D14, Gle, b14, D18, Gen, b18, D15, Gli, b15, D16, Git, b16, D17, Gib, b17⟩
  exact ok_law B T D19 I Mu Md Mtt Mbb O
theorem walk {l : PySem.W.OpenLaw} {q : Program} {loose : List Str} {XP : (Str → Option Value) → Heap → Prop} {YP : World → Heap → Prop} {d : DefRec} {K : Params → PySem.W.Frag} (hn : l.most = some 63) (hdf : d.params.defaults = [])
    (hY : ∀ (w : World) (h : Heap), YP w h → (K w.params).In h)
    (F : ∀ (w : World) (mg : Str → Option Value) (fa : Addr) (h : Heap), (K w.params).In h → h.Ns mainGlobals mg → mg d.name = some (.ref fa) →
      ∃ fd : FuncData, (∀ (s : Shared) (u : Value), BindsTo s fd ⟨[u], []⟩ [("script", u)]) ∧ ∀ base : Heap, (K w.params).In base → base.Ns mainGlobals mg → FnG l.prog w (K w.params) mg base 10 fa fd ["script"] (spLaw (K w.params))) :
    PySem.W.WalkO q loose XP YP l.row.toRowW d [] (fun f vs => PySem.call f vs) :=
  LwE.walkG (n := 63) (k := 10) (x := "script") (sp := fun w => spLaw (K w.params)) hn (by decide) hdf ⟨rfl, by decide, by decide⟩ hY F fun _ _ a ns hl _ hS => ⟨a, ns, rfl, hS, hl, fun _ => rfl⟩
end Lw
open PySem PySem.W PyProof.Rows
set_option maxRecDepth 100000 in
set_option maxHeartbeats 0 in
theorem PySem.Challenge.cw_liftwords_k06_tops_and_bottoms_holds : PySem.Challenge.rw_liftwords_k06_tops_and_bottoms.Holds := by
  w_on; o_law; k_head; (case hw => w_witness2)
  k_fill
  refine Lw.walk (l := PySem.Challenge.rw_liftwords_k06_tops_and_bottoms) rfl rfl (fun w h Y => PySem.W.kIn_of Y) ?F
  case F =>
    intro w mg fa h KX G hmg
    refine' Lw.all_mk KX G hmg ?aC ?a0 ?l0 ?c0 ?k0 ?a1 ?l1 ?c1 ?k1 ?a2 ?l2 ?c2 ?k2 ?a3 ?l3 ?c3 ?k3 ?a4 ?l4 ?c4 ?k4 ?a5 ?l5 ?c5 ?k5 ?a6 ?l6 ?c6 ?k6 ?a7 ?l7 ?c7 ?k7 ?a8 ?l8 ?c8 ?k8 ?a9 ?l9 ?c9 ?k9 ?a10 ?l10 ?c10 ?k10 ?a11 ?l11 ?c11 ?k11 ?a12 ?l12 ?c12 ?k12 ?a13 ?l13 ?c13 ?k13 ?a14 ?l14 ?c14 ?k14 ?a15 ?l15 ?c15 ?k15 ?a16 ?l16 ?c16 ?k16 ?a17 ?l17 ?c17 ?k17 ?a18 ?l18 ?c18 ?k18 ?a19 ?l19 ?c19 ?k19 ?a20 ?i20 ?l20 ?c20 ?k20 ?a21 ?i21 ?l21 ?c21 ?k21 ?a22 ?i22 ?l22 ?c22 ?k22 ?a23 ?i23 ?l23 ?c23 ?k23 ?a24 ?i24 ?l24 ?c24 ?k24 ?a25 ?i25 ?l25 ?c25 ?k25 ?pg ?hd ?po ?sa ?mkC ?kc ?nS ?nL ?ca ?cn ?ct ?cm ?n2 ?n6 ?n40 ?z_isinstance ?z_int ?z_bool ?z_list ?z_tuple ?z_len ?z_range ?z_enumerate ?z_sorted ?z_min ?z_repr ?z_any ?z_max
    (case aC => k_is)
    (case a0 => k_is)
    (case l0 => k_is)
    (case c0 => k_is)
    (case k0 => k_is)
    (case a1 => k_is)
    (case l1 => k_is)
    (case c1 => k_is)
    (case k1 => k_is)
    (case a2 => k_is)
    (case l2 => k_is)
    (case c2 => k_is)
    (case k2 => k_is)
    (case a3 => k_is)
    (case l3 => k_is)
    (case c3 => k_is)
    (case k3 => k_is)
    (case a4 => k_is)
    (case l4 => k_is)
    (case c4 => k_is)
    (case k4 => k_is)
    (case a5 => k_is)
    (case l5 => k_is)
    (case c5 => k_is)
    (case k5 => k_is)
    (case a6 => k_is)
    (case l6 => k_is)
    (case c6 => k_is)
    (case k6 => k_is)
    (case a7 => k_is)
    (case l7 => k_is)
    (case c7 => k_is)
    (case k7 => k_is)
    (case a8 => k_is)
    (case l8 => k_is)
    (case c8 => k_is)
    (case k8 => k_is)
    (case a9 => k_is)
    (case l9 => k_is)
    (case c9 => k_is)
    (case k9 => k_is)
    (case a10 => k_is)
    (case l10 => k_is)
    (case c10 => k_is)
    (case k10 => k_is)
    (case a11 => k_is)
    (case l11 => k_is)
    (case c11 => k_is)
    (case k11 => k_is)
    (case a12 => k_is)
    (case l12 => k_is)
    (case c12 => k_is)
    (case k12 => k_is)
    (case a13 => k_is)
    (case l13 => k_is)
    (case c13 => k_is)
    (case k13 => k_is)
    (case a14 => k_is)
    (case l14 => k_is)
    (case c14 => k_is)
    (case k14 => k_is)
    (case a15 => k_is)
    (case l15 => k_is)
    (case c15 => k_is)
    (case k15 => k_is)
    (case a16 => k_is)
    (case l16 => k_is)
    (case c16 => k_is)
    (case k16 => k_is)
    (case a17 => k_is)
    (case l17 => k_is)
    (case c17 => k_is)
    (case k17 => k_is)
    (case a18 => k_is)
    (case l18 => k_is)
    (case c18 => k_is)
    (case k18 => k_is)
    (case a19 => k_is)
    (case l19 => k_is)
    (case c19 => k_is)
    (case k19 => k_is)
    (case a20 => k_is)
    (case i20 => k_is)
    (case l20 => k_is)
    (case c20 => k_is)
    (case k20 => k_is)
    (case a21 => k_is)
    (case i21 => k_is)
    (case l21 => k_is)
    (case c21 => k_is)
    (case k21 => k_is)
    (case a22 => k_is)
    (case i22 => k_is)
    (case l22 => k_is)
    (case c22 => k_is)
    (case k22 => k_is)
    (case a23 => k_is)
    (case i23 => k_is)
    (case l23 => k_is)
    (case c23 => k_is)
    (case k23 => k_is)
    (case a24 => k_is)
    (case i24 => k_is)
    (case l24 => k_is)
    (case c24 => k_is)
    (case k24 => k_is)
    (case a25 => k_is)
    (case i25 => k_is)
    (case l25 => k_is)
    (case c25 => k_is)
    (case k25 => k_is)
    (case pg => k_is)
    (case hd => k_is)
    (case po => k_is)
    (case sa => k_is)
    (case mkC => k_is)
    (case kc => k_is)
    (case nS => k_is)
    (case nL => k_is)
    (case ca => k_is)
    (case cn => k_is)
    (case ct => k_is)
    (case cm => k_is)
    (case n2 => k_is)
    (case n6 => k_is)
    (case n40 => k_is)
    (case z_isinstance => k_is)
    (case z_int => k_is)
    (case z_bool => k_is)
    (case z_list => k_is)
    (case z_tuple => k_is)
    (case z_len => k_is)
    (case z_range => k_is)
    (case z_enumerate => k_is)
    (case z_sorted => k_is)
    (case z_min => k_is)
    (case z_repr => k_is)
    (case z_any => k_is)
    (case z_max => k_is)
