import PyProof.Rows.All
import Wide.All
import OpenK.AllK
import Wide.FinOn
import HandS.ForMost
import HandS.IsInst
import HandS.Conv
import HandS.Sort
import HandS.Style
import HandS.Flow
import KE.GoesEnum
import HandS.Wide
import HandS.TupAny
import HandS.SlotsOwn
import PyProof.InstNe
import PyProof.ReprRoads
import HandS.Codes
import PySem.Challenge.RW_liftwords_k05_whole_joined_words
set_option Elab.async false
set_option linter.all false
set_option maxRecDepth 100000
/-! A. The text by places; numbers judged; sizes, indexes and letters checked. -/
namespace Lw
open PySem L2
def top (i : Nat) : Stmt := PySem.Challenge.pw_liftwords_k05_whole_joined_words.main.body.getD i (.Pass ⟨0, 0, 0, 0⟩)
abbrev sWhole : Stmt := top 11
abbrev sBetween : Stmt := top 12
abbrev sListing : Stmt := top 13
abbrev sCkSize : Stmt := top 18
abbrev sCkIndex : Stmt := top 19
abbrev sCkLetters : Stmt := top 20
abbrev sBrack : Stmt := top 21
abbrev sWith : Stmt := top 22
abbrev sInit : Stmt := inClass (top 23) 0
abbrev sLen : Stmt := inClass (top 23) 1
abbrev sEq : Stmt := inClass (top 23) 4
abbrev sAdd : Stmt := inClass (top 23) 5
abbrev sSpare : Stmt := inClass (top 23) 9
abbrev sUps : Stmt := inClass (top 23) 10
abbrev sDowns : Stmt := inClass (top 23) 11
abbrev sUp : Stmt := inClass (top 23) 12
abbrev sDown : Stmt := inClass (top 23) 13
abbrev sMixed : Stmt := top 25
abbrev sFolded : Stmt := top 26
abbrev sDraw : Stmt := top 27
abbrev sBegun : Stmt := top 28
abbrev sSize : Stmt := top 29
abbrev sLetters : Stmt := top 30
abbrev sLike : Stmt := top 31
abbrev sNumbers : Stmt := top 32
abbrev sChanged : Stmt := top 33
abbrev sLaw : Stmt := top 34
/-- the built-in names that the text doesn't cover -/
structure Bare (mg : Str → Option Value) : Prop where
  isinstance : mg "isinstance" = none
  int : mg "int" = none
  bool : mg "bool" = none
  list : mg "list" = none
  tuple : mg "tuple" = none
  len : mg "len" = none
  range : mg "range" = none
  enumerate : mg "enumerate" = none
  sorted : mg "sorted" = none
  min : mg "min" = none
  repr : mg "repr" = none
/-- a def of the top -/
structure Df (K : PySem.W.Frag) (mg : Str → Option Value) (x : Str) (st : Stmt) (f : Addr) (fd : FuncData) : Prop where
  fn : Fun K x x st f fd
  g : mg x = some (.ref f)
section
variable {P : Program} {w : World} {K : PySem.W.Frag} {mg : Str → Option Value} {base : Heap}
/-! is_whole -/
def spWhole : Sp := fun vs H Q _ => ∃ i : Int, vs = [.int i] ∧ Q (.bl true) H
theorem scWhole : FnScope ["value"] ["value"] (defScope sWhole) := ⟨rfl, rfl, rfl, by decide +kernel, rfl, by decide +kernel, by decide +kernel⟩
theorem ok_whole {f : Addr} {fd : FuncData} (B : Bare mg) (F : Df K mg "is_whole" sWhole f fd) : FnOk P w K mg base CX0 1 f fd ["value"] spWhole := by
  refine F.fn.ok scWhole (fun vs H Q E h => ?_) (fun cdv A outer s H vs Q E hr h => ?_)
  · obtain ⟨i, rfl, _⟩ := h
    rfl
  · obtain ⟨i, rfl, k⟩ := h
    refine ⟨_, pss_one (ps_ret (pe_and (pe_callB call_isi (by rfl) B.isinstance (by decide +kernel) (pa_cons (pv 0) (pa_cons (pe_bltn (v := .ty "int") (by rfl) B.int (by decide +kernel) rfl) pa_nil)))
      (pe_one (pe_not (pe_callB call_isi (by rfl) B.isinstance (by decide +kernel) (pa_cons (pv 0) (pa_cons (pe_bltn (v := .ty "bool") (by rfl) B.bool (by decide +kernel) rfl) pa_nil))))))), ?_⟩
    refine ⟨_, rfl, _, _, _, _, true, rfl, ClsV.ty _, TyX.base (TyOf.int _), kit_ty (by decide +kernel), _, rfl, ?_⟩
    refine iteT ?_
    refine ⟨_, rfl, _, _, _, _, false, rfl, ClsV.ty _, TyX.base (TyOf.int _), kit_ty (by decide +kernel), _, rfl, ?_⟩
    exact k
end
end Lw
/-! enumerate over a tuple. -/
namespace LwE
open PySem PySem.Spec PyProof.Rows L2
set_option maxHeartbeats 1000000 in
theorem enum_new1 {v : Value} {o : Obj} {H : Heap → Prop} (B : Begins v o H) :
    Meets (Builtin.«enumerate.__new__» ⟨[.type "enumerate", v], []⟩) (fun _ R s => H s.heap ∧
      R (.ok (.ret (.ref (s.heap.push o).objs.size)))
        { s with heap := (s.heap.push o).push { cls := .type "enumerate", data := .fields #[.none, .bool false, .ref s.heap.objs.size, rawInt 0, .none, .none] } }) :=
  .of_wp fun prog w A R s z => by
    obtain ⟨hp, gn, dr, tk, os⟩ := s
    obtain ⟨z1, z2⟩ := z
    have hsub := sub_enumerate
    have start : ∀ {A' : Around} {E : Value → Shared → Prop} {Q : Value → Shared → Prop}, Q (.ref hp.objs.size) ⟨hp.push o, gn, dr, tk, os⟩ →
        wpAny (model prog w) A' (pyIter v) Q E ⟨hp, gn, dr, tk, os⟩ := fun q => B.iter prog w _ _ ⟨hp, gn, dr, tk, os⟩ _ z1 q
    wp_walk using start
    refine wpAny_stack_any fun st => wpAny_pure ?_
    split
    next c _ _ _ _ _ =>
      cases (c == Value.type "enumerate") <;> (wp_walk using start; exact ⟨_, rfl, z2⟩)
    next =>
      wp_walk using start
      exact ⟨_, rfl, z2⟩
section
variable {prog : Program} {w : World} {A : Around} {E : Value → Shared → Prop} {s : Shared}
theorem enum_begins1 {v : Value} {o : Obj} {H : Heap → Prop} {Q : Value → Shared → Prop} (B : Begins v o H) (z : H s.heap)
    (q : ∀ h', IsEnum h' (s.heap.objs.size + 1) s.heap.objs.size 0 .none → h'.get? s.heap.objs.size = some o →
      (∀ b u, s.heap.get? b = some u → h'.get? b = some u) → Q (.ref (s.heap.objs.size + 1)) { s with heap := h' }) :
    wpAny (model prog w) A (call (.type "enumerate") [v]) Q E s := by
  refine callType_new F.called_enumerate (by decide) (F.typeCall_enumerate_1 _) (F.newCall_enumerate_1 _) (fun obj => F.args_object_init_2 obj _) F.entry_enumerate_new (enum_new1 B) ⟨z, ?_⟩
  have ez : (s.heap.push o).objs.size = s.heap.objs.size + 1 := by rw [Heap.size_push]
  show _ ∧ _
  rw [ez]
  have ee : IsEnum ((s.heap.push o).push { cls := .type "enumerate", data := .fields #[.none, .bool false, .ref s.heap.objs.size, rawInt 0, .none, .none] })
      (s.heap.objs.size + 1) s.heap.objs.size 0 .none := by
    have u := Heap.get?_push_size (s.heap.push o) (o := { cls := .type "enumerate", data := .fields #[.none, .bool false, .ref s.heap.objs.size, rawInt 0, .none, .none] }) rfl
    rw [ez] at u
    exact u
  exact ⟨⟨_, ee, rfl⟩, q _ ee (Heap.get?_push_of_some _ (Heap.get?_push_size _ B.free)) fun b u x => Heap.get?_push_of_some _ (Heap.get?_push_of_some _ x)⟩
end
/-- the tuple at a, each item with its place in a new pair -/
def Ien (K : PySem.W.Frag) (a : Addr) : It where
  go := fun i H => ∃ (xs : List V) (x : V), SqT K H a xs ∧ xs[i]? = some x
  yld := fun i H v H' => ∃ T x, v = .ref T ∧ H T = none ∧ H' = upd H T (.tup [.int (i : Nat), x]) ∧ ∀ xs, SqT K H a xs → xs[i]? = some x
  stop := fun i H => ∃ xs : List V, SqT K H a xs ∧ xs.length ≤ i
theorem apart_it {h : Heap} {it a : Addr} {i : Nat} {its : Array Value} (st : h.IsTupleIter it a i) (p : h.IsTuple a its) : a ≠ it := fun z => by
  obtain ⟨o, e1, c1, _⟩ := st
  obtain ⟨o2, e2, c2, _⟩ := p
  rw [z, e1] at e2
  cases e2
  rw [c1] at c2
  exact absurd c2 (by decide)
theorem turn_ien {P : Program} {w : World} {K : PySem.W.Frag} {elts : List Expr} {kk : Nat} {tpos : Pos} (a e it : Addr) :
    Turn P w K (.Tuple elts kk tpos) (Ien K a) [e, it] e (fun i h => (∃ old, IsEnum h e it ((i : Nat) : Int) old) ∧ h.IsTupleIter it a i ∧ e ≠ it ∧ e ≠ a) where
  mem := by simp
  obj := fun i h st b hb => by
    obtain ⟨⟨old, he⟩, ⟨o, ho, hc, hd⟩, _⟩ := st
    rcases (show b = e ∨ b = it by simpa using hb) with z | z <;> subst z
    · exact ⟨_, he, fun v q => nomatch q⟩
    · exact ⟨o, ho, fun v q => by rw [hd] at q; cases q⟩
  keep := fun i h h' st k => by
    obtain ⟨⟨old, he⟩, hi, n1, n2⟩ := st
    exact ⟨⟨old, k e (by simp) _ he⟩, hi.at fun o q => k it (by simp) o q, n1, n2⟩
  item := by
    intro X hP hw hK hc i pins s σ H E I hf st hg
    subst hP hw hK
    obtain ⟨⟨old, he⟩, hit, n1, n2⟩ := st
    obtain ⟨xs, x, hq, hx⟩ := hg
    obtain ⟨its, rv, p, hz⟩ := I.tuple hq
    obtain ⟨u, hu, ru⟩ := rv.get hx
    have lt1 : e < s.heap.objs.size := Heap.lt_size he
    have lt2 : it < s.heap.objs.size := by
      obtain ⟨_, q, _⟩ := hit
      exact Heap.lt_size q
    have pT : s.heap.IsTuple a its.toArray := p
    have hlt : i < its.toArray.size := by
      have q := (List.getElem?_eq_some_iff.mp hu).1
      simpa using q
    have D := Draws.tuple (prog := X.prog) (w := X.w) (A := X.A.in1) (I.ok.hd hc) it a (apart_it hit pT) its.toArray
    refine wpAny_pyNext_enum_itemC D he ⟨hit, pT⟩ hlt n1 (by simp [n1, n2]) fun y h' tk hy ho hs' hT hsz hk => ?_
    have ey : y = u := by
      have q : its.toArray[i]? = some y := hy
      rw [show its.toArray[i]? = its[i]? from by simp, hu] at q
      exact (Option.some.inj q).symm
    subst ey
    refine ⟨_, rfl, wpAny_letOwnedTupleGo_enum (s := { s with heap := h', toks := tk + 1 }) ho fun h'' he' sb => ?_⟩
    have hT2 := (sb.2 _ (Nat.ne_of_gt lt1)).trans hT
    have made : ObjOk X.prog X.w (upd H s.heap.objs.size (.tup [.int (i : Nat), x])) h'' s.heap.objs.size (.tup [.int (i : Nat), x]) :=
      ⟨(by decide : 2 ≤ sizeLine), [.int i tk, y], .cons ⟨_, rfl⟩ (.cons ru .nil), _, hT2, rfl, _, rfl⟩
    have J : Inv X pins σ (upd H s.heap.objs.size (.tup [.int (i : Nat), x])) { s with heap := h'', toks := tk + 1 } :=
      I.turnedNew (ch := [e, it]) (fun b ob hb q => (sb.2 b (fun z => hb (by simp [z]))).trans (hk b ob (fun z => hb (by simp [z])) (fun z => hb (by simp [z])) q)) hf (Nat.le_refl _) made
    refine ⟨.ref s.heap.objs.size, _, J, rfl, ⟨_, x, rfl, I.hok.fresh (Nat.le_refl _), rfl, fun ys hy2 => by rw [I.tuple_inj hy2 hq]; exact hx⟩,
      ⟨⟨y, ?_⟩, hs'.1.at fun o q => (sb.2 it (Ne.symm n1)).trans q, n1, n2⟩, fun b hb => ?_⟩
    · rw [show ((i + 1 : Nat) : Int) = (i : Int) + 1 by omega]
      exact he'
    · have hlt3 : b < s.heap.objs.size := by
        rcases (show b = e ∨ b = it by simpa using hb) with z | z <;> (rw [z]; assumption)
      rw [upd_ne (Nat.ne_of_lt hlt3)]
      exact (hf b hb).1
  done := by
    intro X hP hw hK hc i pins s σ H E I hf st hg
    subst hP hw hK
    obtain ⟨⟨old, he⟩, hit, n1, n2⟩ := st
    obtain ⟨xs, hq, hx⟩ := hg
    obtain ⟨its, rv, p, hz⟩ := I.tuple hq
    obtain ⟨f0, f1, f2, f3, f4, f5⟩ := hf it (by simp)
    have pT : s.heap.IsTuple a its.toArray := p
    have hT : s.TypeIs (.ref e) "enumerate" := ⟨_, he, rfl⟩
    unfold pyNext
    refine wpAny_bind (wpAny_attempt (wpAny_callSpecial?_slot (name := Str.ofString "__next__") hT F.slot_enumerate_next
      (wpAny_call_entry F.slot_enumerate_next hT F.entry_enumerate_next ?_ (F.args_enumerate_next_1 _))))
    show wpAny _ _ (field (.ref e) 2 >>= _) _ _ _
    refine wpAny_bind (wpAny_field he rfl (x := .ref it) rfl ?_)
    have hl := rv.length
    refine wpAny_bind (wpAny_nextOf_tuple_end (I.ok.hd hc) hit pT (by simp; omega) fun h' x he' hx' => ?_)
    obtain ⟨o, ho, hcl⟩ := hx'
    refine wpAny_bind (wpAny_isInstance (T := "StopIteration") (b := true) ⟨o, ho, hcl⟩ isSubtype_stop ?_)
    exact wpAny_pure ⟨rfl, I.turned (t' := s.toks) (fun b o hb q => he' b o hb q) f0 f1 f3 f4 f5⟩
  self := fun A i s Q E st h => by
    obtain ⟨⟨_, he⟩, _⟩ := st
    exact wpAny_pyIter_enum he h
/-- enumerate(t), t a tuple -/
def iEnT (K : PySem.W.Frag) (ta : TA) : TI := fun σ H R => ta σ H fun vs H1 => ∃ a xs, vs = [.ref a] ∧ SqT K H1 a xs ∧ R (Ien K a) H1
theorem pi_enT {X : Cx} {e : Expr} {ta : TA} {p pos tpos : Pos} {elts : List Expr} {kk : Nat} (hg : Gl X "enumerate") (hm : X.mg "enumerate" = none) (ha : PA X [e] ta)
    (hs : starEach [e] X.env = [(false, eval e X.env)] := by rfl) : PI X (.Tuple elts kk tpos) (.Call (.Name "enumerate" p) [e] [] pos) (iEnT X.K ta) := by
  refine ⟨fun pins s σ H R I h => ?_⟩
  refine Call_ (ld_blt I hg hm boot_enumerate (PyProof.Rows.callWith_type1 (thn (ha.run pos pins s σ H _ I h) fun us s1 ⟨vs, H1, I1, r1, q1⟩ => ?_) hs rfl))
  obtain ⟨a, xs, rfl, hq, q⟩ := q1
  obtain ⟨u, rfl, ru⟩ : ∃ u, us = [u] ∧ RelV (.ref a) u := by
    cases r1 with
    | cons r rr =>
      cases rr
      exact ⟨_, rfl, r⟩
  obtain rfl : u = Value.ref a := ru
  obtain ⟨its, rv, p', hz⟩ := I1.tuple hq
  have pT : s1.heap.IsTuple a its.toArray := p'
  refine enum_begins1 (begins_tuple a its.toArray) pT fun h' he hit hk => wpAny_pyIter_enum he ?_
  have I2 : Inv X pins σ H1 { s1 with heap := h' } := I1.kept (t' := s1.toks) hk
  have lta : a < s1.heap.objs.size := by
    obtain ⟨o, e1, _⟩ := pT
    exact Heap.lt_size e1
  refine ⟨s1.heap.objs.size + 1, [s1.heap.objs.size + 1, s1.heap.objs.size], _, _, H1, rfl, I2, turn_ien a (s1.heap.objs.size + 1) s1.heap.objs.size,
    ⟨⟨.none, he⟩, ⟨_, hit, rfl, rfl⟩, Nat.succ_ne_self _, Nat.ne_of_gt (Nat.lt_succ_of_lt lta)⟩, fun b hb => ?_, q⟩
  have le1 : s1.heap.objs.size ≤ b := by
    rcases (show b = s1.heap.objs.size + 1 ∨ b = s1.heap.objs.size by simpa using hb) with z | z
    · rw [z]
      exact Nat.le_succ _
    · rw [z]
      exact Nat.le_refl _
  exact I1.fpOk le1 (I1.hok.fresh le1)
/-- the walk's word -/
theorem for_enT {K : PySem.W.Frag} {a : Addr} {xs : List V} {g : TG} {tb : TS} {D : Ends} {σ : L2.St} {H : Hp} (Pv : Nat → L2.St → Hp → Prop) (h0 : Pv 0 σ H) (hl : ∀ i σ H, i ≤ xs.length → Pv i σ H → SqT K H a xs)
    (hs : ∀ i x T σ H, xs[i]? = some x → Pv i σ H → H T = none → g (.ref T) σ (upd H T (.tup [.int (i : Nat), x])) fun σ2 H2 => tb { D with nx := Pv (i + 1), ct := Pv (i + 1), bk := D.nx } σ2 H2)
    (hd : ∀ σ H, Pv xs.length σ H → D.nx σ H) :
    ∃ W : Nat → Nat → L2.St → Hp → Prop, (∃ m, W 0 m σ H) ∧ ∀ i m σ H, W i m σ H →
      ((Ien K a).stop i H ∧ D.nx σ H) ∨ ((Ien K a).go i H ∧ ∃ N : L2.St → Hp → Prop, (∀ σ' H', N σ' H' → ∃ m', m' < m ∧ W (i + 1) m' σ' H') ∧
        ∀ x H', (Ien K a).yld i H x H' → g x σ H' fun σ2 H2 => tb { D with nx := N, ct := N, bk := D.nx } σ2 H2) := by
  refine ⟨fun i m σ H => m = xs.length - i ∧ i ≤ xs.length ∧ Pv i σ H, ⟨xs.length, by simp, Nat.zero_le _, h0⟩, ?_⟩
  intro i m σ H hW
  obtain ⟨rfl, hi, p⟩ := hW
  have q := hl i σ H hi p
  by_cases hlt : i < xs.length
  · refine .inr ⟨⟨xs, xs[i], q, by simp [hlt]⟩, Pv (i + 1), fun σ' H' p' => ⟨xs.length - (i + 1), by omega, rfl, hlt, p'⟩, fun x H' y => ?_⟩
    obtain ⟨T, v, rfl, hT, rfl, y2⟩ := y
    exact hs i v T σ H (y2 xs q) p hT
  · obtain rfl : i = xs.length := by omega
    exact .inl ⟨⟨xs, q, Nat.le_refl _⟩, hd σ H p⟩
/-- the same over a list -/
theorem for_enL {K : PySem.W.Frag} {a : Addr} {xs : List V} {g : TG} {tb : TS} {D : Ends} {σ : L2.St} {H : Hp} (Pv : Nat → L2.St → Hp → Prop) (h0 : Pv 0 σ H) (hl : ∀ i σ H, i ≤ xs.length → Pv i σ H → SqL K H a xs)
    (hs : ∀ i x T σ H, xs[i]? = some x → Pv i σ H → H T = none → g (.ref T) σ (upd H T (.tup [.int (i : Nat), x])) fun σ2 H2 => tb { D with nx := Pv (i + 1), ct := Pv (i + 1), bk := D.nx } σ2 H2)
    (hd : ∀ σ H, Pv xs.length σ H → D.nx σ H) :
    ∃ W : Nat → Nat → L2.St → Hp → Prop, (∃ m, W 0 m σ H) ∧ ∀ i m σ H, W i m σ H →
      ((Ite K a).stop i H ∧ D.nx σ H) ∨ ((Ite K a).go i H ∧ ∃ N : L2.St → Hp → Prop, (∀ σ' H', N σ' H' → ∃ m', m' < m ∧ W (i + 1) m' σ' H') ∧
        ∀ x H', (Ite K a).yld i H x H' → g x σ H' fun σ2 H2 => tb { D with nx := N, ct := N, bk := D.nx } σ2 H2) := by
  refine ⟨fun i m σ H => m = xs.length - i ∧ i ≤ xs.length ∧ Pv i σ H, ⟨xs.length, by simp, Nat.zero_le _, h0⟩, ?_⟩
  intro i m σ H hW
  obtain ⟨rfl, hi, p⟩ := hW
  have q := hl i σ H hi p
  by_cases hlt : i < xs.length
  · refine .inr ⟨⟨xs, xs[i], q, by simp [hlt]⟩, Pv (i + 1), fun σ' H' p' => ⟨xs.length - (i + 1), by omega, rfl, hlt, p'⟩, fun x H' y => ?_⟩
    obtain ⟨T, v, rfl, hT, rfl, y2⟩ := y
    exact hs i v T σ H (y2 xs q) p hT
  · obtain rfl : i = xs.length := by omega
    exact .inl ⟨⟨xs, q, Nat.le_refl _⟩, hd σ H p⟩
end LwE
/-! B. Bounds, kinds, sizes, indexes, letters. -/
namespace Lw
open PySem L2
/-- the numbers of the module words -/
structure Nums (mg : Str → Option Value) : Prop where
  least : ∃ t, mg "LEAST_SIZE" = some (.int 2 t)
  mostS : ∃ t, mg "MOST_SIZE" = some (.int 6 t)
  mostL : ∃ t, mg "MOST_LETTERS" = some (.int 40 t)
abbrev nums (l : List Int) : List V := l.map V.int
theorem nums_get {l : List Int} {i : Nat} {x : V} (h : (nums l)[i]? = some x) : ∃ z, x = .int z ∧ l[i]? = some z ∧ z ∈ l := by
  rw [List.getElem?_map] at h
  cases e : l[i]? with
  | none =>
    rw [e] at h
    cases h
  | some z =>
    rw [e] at h
    exact ⟨z, (Option.some.inj h).symm, rfl, List.mem_of_getElem? e⟩
section
variable {P : Program} {w : World} {K : PySem.W.Frag} {mg : Str → Option Value} {base : Heap}
/-! is_between -/
def spBetween : Sp := fun vs H Q _ => ∃ v a b : Int, vs = [.int v, .int a, .int b] ∧ Q (.bl (decide (a ≤ v ∧ v ≤ b))) H
theorem scBetween : FnScope ["value", "least", "most"] ["value", "least", "most"] (defScope sBetween) := ⟨rfl, rfl, rfl, by decide +kernel, rfl, by decide +kernel, by decide +kernel⟩
theorem ok_between {f : Addr} {fd : FuncData} (B : Bare mg) (F : Df K mg "is_between" sBetween f fd) : FnOk P w K mg base CX0 2 f fd ["value", "least", "most"] spBetween := by
  refine F.fn.ok scBetween (fun vs H Q E h => ?_) (fun cdv A outer s H vs Q E hr h => ?_)
  · obtain ⟨v, a, b, rfl, _⟩ := h
    rfl
  · obtain ⟨v, a, b, rfl, k⟩ := h
    refine ⟨_, pss_one (ps_ret (pe_and (pe_callB call_isi (by rfl) B.isinstance (by decide +kernel) (pa_cons (pv 0) (pa_cons (pe_bltn (v := .ty "int") (by rfl) B.int (by decide +kernel) rfl) pa_nil)))
      (pe_and (pe_not (pe_callB call_isi (by rfl) B.isinstance (by decide +kernel) (pa_cons (pv 0) (pa_cons (pe_bltn (v := .ty "bool") (by rfl) B.bool (by decide +kernel) rfl) pa_nil))))
      (pe_one (pe_chain op_le op_le (pv 1) (pv 0) (pv 2)))))), ?_⟩
    refine ⟨_, rfl, _, _, _, _, true, rfl, ClsV.ty _, TyX.base (TyOf.int _), kit_ty (by decide +kernel), _, rfl, ?_⟩
    refine iteT ?_
    refine ⟨_, rfl, _, _, _, _, false, rfl, ClsV.ty _, TyX.base (TyOf.int _), kit_ty (by decide +kernel), _, rfl, _, rfl, ?_⟩
    refine iteT ?_
    refine ⟨_, rfl, _, rfl, _, _, rfl, rfl, _, rfl, ?_⟩
    by_cases h1 : a ≤ v
    · rw [decide_eq_true h1]
      refine iteT ⟨_, rfl, _, _, rfl, rfl, ?_⟩
      have e : decide (a ≤ v ∧ v ≤ b) = decide (v ≤ b) := by simp [h1]
      rw [e] at k
      exact k
    · rw [decide_eq_false h1]
      refine iteF ?_
      have e : decide (a ≤ v ∧ v ≤ b) = false := by simp [h1]
      rw [e] at k
      exact k
/-! is_listing -/
def spListing : Sp := fun vs H Q _ => ∃ a : Addr, vs = [.ref a] ∧ ((∃ xs, H a = some (.lst xs)) ∨ ∃ xs, H a = some (.tup xs)) ∧ ∀ H', Same H H' → Q (.bl true) H'
theorem scListing : FnScope ["value"] ["value"] (defScope sListing) := ⟨rfl, rfl, rfl, by decide +kernel, rfl, by decide +kernel, by decide +kernel⟩
theorem same_new {H : Hp} {p : Addr} {o : HO} (h : H p = none) : Same H (upd H p o) := fun b u e => by
  rw [upd_ne (ne_of_none e h)]
  exact e
theorem ok_listing {f : Addr} {fd : FuncData} (B : Bare mg) (F : Df K mg "is_listing" sListing f fd) : FnOk P w K mg base CX0 1 f fd ["value"] spListing := by
  refine F.fn.ok scListing (fun vs H Q E h => ?_) (fun cdv A outer s H vs Q E hr h => ?_)
  · obtain ⟨a, rfl, _⟩ := h
    rfl
  · obtain ⟨a, rfl, hk, k⟩ := h
    refine ⟨_, pss_one (ps_ret (pe_callB call_isiT (by rfl) B.isinstance (by decide +kernel) (pa_cons (pv 0) (pa_cons (pe_tup (pa_cons (pe_bltn (v := .ty "list") (by rfl) B.list (by decide +kernel) rfl)
      (pa_cons (pe_bltn (v := .ty "tuple") (by rfl) B.tuple (by decide +kernel) rfl) pa_nil))) pa_nil)))), ?_⟩
    refine ⟨_, rfl, (by show 2 ≤ sizeLine; decide), fun t ht => ?_⟩
    have kk := k _ (same_new (o := .tup [.ty "list", .ty "tuple"]) ht)
    rcases hk with ⟨xs, e⟩ | ⟨xs, e⟩
    · exact ⟨_, _, _, _, _, true, rfl, upd_same, .cons (ClsV.ty _) (.cons (ClsV.ty _) .nil), TyX.base (TyOf.lst (by rw [upd_ne (ne_of_none e ht)]; exact e)),
        kitAny_cons (b := true) (kit_ty (by decide +kernel)) (fun z => by cases z) (fun _ => rfl), kk⟩
    · exact ⟨_, _, _, _, _, true, rfl, upd_same, .cons (ClsV.ty _) (.cons (ClsV.ty _) .nil), TyX.base (TyOf.tup (by rw [upd_ne (ne_of_none e ht)]; exact e)),
        kitAny_cons (b := false) (kit_ty (by decide +kernel)) (fun _ => kitAny_cons (b := true) (kit_ty (by decide +kernel)) (fun z => by cases z) (fun _ => rfl)) (fun z => by cases z), kk⟩
/-! check_size, check_index -/
def spCkSize : Sp := fun vs H Q _ => ∃ n : Int, vs = [.int n] ∧ 2 ≤ n ∧ n ≤ 6 ∧ Q .non H
theorem scCkSize : FnScope ["size"] ["size"] (defScope sCkSize) := ⟨rfl, rfl, rfl, by decide +kernel, rfl, by decide +kernel, by decide +kernel⟩
theorem ok_cksize {f f1 : Addr} {fd fd1 : FuncData} (N : Nums mg) (F : Df K mg "check_size" sCkSize f fd) (F1 : Df K mg "is_between" sBetween f1 fd1) (b1 : Binds K fd1 ["value", "least", "most"] [])
    (G1 : FnOk P w K mg base CX0 2 f1 fd1 ["value", "least", "most"] spBetween) : FnOk P w K mg base CX0 3 f fd ["size"] spCkSize := by
  refine F.fn.ok scCkSize (fun vs H Q E h => ?_) (fun cdv A outer s H vs Q E hr h => ?_)
  · obtain ⟨n, rfl, _⟩ := h
    rfl
  · obtain ⟨n, rfl, h1, h2, k⟩ := h
    obtain ⟨t1, e1⟩ := N.least
    obtain ⟨t2, e2⟩ := N.mostS
    refine ⟨_, pss_one (ps_if (pt_not (pt_val (pe_call G1 hr (by rfl) F1.g F1.fn.kp b1 .nil pass0 (pa_cons (pv 0) (pa_cons (pe_glob (v := .int 2) (by rfl) e1 ⟨_, rfl⟩) (pa_cons (pe_glob (v := .int 6) (by rfl) e2 ⟨_, rfl⟩) pa_nil))))))
      pss_never pss_nil), ?_⟩
    refine ⟨_, rfl, n, 2, 6, rfl, _, rfl, ?_⟩
    rw [decide_eq_true (show 2 ≤ n ∧ n ≤ 6 from ⟨h1, h2⟩)]
    exact iteF k
def spCkIndex : Sp := fun vs H Q _ => ∃ n i : Int, vs = [.int n, .int i] ∧ 1 ≤ i ∧ i ≤ n - 1 ∧ Q .non H
theorem scCkIndex : FnScope ["size", "i"] ["size", "i"] (defScope sCkIndex) := ⟨rfl, rfl, rfl, by decide +kernel, rfl, by decide +kernel, by decide +kernel⟩
theorem ok_ckindex {f f1 : Addr} {fd fd1 : FuncData} (F : Df K mg "check_index" sCkIndex f fd) (F1 : Df K mg "is_between" sBetween f1 fd1) (b1 : Binds K fd1 ["value", "least", "most"] [])
    (G1 : FnOk P w K mg base CX0 2 f1 fd1 ["value", "least", "most"] spBetween) : FnOk P w K mg base CX0 3 f fd ["size", "i"] spCkIndex := by
  refine F.fn.ok scCkIndex (fun vs H Q E h => ?_) (fun cdv A outer s H vs Q E hr h => ?_)
  · obtain ⟨n, i, rfl, _⟩ := h
    rfl
  · obtain ⟨n, i, rfl, h1, h2, k⟩ := h
    refine ⟨_, pss_one (ps_if (pt_not (pt_val (pe_call G1 hr (by rfl) F1.g F1.fn.kp b1 .nil pass0 (pa_cons (pv 1) (pa_cons pe_int (pa_cons (pe_op op_sub (pv 0) pe_int) pa_nil)))))) pss_never pss_nil), ?_⟩
    refine ⟨_, rfl, _, rfl, _, _, rfl, rfl, i, 1, n - 1, rfl, _, rfl, ?_⟩
    rw [decide_eq_true (show 1 ≤ i ∧ i ≤ n - 1 from ⟨h1, h2⟩)]
    exact iteF k
end
end Lw
/-! list(range(a, b, -1)). -/
namespace LwE
open PySem PySem.Spec PyProof.Rows L2
/-- the ints a, a - 1, .. above b -/
def dnV (a b : Int) : List Int := (List.range (a - b).toNat).map fun i => a - (i : Nat)
theorem dnV_length (a b : Int) : (dnV a b).length = (a - b).toNat := by
  unfold dnV
  rw [List.length_map, List.length_range]
theorem dnV_mem {a b x : Int} (h : x ∈ dnV a b) : b < x ∧ x ≤ a := by
  unfold dnV at h
  obtain ⟨i, hi, rfl⟩ := List.mem_map.mp h
  have := List.mem_range.mp hi
  omega
theorem vals_dn {a b : Int} {acc : Array Value} (h : ItemsOf (fun i v => ∃ t, v = .int (a + i * (-1)) t) acc (a - b).toNat) : Vals ((dnV a b).map V.int) acc.toList := by
  have e : acc.toList.length = (a - b).toNat := by
    rw [Array.length_toList]
    exact h.1
  have e2 : (dnV a b).map V.int = (List.range acc.toList.length).map fun i => V.int (a - (i : Nat)) := by
    unfold dnV
    rw [e, List.map_map]
    rfl
  rw [e2]
  refine vals_of_get acc.toList _ fun j u hj => ?_
  obtain ⟨t, rfl⟩ := h.2 j u (by rw [← hj, Array.getElem?_toList])
  exact ⟨t, by rw [Int.mul_neg, Int.mul_one, Int.sub_eq_add_neg]⟩
section
variable {X : Cx} {a b : Expr} {ta : TA}
/-- bounds of such a range -/
def DnOk (a b : Int) : Prop := -1000 ≤ a ∧ a ≤ 1000 ∧ -1000 ≤ b ∧ b ≤ 1000
def tLstDn (ta : TA) : TE := fun σ H Q => ta σ H fun vs H1 => ∃ a b : Int, vs = [.int a, .int b, .int (-1)] ∧ DnOk a b ∧ ∀ q, H1 q = none → Q (.ref q) (upd H1 q (.lst ((dnV a b).map V.int)))
theorem pe_listDn {c : Expr} {p p' pos pos' : Pos} (hc : X.calm = true) (hg : Gl X "list") (hm : X.mg "list" = none) (hgr : Gl X "range") (hmr : X.mg "range" = none) (ha : PA X [a, b, c] ta)
    (hs : starEach [a, b, c] X.env = (false, eval a X.env) :: starEach [b, c] X.env := by rfl) (hpl : (backTo pos' (starEach [b, c] X.env)).any (·.1) = false := by rfl)
    (na : starEach [.Call (.Name "range" p') [a, b, c] [] pos'] X.env = (false, eval (.Call (.Name "range" p') [a, b, c] [] pos') X.env) :: starEach [] X.env := by rfl) :
    PE X (.Call (.Name "list" p) [.Call (.Name "range" p') [a, b, c] [] pos'] [] pos) (tLstDn ta) := by
  refine ⟨fun pins s σ H Q I h => ?_⟩
  have inner : wpAny (model X.prog X.w) X.A (eval (.Call (.Name "range" p') [a, b, c] [] pos') X.env)
      (fun x s' => ∃ r i j t u v H', x = .ref r ∧ IsRange s'.heap r i j (-1) t u v ∧ Inv X pins σ H' s' ∧ DnOk i j ∧ ∀ q, H' q = none → Q (.ref q) (upd H' q (.lst ((dnV i j).map V.int)))) X.xe s := by
    refine Call_ (ld_blt I hgr hmr boot_range (PyProof.Rows.callWith_type1 (thn (ha.run pos' pins s σ H _ I h) fun us s1 ⟨vs, H1, I1, r1, q1⟩ => ?_) hs hpl))
    obtain ⟨i, j, rfl, ok, q⟩ := q1
    obtain ⟨u1, u2, u3, rfl, ⟨t1, rfl⟩, ⟨t2, rfl⟩, ⟨t3, rfl⟩⟩ : ∃ u1 u2 u3, us = [u1, u2, u3] ∧ RelV (.int i) u1 ∧ RelV (.int j) u2 ∧ RelV (.int (-1)) u3 := by
      cases r1 with
      | cons x1 r1 =>
        cases r1 with
        | cons x2 r1 =>
          cases r1 with
          | cons x3 r1 =>
            cases r1
            exact ⟨_, _, _, rfl, x1, x2, x3⟩
    exact call_range_3 (by decide) ⟨_, i, j, _, _, _, H1, rfl, IsRange.new _ _ _ _ _ _ _, I1.kept (t' := s1.toks) fun b u e => Heap.get?_push_of_some _ e, ok, q⟩
      (Or.inl (PyProof.noPylong_small (by decide)))
  refine Call_ (ld_blt I hg hm boot_list (PyProof.Rows.callWith_type1 (args_cons (thn inner fun x s1 ⟨r, i, j, t, u, v, H1, ex, hr, I1, ok, q⟩ => args_nil ?_) na) na))
  subst ex
  obtain ⟨b1, b2, b3, b4⟩ := ok
  refine call_list_range (n := (i - j).toNat) (I1.ok.hd hc) hr (PySem.W.small_down (by omega) (by omega) (by omega) (by omega)) (PySem.W.rangeSize_downNat i j) (by omega) fun h' tk acc c' hk e' hi => ?_
  refine ⟨.ref s1.heap.objs.size, upd H1 s1.heap.objs.size (.lst ((dnV i j).map V.int)), I1.laid hk (Nat.le_refl _)
    (show ObjOk X.prog X.w _ _ _ (.lst ((dnV i j).map V.int)) from ⟨?_, acc.toList, c', vals_dn hi, ?_⟩), rfl, q _ (I1.hok.fresh (Nat.le_refl _))⟩
  · rw [List.length_map, dnV_length, sizeLine_eq]
    omega
  · rw [Array.toArray_toList]
    exact e'
end
/-- the ints a .. b - 1 -/
def upV (a b : Int) : List Int := (List.range (b - a).toNat).map fun i => a + (i : Nat)
theorem upV_eq (a b : Int) : rgV a b = (upV a b).map V.int := by
  unfold rgV upV
  rw [List.map_map]
  rfl
theorem upV_length (a b : Int) : (upV a b).length = (b - a).toNat := by
  unfold upV
  rw [List.length_map, List.length_range]
theorem upV_mem {a b x : Int} (h : x ∈ upV a b) : a ≤ x ∧ x < b := by
  unfold upV at h
  obtain ⟨i, hi, rfl⟩ := List.mem_map.mp h
  have := List.mem_range.mp hi
  omega
end LwE
/-! C. The draws: mixed, folded, draw, begun, size. -/
namespace Lw
open PySem L2 LwE
/-- sixty-four cells -/
structure Cells (cs : List Int) : Prop where
  len : cs.length = 64
  bd : ∀ x ∈ cs, 0 ≤ x ∧ x < 2147483647
theorem Cells.set {cs : List Int} (c : Cells cs) (j : Nat) {z : Int} (h0 : 0 ≤ z) (h1 : z < 2147483647) : Cells (cs.set j z) :=
  ⟨by rw [List.length_set]; exact c.len, fun x hx => by
    rcases List.mem_or_eq_of_mem_set hx with q | q
    · exact c.bd x q
    · rw [q]
      exact ⟨h0, h1⟩⟩
theorem Cells.at {cs : List Int} (c : Cells cs) {j : Nat} (hj : j < 64) : ∃ x, (nums cs)[j]? = some (.int x) ∧ 0 ≤ x ∧ x < 2147483647 := by
  have hl : j < cs.length := by rw [c.len]; exact hj
  refine ⟨cs[j], by simp [hl], c.bd _ (List.getElem_mem hl)⟩
theorem set_nums (cs : List Int) (j : Nat) (z : Int) : (nums cs).set j (.int z) = nums (cs.set j z) := by
  show _ = (cs.set j z).map V.int
  rw [List.map_set]
theorem ixN_lt {n j : Nat} (h : j < n) : ixN n (j : Int) = some j := by
  unfold ixN
  rw [if_pos (by omega), if_pos (by omega)]
  simp
section
variable {P : Program} {w : World} {K : PySem.W.Frag} {mg : Str → Option Value} {base : Heap}
/-! _law_mixed -/
def spMixed : Sp := fun vs H Q _ => ∃ c n : Int, vs = [.int c, .int n] ∧ 0 ≤ n ∧ n ≤ 1000000 ∧ ∀ z : Int, 0 ≤ z → z < 2147483647 → Q (.int z) H
theorem scMixed : FnScope ["cell", "n", "blend"] ["cell", "n"] (defScope sMixed) := ⟨rfl, rfl, rfl, by decide +kernel, rfl, by decide +kernel, by decide +kernel⟩
theorem ok_mixed {f : Addr} {fd : FuncData} (B : Bare mg) (F : Df K mg "_law_mixed" sMixed f fd) : FnOk P w K mg base CX0 1 f fd ["cell", "n"] spMixed := by
  refine F.fn.ok scMixed (fun vs H Q E h => ?_) (fun cdv A outer s H vs Q E hr h => ?_)
  · obtain ⟨c, n, rfl, _⟩ := h
    rfl
  · obtain ⟨c, n, rfl, h0, h1, k⟩ := h
    refine ⟨_, pss_cons (ps_set (i := 2) scMixed.nd rfl (Or.inl rfl)
        (pe_op op_add (pe_op op_add (pe_op op_mod (pe_callTy call_int1 (by rfl) B.int (by decide +kernel) (pa_cons (pe_op op_mul (pe_op op_mul (pv 0) (pe_op op_add pe_int (pe_op op_mul pe_int (pv 1)))) pe_int) pa_nil)) pe_int)
          (pe_op op_mul (pe_op op_mul pe_int (pv 1)) (pv 1))) (pe_op op_mul pe_int (pv 1))))
      (pss_one (ps_ret (pe_op op_fdiv (pe_op op_mod (pe_callTy call_int1 (by rfl) B.int (by decide +kernel) (pa_cons (pe_op op_mul (pv 2) pe_int) pa_nil)) pe_int) pe_int))), ?_⟩
    refine ⟨_, rfl, _, rfl, _, _, rfl, rfl, .inl ⟨by decide, by decide⟩, _, _, rfl, rfl, _, _, rfl, rfl, .inr ⟨by omega, by omega⟩, _, _, rfl, rfl, .inr ⟨by decide, by decide⟩,
      .inl ⟨_, rfl, _, _, rfl, rfl, (by show (0 : Int) < 2147483647; decide), _, rfl, _, _, rfl, rfl, .inl ⟨by decide, by decide⟩, _, rfl, _, _, rfl, rfl, .inr ⟨by omega, by omega⟩,
        _, _, rfl, rfl, _, rfl, _, _, rfl, rfl, .inl ⟨by decide, by decide⟩, _, _, rfl, rfl, ?_⟩⟩
    refine ⟨_, rfl, _, _, rfl, rfl, .inr ⟨by decide, by decide⟩, .inl ⟨_, rfl, _, _, rfl, rfl, (by show (0 : Int) < 2147483629; decide), _, _, rfl, rfl, ⟨by decide, by decide⟩, ?_⟩⟩
    refine k _ ?_ ?_ <;> omega
end
end Lw
/-! D. The sixty-four cells. -/
namespace Lw
open PySem L2 LwE
section
variable {P : Program} {w : World} {K : PySem.W.Frag} {mg : Str → Option Value} {base : Heap}
/-- behind H: a list of cells at D that was not there -/
structure FAt (H H' : Hp) (D : Addr) : Prop where
  same : Same H H'
  free : H D = none
  cells : ∃ cs, Cells cs ∧ H' D = some (.lst (nums cs))
theorem FAt.pair {H H' : Hp} {D T : Addr} {o : HO} (f : FAt H H' D) (h : H' T = none) : FAt H (upd H' T o) D :=
  ⟨f.same.trans (same_new h), f.free, let ⟨cs, c, e⟩ := f.cells; ⟨cs, c, (same_new h) _ _ e⟩⟩
theorem FAt.put {H H' : Hp} {D : Addr} {cs : List Int} (f : FAt H H' D) (c : Cells cs) : FAt H (upd H' D (.lst (nums cs))) D :=
  ⟨fun b o e => by
    rw [upd_ne (ne_of_none e f.free)]
    exact f.same _ _ e, f.free, cs, c, upd_same⟩
def spFolded (K : PySem.W.Frag) : Sp := fun vs H Q _ => ∃ (a : Addr) (ns : List Int), vs = [.ref a] ∧ SqL K H a (nums ns) ∧ ∀ D H', FAt H H' D → Q (.ref D) H'
theorem scFolded : FnScope ["script", "n", "found", "cell"] ["script"] (defScope sFolded) := ⟨rfl, rfl, rfl, by decide +kernel, rfl, by decide +kernel, by decide +kernel⟩
theorem ok_folded {f : Addr} {fd : FuncData} (B : Bare mg) (F : Df K mg "_law_folded" sFolded f fd) : FnOk P w K mg base CX0 1 f fd ["script"] (spFolded K) := by
  refine F.fn.ok scFolded (fun vs H Q E h => ?_) (fun cdv A outer s H vs Q E hr h => ?_)
  · obtain ⟨a, ns, rfl, _⟩ := h
    rfl
  · obtain ⟨a, ns, rfl, hS, k⟩ := h
    refine ⟨_, pss_cons (ps_setLc (i := 2) (own := [("n", 1)]) (g := gName 1) (tt := tYes) rfl scFolded.nd rfl rfl (sw_true rfl rfl rfl (by decide +kernel)) (pi_range1 (by rfl) B.range (pa_cons pe_int pa_nil))
        (blkOk_by (N := ["script", "n", "found", "cell"]) (sc := defScope sFolded) (by decide +kernel)) (fun _ _ _ _ _ => pg_name (i := 1) scFolded.nd rfl (Or.inl rfl)) (fun _ _ _ _ _ => pts_nil)
        (fun _ _ _ _ _ => pe_op op_add pe_int (pv 1)))
      (pss_cons (ps_for PassesOwn.never rfl (pi_enum (by rfl) B.enumerate (pa_cons (pv 0) pa_nil)) (pg_tup rfl (pgs_cons (pg_name (i := 1) scFolded.nd rfl (Or.inl rfl)) (pgs_cons (pg_name (i := 3) scFolded.nd rfl (Or.inl rfl)) pgs_nil)))
        (pss_one (ps_asg (pe_op op_mod (pe_callTy call_int1 (by rfl) B.int (by decide +kernel) (pa_cons (pe_op op_add (pe_op op_mul (pe_ix ix_list (pv 2)
            (pe_op op_mod (pe_callTy call_int1 (by rfl) B.int (by decide +kernel) (pa_cons (pv 1) pa_nil)) pe_int) (fun _ _ => rfl)) pe_int) (pv 3)) pa_nil)) pe_int)
          (pg_sub (pv 2) (pe_op op_mod (pe_callTy call_int1 (by rfl) B.int (by decide +kernel) (pa_cons (pv 1) pa_nil)) pe_int) set_list))))
      (pss_cons (ps_for PassesOwn.never rfl (pi_range2 (by rfl) B.range (pa_cons pe_int (pa_cons pe_int pa_nil))) (pg_name (i := 1) scFolded.nd rfl (Or.inl rfl))
        (pss_one (ps_asg (pe_op op_mod (pe_callTy call_int1 (by rfl) B.int (by decide +kernel) (pa_cons (pe_op op_add (pe_ix ix_list (pv 2) (pv 1) (fun _ _ => rfl))
            (pe_op op_mul (pe_ix ix_list (pv 2) (pe_op op_sub (pv 1) pe_int) (fun _ _ => rfl)) pe_int)) pa_nil)) pe_int)
          (pg_sub (pv 2) (pv 1) set_list))))
      (pss_one (ps_ret (pv 2))))), ?_⟩
    refine ⟨64, rfl, by decide, by decide, fun D hD => lc_range (lo := 0) (n := 64)
      (fun i H' => Same H H' ∧ ∃ cs : List Int, cs.length = i ∧ (∀ x ∈ cs, 0 ≤ x ∧ x < 2147483647) ∧ H' D = some (.lst (nums cs))) ⟨same_new hD, [], rfl, fun x hx => by simp at hx, upd_same⟩ ?_ ?_⟩
    · intro i H' hi ⟨h1, cs, h2, h3, h4⟩
      refine ⟨rfl, ?_⟩
      unfold tYes
      refine iteT ?_
      refine ⟨_, rfl, _, _, rfl, rfl, nums cs, h4, by rw [List.length_map]; exact small1000 (by omega), ?_, cs ++ [17 + (0 + (i : Int))], by simp [h2], fun x hx => ?_, by rw [upd_same]; simp [nums]⟩
      · intro b o e
        rw [upd_ne (ne_of_none e hD)]
        exact h1 _ _ e
      · rcases List.mem_append.mp hx with q | q
        · exact h3 x q
        · have e := List.mem_singleton.mp q
          omega
    · intro H' ⟨h1, cs, h2, h3, h4⟩
      have F0 : FAt H H' D := ⟨h1, hD, cs, ⟨h2, h3⟩, h4⟩
      refine ⟨_, rfl, a, _, rfl, h1.seq hS, for_enL (K := K) (a := a) (xs := nums ns) (fun i σ H'' => ∃ v1 v3 : Option V, σ = [some (.ref a), v1, some (.ref D), v3] ∧ FAt H H'' D) ⟨_, _, rfl, F0⟩ (fun i σ H'' _ ⟨_, _, _, f⟩ => f.same.seq hS) ?_ ?_⟩
      · rintro i x T σ H'' hx ⟨v1, v3, rfl, f⟩ hT
        obtain ⟨z, rfl, _, _⟩ := nums_get hx
        have f2 : FAt H (upd H'' T (.tup [.int (i : Nat), .int z])) D := f.pair hT
        obtain ⟨cs, cc, eD⟩ := f2.cells
        have hj : i % 64 < 64 := Nat.mod_lt _ (by decide)
        obtain ⟨y, hy, hy0, hy1⟩ := cc.at hj
        have ei : ((i : Nat) : Int) % 64 = ((i % 64 : Nat) : Int) := by omega
        refine ⟨T, _, rfl, SqT.of upd_same, rfl, _, _, rfl, _, _, rfl, rfl, ?_⟩
        refine ⟨_, rfl, _, rfl, .inl ⟨_, rfl, _, _, rfl, rfl, (by show (0 : Int) < 64; decide), D, _, _, _, rfl, rfl, SqL.of eD, at_of ei hy, _, _, rfl, rfl, .inr ⟨by decide, by decide⟩, _, rfl, _, _, rfl, rfl,
          .inl ⟨_, rfl, _, _, rfl, rfl, (by show (0 : Int) < 2147483647; decide), ?_⟩⟩⟩
        refine ⟨_, rfl, _, rfl, .inl ⟨_, rfl, _, _, rfl, rfl, (by show (0 : Int) < 64; decide), D, _, _, i % 64, rfl, rfl, eD, ?_, ?_⟩⟩
        · rw [ei]
          refine ixN_lt ?_
          rw [List.length_map, cc.len]
          exact hj
        · refine ⟨_, _, rfl, ?_⟩
          rw [set_nums]
          exact f2.put (cc.set _ (by omega) (by omega))
      · rintro σ H'' ⟨v1, v3, rfl, f⟩
        refine ⟨1, 64, rfl, ⟨by decide, by decide, by decide, by decide⟩, for_range (lo := 1) (n := 63) (fun i σ H'' => ∃ v1 v3 : Option V, σ = [some (.ref a), v1, some (.ref D), v3] ∧ FAt H H'' D) ⟨_, _, rfl, f⟩ ?_ ?_⟩
        · rintro i σ H3 hi ⟨v1, v3, rfl, f⟩
          obtain ⟨cs, cc, eD⟩ := f.cells
          obtain ⟨y, hy, hy0, hy1⟩ := cc.at (show i + 1 < 64 by omega)
          obtain ⟨z, hz, hz0, hz1⟩ := cc.at (show i < 64 by omega)
          have e1 : (1 + (i : Int)) = ((i + 1 : Nat) : Int) := by omega
          have e0 : (1 + (i : Int)) - 1 = ((i : Nat) : Int) := by omega
          refine ⟨_, rfl, _, rfl, D, _, _, _, rfl, rfl, SqL.of eD, at_of e1 hy, _, rfl, _, rfl, _, _, rfl, rfl, D, _, _, _, rfl, rfl, SqL.of eD, at_of e0 hz, _, _, rfl, rfl, .inr ⟨by decide, by decide⟩, _, _, rfl, rfl,
            .inl ⟨_, rfl, _, _, rfl, rfl, (by show (0 : Int) < 2147483647; decide), ?_⟩⟩
          refine ⟨_, rfl, _, rfl, D, _, _, i + 1, rfl, rfl, eD, ?_, ?_⟩
          · rw [e1]
            refine ixN_lt ?_
            rw [List.length_map, cc.len]
            omega
          · refine ⟨_, _, rfl, ?_⟩
            rw [set_nums]
            exact f.put (cc.set _ (by omega) (by omega))
        · rintro σ H3 ⟨v1, v3, rfl, f⟩
          exact ⟨_, rfl, k D H3 f⟩
end
end Lw
/-! F. The dict of the draws, one draw. -/
namespace Lw
open PySem L2 LwE
theorem nums_at {l : List Int} {i : Nat} (h : i < l.length) : (nums l)[i]? = some (.int l[i]) := by
  rw [List.getElem?_map, List.getElem?_eq_getElem h]
  rfl
abbrev kC : Key := Sum.inr "cells"
abbrev kG : Key := Sum.inr "great"
abbrev kS : Key := Sum.inr "spot"
theorem kCG : ¬ (("cells" : Str) = "great") := by decide +kernel
theorem kCS : ¬ (("cells" : Str) = "spot") := by decide +kernel
theorem kGS : ¬ (("great" : Str) = "spot") := by decide +kernel
theorem kSG : ¬ (("spot" : Str) = "great") := by decide +kernel
def mkd (c g : Addr) (n : Int) : List (Key × V) := [(kC, .ref c), (kG, .ref g), (kS, .int n)]
theorem mkd_c (c g : Addr) (n : Int) : valV (mkd c g n) kC = some (.ref c) := by
  simp [mkd, valV, List.find?_cons, kC, kG, kS, kCG, kCS, kGS, kSG]
theorem mkd_g (c g : Addr) (n : Int) : valV (mkd c g n) kG = some (.ref g) := by
  simp [mkd, valV, List.find?_cons, kC, kG, kS, kCG, kCS, kGS, kSG]
theorem mkd_s (c g : Addr) (n : Int) : valV (mkd c g n) kS = some (.int n) := by
  simp [mkd, valV, List.find?_cons, kC, kG, kS, kCG, kCS, kGS, kSG]
theorem mkd_ps (c g : Addr) (n z : Int) : putK (mkd c g n) kS (.int z) = mkd c g z := by
  simp [mkd, putK, kC, kG, kS, kCG, kCS, kGS, kSG]
theorem mkd_pg (c g h : Addr) (n : Int) : putK (mkd c g n) kG (.ref h) = mkd c h n := by
  simp [mkd, putK, kC, kG, kS, kCG, kCS, kGS, kSG]
/-- the dict of the draws at m, n of them drawn -/
structure Dr (H : Hp) (m g c : Addr) (n : Int) : Prop where
  hm : H m = some (.dK (mkd c g n))
  hc : ∃ cs, Cells cs ∧ H c = some (.lst (nums cs))
  hg : ∃ gs : List Int, gs.length ≤ 63 ∧ H g = some (.lst (nums gs))
  ne : c ≠ g
  n0 : 0 ≤ n
/-- all but the dict and its great cells stands -/
def Keep (m g : Addr) (H H' : Hp) : Prop := ∀ b o, H b = some o → b ≠ m → b ≠ g → H' b = some o
theorem Keep.refl (m g : Addr) (H : Hp) : Keep m g H H := fun _ _ e _ _ => e
theorem Keep.trans {m g : Addr} {H H1 H2 : Hp} (a : Keep m g H H1) (b : Keep m g H1 H2) : Keep m g H H2 := fun x o e h1 h2 => b x o (a x o e h1 h2) h1 h2
theorem Keep.of {m g : Addr} {H H1 : Hp} (a : Same H H1) : Keep m g H H1 := fun x o e _ _ => a x o e
theorem Dr.mg {H : Hp} {m g c : Addr} {n : Int} (d : Dr H m g c n) : m ≠ g := by
  obtain ⟨gs, _, e⟩ := d.hg
  exact ne_of d.hm e (by intro z; cases z)
theorem Dr.mc {H : Hp} {m g c : Addr} {n : Int} (d : Dr H m g c n) : m ≠ c := by
  obtain ⟨cs, _, e⟩ := d.hc
  exact ne_of d.hm e (by intro z; cases z)
theorem Dr.same {H H' : Hp} {m g c : Addr} {n : Int} (d : Dr H m g c n) (s : Same H H') : Dr H' m g c n :=
  ⟨s _ _ d.hm, let ⟨cs, a, b⟩ := d.hc; ⟨cs, a, s _ _ b⟩, let ⟨cs, a, b⟩ := d.hg; ⟨cs, a, s _ _ b⟩, d.ne, d.n0⟩
theorem Dr.next {H : Hp} {m g c : Addr} {n : Int} (d : Dr H m g c n) : Dr (upd H m (.dK (mkd c g (n + 1)))) m g c (n + 1) :=
  ⟨upd_same, let ⟨cs, a, b⟩ := d.hc; ⟨cs, a, by rw [upd_ne d.mc.symm]; exact b⟩, let ⟨cs, a, b⟩ := d.hg; ⟨cs, a, by rw [upd_ne d.mg.symm]; exact b⟩, d.ne, by have := d.n0; omega⟩
theorem Dr.great {H : Hp} {m g c : Addr} {n : Int} (d : Dr H m g c n) {gs : List Int} (h : gs.length ≤ 63) : Dr (upd H g (.lst (nums gs))) m g c n :=
  ⟨by rw [upd_ne d.mg]; exact d.hm, let ⟨cs, a, b⟩ := d.hc; ⟨cs, a, by rw [upd_ne d.ne]; exact b⟩, ⟨gs, h, upd_same⟩, d.ne, d.n0⟩
theorem dp_nums {K : PySem.W.Frag} {H : Hp} : ∀ l : List Int, DpAll K H (nums l) (l.map PyData.int)
  | [] => .nil
  | x :: l => .cons (.int x) (dp_nums l)
theorem lay_nums : ∀ l : List Int, PyData.canLayAll0 (l.map PyData.int) = true ∧ PyData.depthAll (l.map PyData.int) = 0
  | [] => by simp [PyData.canLayAll0, PyData.depthAll]
  | x :: l => by
    have ih := lay_nums l
    simp [PyData.canLayAll0, PyData.depthAll, PyData.canLay0, PyData.depth, ih.1, ih.2]
theorem shaped_nums (l : List Int) : SeqAt.shaped (.list (l.map PyData.int)) = true := by
  have h := lay_nums l
  unfold SeqAt.shaped
  simp [PyData.canLay0, PyData.depth, h.1, h.2]
theorem Dr.getS {H : Hp} {m g c : Addr} {n : Int} (d : Dr H m g c n) : DGet H m (.str "spot") (some (.int n)) := by
  have q := DGet.k (k := kS) d.hm
  rw [mkd_s] at q
  exact q
theorem Dr.getG {H : Hp} {m g c : Addr} {n : Int} (d : Dr H m g c n) : DGet H m (.str "great") (some (.ref g)) := by
  have q := DGet.k (k := kG) d.hm
  rw [mkd_g] at q
  exact q
theorem Dr.getC {H : Hp} {m g c : Addr} {n : Int} (d : Dr H m g c n) : DGet H m (.str "cells") (some (.ref c)) := by
  have q := DGet.k (k := kC) d.hm
  rw [mkd_c] at q
  exact q
section
variable {P : Program} {w : World} {K : PySem.W.Frag} {mg : Str → Option Value} {base : Heap}
def spDraw : Sp := fun vs H Q _ => ∃ (m g c : Addr) (n lim : Int), vs = [.ref m, .int lim] ∧ Dr H m g c n ∧ n ≤ 100000 ∧ 1 ≤ lim ∧ lim ≤ 1000 ∧
  ∀ (z : Int) (H' : Hp), 0 ≤ z → z < lim → Dr H' m g c (n + 1) → Keep m g H H' → Q (.int z) H'
theorem scDraw : FnScope ["m", "limit", "n", "lot", "here", "cell"] ["m", "limit"] (defScope sDraw) := ⟨rfl, rfl, rfl, by decide +kernel, rfl, by decide +kernel, by decide +kernel⟩
theorem ok_draw {f f1 : Addr} {fd fd1 : FuncData} (B : Bare mg) (F : Df K mg "_law_draw" sDraw f fd) (F1 : Df K mg "_law_mixed" sMixed f1 fd1) (b1 : Binds K fd1 ["cell", "n"] [])
    (G1 : FnOk P w K mg base CX0 1 f1 fd1 ["cell", "n"] spMixed) : FnOk P w K mg base CX0 2 f fd ["m", "limit"] spDraw := by
  refine F.fn.ok scDraw (fun vs H Q E h => ?_) (fun cdv A outer s H vs Q E hr h => ?_)
  · obtain ⟨m, g, c, n, lim, rfl, _⟩ := h
    rfl
  · obtain ⟨m, g, c, n, lim, rfl, d, hn, hl1, hl2, k⟩ := h
    have hu := hu_of hr
    refine ⟨_, pss_cons (ps_set (i := 2) scDraw.nd rfl (Or.inl rfl) (pe_dget hu (pv 0) pe_str (fun _ _ => rfl)))
      (pss_cons (ps_dput hu (pv 0) pe_str (pe_op op_add (pv 2) pe_int) rfl)
      (pss_cons (ps_if (pt_cmpR (op_neD hr.units) (pe_dget hu (pv 0) pe_str (fun _ _ => rfl)) (pe_lst pa_nil) (nomark _))
        (pss_cons (ps_set (i := 3) scDraw.nd rfl (Or.inl rfl) (pe_dget hu (pv 0) pe_str (fun _ _ => rfl)))
        (pss_cons (ps_set (i := 4) scDraw.nd rfl (Or.inl rfl) (pe_op op_mod (pe_callTy call_int1 (by rfl) B.int (by decide +kernel) (pa_cons (pv 2) pa_nil)) (pe_callB call_len_seq (by rfl) B.len PySem.boot_len (pa_cons (pv 3) pa_nil))))
        (pss_cons (ps_set (i := 5) scDraw.nd rfl (Or.inl rfl) (pe_ix ix_list (pv 3) (pv 4) (fun _ _ => rfl)))
        (pss_one (ps_if (pt_cmpR op_gt (pv 5) pe_int (nomark _))
          (pss_cons (ps_asg (pe_op op_fdiv (pv 5) (pv 1)) (pg_sub (pv 3) (pv 4) set_list))
          (pss_one (ps_ret (pe_op op_mod (pe_callTy call_int1 (by rfl) B.int (by decide +kernel) (pa_cons (pv 5) pa_nil)) (pv 1)))))
          pss_nil))))) pss_nil)
      (pss_cons (ps_set (i := 3) scDraw.nd rfl (Or.inl rfl) (pe_dget hu (pv 0) pe_str (fun _ _ => rfl)))
      (pss_one (ps_ret (pe_op op_mod (pe_callTy call_int1 (by rfl) B.int (by decide +kernel) (pa_cons
        (pe_call G1 hr (by rfl) F1.g F1.fn.kp b1 .nil pass0 (pa_cons (pe_call G1 hr (by rfl) F1.g F1.fn.kp b1 .nil pass0 (pa_cons
            (pe_op op_add (pe_ix ix_list (pv 3) (pe_op op_mod (pe_callTy call_int1 (by rfl) B.int (by decide +kernel) (pa_cons (pv 2) pa_nil)) pe_int) (fun _ _ => rfl)) (pe_op op_mul pe_int (pe_op op_fdiv (pv 2) pe_int)))
            (pa_cons (pv 2) pa_nil)))
          (pa_cons (pe_op op_add (pv 2) pe_int) pa_nil))) pa_nil)) (pv 1))))))), ?_⟩
    have n0 := d.n0
    -- n = m['spot']; m['spot'] = n + 1
    refine ⟨_, rfl, m, _, rfl, d.getS, ?_⟩
    refine ⟨_, rfl, _, _, rfl, rfl, _, rfl, m, _, rfl, DPut.k (k := kS) d.hm (by show 3 < sizeLine; decide), ?_⟩
    rw [mkd_ps]
    have d1 := d.next
    have k1 : Keep m g H (upd H m (.dK (mkd c g (n + 1)))) := fun b o e h1 _ => by
      rw [upd_ne h1]
      exact e
    generalize hH1 : upd H m (.dK (mkd c g (n + 1))) = H1 at d1 k1 ⊢
    clear hH1
    -- if m['great'] != []
    refine ⟨_, rfl, m, _, rfl, d1.getG, Nat.zero_le _, fun e he => ?_⟩
    have d2 : Dr (upd H1 e (.lst [])) m g c (n + 1) := d1.same (same_new he)
    have k2 : Keep m g H (upd H1 e (.lst [])) := k1.trans (.of (same_new he))
    obtain ⟨gs, hgl, hge⟩ := id d2.hg
    have hle : (upd H1 e (.lst [])) e = some (.lst []) := upd_same
    generalize hH2 : upd H1 e (.lst []) = H2 at d2 k2 hge hle ⊢
    clear hH2
    obtain ⟨cs, cc, hce⟩ := id d2.hc
    have hj : n.toNat % 64 < 64 := Nat.mod_lt _ (by decide)
    have ej : n % 64 = ((n.toNat % 64 : Nat) : Int) := by omega
    obtain ⟨y, hy, hy0, hy1⟩ := cc.at hj
    have el : (1 : Int) ≤ lim := hl1
    refine ⟨.list (gs.map PyData.int), .list [], .lst (SqL.of hge) (dp_nums gs), .lst (SqL.of hle) .nil, shaped_nums gs, by decide, _, rfl, ?_⟩
    cases gs with
    | nil =>
      refine iteF ?_
      refine ⟨_, rfl, m, _, rfl, d2.getC, ?_⟩
      refine ⟨_, rfl, _, rfl, .inl ⟨_, rfl, _, _, rfl, rfl, (by show (0 : Int) < 64; decide), c, _, _, _, rfl, rfl, SqL.of hce, at_of ej hy, _, rfl, _, _, rfl, rfl, ⟨by decide, by decide⟩,
        _, _, rfl, rfl, .inl ⟨by decide, by decide⟩, _, _, rfl, rfl, _, rfl, _, _, rfl, n0, by omega, fun z _ _ => ⟨_, rfl, _, _, rfl, rfl, _, _, rfl, by omega, by omega, fun z' h0' h1' =>
          .inl ⟨_, rfl, _, rfl, _, _, rfl, rfl, (by show (0 : Int) < lim; omega), k _ H2 (Int.emod_nonneg _ (by omega)) (Int.emod_lt_of_pos _ (by omega)) d2 k2⟩⟩⟩⟩
    | cons x gs =>
      refine iteT ?_
      have hlen : (nums (x :: gs)).length = (x :: gs).length := List.length_map ..
      have hpos : 0 < (x :: gs).length := Nat.succ_pos _
      have hi : n.toNat % (x :: gs).length < (x :: gs).length := Nat.mod_lt _ hpos
      have ei : n % (((nums (x :: gs)).length : Nat) : Int) = ((n.toNat % (x :: gs).length : Nat) : Int) := by
        rw [hlen]
        have e9 : ((n.toNat : Nat) : Int) = n := Int.toNat_of_nonneg n0
        have e8 : ((n.toNat % (x :: gs).length : Nat) : Int) = ((n.toNat : Nat) : Int) % (((x :: gs).length : Nat) : Int) := Int.natCast_emod _ _
        rw [e8, e9]
      generalize hi2 : n.toNat % (x :: gs).length = i at hi ei
      have hv : (nums (x :: gs))[i]? = some (.int ((x :: gs)[i])) := nums_at hi
      refine ⟨_, rfl, m, _, rfl, d2.getG, ?_⟩
      refine ⟨_, rfl, .inl ⟨_, rfl, _, rfl, g, _, rfl, .inl (SqL.of hge), _, _, rfl, rfl, (by rw [hlen]; omega), ?_⟩⟩
      refine ⟨_, rfl, _, rfl, g, _, _, _, rfl, rfl, SqL.of hge, at_of ei hv, ?_⟩
      refine ⟨_, rfl, _, _, rfl, rfl, _, rfl, ?_⟩
      refine ite2 (fun hc => ?_) (fun hc => ?_)
      · refine ⟨_, rfl, _, rfl, _, _, rfl, rfl, ⟨by omega, by omega⟩, _, rfl, _, rfl, g, _, _, i, rfl, rfl, hge, (by rw [ei]; exact ixN_lt (by rw [hlen]; exact hi)), ?_⟩
        rw [set_nums]
        refine ⟨_, rfl, .inl ⟨_, rfl, _, rfl, _, _, rfl, rfl, (by show (0 : Int) < lim; omega), ?_⟩⟩
        refine k _ _ (Int.emod_nonneg _ (by omega)) (Int.emod_lt_of_pos _ (by omega)) (d2.great (by rw [List.length_set]; exact hgl)) fun b o e1 h1 h2 => ?_
        rw [upd_ne h2]
        exact k2 _ _ e1 h1 h2
      · refine ⟨_, rfl, m, _, rfl, d2.getC, ?_⟩
        refine ⟨_, rfl, _, rfl, .inl ⟨_, rfl, _, _, rfl, rfl, (by show (0 : Int) < 64; decide), c, _, _, _, rfl, rfl, SqL.of hce, at_of ej hy, _, rfl, _, _, rfl, rfl, ⟨by decide, by decide⟩,
          _, _, rfl, rfl, .inl ⟨by decide, by decide⟩, _, _, rfl, rfl, _, rfl, _, _, rfl, n0, by omega, fun z _ _ => ⟨_, rfl, _, _, rfl, rfl, _, _, rfl, by omega, by omega, fun z' h0' h1' =>
            .inl ⟨_, rfl, _, rfl, _, _, rfl, rfl, (by show (0 : Int) < lim; omega), k _ H2 (Int.emod_nonneg _ (by omega)) (Int.emod_lt_of_pos _ (by omega)) d2 k2⟩⟩⟩⟩
end
end Lw
/-! G. The draws begin; sizes. -/
namespace Lw
open PySem L2 LwE
section
variable {P : Program} {w : World} {K : PySem.W.Frag} {mg : Str → Option Value} {base : Heap}
theorem merge_mkd (c g : Addr) : mergeK [] [(kC, V.ref c), (kG, V.ref g), (kS, V.int 0)] = mkd c g 0 := by
  simp [mergeK, putK, mkd, kC, kG, kS, kCG, kCS, kGS, kSG]
def spBegun (K : PySem.W.Frag) : Sp := fun vs H Q _ => ∃ (a : Addr) (ns : List Int), vs = [.ref a] ∧ SqL K H a (nums ns) ∧ ns.length ≤ 63 ∧ ∀ m g c H', Same H H' → Dr H' m g c 0 → Q (.ref m) H'
theorem scBegun : FnScope ["script", "m", "cell"] ["script"] (defScope sBegun) := ⟨rfl, rfl, rfl, by decide +kernel, rfl, by decide +kernel, by decide +kernel⟩
theorem ok_begun {f f1 : Addr} {fd fd1 : FuncData} (F : Df K mg "_law_begun" sBegun f fd) (F1 : Df K mg "_law_folded" sFolded f1 fd1) (b1 : Binds K fd1 ["script"] [])
    (G1 : FnOk P w K mg base CX0 1 f1 fd1 ["script"] (spFolded K)) : FnOk P w K mg base CX0 2 f fd ["script"] (spBegun K) := by
  refine F.fn.ok scBegun (fun vs H Q E h => ?_) (fun cdv A outer s H vs Q E hr h => ?_)
  · obtain ⟨a, ns, rfl, _⟩ := h
    rfl
  · obtain ⟨a, ns, rfl, hS, hl, k⟩ := h
    have hu := hu_of hr
    refine ⟨_, pss_cons (ps_set (i := 1) scBegun.nd rfl (Or.inl rfl) (pe_disp (pps_cons pe_str (pe_call G1 hr (by rfl) F1.g F1.fn.kp b1 .nil pass0 (pa_cons (pv 0) pa_nil))
        (pps_cons pe_str (pe_lst pa_nil) (pps_cons pe_str pe_int pps_nil))) (by rfl) (by rfl) (fun z => by cases z) (by decide)))
      (pss_cons (ps_dput hu (pv 1) pe_str (pe_lc (own := [("cell", 2)]) (g := gName 2) (tt := tYes) rfl scBegun.nd (pi_list (pv 0)) (blkOk_by (N := ["script", "m", "cell"]) (sc := defScope sBegun) (by decide +kernel))
          (fun _ _ _ _ _ => pg_name (i := 2) scBegun.nd rfl (Or.inl rfl)) (fun _ _ _ _ _ => pts_nil)
          (fun _ _ _ _ _ => pe_ifExp (pt_cmpR op_ge (pv 2) (pe_op op_pow pe_int pe_int) (nomark _)) (pv 2) pe_int)) rfl)
      (pss_one (ps_ret (pv 1)))), ?_⟩
    intro p hp
    refine ⟨_, rfl, a, ns, rfl, (same_new hp).seq hS, fun D H1 f1 => ?_⟩
    have s1 : Same H H1 := (same_new hp).trans f1.same
    have hp1 : H1 p = some (.dK []) := f1.same _ _ upd_same
    refine ⟨Nat.zero_le _, fun g hg => ?_⟩
    have npg : p ≠ g := ne_of_none hp1 hg
    refine ⟨by rw [upd_ne npg]; exact hp1, [(kC, .ref D), (kG, .ref g), (kS, .int 0)], rfl, (by show 3 ≤ 15; decide), ?_⟩
    rw [merge_mkd]
    obtain ⟨cs, cc, eD⟩ := f1.cells
    have nDp : D ≠ p := ne_of eD hp1 (by intro z; cases z)
    have nDg : D ≠ g := ne_of_none eD hg
    have d0 : Dr (upd (upd H1 g (.lst [])) p (.dK (mkd D g 0))) p g D 0 :=
      ⟨upd_same, ⟨cs, cc, by rw [upd_ne nDp, upd_ne nDg]; exact eD⟩, ⟨[], by decide, by rw [upd_ne npg.symm, upd_same]; rfl⟩, nDg, Int.le_refl 0⟩
    have s2 : Same H (upd (upd H1 g (.lst [])) p (.dK (mkd D g 0))) := fun b o e => by
      rw [upd_ne (ne_of_none e hp), upd_ne (ne_of_none (s1 _ _ e) hg)]
      exact s1 _ _ e
    generalize hH2 : upd (upd H1 g (.lst [])) p (.dK (mkd D g 0)) = H2 at d0 s2 ⊢
    clear hH2
    refine ⟨_, rfl, a, rfl, ⟨_, s2.seq hS⟩, fun q hq => lc_list (K := K) (a := a) (xs := nums ns) (fun i H' => Same H2 H' ∧ ∃ gs : List Int, gs.length = i ∧ H' q = some (.lst (nums gs))) ⟨same_new hq, [], rfl, upd_same⟩
      (fun i H' _ ⟨s3, _⟩ => (s2.trans s3).seq hS) ?_ ?_⟩
    · intro i x H' hx ⟨s3, gs, h2, h3⟩
      obtain ⟨z, rfl, hz, _⟩ := nums_get hx
      have hi : i < ns.length := (List.getElem?_eq_some_iff.mp hz).1
      refine ⟨rfl, ?_⟩
      unfold tYes
      refine iteT ?_
      refine ⟨_, rfl, _, _, rfl, rfl, ⟨by decide, by decide, by decide⟩, _, _, rfl, rfl, _, rfl, ?_⟩
      have put : ∀ y : Int, ∃ acc, H' q = some (.lst acc) ∧ acc.length < sizeLine ∧ Same H2 (upd H' q (.lst (acc ++ [.int y]))) ∧ ∃ gs : List Int, gs.length = i + 1 ∧ (upd H' q (.lst (acc ++ [.int y]))) q = some (.lst (nums gs)) := fun y => by
        refine ⟨nums gs, h3, by rw [List.length_map]; exact small1000 (by omega), fun b o e => ?_, gs ++ [y], by simp [h2], by rw [upd_same]; simp [nums]⟩
        rw [upd_ne (ne_of_none e hq)]
        exact s3 _ _ e
      refine ite2 (fun _ => ?_) (fun _ => ?_)
      · exact ⟨_, rfl, put z⟩
      · exact put 0
    · intro H' ⟨s3, gs, h2, h3⟩
      have d3 := d0.same s3
      refine ⟨_, rfl, p, _, rfl, DPut.k (k := kG) d3.hm (by show 3 < sizeLine; decide), ?_⟩
      rw [mkd_pg]
      have nqp : q ≠ p := ne_of h3 d3.hm (by intro z; cases z)
      obtain ⟨cs', cc', eD'⟩ := d0.hc
      have nDq : D ≠ q := ne_of_none eD' hq
      refine ⟨_, rfl, k p q D _ (fun b o e => ?_) ⟨upd_same, ⟨cs', cc', ?_⟩, ⟨gs, ?_, ?_⟩, nDq, Int.le_refl 0⟩⟩
      · rw [upd_ne (ne_of_none e hp)]
        exact s3 _ _ (s2 _ _ e)
      · rw [upd_ne nDp]
        exact s3 _ _ eD'
      · rw [h2, List.length_map]
        exact hl
      · rw [upd_ne nqp]
        exact h3
def spSize : Sp := fun vs H Q _ => ∃ (m g c : Addr) (n : Int), vs = [.ref m] ∧ Dr H m g c n ∧ n ≤ 100000 ∧ ∀ (z : Int) (H' : Hp), 2 ≤ z → z ≤ 6 → Dr H' m g c (n + 1) → Keep m g H H' → Q (.int z) H'
theorem scSize : FnScope ["m"] ["m"] (defScope sSize) := ⟨rfl, rfl, rfl, by decide +kernel, rfl, by decide +kernel, by decide +kernel⟩
theorem ok_size {f f1 : Addr} {fd fd1 : FuncData} (F : Df K mg "_law_size" sSize f fd) (F1 : Df K mg "_law_draw" sDraw f1 fd1) (b1 : Binds K fd1 ["m", "limit"] [])
    (G1 : FnOk P w K mg base CX0 2 f1 fd1 ["m", "limit"] spDraw) : FnOk P w K mg base CX0 3 f fd ["m"] spSize := by
  refine F.fn.ok scSize (fun vs H Q E h => ?_) (fun cdv A outer s H vs Q E hr h => ?_)
  · obtain ⟨m, g, c, n, rfl, _⟩ := h
    rfl
  · obtain ⟨m, g, c, n, rfl, d, hn, k⟩ := h
    refine ⟨_, pss_one (ps_ret (pe_op op_add pe_int (pe_call G1 hr (by rfl) F1.g F1.fn.kp b1 .nil pass0 (pa_cons (pv 0) (pa_cons pe_int pa_nil))))), ?_⟩
    refine ⟨_, rfl, m, g, c, n, 5, rfl, d, hn, by decide, by decide, fun z H' h0 h1 d' kp => ⟨_, _, rfl, rfl, k _ H' (by omega) (by omega) d' kp⟩⟩
end
end Lw
/-! H. Drawn letters. -/
namespace Lw
open PySem L2 LwE
theorem Dr.upd_at {H : Hp} {m g c q : Addr} {n : Int} {o : HO} (d : Dr H m g c n) (h1 : q ≠ m) (h2 : q ≠ g) (h3 : q ≠ c) : Dr (upd H q o) m g c n :=
  ⟨by rw [upd_ne h1.symm]; exact d.hm, let ⟨cs, a, b⟩ := d.hc; ⟨cs, a, by rw [upd_ne h3.symm]; exact b⟩, let ⟨cs, a, b⟩ := d.hg; ⟨cs, a, by rw [upd_ne h2.symm]; exact b⟩, d.ne, d.n0⟩
/-- what was not there ahead of a draw is none of its parts -/
structure Off (q m g c : Addr) : Prop where
  m : q ≠ m
  g : q ≠ g
  c : q ≠ c
theorem Dr.off {H : Hp} {m g c q : Addr} {n : Int} (d : Dr H m g c n) (h : H q = none) : Off q m g c :=
  ⟨(ne_of_none d.hm h).symm, let ⟨_, _, e⟩ := d.hg; (ne_of_none e h).symm, let ⟨_, _, e⟩ := d.hc; (ne_of_none e h).symm⟩
theorem Keep.free {m g c q : Addr} {n : Int} {H H' : Hp} (k : Keep m g H H') (d : Dr H' m g c n) (h : H' q = none) : H q = none := by
  have z := d.off h
  cases e : H q with
  | none => rfl
  | some o =>
    rw [k q o e z.m z.g] at h
    cases h
theorem Keep.put {m g q : Addr} {H H' : Hp} {o : HO} (k : Keep m g H H') (h : H q = none) : Keep m g H (upd H' q o) := fun b u e h1 h2 => by
  rw [upd_ne (ne_of_none e h)]
  exact k b u e h1 h2
theorem cut_take (l : List Int) {n : Int} (h : 0 ≤ n) : cutV (nums l) none (some n) = nums (l.take n.toNat) := by
  unfold cutV
  have e : HT.sIx (nums l).length (nums l).length (some n) = min n.toNat (nums l).length := by
    have q := HT.sIx_nat (nums l).length (nums l).length n.toNat
    rw [Int.toNat_of_nonneg h] at q
    exact q
  rw [HT.sIx_none, e, Nat.sub_zero, List.drop_zero]
  rw [List.length_map]
  show (l.map V.int).take _ = (l.take n.toNat).map V.int
  rw [← List.map_take]
  exact congrArg (List.map V.int) List.take_eq_take_min.symm
section
variable {P : Program} {w : World} {K : PySem.W.Frag} {mg : Str → Option Value} {base : Heap}
/-- between two turns -/
structure LW (H H' : Hp) (m g c : Addr) (n size : Int) (q : Addr) (fs : List Int) : Prop where
  dr : ∃ n', Dr H' m g c n' ∧ n ≤ n' ∧ n' ≤ n + 3 + 2 * fs.length
  kp : Keep m g H H'
  fr : H q = none
  at_ : H' q = some (.lst (nums fs))
  len : fs.length ≤ 46
  bd : ∀ x ∈ fs, 1 ≤ x ∧ x ≤ size
theorem LW.push {H H' H5 : Hp} {m g c : Addr} {n n1 size x : Int} {q : Addr} {fs : List Int} (W : LW H H' m g c n size q fs) (o : Off q m g c) (hl : fs.length ≤ 39) (k5 : Keep m g H' H5) (d5 : Dr H5 m g c n1) (h1 : n ≤ n1)
    (h2 : n1 ≤ n + 5 + 2 * fs.length) (x0 : 1 ≤ x) (x1 : x ≤ size) : LW H (upd H5 q (.lst (nums fs ++ [.int x]))) m g c n size q (fs ++ [x]) where
  dr := ⟨n1, d5.upd_at o.m o.g o.c, h1, by rw [List.length_append, List.length_singleton]; omega⟩
  kp := (W.kp.trans k5).put W.fr
  fr := W.fr
  at_ := by
    rw [upd_same]
    simp [nums]
  len := by
    rw [List.length_append, List.length_singleton]
    omega
  bd := fun y hy => by
    rcases List.mem_append.mp hy with z | z
    · exact W.bd y z
    · have e := List.mem_singleton.mp z
      omega
theorem LW.swap {H H' H5 : Hp} {m g c : Addr} {n n1 size : Int} {q p r : Addr} {fs xs : List Int} (W : LW H H' m g c n size q fs) (hl : fs.length ≤ 39) (hx : xs.length ≤ 6) (hx1 : 1 ≤ xs.length) (k5 : Keep m g H' H5) (d5 : Dr H5 m g c n1) (h1 : n ≤ n1)
    (h2 : n1 ≤ n + 5 + 2 * fs.length) (b : ∀ x ∈ xs, 1 ≤ x ∧ x ≤ size) (hp : H5 p = none) (hr : (upd H5 p (.lst (nums xs))) r = none) :
    LW H (upd (upd H5 p (.lst (nums xs))) r (.lst (nums fs ++ nums xs))) m g c n size r (fs ++ xs) where
  dr := ⟨n1, (d5.same (same_new hp)).same (same_new hr), h1, by rw [List.length_append]; omega⟩
  kp := ((W.kp.trans k5).trans (.of (same_new hp))).trans (.of (same_new hr))
  fr := ((W.kp.trans k5).trans (.of (same_new hp))).free (d5.same (same_new hp)) hr
  at_ := by
    rw [upd_same]
    simp [nums]
  len := by
    rw [List.length_append]
    omega
  bd := fun y hy => by
    rcases List.mem_append.mp hy with z | z
    · exact W.bd y z
    · exact b y z
/-- how long the list in the fifth place is -/
def lenOf (σ : List (Option V)) (H : Hp) : Nat := match (σ[5]? : Option (Option V)) with
  | some (some (V.ref q)) => (match H q with
    | some (HO.lst xs) => xs.length
    | _ => 0)
  | _ => 0
def spLetters : Sp := fun vs H Q _ => ∃ (m g c : Addr) (n size most : Int), vs = [.ref m, .int size, .int most] ∧ Dr H m g c n ∧ n ≤ 90000 ∧ 2 ≤ size ∧ size ≤ 6 ∧ 0 ≤ most ∧ most ≤ 40 ∧
  ∀ (p : Addr) (ls : List Int) (n' : Int) (H' : Hp), (ls.length : Int) ≤ most → (∀ x ∈ ls, 1 ≤ x ∧ x ≤ size) → n ≤ n' → n' ≤ n + 200 → Dr H' m g c n' → Keep m g H H' → H p = none → H' p = some (.lst (nums ls)) → Q (.ref p) H'
theorem scLetters : FnScope ["m", "size", "most", "kind", "many", "found", "low"] ["m", "size", "most"] (defScope sLetters) := ⟨rfl, rfl, rfl, by decide +kernel, rfl, by decide +kernel, by decide +kernel⟩
theorem ok_letters {f f1 : Addr} {fd fd1 : FuncData} (B : Bare mg) (F : Df K mg "_law_letters" sLetters f fd) (F1 : Df K mg "_law_draw" sDraw f1 fd1) (b1 : Binds K fd1 ["m", "limit"] [])
    (G1 : FnOk P w K mg base CX0 2 f1 fd1 ["m", "limit"] spDraw) : FnOk P w K mg base CX0 3 f fd ["m", "size", "most"] spLetters := by
  refine F.fn.ok scLetters (fun vs H Q E h => ?_) (fun cdv A outer s H vs Q E hr h => ?_)
  · obtain ⟨m, g, c, n, size, most, rfl, _⟩ := h
    rfl
  · obtain ⟨m, g, c, n, size, most, rfl, d, hn, hs1, hs2, hm1, hm2, k⟩ := h
    refine ⟨_, pss_cons (ps_par3 (i := 3) (j := 4) (l := 5) rfl scLetters.nd rfl rfl rfl (by decide) (by decide) (by decide) rfl rfl rfl
        (pa_cons (pe_call G1 hr (by rfl) F1.g F1.fn.kp b1 .nil pass0 (pa_cons (pv 0) (pa_cons pe_int pa_nil)))
        (pa_cons (pe_call G1 hr (by rfl) F1.g F1.fn.kp b1 .nil pass0 (pa_cons (pv 0) (pa_cons (pe_op op_add (pv 2) pe_int) pa_nil))) (pa_cons (pe_lst pa_nil) pa_nil))) (by rfl))
      (pss_cons (ps_set (i := 6) scLetters.nd rfl (Or.inl rfl) (pe_op op_add pe_int (pe_call G1 hr (by rfl) F1.g F1.fn.kp b1 .nil pass0 (pa_cons (pv 0) (pa_cons (pe_op op_sub (pv 1) pe_int) pa_nil)))))
      (pss_cons (ps_while PassesOwn.never (pt_cmpR op_lt (pe_callB call_len_seq (by rfl) B.len PySem.boot_len (pa_cons (pv 5) pa_nil)) (pv 4) (nomark _))
        (pss_one (ps_if (pt_cmpR op_eq (pv 3) pe_int (nomark _))
          (pss_one (ps_expr (pe_bm PySem.F.plainAttrs_list PySem.F.slot_list_append PySem.F.type_list_append mt_append (pv 5)
            (pa_cons (pe_op op_add pe_int (pe_call G1 hr (by rfl) F1.g F1.fn.kp b1 .nil pass0 (pa_cons (pv 0) (pa_cons (pv 1) pa_nil)))) pa_nil))))
          (pss_one (ps_if (pt_cmpR op_eq (pv 3) pe_int (nomark _))
            (pss_one (ps_expr (pe_bm PySem.F.plainAttrs_list PySem.F.slot_list_append PySem.F.type_list_append mt_append (pv 5)
              (pa_cons (pe_op op_add (pv 6) (pe_call G1 hr (by rfl) F1.g F1.fn.kp b1 .nil pass0 (pa_cons (pv 0) (pa_cons pe_int pa_nil)))) pa_nil))))
            (pss_one (ps_if (pt_cmpR op_eq (pv 3) pe_int (nomark _))
              (pss_one (ps_expr (pe_bm PySem.F.plainAttrs_list PySem.F.slot_list_append PySem.F.type_list_append mt_append (pv 5)
                (pa_cons (pe_ix ix_list (pe_lst (pa_cons (pv 6) (pa_cons (pv 6) (pa_cons (pe_op op_add pe_int (pe_call G1 hr (by rfl) F1.g F1.fn.kp b1 .nil pass0 (pa_cons (pv 0) (pa_cons (pv 1) pa_nil)))) pa_nil))))
                  (pe_call G1 hr (by rfl) F1.g F1.fn.kp b1 .nil pass0 (pa_cons (pv 0) (pa_cons pe_int pa_nil))) (fun _ _ => rfl)) pa_nil))))
              (pss_one (ps_if (pt_cmpR op_eq (pv 3) pe_int (nomark _))
                (pss_one (ps_set (i := 5) scLetters.nd rfl (Or.inl rfl) (pe_op op_cat (pv 5)
                  (pe_listDn rfl (by rfl) B.list (by rfl) B.range (pa_cons (pv 1) (pa_cons (pe_call G1 hr (by rfl) F1.g F1.fn.kp b1 .nil pass0 (pa_cons (pv 0) (pa_cons (pv 1) pa_nil))) (pa_cons (pe_un un_neg pe_int) pa_nil)))))))
                (pss_one (ps_set (i := 5) scLetters.nd rfl (Or.inl rfl) (pe_op op_cat (pv 5)
                  (pe_listRg rfl (by rfl) B.list (prg_2 (by rfl) B.range (pe_op op_add pe_int (pe_call G1 hr (by rfl) F1.g F1.fn.kp b1 .nil pass0 (pa_cons (pv 0) (pa_cons (pv 1) pa_nil)))) (pe_op op_add (pv 1) pe_int)))))))))))))))
      (pss_one (ps_ret (pe_slice sl_list (pv 5) po_none (po_some (pv 4))))))), ?_⟩
    refine ⟨_, rfl, m, g, c, n, 5, rfl, d, by omega, by decide, by decide, fun kd H1 kd0 kd1 d1 k1 => ?_⟩
    refine ⟨_, rfl, _, rfl, _, _, rfl, rfl, m, g, c, n + 1, most + 1, rfl, d1, by omega, by omega, by omega, fun many H2 m0 m1 d2 k2 => ?_⟩
    refine ⟨Nat.zero_le _, fun q hq => ⟨_, _, _, rfl, ?_⟩⟩
    have kk2 : Keep m g H H2 := k1.trans k2
    have d3 : Dr (upd H2 q (.lst [])) m g c (n + 1 + 1) := d2.same (same_new hq)
    have hq0 : H q = none := kk2.free d2 hq
    have off := d.off hq0
    refine ⟨_, rfl, _, rfl, _, _, rfl, rfl, m, g, c, n + 1 + 1, size - 1, rfl, d3, by omega, by omega, by omega, fun lw H4 l0 l1 d4 k4 => ?_⟩
    refine ⟨_, _, rfl, rfl, ?_⟩
    have W0 : LW H H4 m g c n size q [] := ⟨⟨_, d4, by omega, by simp; omega⟩, (kk2.trans (.of (same_new hq))).trans k4, hq0, k4 _ _ upd_same off.m off.g, by decide, fun x hx => by simp at hx⟩
    refine while_by (fun σ H' => ∃ q fs, σ = [some (.ref m), some (.int size), some (.int most), some (.int kd), some (.int many), some (.ref q), some (.int (1 + lw))] ∧ LW H H' m g c n size q fs)
      (fun σ H' => many.toNat - lenOf σ H') ⟨q, [], rfl, W0⟩ ?_ ?_
    · rintro σ H' ⟨q, fs, rfl, W⟩
      refine ⟨_, rfl, q, _, rfl, .inl (SqL.of W.at_), _, rfl, _, _, rfl, rfl, _, rfl, ?_⟩
      rw [List.length_map]
      have off := d.off W.fr
      obtain ⟨n1, dn, e1, e2⟩ := W.dr
      have lo : lenOf [some (.ref m), some (.int size), some (.int most), some (.int kd), some (.int many), some (.ref q), some (.int (1 + lw))] H' = fs.length := by
        unfold lenOf
        simp only [List.getElem?_cons_succ, List.getElem?_cons_zero, W.at_, List.length_map]
      refine ite2 (fun hc => ?_) (fun hc => ?_)
      · have hlt : (fs.length : Int) < many := of_decide_eq_true hc
        have hl : fs.length ≤ 39 := by omega
        rw [lo]
        have hsz : (nums fs).length < sizeLine := by
          rw [List.length_map]
          exact small1000 (by omega)
        have step : ∀ (H6 : Hp) (q' : Addr) (fs' : List Int), LW H H6 m g c n size q' fs' → fs.length < fs'.length →
            (∃ q fs, [some (V.ref m), some (.int size), some (.int most), some (.int kd), some (.int many), some (.ref q'), some (.int (1 + lw))] = [some (V.ref m), some (.int size), some (.int most), some (.int kd), some (.int many), some (.ref q), some (.int (1 + lw))] ∧ LW H H6 m g c n size q fs) ∧
            many.toNat - lenOf [some (.ref m), some (.int size), some (.int most), some (.int kd), some (.int many), some (.ref q'), some (.int (1 + lw))] H6 < many.toNat - fs.length := by
          intro H6 q' fs' W6 h6
          refine ⟨⟨q', fs', rfl, W6⟩, ?_⟩
          have lo6 : lenOf [some (.ref m), some (.int size), some (.int most), some (.int kd), some (.int many), some (.ref q'), some (.int (1 + lw))] H6 = fs'.length := by
            unfold lenOf
            simp only [List.getElem?_cons_succ, List.getElem?_cons_zero, W6.at_, List.length_map]
          rw [lo6]
          omega
        refine ⟨_, rfl, rfl, _, rfl, ite2 (fun _ => ?_) (fun _ => ?_)⟩
        · refine ⟨_, rfl, .inl ⟨rfl, _, SqL.of W.at_⟩, _, rfl, _, rfl, m, g, c, n1, size, rfl, dn, by omega, by omega, by omega, fun z H5 z0 z1 d5 k5 => ⟨_, _, rfl, rfl, q, _, _, rfl, rfl, k5 _ _ W.at_ off.m off.g, hsz, ?_⟩⟩
          exact step _ _ _ (W.push off hl k5 d5 (by omega) (by omega) (by omega) (by omega)) (by simp)
        refine ⟨_, rfl, rfl, _, rfl, ite2 (fun _ => ?_) (fun _ => ?_)⟩
        · refine ⟨_, rfl, .inl ⟨rfl, _, SqL.of W.at_⟩, _, rfl, _, rfl, m, g, c, n1, 2, rfl, dn, by omega, by omega, by omega, fun z H5 z0 z1 d5 k5 => ⟨_, _, rfl, rfl, q, _, _, rfl, rfl, k5 _ _ W.at_ off.m off.g, hsz, ?_⟩⟩
          exact step _ _ _ (W.push off hl k5 d5 (by omega) (by omega) (by omega) (by omega)) (by simp)
        refine ⟨_, rfl, rfl, _, rfl, ite2 (fun _ => ?_) (fun _ => ?_)⟩
        · refine ⟨_, rfl, .inl ⟨rfl, _, SqL.of W.at_⟩, _, rfl, _, rfl, _, rfl, _, rfl, m, g, c, n1, size, rfl, dn, by omega, by omega, by omega, fun z H5 z0 z1 d5 k5 => ⟨_, _, rfl, rfl, (by show 3 ≤ sizeLine; decide), fun l hl5 => ?_⟩⟩
          have d6 := d5.same (same_new (o := .lst [.int (1 + lw), .int (1 + lw), .int (1 + z)]) hl5)
          refine ⟨_, rfl, m, g, c, _, 3, rfl, d6, by omega, by omega, by omega, fun y H7 y0 y1 d7 k7 => ?_⟩
          have offl := d5.off hl5
          have h7 := k7 _ _ upd_same offl.m offl.g
          have k57 : Keep m g H' H7 := (k5.trans (.of (same_new hl5))).trans k7
          have fin : ∀ x : Int, 1 ≤ x → x ≤ size → ∃ (l' : Addr) (xs : List V) (y' : V), V.ref q = .ref l' ∧ [V.int x] = [y'] ∧ H7 l' = some (.lst xs) ∧ xs.length < sizeLine ∧
              (∃ q_1 fs, [some (V.ref m), some (.int size), some (.int most), some (.int kd), some (.int many), some (.ref q), some (.int (1 + lw))] = [some (V.ref m), some (.int size), some (.int most), some (.int kd), some (.int many), some (.ref q_1), some (.int (1 + lw))] ∧
                LW H (upd H7 l' (.lst (xs ++ [y']))) m g c n size q_1 fs) ∧
              many.toNat - lenOf [some (.ref m), some (.int size), some (.int most), some (.int kd), some (.int many), some (.ref q), some (.int (1 + lw))] (upd H7 l' (.lst (xs ++ [y']))) < many.toNat - fs.length := fun x x0 x1 =>
            ⟨q, _, _, rfl, rfl, k57 _ _ W.at_ off.m off.g, hsz, step _ _ _ (W.push off hl k57 d7 (by omega) (by omega) x0 x1) (by simp)⟩
          rcases (show y = 0 ∨ y = 1 ∨ y = 2 by omega) with e | e | e <;> subst e
          · exact ⟨l, _, _, _, rfl, rfl, SqL.of h7, at_of (j := 0) rfl rfl, fin _ (by omega) (by omega)⟩
          · exact ⟨l, _, _, _, rfl, rfl, SqL.of h7, at_of (j := 1) rfl rfl, fin _ (by omega) (by omega)⟩
          · exact ⟨l, _, _, _, rfl, rfl, SqL.of h7, at_of (j := 2) rfl rfl, fin _ (by omega) (by omega)⟩
        refine ⟨_, rfl, rfl, _, rfl, ite2 (fun _ => ?_) (fun _ => ?_)⟩
        · refine ⟨_, rfl, _, rfl, _, rfl, _, rfl, m, g, c, n1, size, rfl, dn, by omega, by omega, by omega, fun z H5 z0 z1 d5 k5 => ⟨1, rfl, size, z, rfl, ⟨by omega, by omega, by omega, by omega⟩, fun p hp => ?_⟩⟩
          refine ⟨q, p, _, _, rfl, rfl, (same_new hp) _ _ (k5 _ _ W.at_ off.m off.g), upd_same, ?_, fun r hr => ?_⟩
          · rw [List.length_map, List.length_map, dnV_length, sizeLine_eq]
            omega
          · exact step _ _ _ (W.swap hl (by rw [dnV_length]; omega) (by rw [dnV_length]; omega) k5 d5 (by omega) (by omega) (fun x hx => by have := dnV_mem hx; omega) hp hr) (by rw [List.length_append, dnV_length]; omega)
        · refine ⟨_, rfl, _, rfl, _, rfl, m, g, c, n1, size, rfl, dn, by omega, by omega, by omega, fun z H5 z0 z1 d5 k5 => ⟨_, _, rfl, rfl, _, rfl, _, _, rfl, rfl, _, _, rfl, rfl, RgOk.of_le (by omega) (by omega) (by omega) (by omega), fun p hp => ?_⟩⟩
          rw [upV_eq]
          refine ⟨q, p, _, _, rfl, rfl, (same_new hp) _ _ (k5 _ _ W.at_ off.m off.g), upd_same, ?_, fun r hr => ?_⟩
          · rw [List.length_map, List.length_map, upV_length, sizeLine_eq]
            omega
          · exact step _ _ _ (W.swap hl (by rw [upV_length]; omega) (by rw [upV_length]; omega) k5 d5 (by omega) (by omega) (fun x hx => by have := upV_mem hx; omega) hp hr) (by rw [List.length_append, upV_length]; omega)
      · refine ⟨_, rfl, _, rfl, _, rfl, q, _, rfl, SqL.of W.at_, fun p hp => ?_⟩
        rw [cut_take fs (by omega)]
        refine k p (fs.take many.toNat) n1 _ ?_ (fun x hx => W.bd x (List.mem_of_mem_take hx)) e1 ?_ (dn.same (same_new hp)) (W.kp.trans (.of (same_new hp))) (W.kp.free dn hp) upd_same
        · rw [List.length_take]
          omega
        · have := W.len
          omega
    · intro σ H' Q1 Q2 hq h
      obtain ⟨v, e1, p, ys, e2, e3, v2, e4, i, j, e5, e6, b, e7, h⟩ := h
      exact ⟨v, e1, p, ys, e2, e3, v2, e4, i, j, e5, e6, b, e7, hq _ _ h⟩
end
end Lw
/-! M. Brackets, in plain lists. -/
namespace LwM
/-- one letter x at the place p: the i left over so far, the i + 1 that wait -/
def stp (i : Int) (s : List Int × List Int) (p x : Int) : List Int × List Int :=
  if x = i + 1 then (s.1, s.2 ++ [p]) else if x = i then (if s.2 = [] then (s.1 ++ [p], s.2) else (s.1, s.2.dropLast)) else s
/-- letters from the place k on -/
def go (i : Int) : List Int × List Int → Int → List Int → List Int × List Int
  | s, _, [] => s
  | s, k, x :: l => go i (stp i s k x) (k + 1) l
def br (i : Int) (l : List Int) : List Int × List Int := go i ([], []) 0 l
def lows (i : Int) (l : List Int) : List Int := (br i l).1
def highs (i : Int) (l : List Int) : List Int := (br i l).2
theorem go_app (i : Int) : ∀ (l r : List Int) (s : List Int × List Int) (k : Int), go i s k (l ++ r) = go i (go i s k l) (k + l.length) r
  | [], r, s, k => by simp [go]
  | x :: l, r, s, k => by
    show go i (stp i s k x) (k + 1) (l ++ r) = go i (go i (stp i s k x) (k + 1) l) (k + ((x :: l).length : Nat)) r
    rw [go_app i l r, List.length_cons]
    congr 1
    omega
theorem br_snoc (i : Int) (l : List Int) (x : Int) : br i (l ++ [x]) = stp i (br i l) l.length x := by
  unfold br
  rw [go_app]
  show stp i _ (0 + (l.length : Int)) x = _
  rw [Int.zero_add]
/-- the lists get no longer than the letters -/
theorem go_len (i : Int) : ∀ (l : List Int) (s : List Int × List Int) (k : Int), (go i s k l).1.length + (go i s k l).2.length ≤ s.1.length + s.2.length + l.length
  | [], s, k => by simp [go]
  | x :: l, s, k => by
    have h := go_len i l (stp i s k x) (k + 1)
    have h2 : (stp i s k x).1.length + (stp i s k x).2.length ≤ s.1.length + s.2.length + 1 := by
      unfold stp
      split
      · simp; omega
      · split
        · split
          · simp; omega
          · simp; omega
        · omega
    show (go i (stp i s k x) (k + 1) l).1.length + (go i (stp i s k x) (k + 1) l).2.length ≤ _
    rw [List.length_cons]
    omega
theorem br_len (i : Int) (l : List Int) : (lows i l).length ≤ l.length ∧ (highs i l).length ≤ l.length := by
  have h := go_len i l ([], []) 0
  unfold lows highs br
  simp at h
  omega
/-- all places lie among the letters, and hold i, or i + 1 -/
theorem go_bd (i : Int) : ∀ (l : List Int) (s : List Int × List Int) (k : Int), ∀ p, p ∈ (go i s k l).1 ∨ p ∈ (go i s k l).2 → (p ∈ s.1 ∨ p ∈ s.2) ∨ (k ≤ p ∧ p < k + l.length)
  | [], s, k, p, h => .inl h
  | x :: l, s, k, p, h => by
    have ih := go_bd i l (stp i s k x) (k + 1) p h
    rw [List.length_cons]
    rcases ih with ih | ih
    · have e : p ∈ s.1 ∨ p ∈ s.2 ∨ p = k := by
        unfold stp at ih
        split at ih
        · rcases ih with ih | ih
          · exact .inl ih
          · rcases List.mem_append.mp ih with z | z
            · exact .inr (.inl z)
            · exact .inr (.inr (List.mem_singleton.mp z))
        · split at ih
          · split at ih
            · rcases ih with ih | ih
              · rcases List.mem_append.mp ih with z | z
                · exact .inl z
                · exact .inr (.inr (List.mem_singleton.mp z))
              · exact .inr (.inl ih)
            · rcases ih with ih | ih
              · exact .inl ih
              · exact .inr (.inl ((List.dropLast_sublist _).subset ih))
          · rcases ih with ih | ih
            · exact .inl ih
            · exact .inr (.inl ih)
      rcases e with e | e | e
      · exact .inl (.inl e)
      · exact .inl (.inr e)
      · exact .inr ⟨by omega, by omega⟩
    · exact .inr ⟨by omega, by omega⟩
theorem br_bd {i : Int} {l : List Int} {p : Int} (h : p ∈ lows i l ∨ p ∈ highs i l) : 0 ≤ p ∧ p < l.length := by
  rcases go_bd i l ([], []) 0 p h with z | z
  · rcases z with z | z <;> simp at z
  · omega
/-! ### words put together -/
/-- from an empty stack, and from one with things waiting: the first i + 1 that wait are taken by the i left over, from the last -/
theorem go_from (i : Int) : ∀ (l : List Int) (L W : List Int) (k : Int) (A B : List Int),
    go i (L ++ A.drop W.length, W.take (W.length - A.length) ++ B) k l =
      (L ++ (go i (A, B) k l).1.drop W.length, W.take (W.length - (go i (A, B) k l).1.length) ++ (go i (A, B) k l).2)
  | [], L, W, k, A, B => rfl
  | x :: l, L, W, k, A, B => by
    have step : stp i (L ++ A.drop W.length, W.take (W.length - A.length) ++ B) k x =
        (L ++ (stp i (A, B) k x).1.drop W.length, W.take (W.length - (stp i (A, B) k x).1.length) ++ (stp i (A, B) k x).2) := by
      unfold stp
      by_cases h1 : x = i + 1
      · simp only [h1, if_true]
        simp [List.append_assoc]
      · rw [if_neg h1, if_neg h1]
        by_cases h2 : x = i
        · rw [if_pos h2, if_pos h2]
          by_cases hB : B = []
          · subst hB
            simp only [List.append_nil, if_true]
            by_cases hW : W.take (W.length - A.length) = []
            · have hl : W.length ≤ A.length := by
                have := congrArg List.length hW
                rw [List.length_take] at this
                simp at this
                omega
              rw [if_pos hW]
              have e1 : (A ++ [k]).drop W.length = A.drop W.length ++ [k] := List.drop_append_of_le_length hl
              have e2 : W.length - (A ++ [k]).length = 0 := by
                rw [List.length_append, List.length_singleton]
                omega
              have e3 : W.length - A.length = 0 := by omega
              simp only [e1, e2, e3, List.take_zero, List.append_assoc]
            · have hl : A.length < W.length := by
                rcases Nat.lt_or_ge A.length W.length with z | z
                · exact z
                · exact absurd (by rw [Nat.sub_eq_zero_of_le z, List.take_zero]) hW
              rw [if_neg hW]
              have e1 : (A ++ [k]).drop W.length = A.drop W.length := by
                rw [List.drop_of_length_le (by rw [List.length_append, List.length_singleton]; omega), List.drop_of_length_le (by omega)]
              have e2 : (W.take (W.length - A.length)).dropLast = W.take (W.length - (A ++ [k]).length) := by
                rw [List.dropLast_eq_take, List.take_take, List.length_take, List.length_append, List.length_singleton]
                congr 1
                omega
              rw [e1, e2]
          · rw [if_neg (by simp [hB]), if_neg hB, List.dropLast_append_of_ne_nil hB]
        · rw [if_neg h2, if_neg h2]
    show go i (stp i _ k x) (k + 1) l = _
    rw [step]
    exact go_from i l L W (k + 1) _ _
/-- places moved on -/
theorem go_shift (i d : Int) : ∀ (l : List Int) (A B : List Int) (k : Int), go i (A.map (· + d), B.map (· + d)) (k + d) l = ((go i (A, B) k l).1.map (· + d), (go i (A, B) k l).2.map (· + d))
  | [], A, B, k => rfl
  | x :: l, A, B, k => by
    have step : stp i (A.map (· + d), B.map (· + d)) (k + d) x = ((stp i (A, B) k x).1.map (· + d), (stp i (A, B) k x).2.map (· + d)) := by
      unfold stp
      split
      · simp
      · split
        · by_cases hB : B = []
          · subst hB
            simp
          · rw [if_neg (by simp [hB]), if_neg hB]
            simp [List.map_dropLast]
        · rfl
    show go i (stp i _ (k + d) x) (k + d + 1) l = _
    rw [step]
    have e : k + d + 1 = k + 1 + d := by omega
    rw [e]
    exact go_shift i d l _ _ (k + 1)
theorem br_app (i : Int) (l r : List Int) :
    br i (l ++ r) = (lows i l ++ ((lows i r).map (· + (l.length : Int))).drop (highs i l).length, (highs i l).take ((highs i l).length - (lows i r).length) ++ (highs i r).map (· + (l.length : Int))) := by
  have h1 := go_from i r (lows i l) (highs i l) (0 + (l.length : Int)) [] []
  have h2 := go_shift i (l.length : Int) r [] [] 0
  unfold br
  rw [go_app]
  have e0 : go i ([], []) 0 l = (lows i l ++ ([] : List Int).drop (highs i l).length, (highs i l).take ((highs i l).length - ([] : List Int).length) ++ []) := by
    simp [lows, highs, br]
  rw [e0, h1]
  have e1 : go i (([] : List Int), ([] : List Int)) (0 + (l.length : Int)) r = ((lows i r).map (· + (l.length : Int)), (highs i r).map (· + (l.length : Int))) := h2
  rw [e1, List.length_map]
theorem lows_app (i : Int) (l r : List Int) : lows i (l ++ r) = lows i l ++ ((lows i r).map (· + (l.length : Int))).drop (highs i l).length := by
  show (br i (l ++ r)).1 = _
  rw [br_app]
theorem highs_app (i : Int) (l r : List Int) : highs i (l ++ r) = (highs i l).take ((highs i l).length - (lows i r).length) ++ (highs i r).map (· + (l.length : Int)) := by
  show (br i (l ++ r)).2 = _
  rw [br_app]
/-- how many are left over -/
def up (i : Int) (l : List Int) : Nat := (lows i l).length
def dn (i : Int) (l : List Int) : Nat := (highs i l).length
theorem up_app (i : Int) (l r : List Int) : up i (l ++ r) = up i l + (up i r - dn i l) := by
  unfold up dn
  rw [lows_app, List.length_append, List.length_drop, List.length_map]
theorem dn_app (i : Int) (l r : List Int) : dn i (l ++ r) = (dn i l - up i r) + dn i r := by
  unfold up dn
  rw [highs_app, List.length_append, List.length_take, List.length_map]
  omega
end LwM
/-! I. Letters checked; brackets read. -/
namespace Lw
open PySem L2 LwE LwM
section
variable {P : Program} {w : World} {K : PySem.W.Frag} {mg : Str → Option Value} {base : Heap}
/-- letters of the size, at most forty -/
structure Ls (size : Int) (ls : List Int) : Prop where
  s0 : 2 ≤ size
  s1 : size ≤ 6
  len : ls.length ≤ 40
  bd : ∀ x ∈ ls, 1 ≤ x ∧ x ≤ size
/-- a list, or a tuple, of them -/
def Seq (H : Hp) (a : Addr) (ls : List Int) : Prop := H a = some (.lst (nums ls)) ∨ H a = some (.tup (nums ls))
theorem Seq.same {H H' : Hp} {a : Addr} {ls : List Int} (h : Seq H a ls) (s : Same H H') : Seq H' a ls := h.elim (fun e => .inl (s _ _ e)) fun e => .inr (s _ _ e)
theorem Seq.is {H : Hp} {a : Addr} {ls : List Int} (h : Seq H a ls) : (∃ xs, H a = some (.lst xs)) ∨ ∃ xs, H a = some (.tup xs) := h.elim (fun e => .inl ⟨_, e⟩) fun e => .inr ⟨_, e⟩
theorem Seq.sq {H : Hp} {a : Addr} {ls : List Int} (h : Seq H a ls) : SqL K H a (nums ls) ∨ SqT K H a (nums ls) := h.elim (fun e => .inl (SqL.of e)) fun e => .inr (SqT.of e)
def spCkLetters : Sp := fun vs H Q _ => ∃ (size : Int) (a : Addr) (ls : List Int), vs = [.int size, .ref a] ∧ Seq H a ls ∧ Ls size ls ∧ ∀ H', Same H H' → Q .non H'
theorem scCkLetters : FnScope ["size", "letters", "place", "letter"] ["size", "letters"] (defScope sCkLetters) := ⟨rfl, rfl, rfl, by decide +kernel, rfl, by decide +kernel, by decide +kernel⟩
theorem ok_ckletters {f f1 f2 : Addr} {fd fd1 fd2 : FuncData} (B : Bare mg) (N : Nums mg) (F : Df K mg "check_letters" sCkLetters f fd) (F1 : Df K mg "is_between" sBetween f1 fd1) (b1 : Binds K fd1 ["value", "least", "most"] [])
    (G1 : FnOk P w K mg base CX0 2 f1 fd1 ["value", "least", "most"] spBetween) (F2 : Df K mg "is_listing" sListing f2 fd2) (b2 : Binds K fd2 ["value"] []) (G2 : FnOk P w K mg base CX0 1 f2 fd2 ["value"] spListing) :
    FnOk P w K mg base CX0 3 f fd ["size", "letters"] spCkLetters := by
  refine F.fn.ok scCkLetters (fun vs H Q E h => ?_) (fun cdv A outer s H vs Q E hr h => ?_)
  · obtain ⟨size, a, ls, rfl, _⟩ := h
    rfl
  · obtain ⟨size, a, ls, rfl, hq, L, k⟩ := h
    obtain ⟨t3, e3⟩ := N.mostL
    have hr1 : Room 1 _ := hr.mono (by decide)
    have turn : ∀ {X : Cx}, True := fun {_} => trivial
    have ck : ∀ (H1 : Hp), Same H H1 → Seq H1 a ls := fun H1 s1 => hq.same s1
    have lenOk : decide ((40 : Int) < (((nums ls).length : Nat) : Int)) = false := decide_eq_false (by rw [List.length_map]; have := L.len; omega)
    rcases hq with hq | hq
    · refine ⟨_, pss_cons (ps_if (pt_not (pt_val (pe_call G2 hr1 (by rfl) F2.g F2.fn.kp b2 .nil pass0 (pa_cons (pv 1) pa_nil)))) pss_never pss_nil)
        (pss_cons (ps_if (pt_cmpR op_gt (pe_callB call_len_seq (by rfl) B.len PySem.boot_len (pa_cons (pv 1) pa_nil)) (pe_glob (v := .int 40) (by rfl) e3 ⟨_, rfl⟩) (nomark _)) pss_never pss_nil)
        (pss_one (ps_for PassesOwn.never rfl (pi_enum (by rfl) B.enumerate (pa_cons (pv 1) pa_nil)) (pg_tup rfl (pgs_cons (pg_name (i := 2) scCkLetters.nd rfl (Or.inl rfl)) (pgs_cons (pg_name (i := 3) scCkLetters.nd rfl (Or.inl rfl)) pgs_nil)))
          (pss_one (ps_if (pt_not (pt_val (pe_call G1 hr (by rfl) F1.g F1.fn.kp b1 .nil pass0 (pa_cons (pv 3) (pa_cons pe_int (pa_cons (pv 0) pa_nil)))))) pss_never pss_nil))))), ?_⟩
      refine ⟨_, rfl, a, rfl, .inl ⟨_, hq⟩, fun H1 s1 => ⟨true, rfl, iteF ?_⟩⟩
      refine ⟨_, rfl, a, _, rfl, .inl (SqL.of (s1 _ _ hq)), _, _, rfl, rfl, _, rfl, ?_⟩
      rw [lenOk]
      refine iteF ?_
      refine ⟨_, rfl, a, _, rfl, SqL.of (s1 _ _ hq), for_enL (K := K) (a := a) (xs := nums ls) (fun i σ H2 => ∃ v2 v3 : Option V, σ = [some (.int size), some (.ref a), v2, v3] ∧ Same H H2) ⟨_, _, rfl, s1⟩
        (fun i σ H2 _ ⟨_, _, _, s2⟩ => SqL.of (s2 _ _ hq)) ?_ ?_⟩
      · rintro i x T σ H2 hx ⟨v2, v3, rfl, s2⟩ hT
        obtain ⟨z, rfl, _, hz⟩ := nums_get hx
        refine ⟨T, _, rfl, SqT.of upd_same, rfl, _, _, rfl, _, _, rfl, rfl, ?_⟩
        refine ⟨_, rfl, _, rfl, z, 1, size, rfl, _, rfl, ?_⟩
        rw [decide_eq_true (L.bd z hz)]
        exact iteF ⟨_, _, rfl, s2.trans (same_new hT)⟩
      · rintro σ H2 ⟨v2, v3, rfl, s2⟩
        exact k H2 s2
    · refine ⟨_, pss_cons (ps_if (pt_not (pt_val (pe_call G2 hr1 (by rfl) F2.g F2.fn.kp b2 .nil pass0 (pa_cons (pv 1) pa_nil)))) pss_never pss_nil)
        (pss_cons (ps_if (pt_cmpR op_gt (pe_callB call_len_seq (by rfl) B.len PySem.boot_len (pa_cons (pv 1) pa_nil)) (pe_glob (v := .int 40) (by rfl) e3 ⟨_, rfl⟩) (nomark _)) pss_never pss_nil)
        (pss_one (ps_for PassesOwn.never rfl (pi_enT (by rfl) B.enumerate (pa_cons (pv 1) pa_nil)) (pg_tup rfl (pgs_cons (pg_name (i := 2) scCkLetters.nd rfl (Or.inl rfl)) (pgs_cons (pg_name (i := 3) scCkLetters.nd rfl (Or.inl rfl)) pgs_nil)))
          (pss_one (ps_if (pt_not (pt_val (pe_call G1 hr (by rfl) F1.g F1.fn.kp b1 .nil pass0 (pa_cons (pv 3) (pa_cons pe_int (pa_cons (pv 0) pa_nil)))))) pss_never pss_nil))))), ?_⟩
      refine ⟨_, rfl, a, rfl, .inr ⟨_, hq⟩, fun H1 s1 => ⟨true, rfl, iteF ?_⟩⟩
      refine ⟨_, rfl, a, _, rfl, .inr (SqT.of (s1 _ _ hq)), _, _, rfl, rfl, _, rfl, ?_⟩
      rw [lenOk]
      refine iteF ?_
      refine ⟨_, rfl, a, _, rfl, SqT.of (s1 _ _ hq), for_enT (K := K) (a := a) (xs := nums ls) (fun i σ H2 => ∃ v2 v3 : Option V, σ = [some (.int size), some (.ref a), v2, v3] ∧ Same H H2) ⟨_, _, rfl, s1⟩
        (fun i σ H2 _ ⟨_, _, _, s2⟩ => SqT.of (s2 _ _ hq)) ?_ ?_⟩
      · rintro i x T σ H2 hx ⟨v2, v3, rfl, s2⟩ hT
        obtain ⟨z, rfl, _, hz⟩ := nums_get hx
        refine ⟨T, _, rfl, SqT.of upd_same, rfl, _, _, rfl, _, _, rfl, rfl, ?_⟩
        refine ⟨_, rfl, _, rfl, z, 1, size, rfl, _, rfl, ?_⟩
        rw [decide_eq_true (L.bd z hz)]
        exact iteF ⟨_, _, rfl, s2.trans (same_new hT)⟩
      · rintro σ H2 ⟨v2, v3, rfl, s2⟩
        exact k H2 s2
/-! bracketed -/
/-- between two turns: the three lists -/
structure BW (H H' : Hp) (pr lo wa : Addr) (i : Int) (ls : List Int) : Prop where
  same : Same H H'
  fp : H pr = none
  fl : H lo = none
  fw : H wa = none
  npl : pr ≠ lo
  npw : pr ≠ wa
  nlw : lo ≠ wa
  hp : ∃ ps, H' pr = some (.lst ps) ∧ ps.length ≤ ls.length ∧ ∀ x ∈ ps, ∃ t i j, x = V.ref t ∧ H' t = some (.tup [.int i, .int j])
  hl : H' lo = some (.lst (nums (lows i ls)))
  hw : H' wa = some (.lst (nums (highs i ls)))
/-- something new was laid -/
theorem BW.new {H H' : Hp} {pr lo wa T : Addr} {i : Int} {ls : List Int} {o : HO} (W : BW H H' pr lo wa i ls) (hT : H' T = none) : BW H (upd H' T o) pr lo wa i ls :=
  ⟨W.same.trans (same_new hT), W.fp, W.fl, W.fw, W.npl, W.npw, W.nlw, let ⟨ps, h1, h2, h3⟩ := W.hp; ⟨ps, same_new hT _ _ h1, h2, fun x hx => let ⟨t, a, b, e1, e2⟩ := h3 x hx; ⟨t, a, b, e1, same_new hT _ _ e2⟩⟩,
    same_new hT _ _ W.hl, same_new hT _ _ W.hw⟩
theorem brk (i : Int) (l : List Int) (x : Int) : lows i (l ++ [x]) = (stp i (lows i l, highs i l) l.length x).1 ∧ highs i (l ++ [x]) = (stp i (lows i l, highs i l) l.length x).2 := by
  unfold lows highs
  rw [br_snoc]
  exact ⟨rfl, rfl⟩
theorem BW.wait {H H' : Hp} {pr lo wa : Addr} {i : Int} {l : List Int} (W : BW H H' pr lo wa i l) {x : Int} (hx : x = i + 1) :
    BW H (upd H' wa (.lst (nums (highs i l) ++ [.int (l.length : Nat)]))) pr lo wa i (l ++ [x]) := by
  have e := brk i l x
  unfold stp at e
  rw [if_pos hx] at e
  refine ⟨fun b o z => ?_, W.fp, W.fl, W.fw, W.npl, W.npw, W.nlw, ?_, ?_, ?_⟩
  · rw [upd_ne (ne_of_none z W.fw)]
    exact W.same _ _ z
  · obtain ⟨ps, h1, h2, h3⟩ := W.hp
    refine ⟨ps, by rw [upd_ne W.npw]; exact h1, by rw [List.length_append]; omega, fun y hy => ?_⟩
    obtain ⟨t, a, b, e1, e2⟩ := h3 y hy
    exact ⟨t, a, b, e1, by rw [upd_ne (ne_of e2 W.hw (by intro z; cases z))]; exact e2⟩
  · rw [upd_ne W.nlw, e.1]
    exact W.hl
  · rw [upd_same, e.2]
    simp [nums]
theorem BW.low {H H' : Hp} {pr lo wa : Addr} {i : Int} {l : List Int} (W : BW H H' pr lo wa i l) {x : Int} (h1 : ¬ x = i + 1) (hx : x = i) (he : highs i l = []) :
    BW H (upd H' lo (.lst (nums (lows i l) ++ [.int (l.length : Nat)]))) pr lo wa i (l ++ [x]) := by
  have e := brk i l x
  unfold stp at e
  rw [if_neg h1, if_pos hx, if_pos he] at e
  refine ⟨fun b o z => ?_, W.fp, W.fl, W.fw, W.npl, W.npw, W.nlw, ?_, ?_, ?_⟩
  · rw [upd_ne (ne_of_none z W.fl)]
    exact W.same _ _ z
  · obtain ⟨ps, h1, h2, h3⟩ := W.hp
    refine ⟨ps, by rw [upd_ne W.npl]; exact h1, by rw [List.length_append]; omega, fun y hy => ?_⟩
    obtain ⟨t, a, b, e1, e2⟩ := h3 y hy
    exact ⟨t, a, b, e1, by rw [upd_ne (ne_of e2 W.hl (by intro z; cases z))]; exact e2⟩
  · rw [upd_same, e.1]
    simp [nums]
  · rw [upd_ne W.nlw.symm, e.2]
    exact W.hw
theorem BW.pass {H H' : Hp} {pr lo wa : Addr} {i : Int} {l : List Int} (W : BW H H' pr lo wa i l) {x : Int} (h1 : ¬ x = i + 1) (hx : ¬ x = i) : BW H H' pr lo wa i (l ++ [x]) := by
  have e := brk i l x
  unfold stp at e
  rw [if_neg h1, if_neg hx] at e
  refine ⟨W.same, W.fp, W.fl, W.fw, W.npl, W.npw, W.nlw, ?_, ?_, ?_⟩
  · obtain ⟨ps, h1, h2, h3⟩ := W.hp
    exact ⟨ps, h1, by rw [List.length_append]; omega, h3⟩
  · rw [e.1]
    exact W.hl
  · rw [e.2]
    exact W.hw
/-- the last that waits is taken away -/
theorem BW.popped {H H' : Hp} {pr lo wa T : Addr} {i a b : Int} {l : List Int} {ps : List V} (W : BW H H' pr lo wa i l) {x : Int} (h1 : ¬ x = i + 1) (hx : x = i) (he : ¬ highs i l = []) (hps : H' pr = some (.lst ps)) (hl : ps.length ≤ l.length)
    (h3 : ∀ x ∈ ps, ∃ t i j, x = V.ref t ∧ H' t = some (.tup [.int i, .int j])) (hT : upd H' wa (.lst (nums (highs i l)).dropLast) T = none) :
    BW H (upd (upd (upd H' wa (.lst (nums (highs i l)).dropLast)) T (.tup [.int a, .int b])) pr (.lst (ps ++ [.ref T]))) pr lo wa i (l ++ [x]) := by
  have e := brk i l x
  unfold stp at e
  rw [if_neg h1, if_pos hx, if_neg he] at e
  have nTw : T ≠ wa := fun z => by
    rw [z, upd_same] at hT
    cases hT
  have hT2 : H' T = none := by
    rw [upd_ne nTw] at hT
    exact hT
  have nTp : T ≠ pr := (ne_of_none hps hT2).symm
  have nTl : T ≠ lo := (ne_of_none W.hl hT2).symm
  refine ⟨fun c o z => ?_, W.fp, W.fl, W.fw, W.npl, W.npw, W.nlw, ⟨_, upd_same, by rw [List.length_append, List.length_append]; simp; omega, fun y hy => ?_⟩, ?_, ?_⟩
  · rw [upd_ne (ne_of_none z W.fp), upd_ne (ne_of_none (W.same _ _ z) hT2), upd_ne (ne_of_none z W.fw)]
    exact W.same _ _ z
  · rcases List.mem_append.mp hy with q | q
    · obtain ⟨t, c, d, e1, e2⟩ := h3 y q
      refine ⟨t, c, d, e1, ?_⟩
      rw [upd_ne (ne_of e2 hps (by intro z; cases z)), upd_ne (ne_of_none e2 hT2), upd_ne (ne_of e2 W.hw (by intro z; cases z))]
      exact e2
    · refine ⟨T, a, b, List.mem_singleton.mp q, ?_⟩
      rw [upd_ne nTp, upd_same]
  · rw [upd_ne W.npl.symm, upd_ne nTl.symm, upd_ne W.nlw, e.1]
    exact W.hl
  · rw [upd_ne W.npw.symm, upd_ne nTw.symm, upd_same, e.2]
    simp [nums, List.map_dropLast]
def spBrack : Sp := fun vs H Q _ => ∃ (t : Addr) (i : Int) (ls : List Int), vs = [.ref t, .int i] ∧ Seq H t ls ∧ ls.length ≤ 100 ∧
  ∀ (p a b c : Addr) (ps : List V) (H' : Hp), Same H H' → H' p = some (.tup [.ref a, .ref b, .ref c]) → H' a = some (.lst ps) → H' b = some (.lst (nums (lows i ls))) → H' c = some (.lst (nums (highs i ls))) → Q (.ref p) H'
theorem scBrack : FnScope ["letters", "i", "opening", "pairs", "lows", "waiting", "place", "letter"] ["letters", "i"] (defScope sBrack) := ⟨rfl, rfl, rfl, by decide +kernel, rfl, by decide +kernel, by decide +kernel⟩
theorem ok_brack {f : Addr} {fd : FuncData} (B : Bare mg) (F : Df K mg "bracketed" sBrack f fd) : FnOk P w K mg base CX0 1 f fd ["letters", "i"] spBrack := by
  refine F.fn.ok scBrack (fun vs H Q E h => ?_) (fun cdv A outer s H vs Q E hr h => ?_)
  · obtain ⟨t, i, ls, rfl, _⟩ := h
    rfl
  · obtain ⟨t, i, ls, rfl, ht, hlen, k⟩ := h
    rcases ht with ht | ht
    · refine ⟨_, pss_cons (ps_set (i := 2) scBrack.nd rfl (Or.inl rfl) (pe_op op_add (pv 1) pe_int)) (pss_cons (ps_set (i := 3) scBrack.nd rfl (Or.inl rfl) (pe_lst pa_nil)) (pss_cons (ps_set (i := 4) scBrack.nd rfl (Or.inl rfl) (pe_lst pa_nil)) (pss_cons (ps_set (i := 5) scBrack.nd rfl (Or.inl rfl) (pe_lst pa_nil))
        (pss_cons (ps_for PassesOwn.never rfl (pi_enum (by rfl) B.enumerate (pa_cons (pv 0) pa_nil)) (pg_tup rfl (pgs_cons (pg_name (i := 6) scBrack.nd rfl (Or.inl rfl)) (pgs_cons (pg_name (i := 7) scBrack.nd rfl (Or.inl rfl)) pgs_nil)))
          (pss_one (ps_if (pt_cmpR op_eq (pv 7) (pv 2) (nomark _))
            (pss_one (ps_expr (pe_bm PySem.F.plainAttrs_list PySem.F.slot_list_append PySem.F.type_list_append mt_append (pv 5) (pa_cons (pv 6) pa_nil))))
            (pss_one (ps_if (pt_cmpR op_eq (pv 7) (pv 1) (nomark _))
              (pss_one (ps_if (pt_truth (pv 5) (by intro _; rfl))
                (pss_one (ps_expr (pe_bm PySem.F.plainAttrs_list PySem.F.slot_list_append PySem.F.type_list_append mt_append (pv 3)
                  (pa_cons (pe_tup (pa_cons (pe_bm0 PySem.F.plainAttrs_list PySem.F.slot_list_pop PySem.F.type_list_pop mt_pop (pv 5)) (pa_cons (pv 6) pa_nil))) pa_nil))))
                (pss_one (ps_expr (pe_bm PySem.F.plainAttrs_list PySem.F.slot_list_append PySem.F.type_list_append mt_append (pv 4) (pa_cons (pv 6) pa_nil))))))
              pss_nil)))))
        (pss_one (ps_ret (pe_tup (pa_cons (pv 3) (pa_cons (pv 4) (pa_cons (pv 5) pa_nil)))))))))), ?_⟩
      refine ⟨_, rfl, _, _, rfl, rfl, ?_⟩
      refine ⟨Nat.zero_le _, fun pr hpr => ⟨Nat.zero_le _, fun lo hlo => ⟨Nat.zero_le _, fun wa hwa => ?_⟩⟩⟩
      have npl : pr ≠ lo := fun z => by
        rw [← z, upd_same] at hlo
        cases hlo
      have nlw : lo ≠ wa := fun z => by
        rw [← z, upd_same] at hwa
        cases hwa
      have npw : pr ≠ wa := fun z => by
        rw [← z, upd_ne npl, upd_same] at hwa
        cases hwa
      have s1 : Same H (upd (upd (upd H pr (.lst [])) lo (.lst [])) wa (.lst [])) := ((same_new hpr).trans (same_new hlo)).trans (same_new hwa)
      have fl : H lo = none := (same_new hpr).free hlo
      have fw : H wa = none := ((same_new hpr).trans (same_new hlo)).free hwa
      have W0 : BW H (upd (upd (upd H pr (.lst [])) lo (.lst [])) wa (.lst [])) pr lo wa i [] :=
        ⟨s1, hpr, fl, fw, npl, npw, nlw, ⟨[], by rw [upd_ne npw, upd_ne npl, upd_same], Nat.le_refl _, fun x hx => by simp at hx⟩, by rw [upd_ne nlw, upd_same]; rfl, by rw [upd_same]; rfl⟩
      refine ⟨_, rfl, t, _, rfl, SqL.of (s1 _ _ ht), for_enL (K := K) (a := t) (xs := nums ls)
        (fun j σ H' => ∃ v5 v6 : Option V, σ = [some (.ref t), some (.int i), some (.int (i + 1)), some (.ref pr), some (.ref lo), some (.ref wa), v5, v6] ∧ BW H H' pr lo wa i (ls.take j)) ⟨_, _, rfl, W0⟩ (fun j σ H' _ ⟨_, _, _, W⟩ => SqL.of (W.same _ _ ht)) ?_ ?_⟩
      · rintro j x T σ H' hx ⟨v5, v6, rfl, W1⟩ hT
        obtain ⟨z, rfl, hz, _⟩ := nums_get hx
        have hj : j < ls.length := (List.getElem?_eq_some_iff.mp hz).1
        have ej : (ls.take j).length = j := by
          rw [List.length_take]
          omega
        have en : ls.take (j + 1) = ls.take j ++ [z] := by
          rw [List.take_succ, hz]
          rfl
        have W := W1.new (o := .tup [.int (j : Nat), .int z]) hT
        have eT : (upd H' T (.tup [.int (j : Nat), .int z])) T = some (.tup [.int (j : Nat), .int z]) := upd_same
        generalize upd H' T (.tup [.int (j : Nat), .int z]) = H2 at W eT ⊢
        have szl : (nums (lows i (ls.take j))).length < sizeLine := by
          rw [List.length_map]
          exact small1000 (by have := (br_len i (ls.take j)).1; omega)
        have szh : (nums (highs i (ls.take j))).length < sizeLine := by
          rw [List.length_map]
          exact small1000 (by have := (br_len i (ls.take j)).2; omega)
        refine ⟨T, _, rfl, SqT.of eT, rfl, _, _, rfl, _, _, rfl, rfl, ?_⟩
        refine ⟨_, rfl, _, rfl, rfl, _, rfl, ite2 (fun hc => ?_) (fun hc => ?_)⟩
        · have hzi : z = i + 1 := by simpa using hc
          refine ⟨_, rfl, .inl ⟨rfl, _, SqL.of W.hw⟩, _, rfl, wa, _, _, rfl, rfl, W.hw, szh, ⟨_, _, rfl, ?_⟩⟩
          rw [en]
          have q := W.wait hzi
          rw [ej] at q
          exact q
        have hzi : ¬ z = i + 1 := by simpa using hc
        refine ⟨_, rfl, _, rfl, rfl, _, rfl, ite2 (fun hc2 => ?_) (fun hc2 => ?_)⟩
        · have hz2 : z = i := by simpa using hc2
          refine ⟨_, rfl, _, .inl ⟨_, SqL.of W.hw, rfl⟩, ?_⟩
          by_cases he : highs i (ls.take j) = []
          · rw [he]
            refine iteF ⟨_, rfl, .inl ⟨rfl, _, SqL.of W.hl⟩, _, rfl, lo, _, _, rfl, rfl, W.hl, szl, ⟨_, _, rfl, ?_⟩⟩
            rw [en]
            have q := W.low hzi hz2 he
            rw [ej] at q
            exact q
          · obtain ⟨ps, h1, h2, h3⟩ := W.hp
            have hne : (!(nums (highs i (ls.take j))).isEmpty) = true := by
              cases e : highs i (ls.take j) with
              | nil => exact absurd e he
              | cons a r => rfl
            rw [hne]
            have hlast : ∃ y, (highs i (ls.take j))[(highs i (ls.take j)).length - 1]? = some y := by
              cases e : highs i (ls.take j) with
              | nil => exact absurd e he
              | cons a r => exact ⟨(a :: r)[(a :: r).length - 1], by simp⟩
            obtain ⟨y, hy⟩ := hlast
            have hy2 : (nums (highs i (ls.take j)))[(nums (highs i (ls.take j))).length - 1]? = some (.int y) := by
              rw [List.length_map, List.getElem?_map, hy]
              rfl
            refine iteT ⟨_, rfl, .inl ⟨rfl, _, SqL.of h1⟩, _, rfl, .inl ⟨rfl, _, SqL.of W.hw⟩, wa, _, _, rfl, rfl, W.hw, hy2, ?_⟩
            refine ⟨_, rfl, (by show 2 ≤ sizeLine; decide), fun T2 hT2 => ⟨pr, ps, _, rfl, rfl, ?_, small1000 (by have := List.length_take_le j ls; omega), ⟨_, _, rfl, ?_⟩⟩⟩
            · have n2 : pr ≠ T2 := fun q => by
                rw [← q, upd_ne W.npw] at hT2
                rw [h1] at hT2
                cases hT2
              rw [upd_ne n2, upd_ne W.npw]
              exact h1
            · rw [en]
              exact W.popped hzi hz2 he h1 h2 h3 hT2
        · have hz2 : ¬ z = i := by simpa using hc2
          refine ⟨_, _, rfl, ?_⟩
          rw [en]
          exact W.pass hzi hz2
      · rintro σ H' ⟨v5, v6, rfl, W1⟩
        rw [List.length_map, List.take_length] at W1
        obtain ⟨ps, h1, h2, h3⟩ := W1.hp
        refine ⟨_, rfl, _, rfl, _, rfl, (by show 3 ≤ sizeLine; decide), fun p hp => ?_⟩
        have s6 := same_new (o := .tup [.ref pr, .ref lo, .ref wa]) hp
        exact k p pr lo wa ps _ (W1.same.trans s6) upd_same (s6 _ _ h1) (s6 _ _ W1.hl) (s6 _ _ W1.hw)
    · refine ⟨_, pss_cons (ps_set (i := 2) scBrack.nd rfl (Or.inl rfl) (pe_op op_add (pv 1) pe_int)) (pss_cons (ps_set (i := 3) scBrack.nd rfl (Or.inl rfl) (pe_lst pa_nil)) (pss_cons (ps_set (i := 4) scBrack.nd rfl (Or.inl rfl) (pe_lst pa_nil)) (pss_cons (ps_set (i := 5) scBrack.nd rfl (Or.inl rfl) (pe_lst pa_nil))
        (pss_cons (ps_for PassesOwn.never rfl (pi_enT (by rfl) B.enumerate (pa_cons (pv 0) pa_nil)) (pg_tup rfl (pgs_cons (pg_name (i := 6) scBrack.nd rfl (Or.inl rfl)) (pgs_cons (pg_name (i := 7) scBrack.nd rfl (Or.inl rfl)) pgs_nil)))
          (pss_one (ps_if (pt_cmpR op_eq (pv 7) (pv 2) (nomark _))
            (pss_one (ps_expr (pe_bm PySem.F.plainAttrs_list PySem.F.slot_list_append PySem.F.type_list_append mt_append (pv 5) (pa_cons (pv 6) pa_nil))))
            (pss_one (ps_if (pt_cmpR op_eq (pv 7) (pv 1) (nomark _))
              (pss_one (ps_if (pt_truth (pv 5) (by intro _; rfl))
                (pss_one (ps_expr (pe_bm PySem.F.plainAttrs_list PySem.F.slot_list_append PySem.F.type_list_append mt_append (pv 3)
                  (pa_cons (pe_tup (pa_cons (pe_bm0 PySem.F.plainAttrs_list PySem.F.slot_list_pop PySem.F.type_list_pop mt_pop (pv 5)) (pa_cons (pv 6) pa_nil))) pa_nil))))
                (pss_one (ps_expr (pe_bm PySem.F.plainAttrs_list PySem.F.slot_list_append PySem.F.type_list_append mt_append (pv 4) (pa_cons (pv 6) pa_nil))))))
              pss_nil)))))
        (pss_one (ps_ret (pe_tup (pa_cons (pv 3) (pa_cons (pv 4) (pa_cons (pv 5) pa_nil)))))))))), ?_⟩
      refine ⟨_, rfl, _, _, rfl, rfl, ?_⟩
      refine ⟨Nat.zero_le _, fun pr hpr => ⟨Nat.zero_le _, fun lo hlo => ⟨Nat.zero_le _, fun wa hwa => ?_⟩⟩⟩
      have npl : pr ≠ lo := fun z => by
        rw [← z, upd_same] at hlo
        cases hlo
      have nlw : lo ≠ wa := fun z => by
        rw [← z, upd_same] at hwa
        cases hwa
      have npw : pr ≠ wa := fun z => by
        rw [← z, upd_ne npl, upd_same] at hwa
        cases hwa
      have s1 : Same H (upd (upd (upd H pr (.lst [])) lo (.lst [])) wa (.lst [])) := ((same_new hpr).trans (same_new hlo)).trans (same_new hwa)
      have fl : H lo = none := (same_new hpr).free hlo
      have fw : H wa = none := ((same_new hpr).trans (same_new hlo)).free hwa
      have W0 : BW H (upd (upd (upd H pr (.lst [])) lo (.lst [])) wa (.lst [])) pr lo wa i [] :=
        ⟨s1, hpr, fl, fw, npl, npw, nlw, ⟨[], by rw [upd_ne npw, upd_ne npl, upd_same], Nat.le_refl _, fun x hx => by simp at hx⟩, by rw [upd_ne nlw, upd_same]; rfl, by rw [upd_same]; rfl⟩
      refine ⟨_, rfl, t, _, rfl, SqT.of (s1 _ _ ht), for_enT (K := K) (a := t) (xs := nums ls)
        (fun j σ H' => ∃ v5 v6 : Option V, σ = [some (.ref t), some (.int i), some (.int (i + 1)), some (.ref pr), some (.ref lo), some (.ref wa), v5, v6] ∧ BW H H' pr lo wa i (ls.take j)) ⟨_, _, rfl, W0⟩ (fun j σ H' _ ⟨_, _, _, W⟩ => SqT.of (W.same _ _ ht)) ?_ ?_⟩
      · rintro j x T σ H' hx ⟨v5, v6, rfl, W1⟩ hT
        obtain ⟨z, rfl, hz, _⟩ := nums_get hx
        have hj : j < ls.length := (List.getElem?_eq_some_iff.mp hz).1
        have ej : (ls.take j).length = j := by
          rw [List.length_take]
          omega
        have en : ls.take (j + 1) = ls.take j ++ [z] := by
          rw [List.take_succ, hz]
          rfl
        have W := W1.new (o := .tup [.int (j : Nat), .int z]) hT
        have eT : (upd H' T (.tup [.int (j : Nat), .int z])) T = some (.tup [.int (j : Nat), .int z]) := upd_same
        generalize upd H' T (.tup [.int (j : Nat), .int z]) = H2 at W eT ⊢
        have szl : (nums (lows i (ls.take j))).length < sizeLine := by
          rw [List.length_map]
          exact small1000 (by have := (br_len i (ls.take j)).1; omega)
        have szh : (nums (highs i (ls.take j))).length < sizeLine := by
          rw [List.length_map]
          exact small1000 (by have := (br_len i (ls.take j)).2; omega)
        refine ⟨T, _, rfl, SqT.of eT, rfl, _, _, rfl, _, _, rfl, rfl, ?_⟩
        refine ⟨_, rfl, _, rfl, rfl, _, rfl, ite2 (fun hc => ?_) (fun hc => ?_)⟩
        · have hzi : z = i + 1 := by simpa using hc
          refine ⟨_, rfl, .inl ⟨rfl, _, SqL.of W.hw⟩, _, rfl, wa, _, _, rfl, rfl, W.hw, szh, ⟨_, _, rfl, ?_⟩⟩
          rw [en]
          have q := W.wait hzi
          rw [ej] at q
          exact q
        have hzi : ¬ z = i + 1 := by simpa using hc
        refine ⟨_, rfl, _, rfl, rfl, _, rfl, ite2 (fun hc2 => ?_) (fun hc2 => ?_)⟩
        · have hz2 : z = i := by simpa using hc2
          refine ⟨_, rfl, _, .inl ⟨_, SqL.of W.hw, rfl⟩, ?_⟩
          by_cases he : highs i (ls.take j) = []
          · rw [he]
            refine iteF ⟨_, rfl, .inl ⟨rfl, _, SqL.of W.hl⟩, _, rfl, lo, _, _, rfl, rfl, W.hl, szl, ⟨_, _, rfl, ?_⟩⟩
            rw [en]
            have q := W.low hzi hz2 he
            rw [ej] at q
            exact q
          · obtain ⟨ps, h1, h2, h3⟩ := W.hp
            have hne : (!(nums (highs i (ls.take j))).isEmpty) = true := by
              cases e : highs i (ls.take j) with
              | nil => exact absurd e he
              | cons a r => rfl
            rw [hne]
            have hlast : ∃ y, (highs i (ls.take j))[(highs i (ls.take j)).length - 1]? = some y := by
              cases e : highs i (ls.take j) with
              | nil => exact absurd e he
              | cons a r => exact ⟨(a :: r)[(a :: r).length - 1], by simp⟩
            obtain ⟨y, hy⟩ := hlast
            have hy2 : (nums (highs i (ls.take j)))[(nums (highs i (ls.take j))).length - 1]? = some (.int y) := by
              rw [List.length_map, List.getElem?_map, hy]
              rfl
            refine iteT ⟨_, rfl, .inl ⟨rfl, _, SqL.of h1⟩, _, rfl, .inl ⟨rfl, _, SqL.of W.hw⟩, wa, _, _, rfl, rfl, W.hw, hy2, ?_⟩
            refine ⟨_, rfl, (by show 2 ≤ sizeLine; decide), fun T2 hT2 => ⟨pr, ps, _, rfl, rfl, ?_, small1000 (by have := List.length_take_le j ls; omega), ⟨_, _, rfl, ?_⟩⟩⟩
            · have n2 : pr ≠ T2 := fun q => by
                rw [← q, upd_ne W.npw] at hT2
                rw [h1] at hT2
                cases hT2
              rw [upd_ne n2, upd_ne W.npw]
              exact h1
            · rw [en]
              exact W.popped hzi hz2 he h1 h2 h3 hT2
        · have hz2 : ¬ z = i := by simpa using hc2
          refine ⟨_, _, rfl, ?_⟩
          rw [en]
          exact W.pass hzi hz2
      · rintro σ H' ⟨v5, v6, rfl, W1⟩
        rw [List.length_map, List.take_length] at W1
        obtain ⟨ps, h1, h2, h3⟩ := W1.hp
        refine ⟨_, rfl, _, rfl, _, rfl, (by show 3 ≤ sizeLine; decide), fun p hp => ?_⟩
        have s6 := same_new (o := .tup [.ref pr, .ref lo, .ref wa]) hp
        exact k p pr lo wa ps _ (W1.same.trans s6) upd_same (s6 _ _ h1) (s6 _ _ W1.hl) (s6 _ _ W1.hw)
end
end Lw
/-! An own class's +, !=, len; the text of a list of numbers. -/
namespace LwE
open PySem PySem.Spec PyProof.Rows L2
section
variable {X : Cx} {pins : List (Addr × Obj)} {σ : L2.St} {H : Hp} {s : Shared} {k : Nat} {f C : Addr} {fd : FuncData} {ps : List Str} {sp : Sp}
/-- a def called anywhere below the running body -/
theorem run_below {A : Around} {Q : VK} {us : List Value} {vs : List V} (F : FnOk X.prog X.w X.K X.mg X.base CX0 k f fd ps sp) (hr : Room k A) (e0 : Env0 X.prog X.w X.K X.mg X.base A X.stack s H) (hb : Binds X.K fd ps [])
    (I : Inv X pins σ H s) (r : Vals vs us) (h : sp vs H Q E0) : wpAny (model X.prog X.w) A (call (.ref f) us) (EP X pins σ Q) X.xe s := by
  have hl : (us ++ []).length = ps.length := by
    rw [List.append_nil, ← r.length]
    exact F.len _ _ _ _ h
  have b0 := hb s us I.kIn hl
  rw [List.append_nil] at b0
  refine wpAny_call (codeAny_mono (F.run A X.stack s H ⟨us, []⟩ us vs Q E0 hr e0 b0 r h) fun r s' hq => ?_)
  cases r with
  | error e => exact (show False from hq).elim
  | ok fl =>
    cases fl with
    | ret u => exact I.after hq
    | next => exact False.elim hq
    | brk => exact False.elim hq
    | cont => exact False.elim hq
theorem inst_of {dx a : Addr} {fs : List (Str × V)} (I : Inv X pins σ H s) (e : H a = some (.ins C dx fs)) : ∃ ox od, PySem.W.InstAt s.heap a ox C (some od) := by
  obtain ⟨mA, O, _⟩ := ins_get I.hok e
  obtain ⟨od, J, _⟩ := O.look
  exact ⟨_, od, J⟩
/-- len(o) -/
def rLenO (C : Addr) (sp : Sp) : List V → Hp → VK → Prop := fun xs H Q => ∃ a dx fs, xs = [V.ref a] ∧ H a = some (.ins C dx fs) ∧ sp [.ref a] H (fun z H' => ∃ i : Int, z = .int i ∧ (0 ≤ i ∧ i < 2 ^ 63) ∧ Q (.int i) H') E0
theorem call_lenO (hs : PySem.W.findIn X.K (.ref C) "__len__" = some (some (.ref f))) (hf : PySem.W.isFn X.K (.ref f) = true) (F : FnOk X.prog X.w X.K X.mg X.base CX0 k f fd ps sp) (hb : Binds X.K fd ps []) (hr : Room (k + 1) X.A) :
    CallR X (.builtin "len") (rLenO C sp) := by
  intro pins s σ H xs us Q I r h
  obtain ⟨a, dx, fs, rfl, e, q⟩ := h
  obtain ⟨u, rfl, ru⟩ := vals1 r
  obtain rfl : u = Value.ref a := ru
  obtain ⟨ox, od, J⟩ := inst_of I e
  obtain ⟨m, hF⟩ := I.fr
  refine PySem.W.len_K hF I.ok.mod.kin J hs hf (wpAny_mono (run_below (vs := [.ref a]) F hr.in1 I.env0.in1 hb I (.cons rfl .nil) q) (fun v s' z => ?_) fun _ _ x => x)
  obtain ⟨z', H', I', rz, i, rfl, hi, q'⟩ := z
  obtain ⟨t, rfl⟩ := (show ∃ t, v = Value.int i t from rz)
  exact ⟨hi, .int i, H', I'.tok _, ⟨_, rfl⟩, q'⟩
/-- a + b, two of one class -/
def rTwoO (C : Addr) (sp : Sp) : R2 := fun x y H Q => ∃ a dx fs b dy gs, x = .ref a ∧ y = .ref b ∧ H a = some (.ins C dx fs) ∧ H b = some (.ins C dy gs) ∧ sp [x, y] H Q E0
theorem op_addO (hs : PySem.W.findIn X.K (.ref C) "__add__" = some (some (.ref f))) (hf : PySem.W.isFn X.K (.ref f) = true) (hc : PySem.W.selfFirst X.K C = true) (F : FnOk X.prog X.w X.K X.mg X.base CX0 k f fd ps sp) (hb : Binds X.K fd ps [])
    (hr : Room k X.A) : OpR X (binaryOp .Add) (rTwoO C sp) := by
  intro pins s σ H x y v u Q I rx ry h
  obtain ⟨a, dx, fs, b, dy, gs, rfl, rfl, ea, eb, q⟩ := h
  obtain rfl : v = Value.ref a := rx
  obtain rfl : u = Value.ref b := ry
  obtain ⟨ox, od, J⟩ := inst_of I ea
  obtain ⟨oy, oe, J'⟩ := inst_of I eb
  obtain ⟨m, hF⟩ := I.fr
  refine PySem.W.binop_K hF I.ok.mod.kin J J'.type hc hs hf (wpAny_mono (run_below (vs := [.ref a, .ref b]) F hr I.env0 hb I (.cons rfl (.cons rfl .nil)) q) (fun w s' z => ?_) fun _ _ x => x)
  obtain ⟨z', H', I', rz, qz⟩ := z
  exact SlX.cmpback rz ⟨z', H', I', rz, qz⟩
/-- a special method that is a built-in's, bound and called -/
theorem bound_slot {M : Model} {A : Around} {E : Value → Shared → Prop} {K : PySem.W.Frag} {x : Addr} {ox : Obj} {od : Option Obj} {name : Str} {B id : String} {args : List Value} {Q : Option Value → Shared → Prop} (Xk : K.In s.heap) (I : PySem.W.InstAt s.heap x ox C od)
    (hs : PySem.W.findIn K (.ref C) name = some (some (.builtin id))) (S : Slot B name id) (h : wpAny M A (call (.builtin id) (.ref x :: args)) (fun v => Q (some v)) E s) : wpAny M A (callSpecialIfBound? (.ref x) name args) Q E s := by
  simp only [callSpecialIfBound?, bindSpecialIfBound?]
  refine wpAny_holding (wpAny_bind (wpAny_bind (wpAny_bind (I.type.here ((PySem.W.looks_findIn Xk hs).here ?_)))))
  simp only [S.bind]
  refine wpAny_bind (wpAny_askSetting (wpAny_ite ?_))
  have fin : wpAny M A (call (.builtin id) ([.ref x] ++ args) >>= fun v => pure (some v)) Q E s := wpAny_bind (wpAny_mono h (fun v s' z => wpAny_pure z) fun _ _ z => z)
  split
  · exact wpAny_bind (wpAny_pure (wpAny_pure fin))
  · exact wpAny_tryCatch (wpAny_bind (wpAny_pure (wpAny_pure fin)))
/-- a != b by the class's own == -/
def rNeO (C : Addr) (sp : Sp) : R2 := fun x y H Q => ∃ a dx fs b dy gs, x = .ref a ∧ y = .ref b ∧ H a = some (.ins C dx fs) ∧ H b = some (.ins C dy gs) ∧ sp [x, y] H (fun z H' => ∃ c : Bool, z = .bl c ∧ Q (.bl (!c)) H') E0
theorem op_neO (hs : PySem.W.findIn X.K (.ref C) "__eq__" = some (some (.ref f))) (hf : PySem.W.isFn X.K (.ref f) = true) (hn : PySem.W.findIn X.K (.ref C) "__ne__" = some (some (.builtin "object.__ne__"))) (hm : PySem.W.mroIn X.K C (.type "object") = some true)
    (F : FnOk X.prog X.w X.K X.mg X.base CX0 k f fd ps sp) (hb : Binds X.K fd ps []) (hr : Room (k + 1) X.A) : OpR X (compareOp .NotEq) (rNeO C sp) := by
  intro pins s σ H x y v u Q I rx ry h
  obtain ⟨a, dx, fs, b, dy, gs, rfl, rfl, ea, eb, q⟩ := h
  obtain rfl : v = Value.ref a := rx
  obtain rfl : u = Value.ref b := ry
  obtain ⟨ox, od, J⟩ := inst_of I ea
  obtain ⟨oy, oe, J'⟩ := inst_of I eb
  have Xk := I.kIn
  have hcall : wpAny (model X.prog X.w) X.A.in1 (call (.ref f) [.ref a, .ref b]) (fun w s' => ∃ c, w = .bool c ∧ EP X pins σ Q (.bool (!c)) s') X.xe s :=
    wpAny_mono (run_below (vs := [.ref a, .ref b]) F hr.in1 I.env0.in1 hb I (.cons rfl (.cons rfl .nil)) q) (fun w s' z => by
      obtain ⟨z', H', I', rz, c, rfl, qz⟩ := z
      obtain rfl : w = Value.bool c := rz
      exact ⟨c, rfl, .bl (!c), H', I', rfl, qz⟩) fun _ _ x => x
  have h1 : X.A.units < cLine := hr.units0
  have h2 : X.A.in1.units < cLine := by
    have := hr.units
    show X.A.units + 1 < cLine
    omega
  have sub : PySem.W.Looks (model X.prog X.w) s.heap (isInstance (.ref a) (.type "object")) true := J.type.andThen (PySem.W.looks_mroIn Xk hm)
  have body : wpAny (model X.prog X.w) X.A.in1 (Builtin.«object.__ne__» ⟨[.ref a, .ref b], []⟩) (fun fin s' => ∃ c, fin = .done (.ret (.bool (!c))) ∧ EP X pins σ Q (.bool (!c)) s') X.xe s := by
    unfold Builtin.«object.__ne__»
    repeat (first
      | with_reducible refine wpAny_cRoomFor h2 ?_
      | (refine wpAny_bind (m := callSpecialIfBound? (.ref a) (Str.ofString "__eq__") [.ref b]) (PySem.W.ifBound_K Xk J hs hf (wpAny_mono hcall (fun r s' hq => by
          obtain ⟨c, rfl, qz⟩ := hq
          repeat (first | exact ⟨c, rfl, qz⟩ | exact wpAny_pure ⟨c, rfl, qz⟩ | exact wpAny_truthy_bool ⟨c, rfl, qz⟩ | (refine wpAny_bind (m := truthy (.bool _)) (wpAny_truthy_bool ?_)) | wp_step)) fun _ _ e => e)))
      | wp_step)
  have one : wpAny (model X.prog X.w) X.A (tryCompare (.ref a) "__ne__" (.ref b)) (fun r s' => ∃ c : Bool, r = some (.bool (!c)) ∧ EP X pins σ Q (.bool (!c)) s') X.xe s := by
    simp only [tryCompare]
    refine wpAny_bind (bound_slot (B := "object") Xk J hn PySem.F.cmp_object.ne (wpAny_call (codeAny_call_builtin PySem.F.cmp_object.ne.plain PySem.F.cmpEntry_ne
      (@PySem.W.check_slot (model X.prog X.w) _ _ s "object.__ne__" "object" "__ne__" (.ref a) [.ref b] [] _ PySem.F.cmpKind_ne PySem.F.cmpSplit_ne sub (PySem.F.cmpArgs_ne _ _) ?_))))
    refine wpAny_mono body (fun fin s' z => ?_) fun _ _ e => e
    obtain ⟨c, rfl, qz⟩ := z
    first | exact ⟨c, rfl, qz⟩ | exact wpAny_pure ⟨c, rfl, qz⟩
  show wpAny _ _ (richCompare .NotEq (.ref a) (.ref b)) _ _ _
  unfold richCompare
  simp only [oneThing_ref]
  refine wpAny_holding (wpAny_bind (wpAny_cRoomFor h1 ?_))
  rw [cmpInfo_NotEq]
  dsimp only
  refine wpAny_bind (J.type.here (wpAny_bind (J'.type.here ?_)))
  rw [show (Value.ref C != Value.ref C) = false from by simp]
  simp only [Bool.false_eq_true, if_false]
  refine wpAny_bind (wpAny_pure ?_)
  simp only [Bool.false_eq_true, if_false]
  refine wpAny_bind (wpAny_mono one (fun r s' z => ?_) fun _ _ e => e)
  obtain ⟨c, rfl, qz⟩ := z
  first | exact wpAny_pure qz | exact wpAny_pure (wpAny_pure qz)
/-- repr(x), x a list or tuple of what is data -/
def rReprD (K : PySem.W.Frag) : List V → Hp → VK → Prop := fun xs H Q => ∃ (a : Addr) (d : PyData), xs = [V.ref a] ∧ Dp K H (.ref a) d ∧ d.showable = true ∧ d.hasDict = false ∧ d.depth ≤ 8 ∧ d.shown.length ≤ sizeLine ∧ Q (.str d.shown) H
theorem call_reprD (hg : X.A.guards = some []) (hu : X.A.units + 64 < cLine) : CallR X (.builtin "repr") (rReprD X.K) := by
  intro pins s σ H xs us Q I r h
  obtain ⟨a, d, rfl, hd, h1, h2, h3, h4, q⟩ := h
  obtain ⟨u, rfl, ru⟩ := vals1 r
  obtain ⟨as, rd⟩ := Dp.reads I d _ _ hd ru
  obtain rfl : u = Value.ref a := ru
  refine repr_of_reads' rd h1 (fun z => by rw [h2] at z; cases z) hg (by omega) (fun b o e => e) (fun h' t tk kp => ?_) h4
  exact ⟨.str d.shown, H, I.kept kp, ⟨_, rfl⟩, q⟩
end
end LwE
/-! J. The class of words. -/
namespace Lw
open PySem L2 LwE LwM
theorem sl_ : ¬ (("size" : Str) = "letters") := by decide +kernel
theorem ls_ : ¬ (("letters" : Str) = "size") := by decide +kernel
/-- a word's attributes -/
def wf (t : Addr) (z : Int) : List (Str × V) := putF "letters" (.ref t) (putF "size" (.int z) [])
theorem wf_size (t : Addr) (z : Int) : (wf t z).lookup ("size" : Str) = some (.int z) := by
  unfold wf
  rw [lookup_putF, if_neg sl_, lookup_putF, if_pos rfl]
theorem wf_letters (t : Addr) (z : Int) : (wf t z).lookup ("letters" : Str) = some (.ref t) := by
  unfold wf
  rw [lookup_putF, if_pos rfl]
theorem wf_no (t : Addr) (z : Int) {m : Str} (h1 : ¬ m = "letters") (h2 : ¬ m = "size") : (wf t z).lookup m = none := by
  unfold wf
  rw [lookup_putF, if_neg h1, lookup_putF, if_neg h2]
  rfl
/-- a word of the class at C stands at p -/
structure WAt (C : Addr) (H : Hp) (p : Addr) (size : Int) (ls : List Int) : Prop where
  ob : ∃ dx t, H p = some (.ins C dx (wf t size)) ∧ H t = some (.tup (nums ls))
  ls : Ls size ls
theorem WAt.same {C : Addr} {H H' : Hp} {p : Addr} {size : Int} {ls : List Int} (W : WAt C H p size ls) (s : Same H H') : WAt C H' p size ls :=
  ⟨let ⟨dx, t, a, b⟩ := W.ob; ⟨dx, t, s _ _ a, s _ _ b⟩, W.ls⟩
theorem WAt.keep {C : Addr} {H H' : Hp} {p m g c : Addr} {n size : Int} {ls : List Int} (W : WAt C H p size ls) (d : Dr H m g c n) (k : Keep m g H H') : WAt C H' p size ls := by
  obtain ⟨dx, t, a, b⟩ := W.ob
  obtain ⟨gs, _, e⟩ := d.hg
  exact ⟨⟨dx, t, k _ _ a (ne_of a d.hm (by intro z; cases z)) (ne_of a e (by intro z; cases z)), k _ _ b (ne_of b d.hm (by intro z; cases z)) (ne_of b e (by intro z; cases z))⟩, W.ls⟩
/-- what the top has made of the class -/
structure Cw (K : PySem.W.Frag) (mg : Str → Option Value) (C : Addr) : Prop where
  cl : Cls K C
  nS : NoAttr K C "size"
  nL : NoAttr K C "letters"
  mgC : mg "Word" = some (.ref C)
  ca : PySem.W.findIn K (.ref C) "__class__" = some (some (.builtin "object.__class__"))
  cn : PySem.W.specialIn K (.builtin "object.__class__") "__get__" = some (some (.builtin "getset_descriptor.__get__"))
  ct : PySem.W.takesIn K (.builtin "object.__class__") = some true
  cm : PySem.W.mroIn K C (.type "object") = some true
theorem cut_drop (l : List Int) {n : Int} (h : 0 ≤ n) : cutV (nums l) (some n) none = nums (l.drop n.toNat) := by
  unfold cutV
  have e : HT.sIx (nums l).length 0 (some n) = min n.toNat (nums l).length := by
    have q := HT.sIx_nat (nums l).length 0 n.toNat
    rw [Int.toNat_of_nonneg h] at q
    exact q
  rw [HT.sIx_none, e]
  rw [List.length_map]
  show ((l.map V.int).drop _).take _ = (l.drop n.toNat).map V.int
  rw [← List.map_drop, ← List.map_take]
  congr 1
  rw [List.take_of_length_le (by rw [List.length_drop]; omega)]
  rcases Nat.le_total n.toNat l.length with z | z
  · rw [Nat.min_eq_left z]
  · rw [Nat.min_eq_right z, List.drop_of_length_le (Nat.le_refl _), List.drop_of_length_le z]
/-- t + u, whichever is empty -/
theorem cat_any {K : PySem.W.Frag} {H : Hp} {Q : VK} {a b : Addr} {xs ys : List V} (ha : H a = some (.tup xs)) (hb : H b = some (.tup ys)) (hl : xs.length + ys.length ≤ sizeLine)
    (k : ∀ r H', Same H H' → H' r = some (.tup (xs ++ ys)) → Q (.ref r) H') : rCatA K (.ref a) (.ref b) H Q := by
  refine ⟨a, b, xs, ys, rfl, rfl, SqT.of ha, SqT.of hb, hl, fun e => ?_, fun _ e => ?_, fun _ _ p hp => k p _ (same_new hp) upd_same⟩
  · subst e
    exact k b H (Same.refl H) hb
  · subst e
    refine k a H (Same.refl H) ?_
    rw [List.append_nil]
    exact ha
theorem set_cut (l : List Int) (p : Nat) (x : Int) (h : p < l.length) : l.take p ++ [x] ++ l.drop (p + 1) = l.set p x := by
  rw [List.set_eq_take_append_cons_drop, if_pos h, List.append_assoc]
  rfl
theorem Ls.set {size : Int} {ls : List Int} (L : Ls size ls) (p : Nat) {x : Int} (h0 : 1 ≤ x) (h1 : x ≤ size) : Ls size (ls.set p x) :=
  ⟨L.s0, L.s1, by rw [List.length_set]; exact L.len, fun y hy => by
    rcases List.mem_or_eq_of_mem_set hy with q | q
    · exact L.bd y q
    · rw [q]
      exact ⟨h0, h1⟩⟩
section
variable {P : Program} {w : World} {K : PySem.W.Frag} {mg : Str → Option Value} {base : Heap}
/-! __init__ -/
def spInit (C : Addr) : Sp := fun vs H Q _ => ∃ (p dx : Addr) (size : Int) (a : Addr) (ls : List Int), vs = [.ref p, .int size, .ref a] ∧ H p = some (.ins C dx []) ∧ Seq H a ls ∧ Ls size ls ∧
  ∀ H', (∀ b o, H b = some o → b ≠ p → H' b = some o) → WAt C H' p size ls → Q .non H'
theorem scInit : FnScope ["self", "size", "letters"] ["self", "size", "letters"] (defScope sInit) := ⟨rfl, rfl, rfl, by decide +kernel, rfl, by decide +kernel, by decide +kernel⟩
theorem ok_init {f f1 f2 C : Addr} {fd fd1 fd2 : FuncData} (B : Bare mg) (T : Cw K mg C) (F : Fun K "__init__" "Word.__init__" sInit f fd) (F1 : Df K mg "check_size" sCkSize f1 fd1) (b1 : Binds K fd1 ["size"] [])
    (G1 : FnOk P w K mg base CX0 3 f1 fd1 ["size"] spCkSize) (F2 : Df K mg "check_letters" sCkLetters f2 fd2) (b2 : Binds K fd2 ["size", "letters"] []) (G2 : FnOk P w K mg base CX0 3 f2 fd2 ["size", "letters"] spCkLetters) :
    FnOk P w K mg base CX0 4 f fd ["self", "size", "letters"] (spInit C) := by
  refine F.ok scInit (fun vs H Q E h => ?_) (fun cdv A outer s H vs Q E hr h => ?_)
  · obtain ⟨p, dx, size, a, ls, rfl, _⟩ := h
    rfl
  · obtain ⟨p, dx, size, a, ls, rfl, hp, hq, L, k⟩ := h
    refine ⟨_, pss_cons (ps_expr (pe_call G1 hr (by rfl) F1.g F1.fn.kp b1 .nil pass0 (pa_cons (pv 1) pa_nil))) (pss_cons (ps_expr (pe_call G2 hr (by rfl) F2.g F2.fn.kp b2 .nil pass0 (pa_cons (pv 1) (pa_cons (pv 2) pa_nil))))
      (pss_cons (ps_fld (pv 0) (pv 1) rfl) (pss_one (ps_fld (pv 0) (pe_callTy call_tuple_of (by rfl) B.tuple (by decide +kernel) (pa_cons (pv 2) pa_nil)) rfl)))), ?_⟩
    refine ⟨_, rfl, size, rfl, L.s0, L.s1, ?_⟩
    refine ⟨_, rfl, _, rfl, size, a, ls, rfl, hq, L, fun H1 s1 => ?_⟩
    refine ⟨_, rfl, _, rfl, p, C, dx, _, rfl, s1 _ _ hp, T.cl, T.nS, (by show 0 < 1000; decide), ?_⟩
    have nap : a ≠ p := hq.elim (fun e => ne_of e hp (by intro z; cases z)) fun e => ne_of e hp (by intro z; cases z)
    have hq2 : Seq (upd H1 p (.ins C dx (putF "size" (.int size) []))) a ls := by
      rcases hq.same s1 with e | e
      · exact .inl (by rw [upd_ne nap]; exact e)
      · exact .inr (by rw [upd_ne nap]; exact e)
    have hp2 : (upd H1 p (.ins C dx (putF "size" (.int size) []))) p = some (.ins C dx (putF "size" (.int size) [])) := upd_same
    have k2 : ∀ b o, H b = some o → b ≠ p → (upd H1 p (.ins C dx (putF "size" (.int size) []))) b = some o := fun b o e h => by
      rw [upd_ne h]
      exact s1 _ _ e
    generalize upd H1 p (.ins C dx (putF "size" (.int size) [])) = H2 at hq2 hp2 k2 ⊢
    rcases hq2 with e | e
    · refine ⟨_, rfl, a, _, rfl, .inl ⟨SqL.of e, fun t ht => ?_⟩⟩
      have npt : p ≠ t := ne_of_none hp2 ht
      refine ⟨_, rfl, p, C, dx, _, rfl, same_new ht _ _ hp2, T.cl, T.nL, (by show 1 < 1000; decide), ?_⟩
      refine k _ (fun b o z h => ?_) ⟨⟨dx, t, upd_same, ?_⟩, L⟩
      · rw [upd_ne h]
        exact same_new ht _ _ (k2 _ _ z h)
      · rw [upd_ne npt.symm, upd_same]
    · refine ⟨_, rfl, a, _, rfl, .inr ⟨SqT.of e, ?_⟩⟩
      refine ⟨_, rfl, p, C, dx, _, rfl, hp2, T.cl, T.nL, (by show 1 < 1000; decide), ?_⟩
      refine k _ (fun b o z h => ?_) ⟨⟨dx, a, upd_same, ?_⟩, L⟩
      · rw [upd_ne h]
        exact k2 _ _ z h
      · rw [upd_ne nap]
        exact e
/-! a word made -/
theorem made {C : Addr} {H : Hp} {Q : VK} {size : Int} {a : Addr} {ls : List Int} (hq : Seq H a ls) (L : Ls size ls) (k : ∀ x H', Same H H' → H x = none → WAt C H' x size ls → Q (.ref x) H') :
    ∀ x dx, H x = none → H dx = none → dx ≠ x → spInit C (.ref x :: ([.int size, .ref a] ++ [])) (upd (upd H dx (.own x)) x (.ins C dx [])) (fun v H2 => v = .non ∧ Q (.ref x) H2) E0 := fun x dx nx ndx ne => by
  have s2 : Same H (upd (upd H dx (.own x)) x (.ins C dx [])) := fun b o e => by
    rw [upd_ne (ne_of_none e nx), upd_ne (ne_of_none e ndx)]
    exact e
  exact ⟨x, dx, size, a, ls, rfl, upd_same, hq.same s2, L, fun H' kp W => ⟨rfl, k x H' (Same.made nx ndx kp) nx W⟩⟩
end
end Lw
/-! K. The methods of words. -/
namespace Lw
open PySem L2 LwE LwM
/-- what is known of __init__ -/
structure In_ (P : Program) (w : World) (K : PySem.W.Frag) (mg : Str → Option Value) (base : Heap) (C : Addr) (fI : Addr) (fdI : FuncData) : Prop where
  m : Mk K C fI
  ok : FnOk P w K mg base CX0 4 fI fdI ["self", "size", "letters"] (spInit C)
  b : Binds K fdI ["self", "size", "letters"] []
section
variable {P : Program} {w : World} {K : PySem.W.Frag} {mg : Str → Option Value} {base : Heap}
/-! with_letter -/
def spWith (C : Addr) : Sp := fun vs H Q _ => ∃ (a : Addr) (p x size : Int) (ls : List Int), vs = [.ref a, .int p, .int x] ∧ WAt C H a size ls ∧ 0 ≤ p ∧ p < (ls.length : Int) ∧ 1 ≤ x ∧ x ≤ size ∧
  ∀ b H', Same H H' → H b = none → WAt C H' b size (ls.set p.toNat x) → Q (.ref b) H'
theorem scWith : FnScope ["word", "place", "letter"] ["word", "place", "letter"] (defScope sWith) := ⟨rfl, rfl, rfl, by decide +kernel, rfl, by decide +kernel, by decide +kernel⟩
theorem ok_with {f fI C : Addr} {fd fdI : FuncData} (T : Cw K mg C) (F : Df K mg "with_letter" sWith f fd) (I : In_ P w K mg base C fI fdI) : FnOk P w K mg base CX0 6 f fd ["word", "place", "letter"] (spWith C) := by
  refine F.fn.ok scWith (fun vs H Q E h => ?_) (fun cdv A outer s H vs Q E hr h => ?_)
  · obtain ⟨a, p, x, size, ls, rfl, _⟩ := h
    rfl
  · obtain ⟨a, p, x, size, ls, rfl, W, p0, p1, x0, x1, k⟩ := h
    refine ⟨_, pss_one (ps_ret (pe_make I.m I.ok hr (by rfl) T.mgC I.b .nil pass0 (pa_cons (pe_fld (pv 0) rfl) (pa_cons
      (pe_op op_catA (pe_op op_catA (pe_slice sl_tup (pe_fld (pv 0) rfl) po_none (po_some (pv 1))) (pe_tup (pa_cons (pv 2) pa_nil))) (pe_slice sl_tup (pe_fld (pv 0) rfl) (po_some (pe_op op_add (pv 1) pe_int)) po_none)) pa_nil)))), ?_⟩
    obtain ⟨dx, t, h1, h2⟩ := W.ob
    have hlen := W.ls.len
    have e1 : (p.toNat : Int) = p := Int.toNat_of_nonneg p0
    refine ⟨_, rfl, a, C, dx, _, _, rfl, h1, T.cl, T.nS, wf_size _ _, ?_⟩
    refine ⟨_, rfl, a, C, dx, _, _, rfl, h1, T.cl, T.nL, wf_letters _ _, _, rfl, p, rfl, t, _, rfl, SqT.of h2, ?_, fun q hq => ?_⟩
    · rw [HT.sIx_none, ← e1, HT.sIx_nat, List.length_map]
      omega
    rw [cut_take ls p0]
    have h1q := same_new (o := .tup (nums (ls.take p.toNat))) hq _ _ h1
    have h2q := same_new (o := .tup (nums (ls.take p.toNat))) hq _ _ h2
    have eq : (upd H q (.tup (nums (ls.take p.toNat)))) q = some (.tup (nums (ls.take p.toNat))) := upd_same
    have sq : Same H (upd H q (.tup (nums (ls.take p.toNat)))) := same_new hq
    generalize upd H q (.tup (nums (ls.take p.toNat))) = H1 at h1q h2q eq sq ⊢
    refine ⟨_, rfl, (by show 1 ≤ sizeLine; decide), fun r hr1 => ?_⟩
    have er : (upd H1 r (.tup [.int x])) r = some (.tup [.int x]) := upd_same
    have s2 : Same H1 (upd H1 r (.tup [.int x])) := same_new hr1
    generalize upd H1 r (.tup [.int x]) = H2 at er s2 ⊢
    refine cat_any (s2 _ _ eq) er (by rw [List.length_map, List.length_take, sizeLine_eq]; simp; omega) fun y H3 s3 ey => ?_
    refine ⟨_, rfl, a, C, dx, _, _, rfl, s3 _ _ (s2 _ _ h1q), T.cl, T.nL, wf_letters _ _, _, rfl, _, _, rfl, rfl, _, rfl, t, _, rfl, SqT.of (s3 _ _ (s2 _ _ h2q)), ?_, fun v hv => ?_⟩
    · have e2 : p + 1 = ((p.toNat + 1 : Nat) : Int) := by omega
      rw [HT.sIx_none, e2, HT.sIx_nat, List.length_map]
      omega
    rw [cut_drop ls (show 0 ≤ p + 1 by omega)]
    have s4 : Same H3 (upd H3 v (.tup (nums (ls.drop (p + 1).toNat)))) := same_new hv
    have ev : (upd H3 v (.tup (nums (ls.drop (p + 1).toNat)))) v = some (.tup (nums (ls.drop (p + 1).toNat))) := upd_same
    generalize upd H3 v (.tup (nums (ls.drop (p + 1).toNat))) = H4 at s4 ev ⊢
    refine cat_any (s4 _ _ ey) ev (by rw [List.length_append, List.length_map, List.length_map, List.length_take, List.length_drop, sizeLine_eq]; simp; omega) fun z H5 s5 ez => ?_
    have ef : nums (ls.take p.toNat) ++ [V.int x] ++ nums (ls.drop (p + 1).toNat) = nums (ls.set p.toNat x) := by
      have e3 : (p + 1).toNat = p.toNat + 1 := by omega
      rw [e3, ← set_cut ls p.toNat x (by omega)]
      simp [nums]
    rw [ef] at ez
    have sAll : Same H H5 := ((sq.trans s2).trans (s3.trans s4)).trans s5
    exact made (.inr ez) (W.ls.set p.toNat x0 x1) fun b H' s6 nb W' => k b H' (sAll.trans s6) (sAll.free nb) W'
/-! __len__ -/
def spLen (C : Addr) : Sp := fun vs H Q _ => ∃ (a : Addr) (size : Int) (ls : List Int), vs = [.ref a] ∧ WAt C H a size ls ∧ Q (.int (ls.length : Nat)) H
theorem scLen : FnScope ["self"] ["self"] (defScope sLen) := ⟨rfl, rfl, rfl, by decide +kernel, rfl, by decide +kernel, by decide +kernel⟩
theorem ok_len {f C : Addr} {fd : FuncData} (B : Bare mg) (T : Cw K mg C) (F : Fun K "__len__" "Word.__len__" sLen f fd) : FnOk P w K mg base CX0 1 f fd ["self"] (spLen C) := by
  refine F.ok scLen (fun vs H Q E h => ?_) (fun cdv A outer s H vs Q E hr h => ?_)
  · obtain ⟨a, size, ls, rfl, _⟩ := h
    rfl
  · obtain ⟨a, size, ls, rfl, W, k⟩ := h
    obtain ⟨dx, t, h1, h2⟩ := W.ob
    refine ⟨_, pss_one (ps_ret (pe_callB call_len_seq (by rfl) B.len PySem.boot_len (pa_cons (pe_fld (pv 0) rfl) pa_nil))), ?_⟩
    refine ⟨_, rfl, a, C, dx, _, _, rfl, h1, T.cl, T.nL, wf_letters _ _, t, _, rfl, .inr (SqT.of h2), ?_⟩
    rw [List.length_map]
    exact k
/-! __eq__ -/
theorem eqv_nums : ∀ l r : List Int, PyData.eqvAll (l.map PyData.int) (r.map PyData.int) = decide (l = r)
  | [], [] => by simp [PyData.eqvAll]
  | [], _ :: _ => by simp [PyData.eqvAll]
  | _ :: _, [] => by simp [PyData.eqvAll]
  | x :: l, y :: r => by
    have ih := eqv_nums l r
    simp only [List.map_cons, PyData.eqvAll, PyData.eqv, ih]
    by_cases h1 : x = y
    · subst h1
      simp
    · simp [h1]
theorem shaped_tup (l : List Int) : SeqAt.shaped (.tuple (l.map PyData.int)) = true := by
  have h := lay_nums l
  unfold SeqAt.shaped
  simp [PyData.canLay0, PyData.depth, h.1, h.2]
def spEq (C : Addr) : Sp := fun vs H Q _ => ∃ (a b : Addr) (s1 s2 : Int) (l1 l2 : List Int), vs = [.ref a, .ref b] ∧ WAt C H a s1 l1 ∧ WAt C H b s2 l2 ∧ Q (.bl (decide (s1 = s2 ∧ l1 = l2))) H
theorem scEq : FnScope ["self", "other"] ["self", "other"] (defScope sEq) := ⟨rfl, rfl, rfl, by decide +kernel, rfl, by decide +kernel, by decide +kernel⟩
theorem ty_word {C : Addr} (T : Cw K mg C) {H : Hp} {a : Addr} {s : Int} {l : List Int} (W : WAt C H a s l) : TyX K H (.ref a) (.ref C) := by
  obtain ⟨dx, t, h1, h2⟩ := W.ob
  exact TyX.base (TyOf.ins h1 T.cl T.ca T.cn T.ct T.cm)
theorem kit_word {C : Addr} : PySem.W.kitOne K (.ref C) (.ref C) = some true := by
  unfold PySem.W.kitOne
  simp
theorem ok_eq {f C : Addr} {fd : FuncData} (B : Bare mg) (T : Cw K mg C) (F : Fun K "__eq__" "Word.__eq__" sEq f fd) : FnOk P w K mg base CX0 1 f fd ["self", "other"] (spEq C) := by
  refine F.ok scEq (fun vs H Q E h => ?_) (fun cdv A outer s H vs Q E hr h => ?_)
  · obtain ⟨a, b, s1, s2, l1, l2, rfl, _⟩ := h
    rfl
  · obtain ⟨a, b, s1, s2, l1, l2, rfl, W1, W2, k⟩ := h
    obtain ⟨dx, t, h1, h2⟩ := W1.ob
    obtain ⟨dy, u, g1, g2⟩ := W2.ob
    refine ⟨_, pss_one (ps_ret (pe_and (pe_callB call_isi (by rfl) B.isinstance (by decide +kernel) (pa_cons (pv 1) (pa_cons (pe_glob (v := .ref C) (by rfl) T.mgC rfl) pa_nil)))
      (pe_and (pe_cmpR op_eq (pe_fld (pv 0) rfl) (pe_fld (pv 1) rfl) (nomark _)) (pe_one (pe_cmpR (op_eqD hr.units) (pe_fld (pv 0) rfl) (pe_fld (pv 1) rfl) (nomark _)))))), ?_⟩
    refine ⟨_, rfl, _, _, .ref C, .ref C, true, rfl, ClsV.own C, ty_word T W2, kit_word, true, rfl, iteT ?_⟩
    refine ⟨_, rfl, a, C, dx, _, _, rfl, h1, T.cl, T.nS, wf_size _ _, _, rfl, b, C, dy, _, _, rfl, g1, T.cl, T.nS, wf_size _ _, rfl, _, rfl, ?_⟩
    by_cases hs : s1 = s2
    · refine ite2 (fun _ => ?_) (fun z => absurd (by simp [hs]) z)
      refine ⟨_, rfl, a, C, dx, _, _, rfl, h1, T.cl, T.nL, wf_letters _ _, _, rfl, b, C, dy, _, _, rfl, g1, T.cl, T.nL, wf_letters _ _, ?_⟩
      refine ⟨.tuple (l1.map PyData.int), .tuple (l2.map PyData.int), .tup (SqT.of h2) (dp_nums l1), .tup (SqT.of g2) (dp_nums l2), shaped_tup l1, shaped_tup l2, ?_⟩
      have e : PyData.eqv (.tuple (l1.map PyData.int)) (.tuple (l2.map PyData.int)) = decide (s1 = s2 ∧ l1 = l2) := by
        show PyData.eqvAll _ _ = _
        rw [eqv_nums]
        simp [hs]
      rw [e]
      exact k
    · refine ite2 (fun z => absurd (by simpa using z) hs) (fun _ => ?_)
      have e : decide (s1 = s2 ∧ l1 = l2) = false := by simp [hs]
      rw [e] at k
      exact k
/-! __add__ -/
def spAdd (C : Addr) : Sp := fun vs H Q _ => ∃ (a b : Addr) (size : Int) (l1 l2 : List Int), vs = [.ref a, .ref b] ∧ WAt C H a size l1 ∧ WAt C H b size l2 ∧ l1.length + l2.length ≤ 40 ∧
  ∀ x H', Same H H' → H x = none → WAt C H' x size (l1 ++ l2) → Q (.ref x) H'
theorem scAdd : FnScope ["self", "other"] ["self", "other"] (defScope sAdd) := ⟨rfl, rfl, rfl, by decide +kernel, rfl, by decide +kernel, by decide +kernel⟩
theorem Ls.app {size : Int} {l r : List Int} (L : Ls size l) (R : Ls size r) (h : l.length + r.length ≤ 40) : Ls size (l ++ r) :=
  ⟨L.s0, L.s1, by rw [List.length_append]; exact h, fun x hx => by
    rcases List.mem_append.mp hx with z | z
    · exact L.bd x z
    · exact R.bd x z⟩
theorem ok_add {f fI C : Addr} {fd fdI : FuncData} (B : Bare mg) (N : Nums mg) (T : Cw K mg C) (F : Fun K "__add__" "Word.__add__" sAdd f fd) (I : In_ P w K mg base C fI fdI) : FnOk P w K mg base CX0 6 f fd ["self", "other"] (spAdd C) := by
  refine F.ok scAdd (fun vs H Q E h => ?_) (fun cdv A outer s H vs Q E hr h => ?_)
  · obtain ⟨a, b, size, l1, l2, rfl, _⟩ := h
    rfl
  · obtain ⟨a, b, size, l1, l2, rfl, W1, W2, hl, k⟩ := h
    obtain ⟨dx, t, h1, h2⟩ := W1.ob
    obtain ⟨dy, u, g1, g2⟩ := W2.ob
    obtain ⟨t3, e3⟩ := N.mostL
    refine ⟨_, pss_cons (ps_if (pt_not (pt_val (pe_callB call_isi (by rfl) B.isinstance (by decide +kernel) (pa_cons (pv 1) (pa_cons (pe_glob (v := .ref C) (by rfl) T.mgC rfl) pa_nil))))) pss_never pss_nil)
      (pss_cons (ps_if (pt_cmpR op_ne (pe_fld (pv 0) rfl) (pe_fld (pv 1) rfl) (nomark _)) pss_never pss_nil)
      (pss_cons (ps_if (pt_cmpR op_gt (pe_op op_add (pe_callB call_len_seq (by rfl) B.len PySem.boot_len (pa_cons (pe_fld (pv 0) rfl) pa_nil)) (pe_callB call_len_seq (by rfl) B.len PySem.boot_len (pa_cons (pe_fld (pv 1) rfl) pa_nil)))
        (pe_glob (v := .int 40) (by rfl) e3 ⟨_, rfl⟩) (nomark _)) pss_never pss_nil)
      (pss_one (ps_ret (pe_make I.m I.ok hr (by rfl) T.mgC I.b .nil pass0 (pa_cons (pe_fld (pv 0) rfl) (pa_cons (pe_op op_catA (pe_fld (pv 0) rfl) (pe_fld (pv 1) rfl)) pa_nil))))))), ?_⟩
    refine ⟨_, rfl, _, _, .ref C, .ref C, true, rfl, ClsV.own C, ty_word T W2, kit_word, true, rfl, iteF ?_⟩
    refine ⟨_, rfl, a, C, dx, _, _, rfl, h1, T.cl, T.nS, wf_size _ _, _, rfl, b, C, dy, _, _, rfl, g1, T.cl, T.nS, wf_size _ _, rfl, _, rfl, iteNS rfl ?_⟩
    refine ⟨_, rfl, a, C, dx, _, _, rfl, h1, T.cl, T.nL, wf_letters _ _, t, _, rfl, .inr (SqT.of h2), _, rfl, b, C, dy, _, _, rfl, g1, T.cl, T.nL, wf_letters _ _, u, _, rfl, .inr (SqT.of g2), _, _, rfl, rfl, _, _, rfl, rfl, _, rfl, ?_⟩
    rw [List.length_map, List.length_map]
    refine ite2 (fun z => ?_) (fun _ => ?_)
    · have := of_decide_eq_true z
      omega
    refine ⟨_, rfl, a, C, dx, _, _, rfl, h1, T.cl, T.nS, wf_size _ _, _, rfl, a, C, dx, _, _, rfl, h1, T.cl, T.nL, wf_letters _ _, _, rfl, b, C, dy, _, _, rfl, g1, T.cl, T.nL, wf_letters _ _, ?_⟩
    refine cat_any h2 g2 (by rw [List.length_map, List.length_map, sizeLine_eq]; omega) fun z H5 s5 ez => ?_
    have ef : nums l1 ++ nums l2 = nums (l1 ++ l2) := by simp [nums]
    rw [ef] at ez
    exact made (.inr ez) (W1.ls.app W2.ls hl) fun x H' s6 nb W' => k x H' (s5.trans s6) (s5.free nb) W'
end
end Lw
/-! N. What can be done at an index. -/
namespace LwM
def lst (l : List Int) : Int := l.getLast?.getD 0
def fst (l : List Int) : Int := l.head?.getD 0
def upL (i : Int) (l : List Int) : List Int := l.set (lst (lows i l)).toNat (i + 1)
def dnL (i : Int) (l : List Int) : List Int := l.set (fst (highs i l)).toNat i
theorem lst_app (l r : List Int) (h : r ≠ []) : lst (l ++ r) = lst r := by
  unfold lst
  rw [List.getLast?_append]
  cases r with
  | nil => exact absurd rfl h
  | cons a r =>
    rw [List.getLast?_eq_some_getLast (List.cons_ne_nil a r)]
    rfl
theorem lst_mem {l : List Int} (h : l ≠ []) : lst l ∈ l := by
  cases l with
  | nil => exact absurd rfl h
  | cons a r =>
    unfold lst
    rw [List.getLast?_eq_some_getLast (List.cons_ne_nil a r)]
    exact List.getLast_mem _
theorem lst_snoc {l : List Int} (h : l ≠ []) : ∃ r, l = r ++ [lst l] := by
  refine ⟨l.dropLast, ?_⟩
  unfold lst
  rw [List.getLast?_eq_some_getLast h]
  exact (List.dropLast_concat_getLast h).symm
theorem fst_mem {l : List Int} (h : l ≠ []) : fst l ∈ l := by
  cases l with
  | nil => exact absurd rfl h
  | cons a r => exact List.mem_cons_self ..
end LwM
namespace Lw
open PySem L2 LwE LwM
section
variable {P : Program} {w : World} {K : PySem.W.Frag} {mg : Str → Option Value} {base : Heap}
def spSpare (C : Addr) : Sp := fun vs H Q _ => ∃ (a : Addr) (i size : Int) (ls : List Int), vs = [.ref a, .int i] ∧ WAt C H a size ls ∧ 1 ≤ i ∧ i ≤ size - 1 ∧
  ∀ (p b c : Addr) H', Same H H' → H' p = some (.tup [.ref b, .ref c]) → H' b = some (.tup (nums (lows i ls))) → H' c = some (.tup (nums (highs i ls))) → Q (.ref p) H'
theorem scSpare : FnScope ["self", "i", "pairs", "lows", "highs"] ["self", "i"] (defScope sSpare) := ⟨rfl, rfl, rfl, by decide +kernel, rfl, by decide +kernel, by decide +kernel⟩
theorem ok_spare {f f1 f2 C : Addr} {fd fd1 fd2 : FuncData} (B : Bare mg) (T : Cw K mg C) (F : Fun K "spare" "Word.spare" sSpare f fd) (F1 : Df K mg "check_index" sCkIndex f1 fd1) (b1 : Binds K fd1 ["size", "i"] [])
    (G1 : FnOk P w K mg base CX0 3 f1 fd1 ["size", "i"] spCkIndex) (F2 : Df K mg "bracketed" sBrack f2 fd2) (b2 : Binds K fd2 ["letters", "i"] []) (G2 : FnOk P w K mg base CX0 1 f2 fd2 ["letters", "i"] spBrack) :
    FnOk P w K mg base CX0 4 f fd ["self", "i"] (spSpare C) := by
  refine F.ok scSpare (fun vs H Q E h => ?_) (fun cdv A outer s H vs Q E hr h => ?_)
  · obtain ⟨a, i, size, ls, rfl, _⟩ := h
    rfl
  · obtain ⟨a, i, size, ls, rfl, W, i0, i1, k⟩ := h
    obtain ⟨dx, t, h1, h2⟩ := W.ob
    have hr1 : Room 1 _ := hr.mono (by decide)
    refine ⟨_, pss_cons (ps_expr (pe_call G1 hr (by rfl) F1.g F1.fn.kp b1 .nil pass0 (pa_cons (pe_fld (pv 0) rfl) (pa_cons (pv 1) pa_nil))))
      (pss_cons (ps_asg (pe_call G2 hr1 (by rfl) F2.g F2.fn.kp b2 .nil pass0 (pa_cons (pe_fld (pv 0) rfl) (pa_cons (pv 1) pa_nil)))
        (pg_tup rfl (pgs_cons (pg_name (i := 2) scSpare.nd rfl (Or.inl rfl)) (pgs_cons (pg_name (i := 3) scSpare.nd rfl (Or.inl rfl)) (pgs_cons (pg_name (i := 4) scSpare.nd rfl (Or.inl rfl)) pgs_nil)))))
      (pss_one (ps_ret (pe_tup (pa_cons (pe_callTy call_tuple_of (by rfl) B.tuple (by decide +kernel) (pa_cons (pv 3) pa_nil)) (pa_cons (pe_callTy call_tuple_of (by rfl) B.tuple (by decide +kernel) (pa_cons (pv 4) pa_nil)) pa_nil)))))), ?_⟩
    refine ⟨_, rfl, a, C, dx, _, _, rfl, h1, T.cl, T.nS, wf_size _ _, _, rfl, size, i, rfl, i0, i1, ?_⟩
    refine ⟨_, rfl, a, C, dx, _, _, rfl, h1, T.cl, T.nL, wf_letters _ _, _, rfl, t, i, ls, rfl, .inr h2, by have := W.ls.len; omega, fun p x b c ps H1 s1 e1 e2 e3 e4 => ?_⟩
    refine ⟨p, _, rfl, SqT.of e1, rfl, _, _, rfl, _, _, rfl, _, _, rfl, rfl, ?_⟩
    refine ⟨_, rfl, b, _, rfl, .inl ⟨SqL.of e3, fun u hu => ?_⟩⟩
    have s2 := same_new (o := .tup (nums (lows i ls))) hu
    refine ⟨_, rfl, c, _, rfl, .inl ⟨SqL.of (s2 _ _ e4), fun v hv => ?_⟩⟩
    have s3 := same_new (o := .tup (nums (highs i ls))) hv
    refine ⟨(by show 2 ≤ sizeLine; decide), fun q hq => ?_⟩
    have s4 := same_new (o := .tup [.ref u, .ref v]) hq
    exact k q u v _ (((s1.trans s2).trans s3).trans s4) upd_same (s4 _ _ (s3 _ _ upd_same)) (s4 _ _ upd_same)
/-! how often -/
structure Sp_ (P : Program) (w : World) (K : PySem.W.Frag) (mg : Str → Option Value) (base : Heap) (C : Addr) (f : Addr) (fd : FuncData) : Prop where
  m : Meth K C "spare" f
  ok : FnOk P w K mg base CX0 4 f fd ["self", "i"] (spSpare C)
  b : Binds K fd ["self", "i"] []
def spUps (C : Addr) : Sp := fun vs H Q _ => ∃ (a : Addr) (i size : Int) (ls : List Int), vs = [.ref a, .int i] ∧ WAt C H a size ls ∧ 1 ≤ i ∧ i ≤ size - 1 ∧ ∀ H', Same H H' → Q (.int (up i ls : Nat)) H'
def spDowns (C : Addr) : Sp := fun vs H Q _ => ∃ (a : Addr) (i size : Int) (ls : List Int), vs = [.ref a, .int i] ∧ WAt C H a size ls ∧ 1 ≤ i ∧ i ≤ size - 1 ∧ ∀ H', Same H H' → Q (.int (dn i ls : Nat)) H'
theorem no_spare (t : Addr) (z : Int) : (wf t z).lookup ("spare" : Str) = none := wf_no t z (by decide +kernel) (by decide +kernel)
theorem scUps : FnScope ["self", "i"] ["self", "i"] (defScope sUps) := ⟨rfl, rfl, rfl, by decide +kernel, rfl, by decide +kernel, by decide +kernel⟩
theorem ok_ups {f fS C : Addr} {fd fdS : FuncData} (B : Bare mg) (T : Cw K mg C) (F : Fun K "ups" "Word.ups" sUps f fd) (S : Sp_ P w K mg base C fS fdS) : FnOk P w K mg base CX0 5 f fd ["self", "i"] (spUps C) := by
  refine F.ok scUps (fun vs H Q E h => ?_) (fun cdv A outer s H vs Q E hr h => ?_)
  · obtain ⟨a, i, size, ls, rfl, _⟩ := h
    rfl
  · obtain ⟨a, i, size, ls, rfl, W, i0, i1, k⟩ := h
    obtain ⟨dx, t, h1, h2⟩ := W.ob
    refine ⟨_, pss_one (ps_ret (pe_callB call_len_seq (by rfl) B.len PySem.boot_len (pa_cons (pe_ix ix_tup (pe_meth (pv 0) T.cl S.m S.ok hr S.b .nil pass0 (pa_cons (pv 1) pa_nil)) pe_int (fun _ _ => rfl)) pa_nil))), ?_⟩
    refine ⟨_, rfl, a, dx, _, rfl, h1, no_spare _ _, _, rfl, a, i, size, ls, rfl, W, i0, i1, fun p b c H1 s1 e1 e2 e3 => ?_⟩
    refine ⟨p, _, _, _, rfl, rfl, SqT.of e1, at_of (j := 0) rfl rfl, b, _, rfl, .inr (SqT.of e2), ?_⟩
    rw [List.length_map]
    exact k H1 s1
theorem scDowns : FnScope ["self", "i"] ["self", "i"] (defScope sDowns) := ⟨rfl, rfl, rfl, by decide +kernel, rfl, by decide +kernel, by decide +kernel⟩
theorem ok_downs {f fS C : Addr} {fd fdS : FuncData} (B : Bare mg) (T : Cw K mg C) (F : Fun K "downs" "Word.downs" sDowns f fd) (S : Sp_ P w K mg base C fS fdS) : FnOk P w K mg base CX0 5 f fd ["self", "i"] (spDowns C) := by
  refine F.ok scDowns (fun vs H Q E h => ?_) (fun cdv A outer s H vs Q E hr h => ?_)
  · obtain ⟨a, i, size, ls, rfl, _⟩ := h
    rfl
  · obtain ⟨a, i, size, ls, rfl, W, i0, i1, k⟩ := h
    obtain ⟨dx, t, h1, h2⟩ := W.ob
    refine ⟨_, pss_one (ps_ret (pe_callB call_len_seq (by rfl) B.len PySem.boot_len (pa_cons (pe_ix ix_tup (pe_meth (pv 0) T.cl S.m S.ok hr S.b .nil pass0 (pa_cons (pv 1) pa_nil)) pe_int (fun _ _ => rfl)) pa_nil))), ?_⟩
    refine ⟨_, rfl, a, dx, _, rfl, h1, no_spare _ _, _, rfl, a, i, size, ls, rfl, W, i0, i1, fun p b c H1 s1 e1 e2 e3 => ?_⟩
    refine ⟨p, _, _, _, rfl, rfl, SqT.of e1, at_of (j := 1) rfl rfl, c, _, rfl, .inr (SqT.of e3), ?_⟩
    rw [List.length_map]
    exact k H1 s1
/-! up, down -/
def spUp (C : Addr) : Sp := fun vs H Q _ => ∃ (a : Addr) (i size : Int) (ls : List Int), vs = [.ref a, .int i] ∧ WAt C H a size ls ∧ 1 ≤ i ∧ i ≤ size - 1 ∧ lows i ls ≠ [] ∧ ∀ b H', Same H H' → H b = none → WAt C H' b size (upL i ls) → Q (.ref b) H'
def spDown (C : Addr) : Sp := fun vs H Q _ => ∃ (a : Addr) (i size : Int) (ls : List Int), vs = [.ref a, .int i] ∧ WAt C H a size ls ∧ 1 ≤ i ∧ i ≤ size - 1 ∧ highs i ls ≠ [] ∧ ∀ b H', Same H H' → H b = none → WAt C H' b size (dnL i ls) → Q (.ref b) H'
theorem not_emp {l : List Int} (h : l ≠ []) : (!(nums l).isEmpty) = true := by
  cases l with
  | nil => exact absurd rfl h
  | cons a r => rfl
theorem at_lst {l : List Int} (h : l ≠ []) : atI (nums l) (-1) = some (.int (lst l)) := by
  obtain ⟨r, e⟩ := lst_snoc h
  have e2 : nums l = nums r ++ [.int (lst l)] := by
    rw [e]
    simp [nums, lst]
  rw [e2]
  exact atI_last _ _
theorem at_fst {l : List Int} (h : l ≠ []) : atI (nums l) 0 = some (.int (fst l)) := by
  cases l with
  | nil => exact absurd rfl h
  | cons a r => exact at_of (j := 0) rfl rfl
theorem scUp : FnScope ["self", "i", "lows"] ["self", "i"] (defScope sUp) := ⟨rfl, rfl, rfl, by decide +kernel, rfl, by decide +kernel, by decide +kernel⟩
theorem ok_up {f fS f2 C : Addr} {fd fdS fd2 : FuncData} (T : Cw K mg C) (F : Fun K "up" "Word.up" sUp f fd) (S : Sp_ P w K mg base C fS fdS) (F2 : Df K mg "with_letter" sWith f2 fd2) (b2 : Binds K fd2 ["word", "place", "letter"] [])
    (G2 : FnOk P w K mg base CX0 6 f2 fd2 ["word", "place", "letter"] (spWith C)) : FnOk P w K mg base CX0 7 f fd ["self", "i"] (spUp C) := by
  refine F.ok scUp (fun vs H Q E h => ?_) (fun cdv A outer s H vs Q E hr h => ?_)
  · obtain ⟨a, i, size, ls, rfl, _⟩ := h
    rfl
  · obtain ⟨a, i, size, ls, rfl, W, i0, i1, hne, k⟩ := h
    obtain ⟨dx, t, h1, h2⟩ := W.ob
    have hr4 : Room 4 _ := hr.mono (by decide)
    refine ⟨_, pss_cons (ps_set (i := 2) scUp.nd rfl (Or.inl rfl) (pe_ix ix_tup (pe_meth (pv 0) T.cl S.m S.ok hr4 S.b .nil pass0 (pa_cons (pv 1) pa_nil)) pe_int (fun _ _ => rfl)))
      (pss_cons (ps_if (pt_not (pt_truth (pv 2) (by intro _; rfl))) pss_never pss_nil)
      (pss_one (ps_ret (pe_call G2 hr (by rfl) F2.g F2.fn.kp b2 .nil pass0 (pa_cons (pv 0) (pa_cons (pe_ix ix_tup (pv 2) (pe_un un_neg pe_int) (fun _ _ => rfl)) (pa_cons (pe_op op_add (pv 1) pe_int) pa_nil))))))), ?_⟩
    refine ⟨_, rfl, a, dx, _, rfl, h1, no_spare _ _, _, rfl, a, i, size, ls, rfl, W, i0, i1, fun p b c H1 s1 e1 e2 e3 => ?_⟩
    refine ⟨p, _, _, _, rfl, rfl, SqT.of e1, at_of (j := 0) rfl rfl, ?_⟩
    refine ⟨_, rfl, _, .inr (.inl ⟨_, SqT.of e2, rfl⟩), ?_⟩
    rw [not_emp hne]
    refine iteF ?_
    have bd := br_bd (i := i) (l := ls) (.inl (lst_mem hne))
    refine ⟨_, rfl, _, rfl, 1, rfl, b, _, _, _, rfl, rfl, SqT.of e2, at_lst hne, _, rfl, _, _, rfl, rfl, a, lst (lows i ls), i + 1, size, ls, rfl, W.same s1, bd.1, bd.2, by omega, by omega, fun x H' s2 nx W' => ?_⟩
    exact k x H' (s1.trans s2) (s1.free nx) W'
theorem scDown : FnScope ["self", "i", "highs"] ["self", "i"] (defScope sDown) := ⟨rfl, rfl, rfl, by decide +kernel, rfl, by decide +kernel, by decide +kernel⟩
theorem ok_down {f fS f2 C : Addr} {fd fdS fd2 : FuncData} (T : Cw K mg C) (F : Fun K "down" "Word.down" sDown f fd) (S : Sp_ P w K mg base C fS fdS) (F2 : Df K mg "with_letter" sWith f2 fd2) (b2 : Binds K fd2 ["word", "place", "letter"] [])
    (G2 : FnOk P w K mg base CX0 6 f2 fd2 ["word", "place", "letter"] (spWith C)) : FnOk P w K mg base CX0 7 f fd ["self", "i"] (spDown C) := by
  refine F.ok scDown (fun vs H Q E h => ?_) (fun cdv A outer s H vs Q E hr h => ?_)
  · obtain ⟨a, i, size, ls, rfl, _⟩ := h
    rfl
  · obtain ⟨a, i, size, ls, rfl, W, i0, i1, hne, k⟩ := h
    obtain ⟨dx, t, h1, h2⟩ := W.ob
    have hr4 : Room 4 _ := hr.mono (by decide)
    refine ⟨_, pss_cons (ps_set (i := 2) scDown.nd rfl (Or.inl rfl) (pe_ix ix_tup (pe_meth (pv 0) T.cl S.m S.ok hr4 S.b .nil pass0 (pa_cons (pv 1) pa_nil)) pe_int (fun _ _ => rfl)))
      (pss_cons (ps_if (pt_not (pt_truth (pv 2) (by intro _; rfl))) pss_never pss_nil)
      (pss_one (ps_ret (pe_call G2 hr (by rfl) F2.g F2.fn.kp b2 .nil pass0 (pa_cons (pv 0) (pa_cons (pe_ix ix_tup (pv 2) pe_int (fun _ _ => rfl)) (pa_cons (pv 1) pa_nil))))))), ?_⟩
    refine ⟨_, rfl, a, dx, _, rfl, h1, no_spare _ _, _, rfl, a, i, size, ls, rfl, W, i0, i1, fun p b c H1 s1 e1 e2 e3 => ?_⟩
    refine ⟨p, _, _, _, rfl, rfl, SqT.of e1, at_of (j := 1) rfl rfl, ?_⟩
    refine ⟨_, rfl, _, .inr (.inl ⟨_, SqT.of e3, rfl⟩), ?_⟩
    rw [not_emp hne]
    refine iteF ?_
    have bd := br_bd (i := i) (l := ls) (.inr (fst_mem hne))
    refine ⟨_, rfl, _, rfl, c, _, _, _, rfl, rfl, SqT.of e3, at_fst hne, _, rfl, a, fst (highs i ls), i, size, ls, rfl, W.same s1, bd.1, bd.2, by omega, by omega, fun x H' s2 nx W' => ?_⟩
    exact k x H' (s1.trans s2) (s1.free nx) W'
end
end Lw
/-! Q. Words put together: which letter changes; the numbers of many parts; a falling row put in. -/
namespace LwM
theorem lst_drop (l : List Int) (n : Nat) (h : n < l.length) : lst (l.drop n) = lst l := by
  unfold lst
  rw [List.getLast?_drop, if_neg (by omega)]
theorem lst_map (l : List Int) (d : Int) (h : l ≠ []) : lst (l.map (· + d)) = lst l + d := by
  unfold lst
  rw [List.getLast?_map, List.getLast?_eq_some_getLast h]
  rfl
theorem fst_map (l : List Int) (d : Int) (h : l ≠ []) : fst (l.map (· + d)) = fst l + d := by
  cases l with
  | nil => exact absurd rfl h
  | cons a r => rfl
theorem ne_len {l : List Int} (h : 0 < l.length) : l ≠ [] := by
  intro e
  rw [e] at h
  cases h
theorem upL_right (i : Int) (l r : List Int) (h : dn i l < up i r) : upL i (l ++ r) = l ++ upL i r := by
  have hne : lows i r ≠ [] := ne_len (by unfold up at h; omega)
  have hl : (highs i l).length < ((lows i r).map (· + (l.length : Int))).length := by
    rw [List.length_map]
    exact h
  have e : lst (lows i (l ++ r)) = lst (lows i r) + l.length := by
    rw [lows_app, lst_app _ _ (ne_len (by rw [List.length_drop]; omega)), lst_drop _ _ hl, lst_map _ _ hne]
  have b := br_bd (i := i) (l := r) (.inl (lst_mem hne))
  unfold upL
  rw [e, List.set_append_right _ _ (by omega)]
  congr 2
  omega
theorem upL_left (i : Int) (l r : List Int) (h : up i r ≤ dn i l) (hne : lows i l ≠ []) : upL i (l ++ r) = upL i l ++ r := by
  have e : lows i (l ++ r) = lows i l := by
    rw [lows_app, List.drop_of_length_le (by rw [List.length_map]; exact h), List.append_nil]
  have b := br_bd (i := i) (l := l) (.inl (lst_mem hne))
  unfold upL
  rw [e, List.set_append_left _ _ (by omega)]
theorem dnL_left (i : Int) (l r : List Int) (h : up i r < dn i l) : dnL i (l ++ r) = dnL i l ++ r := by
  have hne : highs i l ≠ [] := ne_len (by unfold dn at h; omega)
  have e : fst (highs i (l ++ r)) = fst (highs i l) := by
    rw [highs_app]
    have h2 : 0 < (highs i l).length - (lows i r).length := by unfold up dn at h; omega
    revert h2 hne
    cases highs i l with
    | nil => intro hne _; exact absurd rfl hne
    | cons a A =>
      intro _ h2
      obtain ⟨k, hk⟩ : ∃ k, (a :: A).length - (lows i r).length = k + 1 := ⟨(a :: A).length - (lows i r).length - 1, by omega⟩
      rw [hk]
      rfl
  have b := br_bd (i := i) (l := l) (.inr (fst_mem hne))
  unfold dnL
  rw [e, List.set_append_left _ _ (by omega)]
theorem dnL_right (i : Int) (l r : List Int) (h : dn i l ≤ up i r) (hne : highs i r ≠ []) : dnL i (l ++ r) = l ++ dnL i r := by
  have e : highs i (l ++ r) = (highs i r).map (· + (l.length : Int)) := by
    rw [highs_app, Nat.sub_eq_zero_of_le (show (highs i l).length ≤ (lows i r).length from h), List.take_zero, List.nil_append]
  have b := br_bd (i := i) (l := r) (.inr (fst_mem hne))
  unfold dnL
  rw [e, fst_map _ _ hne, List.set_append_right _ _ (by omega)]
  congr 2
  omega
/-- all parts one behind another -/
def flat (ps : List (List Int)) : List Int := ps.foldl (· ++ ·) []
theorem flat_snoc (ps : List (List Int)) (l : List Int) : flat (ps ++ [l]) = flat ps ++ l := by
  unfold flat
  rw [List.foldl_append]
  rfl
theorem flat_len : ∀ (ps : List (List Int)) (n : Nat), (∀ l ∈ ps, l.length ≤ n) → (flat ps).length ≤ ps.length * n := by
  intro ps n h
  have key : ∀ (ps : List (List Int)) (a : List Int), (∀ l ∈ ps, l.length ≤ n) → (ps.foldl (· ++ ·) a).length ≤ a.length + ps.length * n := by
    intro ps
    induction ps with
    | nil => intro a _; simp
    | cons l ps ih =>
      intro a h
      have h1 := ih (a ++ l) fun x hx => h x (List.mem_cons_of_mem _ hx)
      have h2 := h l (List.mem_cons_self ..)
      rw [List.length_append] at h1
      rw [List.foldl_cons, List.length_cons, Nat.succ_mul]
      omega
  have := key ps [] h
  simpa [flat] using this
theorem num_step (i : Int) (l r : List Int) : ((up i (l ++ r) : Nat) : Int) = (up i l : Nat) + (up i r : Nat) - (if ((up i r : Nat) : Int) < (dn i l : Nat) then ((up i r : Nat) : Int) else (dn i l : Nat)) ∧
    ((dn i (l ++ r) : Nat) : Int) = (dn i l : Nat) + (dn i r : Nat) - (if ((up i r : Nat) : Int) < (dn i l : Nat) then ((up i r : Nat) : Int) else (dn i l : Nat)) := by
  rw [up_app, dn_app]
  split <;> omega
/-- the falling row of all letters has nothing left over -/
theorem fall (size i : Int) (h0 : 2 ≤ size) (h1 : size ≤ 6) (h2 : 1 ≤ i) (h3 : i ≤ size - 1) : up i (LwE.dnV size 0) = 0 ∧ dn i (LwE.dnV size 0) = 0 := by
  rcases (show size = 2 ∨ size = 3 ∨ size = 4 ∨ size = 5 ∨ size = 6 by omega) with e | e | e | e | e <;> subst e <;>
    rcases (show i = 1 ∨ i = 2 ∨ i = 3 ∨ i = 4 ∨ i = 5 by omega) with e | e | e | e | e <;> subst e <;> first | omega | decide
theorem fall_in (size i : Int) (l r : List Int) (h0 : 2 ≤ size) (h1 : size ≤ 6) (h2 : 1 ≤ i) (h3 : i ≤ size - 1) :
    up i (l ++ LwE.dnV size 0 ++ r) = up i (l ++ r) ∧ dn i (l ++ LwE.dnV size 0 ++ r) = dn i (l ++ r) := by
  obtain ⟨f1, f2⟩ := fall size i h0 h1 h2 h3
  have e1 := up_app i (l ++ LwE.dnV size 0) r
  have e2 := dn_app i (l ++ LwE.dnV size 0) r
  have e3 := up_app i l (LwE.dnV size 0)
  have e4 := dn_app i l (LwE.dnV size 0)
  have e5 := up_app i l r
  have e6 := dn_app i l r
  rw [f1, f2] at *
  omega
end LwM
/-! R. The law's own numbers of parts, and the part that changes. -/
namespace Lw
open PySem L2 LwE LwM
/-- the methods that the law asks -/
structure Ms (P : Program) (w : World) (K : PySem.W.Frag) (mg : Str → Option Value) (base : Heap) (C fUps fDowns fUp fDown fAdd fEq fLen : Addr) (dUps dDowns dUp dDown dAdd dEq dLen : FuncData) : Prop where
  mUps : Meth K C "ups" fUps
  ups : FnOk P w K mg base CX0 5 fUps dUps ["self", "i"] (spUps C)
  bUps : Binds K dUps ["self", "i"] []
  mDowns : Meth K C "downs" fDowns
  downs : FnOk P w K mg base CX0 5 fDowns dDowns ["self", "i"] (spDowns C)
  bDowns : Binds K dDowns ["self", "i"] []
  mUp : Meth K C "up" fUp
  up : FnOk P w K mg base CX0 7 fUp dUp ["self", "i"] (spUp C)
  bUp : Binds K dUp ["self", "i"] []
  mDown : Meth K C "down" fDown
  down : FnOk P w K mg base CX0 7 fDown dDown ["self", "i"] (spDown C)
  bDown : Binds K dDown ["self", "i"] []
  mAdd : Meth K C "__add__" fAdd
  add : FnOk P w K mg base CX0 6 fAdd dAdd ["self", "other"] (spAdd C)
  bAdd : Binds K dAdd ["self", "other"] []
  first : PySem.W.selfFirst K C = true
  mEq : Meth K C "__eq__" fEq
  eq : FnOk P w K mg base CX0 1 fEq dEq ["self", "other"] (spEq C)
  bEq : Binds K dEq ["self", "other"] []
  ne : PySem.W.findIn K (.ref C) "__ne__" = some (some (.builtin "object.__ne__"))
  mLen : Meth K C "__len__" fLen
  len : FnOk P w K mg base CX0 1 fLen dLen ["self"] (spLen C)
  bLen : Binds K dLen ["self"] []
theorem no_ups (t : Addr) (z : Int) : (wf t z).lookup ("ups" : Str) = none := wf_no t z (by decide +kernel) (by decide +kernel)
theorem no_downs (t : Addr) (z : Int) : (wf t z).lookup ("downs" : Str) = none := wf_no t z (by decide +kernel) (by decide +kernel)
theorem no_up (t : Addr) (z : Int) : (wf t z).lookup ("up" : Str) = none := wf_no t z (by decide +kernel) (by decide +kernel)
theorem no_down (t : Addr) (z : Int) : (wf t z).lookup ("down" : Str) = none := wf_no t z (by decide +kernel) (by decide +kernel)
/-- a list of words -/
structure Parts (C : Addr) (H : Hp) (p : Addr) (size : Int) (lss : List (List Int)) : Prop where
  at_ : ∃ as : List Addr, H p = some (.lst (as.map V.ref)) ∧ as.length = lss.length ∧ ∀ (j : Nat) a l, as[j]? = some a → lss[j]? = some l → WAt C H a size l
theorem Parts.same {C : Addr} {H H' : Hp} {p : Addr} {size : Int} {lss : List (List Int)} (W : Parts C H p size lss) (s : Same H H') : Parts C H' p size lss :=
  ⟨let ⟨as, h1, h2, h3⟩ := W.at_; ⟨as, s _ _ h1, h2, fun j a l e1 e2 => (h3 j a l e1 e2).same s⟩⟩
section
variable {P : Program} {w : World} {K : PySem.W.Frag} {mg : Str → Option Value} {base : Heap} {C fUps fDowns fUp fDown fAdd fEq fLen : Addr} {dUps dDowns dUp dDown dAdd dEq dLen : FuncData}
def spNumbers (C : Addr) : Sp := fun vs H Q _ => ∃ (p : Addr) (i size : Int) (lss : List (List Int)), vs = [.ref p, .int i] ∧ Parts C H p size lss ∧ 1 ≤ i ∧ i ≤ size - 1 ∧
  ∀ q H', Same H H' → H' q = some (.lst (nums [(up i (flat lss) : Nat), (dn i (flat lss) : Nat)])) → Q (.ref q) H'
theorem scNumbers : FnScope ["parts", "i", "up_so", "down_so", "part", "gone"] ["parts", "i"] (defScope sNumbers) := ⟨rfl, rfl, rfl, by decide +kernel, rfl, by decide +kernel, by decide +kernel⟩
theorem ok_numbers {f : Addr} {fd : FuncData} (B : Bare mg) (T : Cw K mg C) (F : Df K mg "_law_numbers" sNumbers f fd) (M : Ms P w K mg base C fUps fDowns fUp fDown fAdd fEq fLen dUps dDowns dUp dDown dAdd dEq dLen) :
    FnOk P w K mg base CX0 6 f fd ["parts", "i"] (spNumbers C) := by
  refine F.fn.ok scNumbers (fun vs H Q E h => ?_) (fun cdv A outer s H vs Q E hr h => ?_)
  · obtain ⟨p, i, size, lss, rfl, _⟩ := h
    rfl
  · obtain ⟨p, i, size, lss, rfl, W, i0, i1, k⟩ := h
    refine ⟨_, pss_cons (ps_asg (pe_tup (pa_cons pe_int (pa_cons pe_int pa_nil))) (pg_tup rfl (pgs_cons (pg_name (i := 2) scNumbers.nd rfl (Or.inl rfl)) (pgs_cons (pg_name (i := 3) scNumbers.nd rfl (Or.inl rfl)) pgs_nil))))
      (pss_cons (ps_for PassesOwn.never rfl (pi_list (pv 0)) (pg_name (i := 4) scNumbers.nd rfl (Or.inl rfl))
        (pss_cons (ps_set (i := 5) scNumbers.nd rfl (Or.inl rfl) (pe_callB (call_min2 rfl) (by rfl) B.min (by decide +kernel) (pa_cons (pv 3) (pa_cons (pe_meth (pv 4) T.cl M.mUps M.ups hr M.bUps .nil pass0 (pa_cons (pv 1) pa_nil)) pa_nil))))
        (pss_cons (ps_set (i := 2) scNumbers.nd rfl (Or.inl rfl) (pe_op op_sub (pe_op op_add (pv 2) (pe_meth (pv 4) T.cl M.mUps M.ups hr M.bUps .nil pass0 (pa_cons (pv 1) pa_nil))) (pv 5)))
        (pss_one (ps_set (i := 3) scNumbers.nd rfl (Or.inl rfl) (pe_op op_sub (pe_op op_add (pv 3) (pe_meth (pv 4) T.cl M.mDowns M.downs hr M.bDowns .nil pass0 (pa_cons (pv 1) pa_nil))) (pv 5)))))))
      (pss_one (ps_ret (pe_lst (pa_cons (pv 2) (pa_cons (pv 3) pa_nil)))))), ?_⟩
    obtain ⟨as, h1, h2, h3⟩ := W.at_
    refine ⟨(by show 2 ≤ sizeLine; decide), fun q0 hq0 => ⟨q0, _, rfl, SqT.of upd_same, rfl, _, _, rfl, _, _, rfl, rfl, ?_⟩⟩
    have s0 : Same H (upd H q0 (.tup [.int 0, .int 0])) := same_new hq0
    refine ⟨_, rfl, p, rfl, ⟨_, SqL.of (s0 _ _ h1)⟩, for_list (K := K) (a := p) (xs := as.map V.ref) (fun j σ H' => ∃ v4 v5 : Option V,
      σ = [some (.ref p), some (.int i), some (.int (up i (flat (lss.take j)) : Nat)), some (.int (dn i (flat (lss.take j)) : Nat)), v4, v5] ∧ Same H H') ⟨_, _, rfl, s0⟩
      (fun j σ H' _ ⟨_, _, _, s1⟩ => SqL.of (s1 _ _ h1)) ?_ ?_⟩
    · rintro j x σ H' hx ⟨v4, v5, rfl, s1⟩
      rw [List.getElem?_map] at hx
      obtain ⟨a, ha, rfl⟩ : ∃ a, as[j]? = some a ∧ x = V.ref a := by
        cases e : as[j]? with
        | none =>
          rw [e] at hx
          cases hx
        | some a =>
          rw [e] at hx
          exact ⟨a, rfl, (Option.some.inj hx).symm⟩
      have hj : j < lss.length := by
        rw [← h2]
        exact (List.getElem?_eq_some_iff.mp ha).1
      have hl : lss[j]? = some lss[j] := List.getElem?_eq_getElem hj
      have Wa := (h3 j a _ ha hl).same s1
      have en : flat (lss.take (j + 1)) = flat (lss.take j) ++ lss[j] := by
        rw [List.take_succ, hl]
        exact flat_snoc _ _
      obtain ⟨dx, t, g1, g2⟩ := Wa.ob
      refine ⟨_, rfl, _, rfl, a, dx, _, rfl, g1, no_ups _ _, _, rfl, a, i, size, _, rfl, Wa, i0, i1, fun H2 s2 => ⟨_, _, rfl, ?_⟩⟩
      refine ⟨_, rfl, _, rfl, a, dx, _, rfl, s2 _ _ g1, no_ups _ _, _, rfl, a, i, size, _, rfl, Wa.same s2, i0, i1, fun H3 s3 => ⟨_, _, rfl, rfl, _, rfl, _, _, rfl, rfl, ?_⟩⟩
      refine ⟨_, rfl, _, rfl, a, dx, _, rfl, s3 _ _ (s2 _ _ g1), no_downs _ _, _, rfl, a, i, size, _, rfl, (Wa.same s2).same s3, i0, i1, fun H4 s4 => ⟨_, _, rfl, rfl, _, rfl, _, _, rfl, rfl, ?_⟩⟩
      obtain ⟨n1, n2⟩ := num_step i (flat (lss.take j)) lss[j]
      refine ⟨some (V.ref a), some (V.int (if ((up i lss[j] : Nat) : Int) < (dn i (flat (lss.take j)) : Nat) then ((up i lss[j] : Nat) : Int) else (dn i (flat (lss.take j)) : Nat))), ?_, ((s1.trans s2).trans s3).trans s4⟩
      rw [en, n1, n2]
      rfl
    · rintro σ H' ⟨v4, v5, rfl, s1⟩
      rw [List.length_map, h2, List.take_length]
      refine ⟨_, rfl, _, rfl, (by show 2 ≤ sizeLine; decide), fun q hq => ?_⟩
      exact k q _ (s1.trans (same_new hq)) upd_same
/-! the part that changes -/
def spChanged (C : Addr) : Sp := fun vs H Q _ => ∃ (a b : Addr) (i size : Int) (l r : List Int), vs = [.ref a, .ref b, .int i] ∧ WAt C H a size l ∧ WAt C H b size r ∧ l.length + r.length ≤ 40 ∧ 1 ≤ i ∧ i ≤ size - 1 ∧ ∀ H', Same H H' → Q (.bl true) H'
theorem scChanged : FnScope ["one", "other", "i", "whole", "due"] ["one", "other", "i"] (defScope sChanged) := ⟨rfl, rfl, rfl, by decide +kernel, rfl, by decide +kernel, by decide +kernel⟩
theorem upL_len (i : Int) (l : List Int) : (upL i l).length = l.length := List.length_set ..
theorem dnL_len (i : Int) (l : List Int) : (dnL i l).length = l.length := List.length_set ..
theorem ok_changed {f : Addr} {fd : FuncData} (T : Cw K mg C) (F : Df K mg "_law_changed_right" sChanged f fd) (M : Ms P w K mg base C fUps fDowns fUp fDown fAdd fEq fLen dUps dDowns dUp dDown dAdd dEq dLen) :
    FnOk P w K mg base CX0 9 f fd ["one", "other", "i"] (spChanged C) := by
  refine F.fn.ok scChanged (fun vs H Q E h => ?_) (fun cdv A outer s H vs Q E hr h => ?_)
  · obtain ⟨a, b, i, size, l, r, rfl, _⟩ := h
    rfl
  · obtain ⟨a, b, i, size, l, r, rfl, W1, W2, hlen, i0, i1, k⟩ := h
    have hr5 : Room 5 _ := hr.mono (by decide)
    have hr6 : Room 6 _ := hr.mono (by decide)
    have hr7 : Room 7 _ := hr.mono (by decide)
    have hr2 : Room 2 _ := hr.mono (by decide)
    refine ⟨_, pss_cons (ps_set (i := 3) scChanged.nd rfl (Or.inl rfl) (pe_op (op_addO M.mAdd.at_ M.mAdd.fn M.first M.add M.bAdd hr6) (pv 0) (pv 1)))
      (C8.pss_cut (ps_if (pt_cmpR op_gt (pe_meth (pv 3) T.cl M.mUps M.ups hr5 M.bUps .nil pass0 (pa_cons (pv 2) pa_nil)) pe_int (nomark _))
        (pss_cons (ps_set (i := 4) scChanged.nd rfl (Or.inl rfl) (pe_ifExp (pt_cmpR op_gt (pe_meth (pv 1) T.cl M.mUps M.ups hr5 M.bUps .nil pass0 (pa_cons (pv 2) pa_nil)) (pe_meth (pv 0) T.cl M.mDowns M.downs hr5 M.bDowns .nil pass0 (pa_cons (pv 2) pa_nil)) (nomark _))
          (pe_op (op_addO M.mAdd.at_ M.mAdd.fn M.first M.add M.bAdd hr6) (pv 0) (pe_meth (pv 1) T.cl M.mUp M.up hr7 M.bUp .nil pass0 (pa_cons (pv 2) pa_nil)))
          (pe_op (op_addO M.mAdd.at_ M.mAdd.fn M.first M.add M.bAdd hr6) (pe_meth (pv 0) T.cl M.mUp M.up hr7 M.bUp .nil pass0 (pa_cons (pv 2) pa_nil)) (pv 1))))
        (pss_one (ps_if (pt_cmpR (op_neO M.mEq.at_ M.mEq.fn M.ne T.cm M.eq M.bEq hr2) (pe_meth (pv 3) T.cl M.mUp M.up hr7 M.bUp .nil pass0 (pa_cons (pv 2) pa_nil)) (pv 4) (nomark _)) (pss_one (ps_ret pe_bl)) pss_nil))) pss_nil)
      (C8.pss_cut (ps_if (pt_cmpR op_gt (pe_meth (pv 3) T.cl M.mDowns M.downs hr5 M.bDowns .nil pass0 (pa_cons (pv 2) pa_nil)) pe_int (nomark _))
        (pss_cons (ps_set (i := 4) scChanged.nd rfl (Or.inl rfl) (pe_ifExp (pt_cmpR op_gt (pe_meth (pv 0) T.cl M.mDowns M.downs hr5 M.bDowns .nil pass0 (pa_cons (pv 2) pa_nil)) (pe_meth (pv 1) T.cl M.mUps M.ups hr5 M.bUps .nil pass0 (pa_cons (pv 2) pa_nil)) (nomark _))
          (pe_op (op_addO M.mAdd.at_ M.mAdd.fn M.first M.add M.bAdd hr6) (pe_meth (pv 0) T.cl M.mDown M.down hr7 M.bDown .nil pass0 (pa_cons (pv 2) pa_nil)) (pv 1))
          (pe_op (op_addO M.mAdd.at_ M.mAdd.fn M.first M.add M.bAdd hr6) (pv 0) (pe_meth (pv 1) T.cl M.mDown M.down hr7 M.bDown .nil pass0 (pa_cons (pv 2) pa_nil)))))
        (pss_one (ps_if (pt_cmpR (op_neO M.mEq.at_ M.mEq.fn M.ne T.cm M.eq M.bEq hr2) (pe_meth (pv 3) T.cl M.mDown M.down hr7 M.bDown .nil pass0 (pa_cons (pv 2) pa_nil)) (pv 4) (nomark _)) (pss_one (ps_ret pe_bl)) pss_nil))) pss_nil)
      (pss_one (ps_ret pe_bl)))), ?_⟩
    obtain ⟨dx, t1, h1, h2⟩ := W1.ob
    obtain ⟨dy, t2, g1, g2⟩ := W2.ob
    refine ⟨_, rfl, _, rfl, a, dx, _, b, dy, _, rfl, rfl, h1, g1, a, b, size, l, r, rfl, W1, W2, hlen, fun w0 H1 s1 nw Ww => ?_⟩
    obtain ⟨dw, tw, e1, e2⟩ := Ww.ob
    refine ⟨fun σ H' => ∃ v4 : Option V, σ = [some (.ref a), some (.ref b), some (.int i), some (.ref w0), v4] ∧ Same H1 H', ?_, ?_⟩
    · refine ⟨_, rfl, w0, dw, _, rfl, e1, no_ups _ _, _, rfl, w0, i, size, l ++ r, rfl, Ww, i0, i1, fun H2 s2 => ⟨_, _, rfl, rfl, _, rfl, ite2 (fun hc => ?_) (fun _ => ⟨_, rfl, s2⟩)⟩⟩
      have hpos : 0 < up i (l ++ r) := by
        have := of_decide_eq_true hc
        omega
      have hne : lows i (l ++ r) ≠ [] := ne_len hpos
      have hup := up_app i l r
      have X1 := (W1.same s1).same s2
      have X2 := (W2.same s1).same s2
      have Xw := Ww.same s2
      refine ⟨_, rfl, b, dy, _, rfl, s2 _ _ (s1 _ _ g1), no_ups _ _, _, rfl, b, i, size, r, rfl, X2, i0, i1, fun H3 s3 => ?_⟩
      refine ⟨_, rfl, a, dx, _, rfl, s3 _ _ (s2 _ _ (s1 _ _ h1)), no_downs _ _, _, rfl, a, i, size, l, rfl, X1.same s3, i0, i1, fun H4 s4 => ⟨_, _, rfl, rfl, _, rfl, ?_⟩⟩
      have s24 : Same H2 H4 := s3.trans s4
      have Y1 := X1.same s24
      have Y2 := X2.same s24
      have Yw := Xw.same s24
      have ha4 := s24 _ _ (s2 _ _ (s1 _ _ h1))
      have hb4 := s24 _ _ (s2 _ _ (s1 _ _ g1))
      have hw4 := s24 _ _ (s2 _ _ e1)
      refine ite2 (fun hd => ?_) (fun hd => ?_)
      · have hlt : dn i l < up i r := by
          have := of_decide_eq_true hd
          omega
        have hr0 : lows i r ≠ [] := ne_len (by unfold up at hlt; omega)
        refine ⟨_, rfl, _, rfl, b, dy, _, rfl, hb4, no_up _ _, _, rfl, b, i, size, r, rfl, Y2, i0, i1, hr0, fun x H5 s5 nx Wx => ?_⟩
        obtain ⟨dz, tz, f1, f2⟩ := Wx.ob
        refine ⟨a, dx, _, x, dz, _, rfl, rfl, s5 _ _ ha4, f1, a, x, size, l, upL i r, rfl, Y1.same s5, Wx, by rw [upL_len]; exact hlen, fun d H6 s6 nd Wd => ?_⟩
        obtain ⟨dd, td, j1, j2⟩ := Wd.ob
        refine ⟨_, rfl, w0, dw, _, rfl, s6 _ _ (s5 _ _ hw4), no_up _ _, _, rfl, w0, i, size, l ++ r, rfl, (Yw.same s5).same s6, i0, i1, hne, fun y H7 s7 ny Wy => ?_⟩
        obtain ⟨dv, tv, m1, m2⟩ := Wy.ob
        refine ⟨_, rfl, y, dv, _, d, dd, _, rfl, rfl, m1, s7 _ _ j1, y, d, size, size, _, _, rfl, Wy, Wd.same s7, _, rfl, _, rfl, ?_⟩
        rw [upL_right i l r hlt]
        refine iteNS ⟨rfl, rfl⟩ ⟨_, rfl, ((s2.trans s24).trans s5).trans (s6.trans s7)⟩
      · have hle : up i r ≤ dn i l := by
          have : ¬ ((dn i l : Nat) : Int) < (up i r : Nat) := fun z => hd (decide_eq_true z)
          omega
        have hl0 : lows i l ≠ [] := ne_len (show 0 < up i l by omega)
        refine ⟨_, rfl, a, dx, _, rfl, ha4, no_up _ _, _, rfl, a, i, size, l, rfl, Y1, i0, i1, hl0, fun x H5 s5 nx Wx => ?_⟩
        obtain ⟨dz, tz, f1, f2⟩ := Wx.ob
        refine ⟨_, rfl, x, dz, _, b, dy, _, rfl, rfl, f1, s5 _ _ hb4, x, b, size, upL i l, r, rfl, Wx, Y2.same s5, by rw [upL_len]; exact hlen, fun d H6 s6 nd Wd => ?_⟩
        obtain ⟨dd, td, j1, j2⟩ := Wd.ob
        refine ⟨_, rfl, w0, dw, _, rfl, s6 _ _ (s5 _ _ hw4), no_up _ _, _, rfl, w0, i, size, l ++ r, rfl, (Yw.same s5).same s6, i0, i1, hne, fun y H7 s7 ny Wy => ?_⟩
        obtain ⟨dv, tv, m1, m2⟩ := Wy.ob
        refine ⟨_, rfl, y, dv, _, d, dd, _, rfl, rfl, m1, s7 _ _ j1, y, d, size, size, _, _, rfl, Wy, Wd.same s7, _, rfl, _, rfl, ?_⟩
        rw [upL_left i l r hle hl0]
        refine iteNS ⟨rfl, rfl⟩ ⟨_, rfl, ((s2.trans s24).trans s5).trans (s6.trans s7)⟩
    · rintro σ H0 ⟨v4, rfl, s0⟩
      have Z1 := (W1.same s1).same s0
      have Z2 := (W2.same s1).same s0
      have Zw := Ww.same s0
      refine ⟨fun σ H' => ∃ v4 : Option V, σ = [some (.ref a), some (.ref b), some (.int i), some (.ref w0), v4] ∧ Same H1 H', ?_, ?_⟩
      · refine ⟨_, rfl, w0, dw, _, rfl, s0 _ _ e1, no_downs _ _, _, rfl, w0, i, size, l ++ r, rfl, Zw, i0, i1, fun H2 s2 => ⟨_, _, rfl, rfl, _, rfl, ite2 (fun hc => ?_) (fun _ => ⟨_, rfl, s0.trans s2⟩)⟩⟩
        have hpos : 0 < dn i (l ++ r) := by
          have := of_decide_eq_true hc
          omega
        have hne : highs i (l ++ r) ≠ [] := ne_len hpos
        have hdn := dn_app i l r
        have X1 := Z1.same s2
        have X2 := Z2.same s2
        have Xw := Zw.same s2
        have ha2 := s2 _ _ (s0 _ _ (s1 _ _ h1))
        have hb2 := s2 _ _ (s0 _ _ (s1 _ _ g1))
        have hw2 := s2 _ _ (s0 _ _ e1)
        refine ⟨_, rfl, a, dx, _, rfl, ha2, no_downs _ _, _, rfl, a, i, size, l, rfl, X1, i0, i1, fun H3 s3 => ?_⟩
        refine ⟨_, rfl, b, dy, _, rfl, s3 _ _ hb2, no_ups _ _, _, rfl, b, i, size, r, rfl, X2.same s3, i0, i1, fun H4 s4 => ⟨_, _, rfl, rfl, _, rfl, ?_⟩⟩
        have s24 : Same H2 H4 := s3.trans s4
        have Y1 := X1.same s24
        have Y2 := X2.same s24
        have Yw := Xw.same s24
        have ha4 := s24 _ _ ha2
        have hb4 := s24 _ _ hb2
        have hw4 := s24 _ _ hw2
        have sA : Same H1 H4 := (s0.trans s2).trans s24
        refine ite2 (fun hd => ?_) (fun hd => ?_)
        · have hlt : up i r < dn i l := by
            have := of_decide_eq_true hd
            omega
          have hl0 : highs i l ≠ [] := ne_len (by unfold dn at hlt; omega)
          refine ⟨_, rfl, a, dx, _, rfl, ha4, no_down _ _, _, rfl, a, i, size, l, rfl, Y1, i0, i1, hl0, fun x H5 s5 nx Wx => ?_⟩
          obtain ⟨dz, tz, f1, f2⟩ := Wx.ob
          refine ⟨_, rfl, x, dz, _, b, dy, _, rfl, rfl, f1, s5 _ _ hb4, x, b, size, dnL i l, r, rfl, Wx, Y2.same s5, by rw [dnL_len]; exact hlen, fun d H6 s6 nd Wd => ?_⟩
          obtain ⟨dd, td, j1, j2⟩ := Wd.ob
          refine ⟨_, rfl, w0, dw, _, rfl, s6 _ _ (s5 _ _ hw4), no_down _ _, _, rfl, w0, i, size, l ++ r, rfl, (Yw.same s5).same s6, i0, i1, hne, fun y H7 s7 ny Wy => ?_⟩
          obtain ⟨dv, tv, m1, m2⟩ := Wy.ob
          refine ⟨_, rfl, y, dv, _, d, dd, _, rfl, rfl, m1, s7 _ _ j1, y, d, size, size, _, _, rfl, Wy, Wd.same s7, _, rfl, _, rfl, ?_⟩
          rw [dnL_left i l r hlt]
          refine iteNS ⟨rfl, rfl⟩ ⟨_, rfl, (sA.trans s5).trans (s6.trans s7)⟩
        · have hle : dn i l ≤ up i r := by
            have : ¬ ((up i r : Nat) : Int) < (dn i l : Nat) := fun z => hd (decide_eq_true z)
            omega
          have hr0 : highs i r ≠ [] := ne_len (show 0 < dn i r by omega)
          refine ⟨_, rfl, _, rfl, b, dy, _, rfl, hb4, no_down _ _, _, rfl, b, i, size, r, rfl, Y2, i0, i1, hr0, fun x H5 s5 nx Wx => ?_⟩
          obtain ⟨dz, tz, f1, f2⟩ := Wx.ob
          refine ⟨a, dx, _, x, dz, _, rfl, rfl, s5 _ _ ha4, f1, a, x, size, l, dnL i r, rfl, Y1.same s5, Wx, by rw [dnL_len]; exact hlen, fun d H6 s6 nd Wd => ?_⟩
          obtain ⟨dd, td, j1, j2⟩ := Wd.ob
          refine ⟨_, rfl, w0, dw, _, rfl, s6 _ _ (s5 _ _ hw4), no_down _ _, _, rfl, w0, i, size, l ++ r, rfl, (Yw.same s5).same s6, i0, i1, hne, fun y H7 s7 ny Wy => ?_⟩
          obtain ⟨dv, tv, m1, m2⟩ := Wy.ob
          refine ⟨_, rfl, y, dv, _, d, dd, _, rfl, rfl, m1, s7 _ _ j1, y, d, size, size, _, _, rfl, Wy, Wd.same s7, _, rfl, _, rfl, ?_⟩
          rw [dnL_right i l r hle hr0]
          refine iteNS ⟨rfl, rfl⟩ ⟨_, rfl, (sA.trans s5).trans (s6.trans s7)⟩
      · rintro σ H9 ⟨v4, rfl, s9⟩
        exact k H9 (s1.trans s9)
end
end Lw
/-! Gd. Defs that are called where no text is being made: the guards are known to be none. -/
namespace LwE
open PySem PySem.Spec PyProof.Rows L2
/-- a def's promise where no guard stands -/
structure FnG (P : Program) (w : World) (K : PySem.W.Frag) (mg : Str → Option Value) (base : Heap) (k : Nat) (f : Addr) (fd : FuncData) (ps : List Str) (sp : Sp) : Prop where
  len : ∀ vs H Q E, sp vs H Q E → vs.length = ps.length
  run : ∀ (A : Around) (outer : List Env) (s : Shared) (H : Hp) (args : Args) (us : List Value) (vs : List V) (Q : VK) (E : XK), A.guards = some [] → Room k A →
    Env0 P w K mg base A outer s H → BindsTo s fd args (ps.zip us) → Vals vs us → sp vs H Q E → codeAny (model P w) A (.call (.ref f) args) (CR CX0 outer P w H s Q E) s
section
variable {P : Program} {w : World} {K : PySem.W.Frag} {mg : Str → Option Value} {base : Heap}
theorem okG {x qual : Str} {st : Stmt} {f : Addr} {fd : FuncData} {N ps : List Str} {k : Nat} {sp : Sp} (F : Fun K x qual st f fd) (S : FnScope N ps (defScope st)) (len : ∀ vs H Q E, sp vs H Q E → vs.length = ps.length)
    (hbody : ∀ (cdv : Value) (A : Around) (outer : List Env) (s : Shared) (H : Hp) (vs : List V) (Q : VK) (E : XK), A.guards = some [] → Room k (A.deeper (PyProof.Rows.envOfC qual (defScope st) s.heap.objs.size f cdv)) → sp vs H Q E →
      ∃ t, PSs (cxOf CX0 P w K mg base N qual (defScope st) f cdv A outer s H E).nox (defBody st) t ∧ t { nx := fun _ H' => Q .non H', rt := Q } (L2.start N vs) H) : FnG P w K mg base (k + 1) f fd ps sp := by
  obtain ⟨oc, od, kV, doc, pm, an, cdv, ct, osl, rfl, lk, hcd⟩ := F.ex
  refine ⟨len, fun A outer s H args us vs Q E hg hr e0 hb r h => ?_⟩
  have old : ∀ b o, base.get? b = some o → s.heap.get? b = some o := fun b o e => (e0.bs b o e).1
  have Ks : K.In s.heap := e0.mod.kin.keeps old
  have free : s.heap.NoLimit := e0.mod.nolimit.keeps old
  have kinds : ∀ y ∈ ps.zip us, (defScope st).names.lookup y.1 = some .local ∨
      ((defScope st).names.lookup y.1 = some .cell ∧ ((cellsFrom (s.heap.objs.size + 1) (defScope st).names []).lookup y.1).isSome = true) := by
    rintro ⟨n, v⟩ hy
    rcases S.par n (List.of_mem_zip hy).1 with z | z
    · exact .inl z
    · exact .inr ⟨z, PySem.W.cellsFrom_some _ _ _ (.inl z)⟩
  refine codeAny_call_function hr.depth (Ks _ _ lk) rfl S.co S.gen rfl (PySem.W.codeRec_of Ks hcd) (hb _ _ _ _ ?_)
  refine wpAny_newFunctionEnv_cells S.kind kinds fun env eq s1 entry => ?_
  subst eq
  refine ⟨free.keeps entry.toInCall.keep, codeAny_func ?_⟩
  obtain ⟨t, ht, q⟩ := hbody cdv A outer s H vs Q E hg (hr.deeper _) h
  have I := inv_start (CX := CX0) (E := E) S hr.hd e0 (len _ _ _ _ h) r entry
  refine wpAny_mono (ht.nox.run [] s1 (L2.start N vs) H _ I q) (fun fl s' z => ?_) fun _ _ z => z
  cases fl with
  | brk =>
    obtain ⟨_, _, _, z⟩ := z
    exact z.elim
  | cont =>
    obtain ⟨_, _, _, z⟩ := z
    exact z.elim
  | next =>
    obtain ⟨σ', H', J, z⟩ := z
    exact ⟨.non, H', J.os, J.bare, J.base, J.hok, rfl, z⟩
  | ret u =>
    obtain ⟨v, σ', H', J, rv, z⟩ := z
    exact ⟨v, H', J.os, J.bare, J.base, J.hok, rv, z⟩
end
section
variable {X : Cx} {x : Str} {p pos : Pos} {e : Expr} {es : List Expr} {t : TA} {k : Nat} {f : Addr} {fd : FuncData} {ps : List Str} {sp : Sp}
/-- f(e, ..) where no guard stands -/
theorem pe_callG (hg : X.A.guards = some []) (F : FnG X.prog X.w X.K X.mg X.base k f fd ps sp) (hr : Room k X.A) (gx : Gl X x) (hm : X.mg x = some (.ref f)) (hk : PySem.W.keepIn X.K (.ref f) = true) (hb : Binds X.K fd ps [])
    (ha : PA X (e :: es) t) (hdb : (x == ("__debug__" : Str)) = false := by decide) (he : starEach (e :: es) X.env = (false, eval e X.env) :: starEach es X.env := by rfl)
    (hpl : (backTo pos (starEach es X.env)).any (·.1) = false := by rfl) : PE X (.Call (.Name x p) (e :: es) [] pos) (tCall sp [] E0 t) := by
  refine ⟨fun pins s σ H Q I h => ?_⟩
  refine wpAny_Call_Name_kw (ld_glob I gx hm ?_ hdb)
  refine PySem.W.callWith_K (h₀ := X.base) I.ok.mod.kin hk (thn (ha.run pos pins s σ H _ I h) fun us s1 ⟨vs, H1, I1, r, q⟩ => ⟨I1.kIn, ?_⟩) he hpl
  have q' : sp vs H1 Q E0 := by
    have z : sp (vs ++ []) H1 Q E0 := q
    rw [List.append_nil] at z
    exact z
  have hl : (us ++ []).length = ps.length := by
    rw [List.append_nil, ← r.length]
    exact F.len _ _ _ _ q'
  have b0 := hb s1 us I1.kIn hl
  rw [List.append_nil] at b0
  refine wpAny_call (codeAny_mono (F.run X.A X.stack s1 H1 ⟨us, []⟩ us vs Q E0 hg hr I1.env0 b0 r q') fun r s' z => ?_)
  cases r with
  | error e => exact (show False from z).elim
  | ok fl =>
    cases fl with
    | ret u => exact I1.after z
    | next => exact False.elim z
    | brk => exact False.elim z
    | cont => exact False.elim z
end
/-- the law's call -/
theorem call_law {P : Program} {w : World} {K : PySem.W.Frag} {mg mb : Str → Option Value} {k : Nat} {fa a : Addr} {fd : FuncData} {x : Str} {sp : Sp} {s₁ : Shared} {vs : List Value} {ns : List Int}
    (KX : K.In s₁.heap) (hns : s₁.heap.Ns mainGlobals mg) (hb : s₁.heap.Ns builtinsNs mb) (hbb : ∀ x : Str, x ≠ "__name__" → mb x = bootBuiltins x) (hlim : s₁.heap.NoLimit) (hgen : s₁.gens = #[])
    (ha : s₁.heap.get? a = some { cls := .type "list", data := .seq vs.toArray }) (hi : IntsAre vs ns) (hl : ns.length ≤ sizeLine) (hr : Room k callerA)
    (F : ∀ base : Heap, K.In base → base.Ns mainGlobals mg → FnG P w K mg base k fa fd [x] sp) (hbind : ∀ (s : Shared) (u : Value), BindsTo s fd ⟨[u], []⟩ [(x, u)])
    (hsp : ∀ H : Hp, Only H → SqL K H a (ns.map V.int) → sp [.ref a] H (fun v _ => v = .bl true) fun _ _ _ => False) :
    codeAny (model P w) callerA (.call (.ref fa) ⟨[.ref a], []⟩) (fun r s' => r = .ok (.ret (.bool true)) ∧ OldK s₁.heap s'.heap ∧ s'.os = s₁.os ∧ AllBare s'.gens) s₁ := by
  have rv := vals_ints hi
  have nlen := hi.length
  have core : ∀ H : Hp, Only H → SqL K H a (ns.map V.int) → HOk P w H s₁.heap → (∀ b, H b ≠ none → b = a) → (H a ≠ none → K.lookup a = none) →
      codeAny (model P w) callerA (.call (.ref fa) ⟨[.ref a], []⟩) (fun r s' => r = .ok (.ret (.bool true)) ∧ OldK s₁.heap s'.heap ∧ s'.os = s₁.os ∧ AllBare s'.gens) s₁ := by
    intro H hO hS hok only unk
    have keepsNs : ∀ {b : Addr} {m : Str → Option Value}, s₁.heap.Ns b m → (hidT s₁.heap H).Ns b m := by
      rintro b m ⟨o, es, ep, e, d, r⟩
      refine ⟨o, es, ep, hidT_get e ?_, d, r⟩
      cases q : H b with
      | none => rfl
      | some u =>
        have z := only b (by rw [q]; simp)
        rw [z, ha] at e
        cases e
        cases d
    have inK : K.In (hidT s₁.heap H) := by
      intro b o e
      refine hidT_get (KX b o e) ?_
      cases q : H b with
      | none => rfl
      | some u =>
        have z := only b (by rw [q]; simp)
        subst z
        rw [unk (by rw [q]; simp)] at e
        cases e
    have M : Mod K mg (hidT s₁.heap H) := ⟨inK, keepsNs hns, ⟨mb, keepsNs hb, hbb⟩, by
      obtain ⟨mc, z1, z2⟩ := hlim
      exact ⟨mc, keepsNs z1, z2⟩⟩
    have e0 : Env0 P w K mg (hidT s₁.heap H) callerA [] s₁ H := by
      refine ⟨rfl, M, fun b o e => of_hidT e, Nat.le_of_eq (hidT_size _ _), trivial, fun b hb => ?_, hok, .of_eq hgen⟩
      exact absurd (show b ∈ ([] : List Addr) from hb) (by simp)
    refine codeAny_mono ((F _ inK (keepsNs hns)).run callerA [] s₁ H ⟨[.ref a], []⟩ [.ref a] [.ref a] _ _ rfl hr e0 (hbind s₁ (.ref a)) (.cons rfl .nil) (hsp H hO hS)) fun r s' z => ?_
    cases r with
    | error e => exact (show False from z).elim
    | ok fl =>
      cases fl with
      | ret u =>
        obtain ⟨v, H', os, bare, un, hok', r', q⟩ := z
        obtain rfl : v = .bl true := q
        obtain rfl : u = Value.bool true := r'
        refine ⟨rfl, OldK.of_keep fun b o e => ?_, os, bare⟩
        cases q : H b with
        | none => exact un.keep b o e q (fun z => absurd (show b ∈ ([] : List Addr) from z) (by simp)) (by simp)
        | some u =>
          rcases hO b with z | ⟨ob, xs, z⟩
          · rw [q] at z
            cases z
          · obtain ⟨z1, _⟩ := hok b _ z
            obtain ⟨z2, _⟩ := hok' b _ (un.frzs b ob _ z)
            rw [e] at z1
            cases z1
            exact z2
      | next => exact False.elim z
      | brk => exact False.elim z
      | cont => exact False.elim z
  cases hk : K.lookup a with
  | some o =>
    have e := KX a o hk
    rw [ha] at e
    cases e
    refine core (fun _ => none) (fun _ => .inl rfl) ?_ (fun b u z => by cases (show (none : Option HO) = some u from z)) (fun b z => absurd rfl z) fun z => absurd rfl z
    exact .inr ⟨_, vs.toArray, _, hk, rfl, rfl, rfl, by rw [List.size_toArray, nlen]; exact hl, by simpa using rv⟩
  | none =>
    refine core (fun b => if b = a then some (.frz { cls := .type "list", data := .seq vs.toArray } (.lst (ns.map V.int))) else none) (fun b => ?_) ?_ (fun b u z => ?_) (fun b z => ?_) fun _ => hk
    · by_cases hb : b = a
      · exact .inr ⟨_, _, if_pos hb⟩
      · exact .inl (if_neg hb)
    · exact .inl (.inr ⟨_, if_pos rfl⟩)
    · by_cases hb : b = a
      · cases (if_pos hb).symm.trans z
        subst hb
        exact ⟨ha, by rw [List.length_map]; exact hl, vs, _, rv, ha⟩
      · cases (if_neg hb).symm.trans z
    · by_cases hb : b = a
      · exact hb
      · exact absurd (if_neg hb) z
/-- the goal behind the head -/
theorem walkG {l : PySem.W.OpenLaw} {n k : Nat} {q : Program} {loose : List Str} {XP : (Str → Option Value) → Heap → Prop} {YP : World → Heap → Prop} {d : DefRec} {K : Params → PySem.W.Frag} {sp : World → Sp} {x : Str}
    (hn : l.most = some n) (hn2 : n ≤ sizeLine) (hdf : d.params.defaults = []) (hr : Room k callerA) (hY : ∀ (w : World) (h : Heap), YP w h → (K w.params).In h)
    (F : ∀ (w : World) (mg : Str → Option Value) (fa : Addr) (h : Heap), (K w.params).In h → h.Ns mainGlobals mg → mg d.name = some (.ref fa) →
      ∃ fd : FuncData, (∀ (s : Shared) (u : Value), BindsTo s fd ⟨[u], []⟩ [(x, u)]) ∧ ∀ base : Heap, (K w.params).In base → base.Ns mainGlobals mg → FnG l.prog w (K w.params) mg base k fa fd [x] (sp w))
    (hsp : ∀ (w : World) (H : Hp) (a : Addr) (ns : List Int), ns.length ≤ n → Only H → SqL (K w.params) H a (ns.map V.int) → sp w [.ref a] H (fun v _ => v = .bl true) fun _ _ _ => False) :
    PySem.W.WalkO q loose XP YP l.row.toRowW d [] (fun f vs => PySem.call f vs) := by
  refine Att.attach_call hn hdf fun w s₀ s₁ mg mb fa o pm cd doc a vs ns G Y ho hd hcd hmg hobj hints hlen hg => ?_
  have KX := hY w _ Y
  obtain ⟨fd, hb, hF⟩ := F w mg fa _ KX G.T.g hmg
  exact call_law KX G.T.g G.T.b G.T.builtins G.T.nolimit hg hobj hints (Nat.le_trans hlen hn2) hr hF hb fun H hO hS => hsp w H a ns hlen hO hS
end LwE
/-! S. Two texts alike. -/
namespace Lw
open PySem L2 LwE LwM
theorem log_small (n : Nat) (h : n ≤ 1000) : ((n : Nat) : Int).natAbs.log2 < 12 := by
  rw [Int.natAbs_natCast]
  rcases Nat.eq_zero_or_pos n with z | z
  · subst z
    decide
  · exact (Nat.log2_lt (by omega)).mpr (by omega)
theorem two_len (x y : Nat) (hx : x ≤ 1000) (hy : y ≤ 1000) : (PyData.shown (.list [.int (x : Nat), .int (y : Nat)])).length ≤ sizeLine := by
  have h1 := int_text_length_le (by decide : 0 < 12) (log_small x hx)
  have h2 := int_text_length_le (by decide : 0 < 12) (log_small y hy)
  show (listText [Str.ofString (toString ((x : Nat) : Int)), Str.ofString (toString ((y : Nat) : Int))]).length ≤ sizeLine
  generalize toString ((x : Nat) : Int) = t1 at h1 ⊢
  generalize toString ((y : Nat) : Int) = t2 at h2 ⊢
  unfold listText
  simp only [textFrom, strLen_append, ofString_length, sizeLine_eq]
  have e1 : "[".length = 1 := rfl
  have e2 : "]".length = 1 := rfl
  have e3 : ", ".length = 2 := rfl
  have e4 : "".length = 0 := rfl
  simp
  omega
section
variable {P : Program} {w : World} {K : PySem.W.Frag} {mg : Str → Option Value} {base : Heap}
def spLike : Sp := fun vs H Q _ => ∃ (a b : Addr) (x y : Nat), vs = [.ref a, .ref b] ∧ H a = some (.lst (nums [(x : Nat), (y : Nat)])) ∧ H b = some (.lst (nums [(x : Nat), (y : Nat)])) ∧ x ≤ 1000 ∧ y ≤ 1000 ∧ Q (.bl true) H
theorem scLike : FnScope ["told", "due"] ["told", "due"] (defScope sLike) := ⟨rfl, rfl, rfl, by decide +kernel, rfl, by decide +kernel, by decide +kernel⟩
theorem ok_like {f : Addr} {fd : FuncData} (B : Bare mg) (F : Df K mg "_law_like" sLike f fd) : FnG P w K mg base 1 f fd ["told", "due"] spLike := by
  refine okG F.fn scLike (fun vs H Q E h => ?_) (fun cdv A outer s H vs Q E hg hr h => ?_)
  · obtain ⟨a, b, x, y, rfl, _⟩ := h
    rfl
  · obtain ⟨a, b, x, y, rfl, ha, hb, hx, hy, k⟩ := h
    refine ⟨_, pss_one (ps_ret (pe_cmpR op_eq (pe_callB (call_reprD (by exact hg) hr.units) (by rfl) B.repr (by decide +kernel) (pa_cons (pv 0) pa_nil))
      (pe_callB (call_reprD (by exact hg) hr.units) (by rfl) B.repr (by decide +kernel) (pa_cons (pv 1) pa_nil)) (nomark _))), ?_⟩
    have sh : (PyData.list [.int (x : Nat), .int (y : Nat)]).showable = true := by
      have h1 := log_small x hx
      have h2 := log_small y hy
      simp only [PyData.showable, PyData.showableAll, Bool.and_true, Bool.and_eq_true, decide_eq_true_eq]
      omega
    have nd : (PyData.list [.int (x : Nat), .int (y : Nat)]).hasDict = false := by simp [PyData.hasDict, PyData.hasDictAll]
    have dp : (PyData.list [.int (x : Nat), .int (y : Nat)]).depth ≤ 8 := by simp [PyData.depth, PyData.depthAll]
    refine ⟨_, rfl, a, _, rfl, .lst (SqL.of ha) (dp_nums _), sh, nd, dp, two_len x y hx hy, ?_⟩
    refine ⟨_, rfl, b, _, rfl, .lst (SqL.of hb) (dp_nums _), sh, nd, dp, two_len x y hx hy, ?_⟩
    refine ⟨rfl, ?_⟩
    rw [decide_eq_true rfl]
    exact k
end
end Lw
/-! T. The law. -/
namespace Lw
open PySem L2 LwE LwM
theorem WAt.put_lst {C : Addr} {H : Hp} {p D : Addr} {size : Int} {ls : List Int} {xs ys : List V} (W : WAt C H p size ls) (h : H D = some (.lst xs)) : WAt C (upd H D (.lst ys)) p size ls := by
  obtain ⟨dx, t, a, b⟩ := W.ob
  exact ⟨⟨dx, t, by rw [upd_ne (ne_of a h (by intro z; cases z))]; exact a, by rw [upd_ne (ne_of b h (by intro z; cases z))]; exact b⟩, W.ls⟩
theorem made_same {C x dx : Addr} {H : Hp} (nx : H x = none) (ndx : H dx = none) : Same H (upd (upd H dx (.own x)) x (.ins C dx [])) := fun b o e => by
  rw [upd_ne (ne_of_none e nx), upd_ne (ne_of_none e ndx)]
  exact e
theorem no_len (t : Addr) (z : Int) : (wf t z).lookup ("__len__" : Str) = none := wf_no t z (by decide +kernel) (by decide +kernel)
/-- the law's own defs -/
structure Ow (P : Program) (w : World) (K : PySem.W.Frag) (mg : Str → Option Value) (base : Heap) (C fB fZ fD fL fK fN fR : Addr) (dB dZ dD dL dK dN dR : FuncData) : Prop where
  gB : Df K mg "_law_begun" sBegun fB dB
  B : FnOk P w K mg base CX0 2 fB dB ["script"] (spBegun K)
  bB : Binds K dB ["script"] []
  gZ : Df K mg "_law_size" sSize fZ dZ
  Z : FnOk P w K mg base CX0 3 fZ dZ ["m"] spSize
  bZ : Binds K dZ ["m"] []
  gD : Df K mg "_law_draw" sDraw fD dD
  D : FnOk P w K mg base CX0 2 fD dD ["m", "limit"] spDraw
  bD : Binds K dD ["m", "limit"] []
  gL : Df K mg "_law_letters" sLetters fL dL
  L : FnOk P w K mg base CX0 3 fL dL ["m", "size", "most"] spLetters
  bL : Binds K dL ["m", "size", "most"] []
  gK : Df K mg "_law_like" sLike fK dK
  K_ : FnG P w K mg base 1 fK dK ["told", "due"] spLike
  bK : Binds K dK ["told", "due"] []
  gN : Df K mg "_law_numbers" sNumbers fN dN
  N : FnOk P w K mg base CX0 6 fN dN ["parts", "i"] (spNumbers C)
  bN : Binds K dN ["parts", "i"] []
  gR : Df K mg "_law_changed_right" sChanged fR dR
  R : FnOk P w K mg base CX0 9 fR dR ["one", "other", "i"] (spChanged C)
  bR : Binds K dR ["one", "other", "i"] []
section
variable {P : Program} {w : World} {K : PySem.W.Frag} {mg : Str → Option Value} {base : Heap} {C fI fUps fDowns fUp fDown fAdd fEq fLen fB fZ fD fL fK fN fR : Addr} {dI dUps dDowns dUp dDown dAdd dEq dLen dB dZ dD dL dK dN dR : FuncData}
def spLaw (K : PySem.W.Frag) : Sp := fun vs H Q _ => ∃ (a : Addr) (ns : List Int), vs = [.ref a] ∧ SqL K H a (nums ns) ∧ ns.length ≤ 63 ∧ ∀ H', Q (.bl true) H'
theorem scLaw : FnScope ["script", "m", "turn", "size", "parts", "whole", "part", "i", "falling", "at", "letters", "longer", "short", "k"] ["script"] (defScope sLaw) := ⟨rfl, rfl, rfl, by decide +kernel, rfl, by decide +kernel, by decide +kernel⟩
set_option maxHeartbeats 1000000 in
theorem ok_law {f : Addr} {fd : FuncData} (B : Bare mg) (T : Cw K mg C) (F : Df K mg "law" sLaw f fd) (I : In_ P w K mg base C fI dI) (M : Ms P w K mg base C fUps fDowns fUp fDown fAdd fEq fLen dUps dDowns dUp dDown dAdd dEq dLen)
    (O : Ow P w K mg base C fB fZ fD fL fK fN fR dB dZ dD dL dK dN dR) : FnG P w K mg base 10 f fd ["script"] (spLaw K) := by
  refine okG F.fn scLaw (fun vs H Q E h => ?_) (fun cdv A outer s H vs Q E hg hr h => ?_)
  · obtain ⟨a, ns, rfl, _⟩ := h
    rfl
  · obtain ⟨a, ns, rfl, hS, hlen, k⟩ := h
    have hr1 : Room 1 _ := hr.mono (by decide)
    have hr2 : Room 2 _ := hr.mono (by decide)
    have hr3 : Room 3 _ := hr.mono (by decide)
    have hr5 : Room 5 _ := hr.mono (by decide)
    have hr6 : Room 6 _ := hr.mono (by decide)
    refine ⟨_, pss_cons (ps_set (i := 1) scLaw.nd rfl (Or.inr rfl) (pe_call O.B hr2 (by rfl) O.gB.g O.gB.fn.kp O.bB .nil pass0 (pa_cons (pv 0) pa_nil)))
      (pss_cons (ps_for PassesOwn.never rfl (pi_range1 (by rfl) B.range (pa_cons pe_int pa_nil)) (pg_name (i := 2) scLaw.nd rfl (Or.inl rfl))
        (pss_cons (ps_set (i := 3) scLaw.nd rfl (Or.inr rfl) (pe_call O.Z hr3 (by rfl) O.gZ.g O.gZ.fn.kp O.bZ .nil pass0 (pa_cons (pv 1) pa_nil)))
        (pss_cons (ps_setLc (i := 4) (own := [("k", 13)]) (g := gName 13) (tt := tYes) rfl scLaw.nd rfl rfl (sw_true rfl rfl rfl (by decide +kernel))
            (pi_range1 (by rfl) B.range (pa_cons (pe_op op_add pe_int (pe_call O.D hr2 (by rfl) O.gD.g O.gD.fn.kp O.bD .nil pass0 (pa_cons (pv 1) (pa_cons pe_int pa_nil)))) pa_nil))
            (blkOk_by (N := ["script", "m", "turn", "size", "parts", "whole", "part", "i", "falling", "at", "letters", "longer", "short", "k"]) (sc := defScope sLaw) (by decide +kernel))
            (fun _ _ _ _ _ => pg_name (i := 13) scLaw.nd rfl (Or.inl rfl)) (fun _ _ _ _ _ => pts_nil)
            (fun _ _ _ _ _ => pe_make I.m I.ok hr5 (by rfl) T.mgC I.b .nil pass0 (pa_cons (pv 3) (pa_cons (pe_call O.L hr3 (by rfl) O.gL.g O.gL.fn.kp O.bL .nil pass0 (pa_cons (pv 1) (pa_cons (pv 3) (pa_cons pe_int pa_nil)))) pa_nil))))
        (pss_cons (ps_set (i := 5) scLaw.nd rfl (Or.inl rfl) (pe_make I.m I.ok hr5 (by rfl) T.mgC I.b .nil pass0 (pa_cons (pv 3) (pa_cons (pe_tup pa_nil) pa_nil))))
        (pss_cons (ps_for PassesOwn.never rfl (pi_list (pv 4)) (pg_name (i := 6) scLaw.nd rfl (Or.inl rfl)) (pss_one (ps_set (i := 5) scLaw.nd rfl (Or.inl rfl) (pe_op (op_addO M.mAdd.at_ M.mAdd.fn M.first M.add M.bAdd hr6) (pv 5) (pv 6)))))
        (pss_cons (ps_for PassesOwn.never rfl (pi_range2 (by rfl) B.range (pa_cons pe_int (pa_cons (pv 3) pa_nil))) (pg_name (i := 7) scLaw.nd rfl (Or.inl rfl))
          (pss_cons (ps_if (pt_not (pt_val (pe_callG (by exact hg) O.K_ hr1 (by rfl) O.gK.g O.gK.fn.kp O.bK (pa_cons (pe_lst (pa_cons (pe_meth (pv 5) T.cl M.mUps M.ups hr5 M.bUps .nil pass0 (pa_cons (pv 7) pa_nil)) (pa_cons (pe_meth (pv 5) T.cl M.mDowns M.downs hr5 M.bDowns .nil pass0 (pa_cons (pv 7) pa_nil)) pa_nil)))
              (pa_cons (pe_call O.N hr6 (by rfl) O.gN.g O.gN.fn.kp O.bN .nil pass0 (pa_cons (pv 4) (pa_cons (pv 7) pa_nil))) pa_nil))))) pss_never pss_nil)
          (pss_one (ps_if (PW.pt (pw_or (pt_not (pt_val (pe_call O.R hr (by rfl) O.gR.g O.gR.fn.kp O.bR .nil pass0 (pa_cons (pe_ix ix_list (pv 4) pe_int (fun _ _ => rfl)) (pa_cons (pe_ix ix_list (pv 4) pe_int (fun _ _ => rfl)) (pa_cons (pv 7) pa_nil))))))
              (pw_or1 (pt_not (pt_val (pe_call O.R hr (by rfl) O.gR.g O.gR.fn.kp O.bR .nil pass0 (pa_cons (pe_ix ix_list (pv 4) pe_int (fun _ _ => rfl)) (pa_cons (pe_ix ix_list (pv 4) pe_int (fun _ _ => rfl)) (pa_cons (pv 7) pa_nil))))))))) pss_never pss_nil))))
        (pss_cons (ps_par (i := 8) (j := 9) (by rfl) scLaw.nd rfl rfl (by decide) rfl rfl (pa_cons (pe_listDn rfl (by rfl) B.list (by rfl) B.range (pa_cons (pv 3) (pa_cons pe_int (pa_cons (pe_un un_neg pe_int) pa_nil))))
            (pa_cons (pe_call O.D hr2 (by rfl) O.gD.g O.gD.fn.kp O.bD .nil pass0 (pa_cons (pv 1) (pa_cons (pe_op op_add (pe_callB (call_lenO M.mLen.at_ M.mLen.fn M.len M.bLen hr2) (by rfl) B.len PySem.boot_len (pa_cons (pv 5) pa_nil)) pe_int) pa_nil))) pa_nil)) (by rfl))
        (pss_cons (ps_set (i := 10) scLaw.nd rfl (Or.inl rfl) (pe_slice sl_list (pe_callTy call_list_of (by rfl) B.list (by decide +kernel) (pa_cons (pe_fld (pv 5) rfl) pa_nil)) po_none (po_some pe_int)))
        (pss_cons (ps_set (i := 11) scLaw.nd rfl (Or.inl rfl) (pe_make I.m I.ok hr5 (by rfl) T.mgC I.b .nil pass0 (pa_cons (pv 3) (pa_cons
            (pe_op op_cat (pe_op op_cat (pe_slice sl_list (pv 10) po_none (po_some (pv 9))) (pv 8)) (pe_slice sl_list (pv 10) (po_some (pv 9)) po_none)) pa_nil))))
        (pss_cons (ps_set (i := 12) scLaw.nd rfl (Or.inl rfl) (pe_make I.m I.ok hr5 (by rfl) T.mgC I.b .nil pass0 (pa_cons (pv 3) (pa_cons (pv 10) pa_nil))))
        (pss_one (ps_for PassesOwn.never rfl (pi_range2 (by rfl) B.range (pa_cons pe_int (pa_cons (pv 3) pa_nil))) (pg_name (i := 7) scLaw.nd rfl (Or.inl rfl))
          (pss_one (ps_if (pt_cmpR (op_neD hr.units) (pe_lst (pa_cons (pe_meth (pv 11) T.cl M.mUps M.ups hr5 M.bUps .nil pass0 (pa_cons (pv 7) pa_nil)) (pa_cons (pe_meth (pv 11) T.cl M.mDowns M.downs hr5 M.bDowns .nil pass0 (pa_cons (pv 7) pa_nil)) pa_nil)))
              (pe_lst (pa_cons (pe_meth (pv 12) T.cl M.mUps M.ups hr5 M.bUps .nil pass0 (pa_cons (pv 7) pa_nil)) (pa_cons (pe_meth (pv 12) T.cl M.mDowns M.downs hr5 M.bDowns .nil pass0 (pa_cons (pv 7) pa_nil)) pa_nil))) (nomark _)) pss_never pss_nil))))))))))))))
      (pss_one (ps_ret pe_bl))), ?_⟩
    refine ⟨_, rfl, a, ns, rfl, hS, hlen, fun m g c H0 s0 d0 => ?_⟩
    refine ⟨4, rfl, by decide, by decide, for_range (lo := 0) (n := 4) (fun j σ H' => ∃ (v2 v3 v4 v5 v6 v7 v8 v9 v10 v11 v12 v13 : Option V) (n : Int),
      σ = [some (.ref a), some (.ref m), v2, v3, v4, v5, v6, v7, v8, v9, v10, v11, v12, v13] ∧ Dr H' m g c n ∧ n ≤ 1100 * (j : Int))
      ⟨_, _, _, _, _, _, _, _, _, _, _, _, 0, rfl, d0, by omega⟩ ?_ ?_⟩
    · rintro j σ H' hj ⟨v2, v3, v4, v5, v6, v7, v8, v9, v10, v11, v12, v13, n, rfl, d, hn⟩
      -- size = _law_size(m)
      refine ⟨_, rfl, m, g, c, n, rfl, d, by omega, fun size H1 z0 z1 d1 k1 => ?_⟩
      -- parts
      refine ⟨_, rfl, m, g, c, n + 1, 4, rfl, d1, by omega, by decide, by decide, fun z H2 y0 y1 d2 k2 => ⟨_, _, rfl, rfl, ?_⟩⟩
      refine ⟨2 + z, rfl, by omega, by omega, fun D hD => ?_⟩
      have offD := d2.off hD
      refine lc_range (lo := 0) (n := (2 + z).toNat) (fun i H' => ∃ (n' : Int) (as : List Addr) (lss : List (List Int)), Dr H' m g c n' ∧ n' ≤ n + 2 + 200 * (i : Int) ∧ H' D = some (.lst (as.map V.ref)) ∧ as.length = i ∧ lss.length = i ∧
        (∀ (q : Nat) b l, as[q]? = some b → lss[q]? = some l → WAt C H' b size l) ∧ ∀ l ∈ lss, l.length ≤ 8) ⟨n + 2, [], [], ?_, by omega, upd_same, rfl, rfl, fun q b l e => by simp at e, fun l hl => by simp at hl⟩ ?_ ?_
      · have := d2.same (same_new (o := .lst []) hD)
        rw [show n + 1 + 1 = n + 2 by omega] at this
        exact this
      · rintro i H3 hi ⟨n', as, lss, d3, hn', e3, ha, hl, hw, h8⟩
        refine ⟨rfl, ?_⟩
        unfold tYes
        refine iteT ?_
        refine ⟨_, rfl, _, rfl, _, rfl, m, g, c, n', size, 8, rfl, d3, by omega, z0, z1, by decide, by decide, fun p ls n4 H4 l1 l2 l3 l4 d4 k4 nf ep => ?_⟩
        refine fun x dx nx ndx ne => ⟨x, dx, size, p, ls, rfl, upd_same, .inl (made_same nx ndx _ _ ep), ⟨z0, z1, by omega, l2⟩, fun H5 kp Wx => ⟨rfl, ?_⟩⟩
        have s5 : Same H4 H5 := Same.made nx ndx kp
        have e5 : H5 D = some (.lst (as.map V.ref)) := s5 _ _ (k4 _ _ e3 offD.m offD.g)
        refine ⟨_, e5, by rw [List.length_map]; exact small1000 (by omega), n4, as ++ [x], lss ++ [ls], (d4.same s5).upd_at offD.m offD.g offD.c, by omega, by rw [upd_same]; simp, by simp [ha], by simp [hl], fun q b l hb hl' => ?_, fun l hl' => ?_⟩
        · rcases Nat.lt_or_ge q i with z | z
          · rw [List.getElem?_append_left (by omega)] at hb hl'
            exact ((((hw q b l hb hl').keep d3 k4)).same s5).put_lst e5
          · have hq : q = i := by
              have := (List.getElem?_eq_some_iff.mp hb).1
              rw [List.length_append, List.length_singleton] at this
              omega
            subst hq
            rw [List.getElem?_append_right (by omega), ha, Nat.sub_self] at hb
            rw [List.getElem?_append_right (by omega), hl, Nat.sub_self] at hl'
            cases hb
            cases hl'
            exact Wx.put_lst e5
        · rcases List.mem_append.mp hl' with z | z
          · exact h8 l z
          · rw [List.mem_singleton.mp z]
            omega
      · rintro H3 ⟨n', as, lss, d3, hn', e3, ha, hl, hw, h8⟩
        have W3 : Parts C H3 D size lss := ⟨as, e3, by omega, hw⟩
        have hlen5 : lss.length ≤ 5 := by omega
        have hlen2 : 2 ≤ lss.length := by omega
        -- whole = Word(size, ())
        refine ⟨_, rfl, Nat.zero_le _, fun e he => ?_⟩
        have se : Same H3 (upd H3 e (.tup [])) := same_new he
        refine fun w0 dx nw ndx ne => ⟨w0, dx, size, e, [], rfl, upd_same, .inr (made_same nw ndx _ _ upd_same), ⟨z0, z1, Nat.zero_le _, fun x hx => by simp at hx⟩, fun H4 kp W0 => ⟨rfl, ?_⟩⟩
        have s4 : Same (upd H3 e (.tup [])) H4 := Same.made nw ndx kp
        have s34 : Same H3 H4 := se.trans s4
        -- for part in parts
        refine ⟨_, rfl, D, rfl, ⟨_, SqL.of (s34 _ _ e3)⟩, for_list (K := K) (a := D) (xs := as.map V.ref) (fun q σ H' => ∃ (v6 : Option V) (wq : Addr),
          σ = [some (.ref a), some (.ref m), some (.int (0 + (j : Int))), some (.int size), some (.ref D), some (.ref wq), v6, v7, v8, v9, v10, v11, v12, v13] ∧ Same H4 H' ∧ WAt C H' wq size (flat (lss.take q)))
          ⟨_, w0, rfl, Same.refl _, W0⟩ (fun q σ H' _ ⟨_, _, _, s, _⟩ => SqL.of (s _ _ (s34 _ _ e3))) ?_ ?_⟩
        · rintro q x σ H5 hx ⟨v6, wq, rfl, s5, Wq⟩
          rw [List.getElem?_map] at hx
          obtain ⟨b, hb, rfl⟩ : ∃ b, as[q]? = some b ∧ x = V.ref b := by
            cases e : as[q]? with
            | none =>
              rw [e] at hx
              cases hx
            | some b =>
              rw [e] at hx
              exact ⟨b, rfl, (Option.some.inj hx).symm⟩
          have hq : q < lss.length := by
            have := (List.getElem?_eq_some_iff.mp hb).1
            omega
          have hlq : lss[q]? = some lss[q] := List.getElem?_eq_getElem hq
          have Wb := (hw q b _ hb hlq).same (s34.trans s5)
          have en : flat (lss.take (q + 1)) = flat (lss.take q) ++ lss[q] := by
            rw [List.take_succ, hlq]
            exact flat_snoc _ _
          have fl := flat_len (lss.take q) 8 fun l hl => h8 l (List.mem_of_mem_take hl)
          have lq := h8 _ (List.getElem_mem hq)
          rw [List.length_take] at fl
          obtain ⟨dx, t, g1, g2⟩ := Wq.ob
          obtain ⟨dy, u, f1, f2⟩ := Wb.ob
          refine ⟨_, rfl, _, rfl, wq, dx, _, b, dy, _, rfl, rfl, g1, f1, wq, b, size, _, _, rfl, Wq, Wb, by omega, fun x H6 s6 nx Wx => ⟨_, x, rfl, s5.trans s6, ?_⟩⟩
          rw [en]
          exact Wx
        · rintro σ H5 ⟨v6, wq, rfl, s5, Wq⟩
          rw [List.length_map, ha, ← hl, List.take_length] at Wq
          have Ll : (flat lss).length ≤ 40 := Wq.ls.len
          have s35 : Same H3 H5 := s34.trans s5
          -- for i in range(1, size)
          refine ⟨_, rfl, 1, size, rfl, ⟨by decide, by decide, by omega, by omega⟩, for_range (lo := 1) (n := (size - 1).toNat) (fun q σ H' => ∃ v7 : Option V,
            σ = [some (.ref a), some (.ref m), some (.int (0 + (j : Int))), some (.int size), some (.ref D), some (.ref wq), v6, v7, v8, v9, v10, v11, v12, v13] ∧ Same H5 H') ⟨_, rfl, Same.refl _⟩ ?_ ?_⟩
          · rintro q σ H6 hq ⟨v7, rfl, s6⟩
            have i0 : (1 : Int) ≤ 1 + (q : Int) := by omega
            have i1 : 1 + (q : Int) ≤ size - 1 := by omega
            generalize (1 + (q : Int)) = i at i0 i1 ⊢
            have X6 := Wq.same s6
            obtain ⟨dx, t, g1, g2⟩ := X6.ob
            have bu := (br_len i (flat lss)).1
            have bd := (br_len i (flat lss)).2
            refine ⟨_, rfl, wq, dx, _, rfl, g1, no_ups _ _, _, rfl, wq, i, size, _, rfl, X6, i0, i1, fun H7 s7 => ?_⟩
            refine ⟨_, rfl, wq, dx, _, rfl, s7 _ _ g1, no_downs _ _, _, rfl, wq, i, size, _, rfl, X6.same s7, i0, i1, fun H8 s8 => ⟨(by show 2 ≤ sizeLine; decide), fun q1 hq1 => ?_⟩⟩
            have e1 : (upd H8 q1 (.lst [.int (up i (flat lss) : Nat), .int (dn i (flat lss) : Nat)])) q1 = some (.lst (nums [(up i (flat lss) : Nat), (dn i (flat lss) : Nat)])) := upd_same
            have s9 : Same H5 (upd H8 q1 (.lst [.int (up i (flat lss) : Nat), .int (dn i (flat lss) : Nat)])) := ((s6.trans s7).trans s8).trans (same_new hq1)
            generalize upd H8 q1 (.lst [.int (up i (flat lss) : Nat), .int (dn i (flat lss) : Nat)]) = H9 at e1 s9 ⊢
            refine ⟨_, rfl, _, rfl, D, i, size, lss, rfl, W3.same (s35.trans s9), i0, i1, fun q2 H10 s10 e2 => ?_⟩
            refine ⟨q1, q2, _, _, rfl, s10 _ _ e1, e2, by unfold up; omega, by unfold dn; omega, _, rfl, iteF ?_⟩
            have sA := s35.trans (s9.trans s10)
            obtain ⟨b0, hb0⟩ : ∃ b, as[0]? = some b := ⟨as[0]'(by omega), List.getElem?_eq_getElem (by omega)⟩
            obtain ⟨b1, hb1⟩ : ∃ b, as[1]? = some b := ⟨as[1]'(by omega), List.getElem?_eq_getElem (by omega)⟩
            have hl0 : lss[0]? = some (lss[0]'(by omega)) := List.getElem?_eq_getElem (by omega)
            have hl1 : lss[1]? = some (lss[1]'(by omega)) := List.getElem?_eq_getElem (by omega)
            have Y0 := (hw 0 b0 _ hb0 hl0).same sA
            have Y1 := (hw 1 b1 _ hb1 hl1).same sA
            have m0 := h8 _ (List.getElem_mem (show 0 < lss.length by omega))
            have m1 := h8 _ (List.getElem_mem (show 1 < lss.length by omega))
            have eD := sA _ _ e3
            have at0 : (as.map V.ref)[0]? = some (V.ref b0) := by
              rw [List.getElem?_map, hb0]
              rfl
            have at1 : (as.map V.ref)[1]? = some (V.ref b1) := by
              rw [List.getElem?_map, hb1]
              rfl
            refine ⟨_, rfl, D, _, _, _, rfl, rfl, SqL.of eD, at_of (j := 0) rfl at0, _, rfl, D, _, _, _, rfl, rfl, SqL.of eD, at_of (j := 1) rfl at1, _, rfl, b0, b1, i, size, _, _, rfl, Y0, Y1, by omega, i0, i1, fun H11 s11 => ⟨_, rfl, iteF ?_⟩⟩
            refine ⟨_, rfl, D, _, _, _, rfl, rfl, SqL.of (s11 _ _ eD), at_of (j := 1) rfl at1, _, rfl, D, _, _, _, rfl, rfl, SqL.of (s11 _ _ eD), at_of (j := 0) rfl at0, _, rfl, b1, b0, i, size, _, _, rfl, Y1.same s11, Y0.same s11, by omega, i0, i1, fun H12 s12 => ⟨_, rfl, iteF ?_⟩⟩
            exact ⟨_, rfl, ((s9.trans s10).trans s11).trans s12⟩
          · rintro σ H6 ⟨v7, rfl, s6⟩
            have X6 := Wq.same s6
            have d6 := d3.same (s35.trans s6)
            -- falling, at
            refine ⟨_, rfl, 1, rfl, size, 0, rfl, ⟨by omega, by omega, by decide, by decide⟩, fun fa hfa => ?_⟩
            have sf : Same H6 (upd H6 fa (.lst (nums (dnV size 0)))) := same_new hfa
            have ef : (upd H6 fa (.lst (nums (dnV size 0)))) fa = some (.lst (nums (dnV size 0))) := upd_same
            have off := d6.off hfa
            generalize upd H6 fa (.lst (nums (dnV size 0))) = H7 at sf ef ⊢
            have d7 := d6.same sf
            have X7 := X6.same sf
            obtain ⟨dx, t, g1, g2⟩ := X7.ob
            refine ⟨_, rfl, _, rfl, wq, dx, _, rfl, g1, wq, size, _, rfl, X7, _, rfl, ⟨by omega, by omega⟩, _, _, rfl, rfl, m, g, c, n', _, rfl, d7, by omega, by omega, by omega, fun at' H8 t0 t1 d8 k8 => ⟨_, _, rfl, ?_⟩⟩
            have X8 := X7.keep d7 k8
            have ef8 := k8 _ _ ef off.m off.g
            obtain ⟨dx8, t8, g18, g28⟩ := X8.ob
            -- letters
            refine ⟨_, rfl, wq, C, dx8, _, _, rfl, g18, T.cl, T.nL, wf_letters _ _, t8, _, rfl, .inr (SqT.of g28), fun l9 hl9 => ?_⟩
            have s9 : Same H8 (upd H8 l9 (.lst (nums (flat lss)))) := same_new hl9
            have e9 : (upd H8 l9 (.lst (nums (flat lss)))) l9 = some (.lst (nums (flat lss))) := upd_same
            generalize upd H8 l9 (.lst (nums (flat lss))) = H9 at s9 e9 ⊢
            refine ⟨34, rfl, l9, _, rfl, SqL.of e9, fun l10 hl10 => ?_⟩
            rw [cut_take (flat lss) (show (0 : Int) ≤ 34 by decide)]
            have LL : Ls size ((flat lss).take (34 : Int).toNat) := ⟨z0, z1, by rw [List.length_take]; omega, fun x hx => Wq.ls.bd x (List.mem_of_mem_take hx)⟩
            have L34 : ((flat lss).take (34 : Int).toNat).length ≤ 34 := by
              rw [List.length_take]
              exact Nat.min_le_left _ _
            generalize (flat lss).take (34 : Int).toNat = A at LL L34 ⊢
            have s10 : Same H8 (upd H9 l10 (.lst (nums A))) := s9.trans (same_new hl10)
            have e10 : (upd H9 l10 (.lst (nums A))) l10 = some (.lst (nums A)) := upd_same
            generalize upd H9 l10 (.lst (nums A)) = H10 at s10 e10 ⊢
            -- longer
            refine ⟨_, rfl, _, rfl, _, rfl, at', rfl, l10, _, rfl, SqL.of e10, fun b1 hb1 => ?_⟩
            rw [cut_take A t0]
            have s11 : Same H10 (upd H10 b1 (.lst (nums (A.take at'.toNat)))) := same_new hb1
            have e11 : (upd H10 b1 (.lst (nums (A.take at'.toNat)))) b1 = some (.lst (nums (A.take at'.toNat))) := upd_same
            generalize upd H10 b1 (.lst (nums (A.take at'.toNat))) = H11 at s11 e11 ⊢
            refine ⟨_, rfl, b1, fa, _, _, rfl, rfl, e11, s11 _ _ (s10 _ _ ef8), ?_, fun b2 hb2 => ?_⟩
            · rw [List.length_map, List.length_map, List.length_take, dnV_length, sizeLine_eq]
              omega
            rw [show nums (A.take at'.toNat) ++ nums (dnV size 0) = nums (A.take at'.toNat ++ dnV size 0) by simp [nums]]
            have s12 : Same H11 (upd H11 b2 (.lst (nums (A.take at'.toNat ++ dnV size 0)))) := same_new hb2
            have e12 : (upd H11 b2 (.lst (nums (A.take at'.toNat ++ dnV size 0)))) b2 = some (.lst (nums (A.take at'.toNat ++ dnV size 0))) := upd_same
            generalize upd H11 b2 (.lst (nums (A.take at'.toNat ++ dnV size 0))) = H12 at s12 e12 ⊢
            refine ⟨_, rfl, _, rfl, at', rfl, l10, _, rfl, SqL.of (s12 _ _ (s11 _ _ e10)), fun b3 hb3 => ?_⟩
            rw [cut_drop A t0]
            have s13 : Same H12 (upd H12 b3 (.lst (nums (A.drop at'.toNat)))) := same_new hb3
            have e13 : (upd H12 b3 (.lst (nums (A.drop at'.toNat)))) b3 = some (.lst (nums (A.drop at'.toNat))) := upd_same
            generalize upd H12 b3 (.lst (nums (A.drop at'.toNat))) = H13 at s13 e13 ⊢
            refine ⟨b2, b3, _, _, rfl, rfl, s13 _ _ e12, e13, ?_, fun b4 hb4 => ?_⟩
            · rw [List.length_map, List.length_map, List.length_append, List.length_take, List.length_drop, dnV_length, sizeLine_eq]
              omega
            rw [show nums (A.take at'.toNat ++ dnV size 0) ++ nums (A.drop at'.toNat) = nums (A.take at'.toNat ++ dnV size 0 ++ A.drop at'.toNat) by simp [nums]]
            have s14 : Same H10 (upd H13 b4 (.lst (nums (A.take at'.toNat ++ dnV size 0 ++ A.drop at'.toNat)))) := ((s11.trans s12).trans s13).trans (same_new hb4)
            have e14 : (upd H13 b4 (.lst (nums (A.take at'.toNat ++ dnV size 0 ++ A.drop at'.toNat)))) b4 = some (.lst (nums (A.take at'.toNat ++ dnV size 0 ++ A.drop at'.toNat))) := upd_same
            generalize upd H13 b4 (.lst (nums (A.take at'.toNat ++ dnV size 0 ++ A.drop at'.toNat))) = H14 at s14 e14 ⊢
            have LB : Ls size (A.take at'.toNat ++ dnV size 0 ++ A.drop at'.toNat) := ⟨z0, z1, by
              rw [List.length_append, List.length_append, List.length_take, List.length_drop, dnV_length]
              omega, fun x hx => by
              rcases List.mem_append.mp hx with z | z
              · rcases List.mem_append.mp z with z | z
                · exact LL.bd x (List.mem_of_mem_take z)
                · have := dnV_mem z
                  omega
              · exact LL.bd x (List.mem_of_mem_drop z)⟩
            refine fun lw dx nl ndx ne => ⟨lw, dx, size, b4, _, rfl, upd_same, .inl (made_same nl ndx _ _ e14), LB, fun H15 kp Wl => ⟨rfl, ?_⟩⟩
            have s15 : Same H14 H15 := Same.made nl ndx kp
            -- short
            refine ⟨_, rfl, _, rfl, fun sw dx2 nsw ndx2 ne2 => ⟨sw, dx2, size, l10, _, rfl, upd_same, .inl (made_same nsw ndx2 _ _ (s15 _ _ (s14 _ _ e10))), LL, fun H16 kp2 Ws => ⟨rfl, ?_⟩⟩⟩
            have s16 : Same H15 H16 := Same.made nsw ndx2 kp2
            have d16 := d8.same (((s10.trans s14).trans s15).trans s16)
            have Wl2 := Wl.same s16
            -- for i in range(1, size)
            refine ⟨_, rfl, 1, size, rfl, ⟨by decide, by decide, by omega, by omega⟩, for_range (lo := 1) (n := (size - 1).toNat) (fun q σ H' => ∃ v7 : Option V,
              σ = [some (.ref a), some (.ref m), some (.int (0 + (j : Int))), some (.int size), some (.ref D), some (.ref wq), v6, v7, some (.ref fa), some (.int at'), some (.ref l10), some (.ref lw), some (.ref sw), v13] ∧ Same H16 H') ⟨_, rfl, Same.refl _⟩ ?_ ?_⟩
            · rintro q σ H17 hq ⟨v7, rfl, s17⟩
              have i0 : (1 : Int) ≤ 1 + (q : Int) := by omega
              have i1 : 1 + (q : Int) ≤ size - 1 := by omega
              generalize (1 + (q : Int)) = i at i0 i1 ⊢
              obtain ⟨f1, f2⟩ := fall_in size i (A.take at'.toNat) (A.drop at'.toNat) z0 z1 i0 i1
              rw [List.take_append_drop] at f1 f2
              have Xl := Wl2.same s17
              have Xs := Ws.same s17
              obtain ⟨dl, tl, gl1, gl2⟩ := Xl.ob
              obtain ⟨ds, ts, gs1, gs2⟩ := Xs.ob
              refine ⟨_, rfl, lw, dl, _, rfl, gl1, no_ups _ _, _, rfl, lw, i, size, _, rfl, Xl, i0, i1, fun H18 s18 => ?_⟩
              refine ⟨_, rfl, lw, dl, _, rfl, s18 _ _ gl1, no_downs _ _, _, rfl, lw, i, size, _, rfl, Xl.same s18, i0, i1, fun H19 s19 => ⟨(by show 2 ≤ sizeLine; decide), fun q1 hq1 => ?_⟩⟩
              rw [f1, f2]
              have e1 : (upd H19 q1 (.lst [.int (up i A : Nat), .int (dn i A : Nat)])) q1 = some (.lst (nums [(up i A : Nat), (dn i A : Nat)])) := upd_same
              have s20 : Same H17 (upd H19 q1 (.lst [.int (up i A : Nat), .int (dn i A : Nat)])) := (s18.trans s19).trans (same_new hq1)
              generalize upd H19 q1 (.lst [.int (up i A : Nat), .int (dn i A : Nat)]) = H20 at e1 s20 ⊢
              refine ⟨_, rfl, sw, ds, _, rfl, s20 _ _ gs1, no_ups _ _, _, rfl, sw, i, size, _, rfl, Xs.same s20, i0, i1, fun H21 s21 => ?_⟩
              refine ⟨_, rfl, sw, ds, _, rfl, s21 _ _ (s20 _ _ gs1), no_downs _ _, _, rfl, sw, i, size, _, rfl, (Xs.same s20).same s21, i0, i1, fun H22 s22 => ⟨(by show 2 ≤ sizeLine; decide), fun q2 hq2 => ?_⟩⟩
              have e2 : (upd H22 q2 (.lst [.int (up i A : Nat), .int (dn i A : Nat)])) q2 = some (.lst (nums [(up i A : Nat), (dn i A : Nat)])) := upd_same
              have s23 : Same H20 (upd H22 q2 (.lst [.int (up i A : Nat), .int (dn i A : Nat)])) := (s21.trans s22).trans (same_new hq2)
              generalize upd H22 q2 (.lst [.int (up i A : Nat), .int (dn i A : Nat)]) = H23 at e2 s23 ⊢
              refine ⟨.list ([((up i A : Nat) : Int), ((dn i A : Nat) : Int)].map PyData.int), .list ([((up i A : Nat) : Int), ((dn i A : Nat) : Int)].map PyData.int), .lst (SqL.of (s23 _ _ e1)) (dp_nums _), .lst (SqL.of e2) (dp_nums _), shaped_nums _, shaped_nums _, _, rfl, ?_⟩
              have ee : PyData.eqv (.list ([((up i A : Nat) : Int), ((dn i A : Nat) : Int)].map PyData.int)) (.list ([((up i A : Nat) : Int), ((dn i A : Nat) : Int)].map PyData.int)) = true := by
                show PyData.eqvAll _ _ = _
                rw [eqv_nums]
                exact decide_eq_true rfl
              rw [ee]
              exact iteF ⟨_, rfl, s17.trans (s20.trans s23)⟩
            · rintro σ H17 ⟨v7, rfl, s17⟩
              exact ⟨_, _, _, _, _, _, _, _, _, _, _, _, n' + 1, rfl, d16.same s17, by omega⟩
    · rintro σ H' ⟨v2, v3, v4, v5, v6, v7, v8, v9, v10, v11, v12, v13, n, rfl, d, hn⟩
      exact k H'
end
end Lw
/-! Z. What the top has written; the end. -/
namespace Lw
open PySem L2 LwE LwM
theorem all_mk {l : PySem.W.OpenLaw} {w : World} {K : PySem.W.Frag} {h : Heap} {mg : Str → Option Value} {fa C f0 f1 f2 f3 f4 f5 f6 f7 f8 f9 f10 f11 f12 f13 f14 f15 f16 f17 f18 f19 f20 f21 f22 f23 f24 f25 f26 : Addr} {t2 t6 t40 : Tok} (X : K.In h) (G : h.Ns mainGlobals mg) (hfa : mg "law" = some (.ref fa))
    {od0 an0 : Option Addr} {sl0 : Array (Option Value)} {oc0 kV0 dc0 pm0 cd0 ct0 : Value}
    {od1 an1 : Option Addr} {sl1 : Array (Option Value)} {oc1 kV1 dc1 pm1 cd1 ct1 : Value}
    {od2 an2 : Option Addr} {sl2 : Array (Option Value)} {oc2 kV2 dc2 pm2 cd2 ct2 : Value}
    {od3 an3 : Option Addr} {sl3 : Array (Option Value)} {oc3 kV3 dc3 pm3 cd3 ct3 : Value}
    {od4 an4 : Option Addr} {sl4 : Array (Option Value)} {oc4 kV4 dc4 pm4 cd4 ct4 : Value}
    {od5 an5 : Option Addr} {sl5 : Array (Option Value)} {oc5 kV5 dc5 pm5 cd5 ct5 : Value}
    {od6 an6 : Option Addr} {sl6 : Array (Option Value)} {oc6 kV6 dc6 pm6 cd6 ct6 : Value}
    {od7 an7 : Option Addr} {sl7 : Array (Option Value)} {oc7 kV7 dc7 pm7 cd7 ct7 : Value}
    {od8 an8 : Option Addr} {sl8 : Array (Option Value)} {oc8 kV8 dc8 pm8 cd8 ct8 : Value}
    {od9 an9 : Option Addr} {sl9 : Array (Option Value)} {oc9 kV9 dc9 pm9 cd9 ct9 : Value}
    {od10 an10 : Option Addr} {sl10 : Array (Option Value)} {oc10 kV10 dc10 pm10 cd10 ct10 : Value}
    {od11 an11 : Option Addr} {sl11 : Array (Option Value)} {oc11 kV11 dc11 pm11 cd11 ct11 : Value}
    {od12 an12 : Option Addr} {sl12 : Array (Option Value)} {oc12 kV12 dc12 pm12 cd12 ct12 : Value}
    {od13 an13 : Option Addr} {sl13 : Array (Option Value)} {oc13 kV13 dc13 pm13 cd13 ct13 : Value}
    {od14 an14 : Option Addr} {sl14 : Array (Option Value)} {oc14 kV14 dc14 pm14 cd14 ct14 : Value}
    {od15 an15 : Option Addr} {sl15 : Array (Option Value)} {oc15 kV15 dc15 pm15 cd15 ct15 : Value}
    {od16 an16 : Option Addr} {sl16 : Array (Option Value)} {oc16 kV16 dc16 pm16 cd16 ct16 : Value}
    {od17 an17 : Option Addr} {sl17 : Array (Option Value)} {oc17 kV17 dc17 pm17 cd17 ct17 : Value}
    {od18 an18 : Option Addr} {sl18 : Array (Option Value)} {oc18 kV18 dc18 pm18 cd18 ct18 : Value}
    {od19 an19 : Option Addr} {sl19 : Array (Option Value)} {oc19 kV19 dc19 pm19 cd19 ct19 : Value}
    {od20 an20 : Option Addr} {sl20 : Array (Option Value)} {oc20 kV20 dc20 pm20 cd20 ct20 : Value}
    {od21 an21 : Option Addr} {sl21 : Array (Option Value)} {oc21 kV21 dc21 pm21 cd21 ct21 : Value}
    {od22 an22 : Option Addr} {sl22 : Array (Option Value)} {oc22 kV22 dc22 pm22 cd22 ct22 : Value}
    {od23 an23 : Option Addr} {sl23 : Array (Option Value)} {oc23 kV23 dc23 pm23 cd23 ct23 : Value}
    {od24 an24 : Option Addr} {sl24 : Array (Option Value)} {oc24 kV24 dc24 pm24 cd24 ct24 : Value}
    {od25 an25 : Option Addr} {sl25 : Array (Option Value)} {oc25 kV25 dc25 pm25 cd25 ct25 : Value}
    {od26 an26 : Option Addr} {sl26 : Array (Option Value)} {oc26 kV26 dc26 pm26 cd26 ct26 : Value}
    (aC : PySem.W.nsIn K mainGlobals "Word" = some (some (.ref C)))
    (a0 : PySem.W.nsIn K mainGlobals "is_whole" = some (some (.ref f0)))
    (l0 : K.lookup f0 = some ⟨oc0, od0, .func (PySem.W.fnOf "is_whole" "is_whole" (defArgs sWhole) (defBody sWhole) (defScope sWhole) .none kV0 dc0 pm0 an0 cd0 ct0), sl0⟩)
    (c0 : PySem.W.codeIn K cd0 "is_whole" = true) (k0 : PySem.W.keepIn K (.ref f0) = true)
    (a1 : PySem.W.nsIn K mainGlobals "is_between" = some (some (.ref f1)))
    (l1 : K.lookup f1 = some ⟨oc1, od1, .func (PySem.W.fnOf "is_between" "is_between" (defArgs sBetween) (defBody sBetween) (defScope sBetween) .none kV1 dc1 pm1 an1 cd1 ct1), sl1⟩)
    (c1 : PySem.W.codeIn K cd1 "is_between" = true) (k1 : PySem.W.keepIn K (.ref f1) = true)
    (a2 : PySem.W.nsIn K mainGlobals "is_listing" = some (some (.ref f2)))
    (l2 : K.lookup f2 = some ⟨oc2, od2, .func (PySem.W.fnOf "is_listing" "is_listing" (defArgs sListing) (defBody sListing) (defScope sListing) .none kV2 dc2 pm2 an2 cd2 ct2), sl2⟩)
    (c2 : PySem.W.codeIn K cd2 "is_listing" = true) (k2 : PySem.W.keepIn K (.ref f2) = true)
    (a3 : PySem.W.nsIn K mainGlobals "check_size" = some (some (.ref f3)))
    (l3 : K.lookup f3 = some ⟨oc3, od3, .func (PySem.W.fnOf "check_size" "check_size" (defArgs sCkSize) (defBody sCkSize) (defScope sCkSize) .none kV3 dc3 pm3 an3 cd3 ct3), sl3⟩)
    (c3 : PySem.W.codeIn K cd3 "check_size" = true) (k3 : PySem.W.keepIn K (.ref f3) = true)
    (a4 : PySem.W.nsIn K mainGlobals "check_index" = some (some (.ref f4)))
    (l4 : K.lookup f4 = some ⟨oc4, od4, .func (PySem.W.fnOf "check_index" "check_index" (defArgs sCkIndex) (defBody sCkIndex) (defScope sCkIndex) .none kV4 dc4 pm4 an4 cd4 ct4), sl4⟩)
    (c4 : PySem.W.codeIn K cd4 "check_index" = true) (k4 : PySem.W.keepIn K (.ref f4) = true)
    (a5 : PySem.W.nsIn K mainGlobals "check_letters" = some (some (.ref f5)))
    (l5 : K.lookup f5 = some ⟨oc5, od5, .func (PySem.W.fnOf "check_letters" "check_letters" (defArgs sCkLetters) (defBody sCkLetters) (defScope sCkLetters) .none kV5 dc5 pm5 an5 cd5 ct5), sl5⟩)
    (c5 : PySem.W.codeIn K cd5 "check_letters" = true) (k5 : PySem.W.keepIn K (.ref f5) = true)
    (a6 : PySem.W.nsIn K mainGlobals "bracketed" = some (some (.ref f6)))
    (l6 : K.lookup f6 = some ⟨oc6, od6, .func (PySem.W.fnOf "bracketed" "bracketed" (defArgs sBrack) (defBody sBrack) (defScope sBrack) .none kV6 dc6 pm6 an6 cd6 ct6), sl6⟩)
    (c6 : PySem.W.codeIn K cd6 "bracketed" = true) (k6 : PySem.W.keepIn K (.ref f6) = true)
    (a7 : PySem.W.nsIn K mainGlobals "with_letter" = some (some (.ref f7)))
    (l7 : K.lookup f7 = some ⟨oc7, od7, .func (PySem.W.fnOf "with_letter" "with_letter" (defArgs sWith) (defBody sWith) (defScope sWith) .none kV7 dc7 pm7 an7 cd7 ct7), sl7⟩)
    (c7 : PySem.W.codeIn K cd7 "with_letter" = true) (k7 : PySem.W.keepIn K (.ref f7) = true)
    (a8 : PySem.W.nsIn K mainGlobals "_law_mixed" = some (some (.ref f8)))
    (l8 : K.lookup f8 = some ⟨oc8, od8, .func (PySem.W.fnOf "_law_mixed" "_law_mixed" (defArgs sMixed) (defBody sMixed) (defScope sMixed) .none kV8 dc8 pm8 an8 cd8 ct8), sl8⟩)
    (c8 : PySem.W.codeIn K cd8 "_law_mixed" = true) (k8 : PySem.W.keepIn K (.ref f8) = true)
    (a9 : PySem.W.nsIn K mainGlobals "_law_folded" = some (some (.ref f9)))
    (l9 : K.lookup f9 = some ⟨oc9, od9, .func (PySem.W.fnOf "_law_folded" "_law_folded" (defArgs sFolded) (defBody sFolded) (defScope sFolded) .none kV9 dc9 pm9 an9 cd9 ct9), sl9⟩)
    (c9 : PySem.W.codeIn K cd9 "_law_folded" = true) (k9 : PySem.W.keepIn K (.ref f9) = true)
    (a10 : PySem.W.nsIn K mainGlobals "_law_draw" = some (some (.ref f10)))
    (l10 : K.lookup f10 = some ⟨oc10, od10, .func (PySem.W.fnOf "_law_draw" "_law_draw" (defArgs sDraw) (defBody sDraw) (defScope sDraw) .none kV10 dc10 pm10 an10 cd10 ct10), sl10⟩)
    (c10 : PySem.W.codeIn K cd10 "_law_draw" = true) (k10 : PySem.W.keepIn K (.ref f10) = true)
    (a11 : PySem.W.nsIn K mainGlobals "_law_begun" = some (some (.ref f11)))
    (l11 : K.lookup f11 = some ⟨oc11, od11, .func (PySem.W.fnOf "_law_begun" "_law_begun" (defArgs sBegun) (defBody sBegun) (defScope sBegun) .none kV11 dc11 pm11 an11 cd11 ct11), sl11⟩)
    (c11 : PySem.W.codeIn K cd11 "_law_begun" = true) (k11 : PySem.W.keepIn K (.ref f11) = true)
    (a12 : PySem.W.nsIn K mainGlobals "_law_size" = some (some (.ref f12)))
    (l12 : K.lookup f12 = some ⟨oc12, od12, .func (PySem.W.fnOf "_law_size" "_law_size" (defArgs sSize) (defBody sSize) (defScope sSize) .none kV12 dc12 pm12 an12 cd12 ct12), sl12⟩)
    (c12 : PySem.W.codeIn K cd12 "_law_size" = true) (k12 : PySem.W.keepIn K (.ref f12) = true)
    (a13 : PySem.W.nsIn K mainGlobals "_law_letters" = some (some (.ref f13)))
    (l13 : K.lookup f13 = some ⟨oc13, od13, .func (PySem.W.fnOf "_law_letters" "_law_letters" (defArgs sLetters) (defBody sLetters) (defScope sLetters) .none kV13 dc13 pm13 an13 cd13 ct13), sl13⟩)
    (c13 : PySem.W.codeIn K cd13 "_law_letters" = true) (k13 : PySem.W.keepIn K (.ref f13) = true)
    (a14 : PySem.W.nsIn K mainGlobals "_law_like" = some (some (.ref f14)))
    (l14 : K.lookup f14 = some ⟨oc14, od14, .func (PySem.W.fnOf "_law_like" "_law_like" (defArgs sLike) (defBody sLike) (defScope sLike) .none kV14 dc14 pm14 an14 cd14 ct14), sl14⟩)
    (c14 : PySem.W.codeIn K cd14 "_law_like" = true) (k14 : PySem.W.keepIn K (.ref f14) = true)
    (a15 : PySem.W.nsIn K mainGlobals "_law_numbers" = some (some (.ref f15)))
    (l15 : K.lookup f15 = some ⟨oc15, od15, .func (PySem.W.fnOf "_law_numbers" "_law_numbers" (defArgs sNumbers) (defBody sNumbers) (defScope sNumbers) .none kV15 dc15 pm15 an15 cd15 ct15), sl15⟩)
    (c15 : PySem.W.codeIn K cd15 "_law_numbers" = true) (k15 : PySem.W.keepIn K (.ref f15) = true)
    (a16 : PySem.W.nsIn K mainGlobals "_law_changed_right" = some (some (.ref f16)))
    (l16 : K.lookup f16 = some ⟨oc16, od16, .func (PySem.W.fnOf "_law_changed_right" "_law_changed_right" (defArgs sChanged) (defBody sChanged) (defScope sChanged) .none kV16 dc16 pm16 an16 cd16 ct16), sl16⟩)
    (c16 : PySem.W.codeIn K cd16 "_law_changed_right" = true) (k16 : PySem.W.keepIn K (.ref f16) = true)
    (a17 : PySem.W.nsIn K mainGlobals "law" = some (some (.ref f17)))
    (l17 : K.lookup f17 = some ⟨oc17, od17, .func (PySem.W.fnOf "law" "law" (defArgs sLaw) (defBody sLaw) (defScope sLaw) .none kV17 dc17 pm17 an17 cd17 ct17), sl17⟩)
    (c17 : PySem.W.codeIn K cd17 "law" = true) (k17 : PySem.W.keepIn K (.ref f17) = true)
    (a18 : PySem.W.findIn K (.ref C) "__init__" = some (some (.ref f18))) (i18 : PySem.W.isFn K (.ref f18) = true)
    (l18 : K.lookup f18 = some ⟨oc18, od18, .func (PySem.W.fnOf "__init__" "Word.__init__" (defArgs sInit) (defBody sInit) (defScope sInit) .none kV18 dc18 pm18 an18 cd18 ct18), sl18⟩)
    (c18 : PySem.W.codeIn K cd18 "Word.__init__" = true) (k18 : PySem.W.keepIn K (.ref f18) = true)
    (a19 : PySem.W.findIn K (.ref C) "__len__" = some (some (.ref f19))) (i19 : PySem.W.isFn K (.ref f19) = true)
    (l19 : K.lookup f19 = some ⟨oc19, od19, .func (PySem.W.fnOf "__len__" "Word.__len__" (defArgs sLen) (defBody sLen) (defScope sLen) .none kV19 dc19 pm19 an19 cd19 ct19), sl19⟩)
    (c19 : PySem.W.codeIn K cd19 "Word.__len__" = true) (k19 : PySem.W.keepIn K (.ref f19) = true)
    (a20 : PySem.W.findIn K (.ref C) "__eq__" = some (some (.ref f20))) (i20 : PySem.W.isFn K (.ref f20) = true)
    (l20 : K.lookup f20 = some ⟨oc20, od20, .func (PySem.W.fnOf "__eq__" "Word.__eq__" (defArgs sEq) (defBody sEq) (defScope sEq) .none kV20 dc20 pm20 an20 cd20 ct20), sl20⟩)
    (c20 : PySem.W.codeIn K cd20 "Word.__eq__" = true) (k20 : PySem.W.keepIn K (.ref f20) = true)
    (a21 : PySem.W.findIn K (.ref C) "__add__" = some (some (.ref f21))) (i21 : PySem.W.isFn K (.ref f21) = true)
    (l21 : K.lookup f21 = some ⟨oc21, od21, .func (PySem.W.fnOf "__add__" "Word.__add__" (defArgs sAdd) (defBody sAdd) (defScope sAdd) .none kV21 dc21 pm21 an21 cd21 ct21), sl21⟩)
    (c21 : PySem.W.codeIn K cd21 "Word.__add__" = true) (k21 : PySem.W.keepIn K (.ref f21) = true)
    (a22 : PySem.W.findIn K (.ref C) "spare" = some (some (.ref f22))) (i22 : PySem.W.isFn K (.ref f22) = true)
    (l22 : K.lookup f22 = some ⟨oc22, od22, .func (PySem.W.fnOf "spare" "Word.spare" (defArgs sSpare) (defBody sSpare) (defScope sSpare) .none kV22 dc22 pm22 an22 cd22 ct22), sl22⟩)
    (c22 : PySem.W.codeIn K cd22 "Word.spare" = true) (k22 : PySem.W.keepIn K (.ref f22) = true)
    (a23 : PySem.W.findIn K (.ref C) "ups" = some (some (.ref f23))) (i23 : PySem.W.isFn K (.ref f23) = true)
    (l23 : K.lookup f23 = some ⟨oc23, od23, .func (PySem.W.fnOf "ups" "Word.ups" (defArgs sUps) (defBody sUps) (defScope sUps) .none kV23 dc23 pm23 an23 cd23 ct23), sl23⟩)
    (c23 : PySem.W.codeIn K cd23 "Word.ups" = true) (k23 : PySem.W.keepIn K (.ref f23) = true)
    (a24 : PySem.W.findIn K (.ref C) "downs" = some (some (.ref f24))) (i24 : PySem.W.isFn K (.ref f24) = true)
    (l24 : K.lookup f24 = some ⟨oc24, od24, .func (PySem.W.fnOf "downs" "Word.downs" (defArgs sDowns) (defBody sDowns) (defScope sDowns) .none kV24 dc24 pm24 an24 cd24 ct24), sl24⟩)
    (c24 : PySem.W.codeIn K cd24 "Word.downs" = true) (k24 : PySem.W.keepIn K (.ref f24) = true)
    (a25 : PySem.W.findIn K (.ref C) "up" = some (some (.ref f25))) (i25 : PySem.W.isFn K (.ref f25) = true)
    (l25 : K.lookup f25 = some ⟨oc25, od25, .func (PySem.W.fnOf "up" "Word.up" (defArgs sUp) (defBody sUp) (defScope sUp) .none kV25 dc25 pm25 an25 cd25 ct25), sl25⟩)
    (c25 : PySem.W.codeIn K cd25 "Word.up" = true) (k25 : PySem.W.keepIn K (.ref f25) = true)
    (a26 : PySem.W.findIn K (.ref C) "down" = some (some (.ref f26))) (i26 : PySem.W.isFn K (.ref f26) = true)
    (l26 : K.lookup f26 = some ⟨oc26, od26, .func (PySem.W.fnOf "down" "Word.down" (defArgs sDown) (defBody sDown) (defScope sDown) .none kV26 dc26 pm26 an26 cd26 ct26), sl26⟩)
    (c26 : PySem.W.codeIn K cd26 "Word.down" = true) (k26 : PySem.W.keepIn K (.ref f26) = true)
    (pg : PySem.W.plainGet K C Str.empty = true)
    (hd : PySem.W.hasDictIn K C = true)
    (po : PySem.W.plainOver K C = true)
    (sa : PySem.W.findIn K (.ref C) "__setattr__" = some (some (.builtin "object.__setattr__")))
    (mkC : PySem.W.makesIn K C = true)
    (kc : PySem.W.keepIn K (.ref C) = true)
    (nS : PySem.W.findIn K (.ref C) "size" = some none)
    (nL : PySem.W.findIn K (.ref C) "letters" = some none)
    (ca : PySem.W.findIn K (.ref C) "__class__" = some (some (.builtin "object.__class__")))
    (cn : PySem.W.specialIn K (.builtin "object.__class__") "__get__" = some (some (.builtin "getset_descriptor.__get__")))
    (ct : PySem.W.takesIn K (.builtin "object.__class__") = some true)
    (cm : PySem.W.mroIn K C (.type "object") = some true)
    (sf : PySem.W.selfFirst K C = true)
    (ne : PySem.W.findIn K (.ref C) "__ne__" = some (some (.builtin "object.__ne__")))
    (n2 : PySem.W.nsIn K mainGlobals "LEAST_SIZE" = some (some (.int 2 t2)))
    (n6 : PySem.W.nsIn K mainGlobals "MOST_SIZE" = some (some (.int 6 t6)))
    (n40 : PySem.W.nsIn K mainGlobals "MOST_LETTERS" = some (some (.int 40 t40)))
    (z_isinstance : PySem.W.nsIn K mainGlobals "isinstance" = some none)
    (z_int : PySem.W.nsIn K mainGlobals "int" = some none)
    (z_bool : PySem.W.nsIn K mainGlobals "bool" = some none)
    (z_list : PySem.W.nsIn K mainGlobals "list" = some none)
    (z_tuple : PySem.W.nsIn K mainGlobals "tuple" = some none)
    (z_len : PySem.W.nsIn K mainGlobals "len" = some none)
    (z_range : PySem.W.nsIn K mainGlobals "range" = some none)
    (z_enumerate : PySem.W.nsIn K mainGlobals "enumerate" = some none)
    (z_sorted : PySem.W.nsIn K mainGlobals "sorted" = some none)
    (z_min : PySem.W.nsIn K mainGlobals "min" = some none)
    (z_repr : PySem.W.nsIn K mainGlobals "repr" = some none) :
    ∃ fd : FuncData, (∀ (s : Shared) (v : Value), BindsTo s fd ⟨[v], []⟩ [("script", v)]) ∧ ∀ base : Heap, K.In base → base.Ns mainGlobals mg → FnG l.prog w K mg base 10 fa fd ["script"] (spLaw K) := by
  have e := hfa.symm.trans (PySem.W.mg_of X G a17)
  cases e
  have B : Bare mg := ⟨PySem.W.mg_none_of X G z_isinstance, PySem.W.mg_none_of X G z_int, PySem.W.mg_none_of X G z_bool, PySem.W.mg_none_of X G z_list, PySem.W.mg_none_of X G z_tuple, PySem.W.mg_none_of X G z_len, PySem.W.mg_none_of X G z_range, PySem.W.mg_none_of X G z_enumerate, PySem.W.mg_none_of X G z_sorted, PySem.W.mg_none_of X G z_min, PySem.W.mg_none_of X G z_repr⟩
  have N : Nums mg := ⟨⟨_, PySem.W.mg_of X G n2⟩, ⟨_, PySem.W.mg_of X G n6⟩, ⟨_, PySem.W.mg_of X G n40⟩⟩
  have T : Cw K mg C := ⟨⟨pg, hd, po, sa⟩, nS, nL, PySem.W.mg_of X G aC, ca, cn, ct, cm⟩
  have F0 := fun_mk (st := sWhole) l0 c0 k0
  have b0 := F0.binds (ps := ["value"]) fun _ _ _ _ _ _ us hl => match us, hl with | [_], _ => rfl
  have D0 : Df K mg "is_whole" sWhole f0 _ := ⟨F0, PySem.W.mg_of X G a0⟩
  have F1 := fun_mk (st := sBetween) l1 c1 k1
  have b1 := F1.binds (ps := ["value", "least", "most"]) fun _ _ _ _ _ _ us hl => match us, hl with | [_, _, _], _ => rfl
  have D1 : Df K mg "is_between" sBetween f1 _ := ⟨F1, PySem.W.mg_of X G a1⟩
  have F2 := fun_mk (st := sListing) l2 c2 k2
  have b2 := F2.binds (ps := ["value"]) fun _ _ _ _ _ _ us hl => match us, hl with | [_], _ => rfl
  have D2 : Df K mg "is_listing" sListing f2 _ := ⟨F2, PySem.W.mg_of X G a2⟩
  have F3 := fun_mk (st := sCkSize) l3 c3 k3
  have b3 := F3.binds (ps := ["size"]) fun _ _ _ _ _ _ us hl => match us, hl with | [_], _ => rfl
  have D3 : Df K mg "check_size" sCkSize f3 _ := ⟨F3, PySem.W.mg_of X G a3⟩
  have F4 := fun_mk (st := sCkIndex) l4 c4 k4
  have b4 := F4.binds (ps := ["size", "i"]) fun _ _ _ _ _ _ us hl => match us, hl with | [_, _], _ => rfl
  have D4 : Df K mg "check_index" sCkIndex f4 _ := ⟨F4, PySem.W.mg_of X G a4⟩
  have F5 := fun_mk (st := sCkLetters) l5 c5 k5
  have b5 := F5.binds (ps := ["size", "letters"]) fun _ _ _ _ _ _ us hl => match us, hl with | [_, _], _ => rfl
  have D5 : Df K mg "check_letters" sCkLetters f5 _ := ⟨F5, PySem.W.mg_of X G a5⟩
  have F6 := fun_mk (st := sBrack) l6 c6 k6
  have b6 := F6.binds (ps := ["letters", "i"]) fun _ _ _ _ _ _ us hl => match us, hl with | [_, _], _ => rfl
  have D6 : Df K mg "bracketed" sBrack f6 _ := ⟨F6, PySem.W.mg_of X G a6⟩
  have F7 := fun_mk (st := sWith) l7 c7 k7
  have b7 := F7.binds (ps := ["word", "place", "letter"]) fun _ _ _ _ _ _ us hl => match us, hl with | [_, _, _], _ => rfl
  have D7 : Df K mg "with_letter" sWith f7 _ := ⟨F7, PySem.W.mg_of X G a7⟩
  have F8 := fun_mk (st := sMixed) l8 c8 k8
  have b8 := F8.binds (ps := ["cell", "n"]) fun _ _ _ _ _ _ us hl => match us, hl with | [_, _], _ => rfl
  have D8 : Df K mg "_law_mixed" sMixed f8 _ := ⟨F8, PySem.W.mg_of X G a8⟩
  have F9 := fun_mk (st := sFolded) l9 c9 k9
  have b9 := F9.binds (ps := ["script"]) fun _ _ _ _ _ _ us hl => match us, hl with | [_], _ => rfl
  have D9 : Df K mg "_law_folded" sFolded f9 _ := ⟨F9, PySem.W.mg_of X G a9⟩
  have F10 := fun_mk (st := sDraw) l10 c10 k10
  have b10 := F10.binds (ps := ["m", "limit"]) fun _ _ _ _ _ _ us hl => match us, hl with | [_, _], _ => rfl
  have D10 : Df K mg "_law_draw" sDraw f10 _ := ⟨F10, PySem.W.mg_of X G a10⟩
  have F11 := fun_mk (st := sBegun) l11 c11 k11
  have b11 := F11.binds (ps := ["script"]) fun _ _ _ _ _ _ us hl => match us, hl with | [_], _ => rfl
  have D11 : Df K mg "_law_begun" sBegun f11 _ := ⟨F11, PySem.W.mg_of X G a11⟩
  have F12 := fun_mk (st := sSize) l12 c12 k12
  have b12 := F12.binds (ps := ["m"]) fun _ _ _ _ _ _ us hl => match us, hl with | [_], _ => rfl
  have D12 : Df K mg "_law_size" sSize f12 _ := ⟨F12, PySem.W.mg_of X G a12⟩
  have F13 := fun_mk (st := sLetters) l13 c13 k13
  have b13 := F13.binds (ps := ["m", "size", "most"]) fun _ _ _ _ _ _ us hl => match us, hl with | [_, _, _], _ => rfl
  have D13 : Df K mg "_law_letters" sLetters f13 _ := ⟨F13, PySem.W.mg_of X G a13⟩
  have F14 := fun_mk (st := sLike) l14 c14 k14
  have b14 := F14.binds (ps := ["told", "due"]) fun _ _ _ _ _ _ us hl => match us, hl with | [_, _], _ => rfl
  have D14 : Df K mg "_law_like" sLike f14 _ := ⟨F14, PySem.W.mg_of X G a14⟩
  have F15 := fun_mk (st := sNumbers) l15 c15 k15
  have b15 := F15.binds (ps := ["parts", "i"]) fun _ _ _ _ _ _ us hl => match us, hl with | [_, _], _ => rfl
  have D15 : Df K mg "_law_numbers" sNumbers f15 _ := ⟨F15, PySem.W.mg_of X G a15⟩
  have F16 := fun_mk (st := sChanged) l16 c16 k16
  have b16 := F16.binds (ps := ["one", "other", "i"]) fun _ _ _ _ _ _ us hl => match us, hl with | [_, _, _], _ => rfl
  have D16 : Df K mg "_law_changed_right" sChanged f16 _ := ⟨F16, PySem.W.mg_of X G a16⟩
  have F17 := fun_mk (st := sLaw) l17 c17 k17
  have b17 := F17.binds (ps := ["script"]) fun _ _ _ _ _ _ us hl => match us, hl with | [_], _ => rfl
  have D17 : Df K mg "law" sLaw fa _ := ⟨F17, PySem.W.mg_of X G a17⟩
  have F18 := fun_mk (st := sInit) l18 c18 k18
  have b18 := F18.binds (ps := ["self", "size", "letters"]) fun _ _ _ _ _ _ us hl => match us, hl with | [_, _, _], _ => rfl
  have M18 : Meth K C "__init__" f18 := ⟨a18, i18, k18⟩
  have F19 := fun_mk (st := sLen) l19 c19 k19
  have b19 := F19.binds (ps := ["self"]) fun _ _ _ _ _ _ us hl => match us, hl with | [_], _ => rfl
  have M19 : Meth K C "__len__" f19 := ⟨a19, i19, k19⟩
  have F20 := fun_mk (st := sEq) l20 c20 k20
  have b20 := F20.binds (ps := ["self", "other"]) fun _ _ _ _ _ _ us hl => match us, hl with | [_, _], _ => rfl
  have M20 : Meth K C "__eq__" f20 := ⟨a20, i20, k20⟩
  have F21 := fun_mk (st := sAdd) l21 c21 k21
  have b21 := F21.binds (ps := ["self", "other"]) fun _ _ _ _ _ _ us hl => match us, hl with | [_, _], _ => rfl
  have M21 : Meth K C "__add__" f21 := ⟨a21, i21, k21⟩
  have F22 := fun_mk (st := sSpare) l22 c22 k22
  have b22 := F22.binds (ps := ["self", "i"]) fun _ _ _ _ _ _ us hl => match us, hl with | [_, _], _ => rfl
  have M22 : Meth K C "spare" f22 := ⟨a22, i22, k22⟩
  have F23 := fun_mk (st := sUps) l23 c23 k23
  have b23 := F23.binds (ps := ["self", "i"]) fun _ _ _ _ _ _ us hl => match us, hl with | [_, _], _ => rfl
  have M23 : Meth K C "ups" f23 := ⟨a23, i23, k23⟩
  have F24 := fun_mk (st := sDowns) l24 c24 k24
  have b24 := F24.binds (ps := ["self", "i"]) fun _ _ _ _ _ _ us hl => match us, hl with | [_, _], _ => rfl
  have M24 : Meth K C "downs" f24 := ⟨a24, i24, k24⟩
  have F25 := fun_mk (st := sUp) l25 c25 k25
  have b25 := F25.binds (ps := ["self", "i"]) fun _ _ _ _ _ _ us hl => match us, hl with | [_, _], _ => rfl
  have M25 : Meth K C "up" f25 := ⟨a25, i25, k25⟩
  have F26 := fun_mk (st := sDown) l26 c26 k26
  have b26 := F26.binds (ps := ["self", "i"]) fun _ _ _ _ _ _ us hl => match us, hl with | [_, _], _ => rfl
  have M26 : Meth K C "down" f26 := ⟨a26, i26, k26⟩
  refine ⟨PySem.W.fnOf "law" "law" (defArgs sLaw) (defBody sLaw) (defScope sLaw) .none kV17 dc17 pm17 an17 cd17 ct17, fun s v => .of_eq rfl, fun base _ _ => ?_⟩
  have Gwhole := ok_whole (P := l.prog) (w := w) (base := base) B D0
  have Gbet := ok_between (P := l.prog) (w := w) (base := base) B D1
  have Glist := ok_listing (P := l.prog) (w := w) (base := base) B D2
  have Gcs := ok_cksize (P := l.prog) (w := w) (base := base) N D3 D1 b1 Gbet
  have Gci := ok_ckindex (P := l.prog) (w := w) (base := base) D4 D1 b1 Gbet
  have Gcl := ok_ckletters (P := l.prog) (w := w) (base := base) B N D5 D1 b1 Gbet D2 b2 Glist
  have Gbr := ok_brack (P := l.prog) (w := w) (base := base) B D6
  have Gin := ok_init (P := l.prog) (w := w) (base := base) B T F18 D3 b3 Gcs D5 b5 Gcl
  have I : In_ l.prog w K mg base C f18 _ := ⟨⟨mkC, a18, i18, kc⟩, Gin, b18⟩
  have Gwi := ok_with T D7 I
  have Glen := ok_len (P := l.prog) (w := w) (base := base) B T F19
  have Geq := ok_eq (P := l.prog) (w := w) (base := base) B T F20
  have Gadd := ok_add B N T F21 I
  have Gsp := ok_spare (P := l.prog) (w := w) (base := base) B T F22 D4 b4 Gci D6 b6 Gbr
  have S : Sp_ l.prog w K mg base C f22 _ := ⟨M22, Gsp, b22⟩
  have Gups := ok_ups B T F23 S
  have Gdowns := ok_downs B T F24 S
  have Gup := ok_up T F25 S D7 b7 Gwi
  have Gdown := ok_down T F26 S D7 b7 Gwi
  have M : Ms l.prog w K mg base C f23 f24 f25 f26 f21 f20 f19 _ _ _ _ _ _ _ := ⟨M23, Gups, b23, M24, Gdowns, b24, M25, Gup, b25, M26, Gdown, b26, M21, Gadd, b21, sf, M20, Geq, b20, ne, M19, Glen, b19⟩
  have Gmix := ok_mixed (P := l.prog) (w := w) (base := base) B D8
  have Gfol := ok_folded (P := l.prog) (w := w) (base := base) B D9
  have Gdr := ok_draw (P := l.prog) (w := w) (base := base) B D10 D8 b8 Gmix
  have Gbe := ok_begun (P := l.prog) (w := w) (base := base) D11 D9 b9 Gfol
  have Gsz := ok_size (P := l.prog) (w := w) (base := base) D12 D10 b10 Gdr
  have Gle := ok_letters (P := l.prog) (w := w) (base := base) B D13 D10 b10 Gdr
  have Gli := ok_like (P := l.prog) (w := w) (base := base) B D14
  have Gnu := ok_numbers B T D15 M
  have Gch := ok_changed T D16 M
  have O : Ow l.prog w K mg base C f11 f12 f10 f13 f14 f15 f16 _ _ _ _ _ _ _ := ⟨D11, Gbe, b11, D12, Gsz, b12, D10, Gdr, b10, D13, Gle, b13, D14, Gli, b14, D15, Gnu, b15, D16, Gch, b16⟩
  exact ok_law B T D17 I M O
theorem walk {l : PySem.W.OpenLaw} {q : Program} {loose : List Str} {XP : (Str → Option Value) → Heap → Prop} {YP : World → Heap → Prop} {d : DefRec} {K : Params → PySem.W.Frag} (hn : l.most = some 63) (hdf : d.params.defaults = [])
    (hY : ∀ (w : World) (h : Heap), YP w h → (K w.params).In h)
    (F : ∀ (w : World) (mg : Str → Option Value) (fa : Addr) (h : Heap), (K w.params).In h → h.Ns mainGlobals mg → mg d.name = some (.ref fa) →
      ∃ fd : FuncData, (∀ (s : Shared) (u : Value), BindsTo s fd ⟨[u], []⟩ [("script", u)]) ∧ ∀ base : Heap, (K w.params).In base → base.Ns mainGlobals mg → FnG l.prog w (K w.params) mg base 10 fa fd ["script"] (spLaw (K w.params))) :
    PySem.W.WalkO q loose XP YP l.row.toRowW d [] (fun f vs => PySem.call f vs) :=
  LwE.walkG (n := 63) (k := 10) (x := "script") (sp := fun w => spLaw (K w.params)) hn (by decide) hdf ⟨rfl, by decide, by decide⟩ hY F fun _ _ a ns hl _ hS => ⟨a, ns, rfl, hS, hl, fun _ => rfl⟩
end Lw
open PySem PySem.W PyProof.Rows
set_option maxRecDepth 100000 in
set_option maxHeartbeats 0 in
theorem PySem.Challenge.cw_liftwords_k05_whole_joined_words_holds : PySem.Challenge.rw_liftwords_k05_whole_joined_words.Holds := by
  w_on; o_law; k_head; (case hw => w_witness2)
  k_fill
  refine Lw.walk (l := PySem.Challenge.rw_liftwords_k05_whole_joined_words) rfl rfl (fun w h Y => PySem.W.kIn_of Y) ?F
  case F =>
    intro w mg fa h KX G hmg
    refine' Lw.all_mk KX G hmg ?aC ?a0 ?l0 ?c0 ?k0 ?a1 ?l1 ?c1 ?k1 ?a2 ?l2 ?c2 ?k2 ?a3 ?l3 ?c3 ?k3 ?a4 ?l4 ?c4 ?k4 ?a5 ?l5 ?c5 ?k5 ?a6 ?l6 ?c6 ?k6 ?a7 ?l7 ?c7 ?k7 ?a8 ?l8 ?c8 ?k8 ?a9 ?l9 ?c9 ?k9 ?a10 ?l10 ?c10 ?k10 ?a11 ?l11 ?c11 ?k11 ?a12 ?l12 ?c12 ?k12 ?a13 ?l13 ?c13 ?k13 ?a14 ?l14 ?c14 ?k14 ?a15 ?l15 ?c15 ?k15 ?a16 ?l16 ?c16 ?k16 ?a17 ?l17 ?c17 ?k17 ?a18 ?i18 ?l18 ?c18 ?k18 ?a19 ?i19 ?l19 ?c19 ?k19 ?a20 ?i20 ?l20 ?c20 ?k20 ?a21 ?i21 ?l21 ?c21 ?k21 ?a22 ?i22 ?l22 ?c22 ?k22 ?a23 ?i23 ?l23 ?c23 ?k23 ?a24 ?i24 ?l24 ?c24 ?k24 ?a25 ?i25 ?l25 ?c25 ?k25 ?a26 ?i26 ?l26 ?c26 ?k26 ?pg ?hd ?po ?sa ?mkC ?kc ?nS ?nL ?ca ?cn ?ct ?cm ?sf ?ne ?n2 ?n6 ?n40 ?z_isinstance ?z_int ?z_bool ?z_list ?z_tuple ?z_len ?z_range ?z_enumerate ?z_sorted ?z_min ?z_repr
    (case aC => k_is)
    (case a0 => k_is)
    (case l0 => k_is)
    (case c0 => k_is)
    (case k0 => k_is)
    (case a1 => k_is)
    (case l1 => k_is)
    (case c1 => k_is)
    (case k1 => k_is)
    (case a2 => k_is)
    (case l2 => k_is)
    (case c2 => k_is)
    (case k2 => k_is)
    (case a3 => k_is)
    (case l3 => k_is)
    (case c3 => k_is)
    (case k3 => k_is)
    (case a4 => k_is)
    (case l4 => k_is)
    (case c4 => k_is)
    (case k4 => k_is)
    (case a5 => k_is)
    (case l5 => k_is)
    (case c5 => k_is)
    (case k5 => k_is)
    (case a6 => k_is)
    (case l6 => k_is)
    (case c6 => k_is)
    (case k6 => k_is)
    (case a7 => k_is)
    (case l7 => k_is)
    (case c7 => k_is)
    (case k7 => k_is)
    (case a8 => k_is)
    (case l8 => k_is)
    (case c8 => k_is)
    (case k8 => k_is)
    (case a9 => k_is)
    (case l9 => k_is)
    (case c9 => k_is)
    (case k9 => k_is)
    (case a10 => k_is)
    (case l10 => k_is)
    (case c10 => k_is)
    (case k10 => k_is)
    (case a11 => k_is)
    (case l11 => k_is)
    (case c11 => k_is)
    (case k11 => k_is)
    (case a12 => k_is)
    (case l12 => k_is)
    (case c12 => k_is)
    (case k12 => k_is)
    (case a13 => k_is)
    (case l13 => k_is)
    (case c13 => k_is)
    (case k13 => k_is)
    (case a14 => k_is)
    (case l14 => k_is)
    (case c14 => k_is)
    (case k14 => k_is)
    (case a15 => k_is)
    (case l15 => k_is)
    (case c15 => k_is)
    (case k15 => k_is)
    (case a16 => k_is)
    (case l16 => k_is)
    (case c16 => k_is)
    (case k16 => k_is)
    (case a17 => k_is)
    (case l17 => k_is)
    (case c17 => k_is)
    (case k17 => k_is)
    (case a18 => k_is)
    (case i18 => k_is)
    (case l18 => k_is)
    (case c18 => k_is)
    (case k18 => k_is)
    (case a19 => k_is)
    (case i19 => k_is)
    (case l19 => k_is)
    (case c19 => k_is)
    (case k19 => k_is)
    (case a20 => k_is)
    (case i20 => k_is)
    (case l20 => k_is)
    (case c20 => k_is)
    (case k20 => k_is)
    (case a21 => k_is)
    (case i21 => k_is)
    (case l21 => k_is)
    (case c21 => k_is)
    (case k21 => k_is)
    (case a22 => k_is)
    (case i22 => k_is)
    (case l22 => k_is)
    (case c22 => k_is)
    (case k22 => k_is)
    (case a23 => k_is)
    (case i23 => k_is)
    (case l23 => k_is)
    (case c23 => k_is)
    (case k23 => k_is)
    (case a24 => k_is)
    (case i24 => k_is)
    (case l24 => k_is)
    (case c24 => k_is)
    (case k24 => k_is)
    (case a25 => k_is)
    (case i25 => k_is)
    (case l25 => k_is)
    (case c25 => k_is)
    (case k25 => k_is)
    (case a26 => k_is)
    (case i26 => k_is)
    (case l26 => k_is)
    (case c26 => k_is)
    (case k26 => k_is)
    (case pg => k_is)
    (case hd => k_is)
    (case po => k_is)
    (case sa => k_is)
    (case mkC => k_is)
    (case kc => k_is)
    (case nS => k_is)
    (case nL => k_is)
    (case ca => k_is)
    (case cn => k_is)
    (case ct => k_is)
    (case cm => k_is)
    (case sf => k_is)
    (case ne => k_is)
    (case n2 => k_is)
    (case n6 => k_is)
    (case n40 => k_is)
    (case z_isinstance => k_is)
    (case z_int => k_is)
    (case z_bool => k_is)
    (case z_list => k_is)
    (case z_tuple => k_is)
    (case z_len => k_is)
    (case z_range => k_is)
    (case z_enumerate => k_is)
    (case z_sorted => k_is)
    (case z_min => k_is)
    (case z_repr => k_is)
