import PyProof.Rows.All
import Wide.All
import OpenK.AllK
import Wide.FinOn
import HandS.ForMost
import HandS.ForExc
import HandS.IsInst
import HandS.ExcField
import KE.KExcIs
import KE.KTryMore
import HandS.Conv
import HandS.Sort
import HandS.Style
import HandS.Flow
import HandS.Lambda
import HandS.TupAny
import HandS.TupMul
import HandS.SortInts
import KE.GoesEnum
import HandS.Exc
import HandS.ExcOwn
import HandS.WordsExc
import HandS.ExcInit
import KE.KExcInit
import PyProof.ExcBaseAll.OverflowError
import PyProof.ExcBaseAll.RuntimeError
import HandS.Zip
import KE.KDflt
import HandS.SlotsOwn
import PyProof.InstNe
import PyProof.ReprRoads
import HandS.SortRule
import PyProof.NeKinds
import PyProof.EqKinds
import KE.KEqDict
import PyProof.CallFns
import HandS.Wide
import HandS.Iter
import HandS.NoneIn
import HandS.EndTab
import HandS.SetFor
import HandS.More
import KE.GoesMore
import KE.GoesZip
import HandS.Codes
import KE.KTupSum
import HandS.OwnEq
import KE.KOpsOwn
import HandS.Text
import PyProof.P3Eq
import PySem.Challenge.RW_liftwords_k02_words_as_rows
set_option Elab.async false
set_option linter.all false
set_option maxRecDepth 100000
namespace LwE
open PySem PySem.Spec PyProof.Rows L2
def ExK (cls : Value) (d : Option Addr) (a : Addr) : HO := .ext fun h => ∃ (oe : Obj) (vs : Array Value), h.get? a = some oe ∧ Zc cls d oe ∧ oe.data = .fields vs
theorem exK_at {P : Program} {w : World} {H : Hp} {h : Heap} {a : Addr} {cls : Value} {d : Option Addr} (hok : HOk P w H h) (e : H a = some (ExK cls d a)) : ∃ (oe : Obj) (vs : Array Value), h.get? a = some oe ∧ Zc cls d oe ∧ oe.data = .fields vs :=
  (show ObjOk P w H h a (ExK cls d a) from hok a _ e).1
section
variable {X : Cx} {pins : List (Addr × Obj)} {σ : L2.St} {H : Hp} {s : Shared}
theorem inv_track {a : Addr} {o : HO} (I : Inv X pins σ H s) (ok : ObjOk X.prog X.w (upd H a o) s.heap a o) (na : H a = none) (nL : a ≠ X.env.locals) (nC : ∀ x c, X.env.cells.lookup x = some c → c ≠ a)
    (new : X.s_0.heap.get? a = none) (np : ∀ p ∈ X.pn ++ pins, p.1 ≠ a) : Inv X pins σ (upd H a o) s := by
  have old : ∀ {b u}, H b = some u → upd H a o b = some u := fun {b u} e => by
    rw [upd_ne (ne_of_none e na)]
    exact e
  have out : ∀ {b}, b ≠ a → H b = none → upd H a o b = none := fun {b} n e => by
    rw [upd_ne n]
    exact e
  have U : Un X.fs X.ex X.H_0 (upd H a o) X.s_0.heap s.heap :=
    { keep := I.base.keep, slot := I.base.slot, there := I.base.there
      free := fun b u e n hx => out (fun z => by rw [z, new] at e; cases e) (I.base.free b u e n hx)
      tups := fun b xs e => old (I.base.tups b xs e)
      frzs := fun b u v e => old (I.base.frzs b u v e)
      tbls := fun b ps e => let ⟨more, q⟩ := I.base.tbls b ps e; ⟨more, old q⟩ }
  refine ⟨I.ok, I.os, I.bare, U, I.loc, I.cell, out nL.symm I.free, fun x c e => out (nC x c e) (I.freeC x c e), fun p hp => ?_, fun b u e => ?_, I.len⟩
  · obtain ⟨h1, h2, h3⟩ := I.pin p hp
    exact ⟨h1, out (np p hp) h2, h3⟩
  · by_cases hb : b = a
    · rw [hb] at e ⊢
      rw [upd_same] at e
      cases e
      exact ok
    · rw [upd_ne hb] at e
      exact (I.hok b u e).stay (fun _ _ _ q => q) (fun _ q => old q) fun _ _ q => old q
theorem inv_hold {a : Addr} {oe : Obj} {vs : Array Value} {cls : Value} {d : Option Addr} (I : Inv X pins σ H s) (ha : s.heap.get? a = some oe) (hz : Zc cls d oe) (hd : oe.data = .fields vs) (na : H a = none)
    (nL : a ≠ X.env.locals) (new : X.s_0.heap.get? a = none) (np : ∀ p ∈ X.pn ++ pins, p.1 ≠ a) : Inv X pins σ (upd H a (ExK cls d a)) s := by
  refine inv_track I ⟨⟨oe, vs, ha, hz, hd⟩, ⟨oe, ha⟩, fun _ _ ⟨o, v, q, r⟩ k => ⟨o, v, k o q, r⟩⟩ na nL (fun x c e z => ?_) new np
  obtain ⟨v, o, ho, hv⟩ := I.cell x c e
  rw [z, ha] at ho
  cases ho
  rw [hd] at hv
  cases hv
theorem flyingZ_keeps {B h h' : Heap} {l : List Env} {a : Addr} {Z : Obj → Prop} (f : HandSPX.FlyingZ B l a Z h) (k : ∀ b o, h.get? b = some o → h'.get? b = some o) : HandSPX.FlyingZ B l a Z h' := by
  obtain ⟨f1, f2, f3, oe, vs, T, oT, ts, g1, g2, g3, g4, g5, g6, g7, g8⟩ := f
  exact ⟨fun b o q => k _ _ (f1 b o q), f2, f3.of_keeps fun b o q _ => ⟨o, k _ _ q, rfl⟩, oe, vs, T, oT, ts, k _ _ g1, g2, g3, g4, g5, g6, k _ _ g7, g8⟩
end
def wHold (K : PySem.W.Frag) (cs : List Value) (i : Nat) (ts : Addr → Value → Option Addr → TS) (D : Ends) : WX := fun cls d σ H =>
  PySem.W.exmAny K cls cs = some true ∧ ∀ a, H a = none → ts a cls d { nx := fun σ' H' => D.nx (σ'.set i none) (upd H' a (ExK cls d a)), rt := fun _ _ => False, bk := fun _ _ => False, ct := fun _ _ => False } (σ.set i (some (.ref a))) H
section
variable {X : Cx} {x1 x2 x3 n : Str} {c1 c2 c3 : Value} {i : Nat} {body suite : List Stmt} {b₀ : Stmt} {q1 q2 q3 tp pos pos' : Pos} {kk : Nat} {tb : WX → TS} {ts : Addr → Value → Option Addr → TS}
theorem tup3_ok {pins : List (Addr × Obj)} {σ : L2.St} {H : Hp} {s : Shared} {Q : Value → Shared → Prop} {E : Value → Shared → Prop} (I : Inv X pins σ H s) (n1 : Gl X x1 ∧ X.mg x1 = some c1) (n2 : Gl X x2 ∧ X.mg x2 = some c2) (n3 : Gl X x3 ∧ X.mg x3 = some c3)
    (d1 : (x1 == ("__debug__" : Str)) = false) (d2 : (x2 == ("__debug__" : Str)) = false) (d3 : (x3 == ("__debug__" : Str)) = false)
    (h : Q (.ref s.heap.objs.size) { s with heap := s.heap.push { cls := .type "tuple", data := .seq [c1, c2, c3].toArray } }) : wpAny (model X.prog X.w) X.A (eval (.Tuple [.Name x1 q1, .Name x2 q2, .Name x3 q3] kk tp) X.env) Q E s := by
  refine wpAny_Tuple (wpAny_items_cons (ld_glob I n1.1 n1.2 (wpAny_items_cons (ld_glob I n2.1 n2.2 (wpAny_items_cons (ld_glob I n3.1 n3.2 (wpAny_items_nil ⟨?_, h⟩) d3)) d2)) d1))
  show 3 ≤ sizeLine
  decide
theorem ps_try_hold (hs : X.stack = X.env :: X.outer) (hf : X.env.frame = some X.env.locals) (hex : X.ex = []) (hN : X.N.Nodup) (hi : X.N[i]? = some n) (hln : X.env.kindOf n = some .local)
    (n1 : Gl X x1 ∧ X.mg x1 = some c1) (n2 : Gl X x2 ∧ X.mg x2 = some c2) (n3 : Gl X x3 ∧ X.mg x3 = some c3)
    (hb : ∀ (W : WX) (pn : List (Addr × Obj)) (xe : Value → Shared → Prop), Takes (X.tr pn xe) W → PassesOwn (model X.prog X.w) X.A X.env xe → PSs (X.tr pn xe) body (tb W))
    (hsu : ∀ (a : Addr) (oe : Obj) (cls : Value) (d : Option Addr) (pn : List (Addr × Obj)), Zc cls d oe → (∃ vs, oe.data = .fields vs) → PSs (X.suite a ((a, oe) :: pn)) (b₀ :: suite) (ts a cls d))
    (d1 : (x1 == ("__debug__" : Str)) = false := by decide) (d2 : (x2 == ("__debug__" : Str)) = false := by decide) (d3 : (x3 == ("__debug__" : Str)) = false := by decide) :
    PS X (.Try body [.ExceptHandler (some (.Tuple [.Name x1 q1, .Name x2 q2, .Name x3 q3] kk tp)) (some n) (b₀ :: suite) pos'] [] [] pos) (fun D σ H => tb (wHold X.K [c1, c2, c3] i ts D) D σ H) := by
  constructor
  intro pins s σ H D I h
  have ok := I.ok
  refine wpAny_Try_except (wpAny_mono ((hb (wHold X.K [c1, c2, c3] i ts D) (X.pn ++ pins) (fun e r => wpAny (model X.prog X.w) X.A (noteFrame e X.env) (fun _ r => wpAny (model X.prog X.w) X.A (setFlight e none) (fun _ r =>
      wpAny (model X.prog X.w) X.A (handleBy e X.env [.ExceptHandler (some (.Tuple [.Name x1 q1, .Name x2 q2, .Name x3 q3] kk tp)) (some n) (b₀ :: suite) pos']) (SP X pins D) X.xe r) X.xe r) X.xe r) ?_ PassesOwn.looking).run [] s σ H D (I.toTry _) h)
      (fun f r hr => ?_) fun _ _ z => z)
  · rintro u r ⟨a, B, sI, pins', σ', H', cls, d, rfl, J', nb, up, sky, na, os, ag, hit, yes⟩
    have J : Inv X pins σ' H' sI := J'.ofTry ok
    rw [show (X.tr (X.pn ++ pins) _).stack = X.env :: X.outer from hs] at sky
    have hfr : X.A.frames = some (X.env :: X.outer) := by rw [ok.frames, hs]
    show wpAny (model X.prog X.w) X.A (noteFrame (.ref a) X.env) _ _ _
    refine Sky.land Zc.steady hfr hf sky fun h3 fl up3 => ?_
    have I3 : Inv X pins σ' H' { r with heap := h3 } := J.landed nb fl.1 (up.trans up3) os ag
    obtain ⟨oe, vs, ge, ze, de⟩ := fl.there
    -- where a stands not
    have nfr : a ∉ frs (X.env :: X.outer) := fun hm => by
      obtain ⟨_, o, e, no⟩ := fl.2.2.1.mem hm
      rw [ge] at e
      cases e
      exact no _ de
    have nL : a ≠ X.env.locals := fun z => nfr (List.mem_filterMap.mpr ⟨X.env, List.mem_cons_self, by rw [hf, z]⟩)
    have nF : a ∉ X.fs := fun hm => by
      obtain ⟨e, he, q⟩ := List.mem_filterMap.mp hm
      exact nfr (List.mem_filterMap.mpr ⟨e, List.mem_cons_of_mem _ he, q⟩)
    have gone : sI.heap.get? a = none := by
      cases e : sI.heap.get? a with
      | none => rfl
      | some o =>
        have z := nb a o e (by rw [hs]; exact nfr)
        rw [fl.2.1] at z
        cases z
    have new : X.s_0.heap.get? a = none := by
      cases e : X.s_0.heap.get? a with
      | none => rfl
      | some o =>
        obtain ⟨o', z⟩ := J.base.there a o e (by rw [hex]; simp)
        rw [gone] at z
        cases z
    have np : ∀ p ∈ X.pn ++ pins, p.1 ≠ a := fun p hp z => by
      have := (J.pin p hp).1
      rw [z, gone] at this
      cases this
    have S3 := I3.suite ge de na nL nF
    -- the test
    refine wpAny_handleBy_cons (codeAny_handlers_test ?_) (by intro q; cases q)
    refine tup3_ok (X := X.suite a ((a, oe) :: (X.pn ++ pins))) S3 n1 n2 n3 d1 d2 d3 ?_
    have kp : ∀ b o, h3.get? b = some o → (h3.push { cls := .type "tuple", data := .seq [c1, c2, c3].toArray }).get? b = some o := fun _ _ z => Heap.get?_push_of_some _ z
    have ty : PySem.W.Looks (model X.prog X.w) h3 (typeOf (.ref a)) cls := fun _ _ _ _ k q => wpAny_typeOf_ref (k _ _ ge) (by rw [ze.1]; exact q)
    refine (PySem.W.exm_tup3 (M := model X.prog X.w) (I3.kIn.keeps kp) (ty.keeps kp) (Heap.get?_push_size h3 rfl) hit).here ?_
    have fl4 := flyingZ_keeps fl kp
    have up4 : h3.UpToSlots (h3.push { cls := .type "tuple", data := .seq [c1, c2, c3].toArray }) := Heap.UpToSlots.of_keeps kp
    -- the suite
    refine codeAny_handlers_suite_as (HandSPX.lands_againZ fl4 fun h5 fl5 up5 => ?_)
    have I5 : Inv X pins σ' H' { r with heap := h5 } := J.landed nb fl5.1 (((up.trans up3).trans up4).trans up5) os ag
    obtain ⟨oe5, vs5, ge5, ze5, de5⟩ := fl5.there
    refine store_ok (X := X.suite a ((a, oe5) :: (X.pn ++ pins))) (v := .ref a) (I5.suite ge5 de5 na nL nF) hN hi (.inl hln) rfl (fun s6 S6 => ?_) (.inr hln)
    refine wpAny_mono ((hsu a oe5 cls d (X.pn ++ pins) ze5 ⟨_, de5⟩).run [] s6 _ H' _ S6 (yes a na)) (fun f s7 hr => ?_) fun _ _ z => z.elim
    cases f with
    | next =>
      obtain ⟨σ7, H7, S7, q7⟩ := hr
      obtain ⟨p1, p2, p3, p4, _⟩ := S7.pin (a, oe5) (List.mem_append_left _ List.mem_cons_self)
      exact gone_ok (inv_hold (S7.unsuite ok) p1 ze5 de5 p2 p3 new np) hN hi hln fun s8 J8 => ⟨_, _, J8, q7⟩
    | brk =>
      obtain ⟨_, _, _, z⟩ := hr
      exact z.elim
    | cont =>
      obtain ⟨_, _, _, z⟩ := hr
      exact z.elim
    | ret u =>
      obtain ⟨_, _, _, _, _, z⟩ := hr
      exact z.elim
  · cases f with
    | next =>
      obtain ⟨σ', H', J', q⟩ := hr
      exact wpAny_execs_nil ⟨σ', H', J'.ofTry ok, q⟩
    | brk =>
      obtain ⟨σ', H', J', q⟩ := hr
      exact ⟨σ', H', J'.ofTry ok, q⟩
    | cont =>
      obtain ⟨σ', H', J', q⟩ := hr
      exact ⟨σ', H', J'.ofTry ok, q⟩
    | ret u =>
      obtain ⟨v, σ', H', J', rv, q⟩ := hr
      exact ⟨v, σ', H', J'.ofTry ok, rv, q⟩
end
structure HeldC (K : PySem.W.Frag) (C : Addr) : Prop where
  ga : PySem.W.findIn K (.ref C) "__getattribute__" = some (some (.builtin "BaseException.__getattribute__"))
  gg : PySem.W.findIn K (.ref C) "__getattr__" = some none
  exC : PySem.W.subIn K (.ref C) (.type "BaseException") = some true
  hd : PySem.W.hasDictIn K C = true
  ca : PySem.W.findIn K (.ref C) "__class__" = some (some (.builtin "object.__class__"))
  cm : PySem.W.mroIn K C (.type "object") = some true
structure HeldK (K : PySem.W.Frag) : Prop where
  cn : PySem.W.specialIn K (.builtin "object.__class__") "__get__" = some (some (.builtin "getset_descriptor.__get__"))
  ct : PySem.W.takesIn K (.builtin "object.__class__") = some true
section
variable {X : Cx}
theorem held_inst {pins : List (Addr × Obj)} {σ : L2.St} {H : Hp} {s : Shared} {a C d : Addr} {fs : List (Str × V)} (I : Inv X pins σ H s) (ha : H a = some (ExK (.ref C) (some d) a)) (hd : H d = some (.xd fs)) :
    ∃ (oe od : Obj) (mA : Str → Option Value), PySem.W.InstAt s.heap a oe C (some od) ∧ (∀ y, PySem.W.lookIn y od = some (mA y)) ∧ ∀ f, RelO (fs.lookup f) (mA f) := by
  obtain ⟨oe, vs, ge, ze, de⟩ := exK_at I.hok ha
  obtain ⟨mA, hns, hr⟩ := (show ObjOk X.prog X.w H s.heap d (.xd fs) from I.hok d _ hd)
  obtain ⟨od, ho, hl⟩ := lookIn_ns hns
  exact ⟨oe, od, mA, ⟨ge, ze.1, by unfold PySem.W.notCls; rw [de] <;> rfl, by rw [ze.2]; exact ho⟩, hl, hr⟩
def tFldHeld (K : PySem.W.Frag) (f : Str) (te : TE) : TE := fun σ H Q => te σ H fun x H1 => ∃ (a C d : Addr) (fs : List (Str × V)) (v : V), x = .ref a ∧ HeldC K C ∧ PySem.W.findIn K (.ref C) f = some none ∧ H1 a = some (ExK (.ref C) (some d) a) ∧ H1 d = some (.xd fs) ∧ fs.lookup f = some v ∧ Q v H1
theorem pe_fldHeld {e : Expr} {te : TE} {pos : Pos} {f : Str} (he : PE X e te) (hb : attributeBase e f X.env (eval e X.env) = eval e X.env := by rfl) : PE X (.Attribute e f pos) (tFldHeld X.K f te) := by
  constructor
  intro pins s σ H Q I h
  refine attr_of hb (thn (he.run pins s σ H _ I h) fun u s1 hh => ?_)
  obtain ⟨x, H1, I1, rx, a, C, d, fs, v, rfl, Cl, hno, ha, hd, l, q⟩ := hh
  obtain rfl : u = Value.ref a := rx
  obtain ⟨oe, od, mA, J, hl, hr⟩ := held_inst I1 ha hd
  obtain ⟨u, hu, ru⟩ := RelO.some_of (v := v) (o := mA f) (by rw [← l]; exact hr f)
  exact HandSPX.exc_get I1.kIn J Cl.ga Cl.gg Cl.exC (PySem.W.findObj_own Cl.hd hno rfl (by rw [hl, hu])) (handed_of ru) ⟨v, H1, I1.tok _, ru, q⟩
end
end LwE
namespace LwE
open PySem PySem.Spec PyProof.Rows L2
theorem own_slice : Manifest.owners.lookup (String.ofList ['e', 'c', 'i', 'l', 's'].reverse) = some Manifest.sig_slice := by kernel_rfl
theorem slot_slice_ga : Slot "slice" "__getattribute__" "slice.__getattribute__" :=
  .of (owner := "slice") (n := "__getattribute__") (by rw [typeLookup_type, builtinLookup_eq_fast]; kernel_rfl) (by decide +kernel) (by decide +kernel) (by decide +kernel)
    (by first | exact .inl (by decide +kernel) | exact .inr (by decide +kernel)) (by rw [isSubtype_type]; kernel_rfl)
theorem args_slice_ga (a b : Value) : argsOk "slice.__getattribute__" ⟨[a, b], []⟩ := by
  unfold argsOk; rw [signature?_of (id := "slice.__getattribute__") (n := "__getattribute__".toList.reverse) (o := ['e', 'c', 'i', 'l', 's']) (by kernel_rfl) own_slice]; kernel_rfl
theorem entry_slice_ga : entryFor table "slice.__getattribute__" = some Builtin.«object.__getattribute__» :=
  entryFor_alias (id' := "object.__getattribute__") (by kernel_rfl) (by first | rfl | decide +kernel) (by decide +kernel) (by kernel_rfl)
theorem lk_slice : typeLookup (.type "slice") "__class__" = pure (some (.builtin "object.__class__")) := by rw [typeLookup_type, builtinLookup_eq_fast]; kernel_rfl
theorem sub_slice : isSubtype (.type "slice") (.type (".".intercalate ("object.__class__".cutAt '.').dropLast)) = pure true := by
  rw [F.owner_object_class, isSubtype_type]; kernel_rfl
section
variable {prog : Program} {w : World} {A : Around} {E : Value → Shared → Prop} {h : Heap} {g : Array GenState} {d : Drawn} {t : Nat} {os : OsState} {a : Addr} {o : Obj}
theorem cget_slice {R : Result → Shared → Prop} (hx : h.get? a = some o) (hc : o.cls = .type "slice") (hq : R (.ok (.ret (.type "slice"))) ⟨h, g, d, t, os⟩) :
    codeAny (model prog w) A (.call (.builtin "getset_descriptor.__get__") ⟨[.builtin "object.__class__", .ref a, .type "slice"], []⟩) R ⟨h, g, d, t, os⟩ := by
  have k1 : (⟨h, g, d, t, os⟩ : Shared).TypeIs (.ref a) "slice" := ⟨_, hx, hc⟩
  have k2 : (⟨h, g, d, t, os⟩ : Shared).TypeIs (.builtin "object.__class__") "getset_descriptor" := F.typeOf_object_class
  have k3 := sub_slice
  refine codeAny_call_builtin F.slot_gs_get.plain F.entry_gs_get (F.slot_gs_get.check _ _ _ _ _ _ _ _ k2 (F.args_gs_get _ _ _) ?_)
  repeat (any_goals (first | assumption | wp_step))
  refine ⟨Code.quiet_builtin _ (by decide +kernel), codeAny_builtin F.entry_object_class ?_⟩
  repeat (any_goals (first | assumption | wp_step))
theorem cent_slice {tk : Tok} {Q : Fin → Shared → Prop} (hx : h.get? a = some o) (hc : o.cls = .type "slice") (hq : Q (.done (.ret (.type "slice"))) ⟨h, g, d, t, os⟩) :
    wpAny (model prog w) A (Builtin.«object.__getattribute__» ⟨[.ref a, .str "__class__" tk], []⟩) Q E ⟨h, g, d, t, os⟩ := by
  have k1 : (⟨h, g, d, t, os⟩ : Shared).TypeIs (.ref a) "slice" := ⟨_, hx, hc⟩
  have k2 : (⟨h, g, d, t, os⟩ : Shared).TypeIs (.builtin "object.__class__") "getset_descriptor" := F.typeOf_object_class
  have k4 := lk_slice
  have k5 := F.typeOf_object_class
  have k6 := F.slot_gs_get.lookup
  have k7 := F.slot_gs_set.lookup
  repeat (any_goals (first | assumption | wp_step))
  refine cget_slice hx hc ?_
  repeat (any_goals (first | assumption | wp_step))
theorem ccall_slice {tk : Tok} {R : Result → Shared → Prop} (hx : h.get? a = some o) (hc : o.cls = .type "slice") (hq : R (.ok (.ret (.type "slice"))) ⟨h, g, d, t, os⟩) :
    codeAny (model prog w) A (.call (.builtin "slice.__getattribute__") ⟨[.ref a, .str "__class__" tk], []⟩) R ⟨h, g, d, t, os⟩ :=
  codeAny_call_builtin slot_slice_ga.plain entry_slice_ga (slot_slice_ga.check _ _ _ _ _ _ _ _ (show (⟨h, g, d, t, os⟩ : Shared).TypeIs (.ref a) "slice" from ⟨_, hx, hc⟩) (args_slice_ga _ _) (cent_slice hx hc hq))
theorem cby_slice {tk : Tok} {Q : Value → Shared → Prop} (hx : h.get? a = some o) (hc : o.cls = .type "slice") (hq : Q (.type "slice") ⟨h, g, d, t, os⟩) : wpAny (model prog w) A (getAttrBy (.ref a) (.str "__class__" tk) false) Q E ⟨h, g, d, t, os⟩ := by
  have k1 : (⟨h, g, d, t, os⟩ : Shared).TypeIs (.ref a) "slice" := ⟨_, hx, hc⟩
  have k2 := slot_slice_ga.lookup
  have k3 := slot_slice_ga.bind (.ref a)
  repeat (any_goals (first | assumption | wp_step))
  refine ccall_slice hx hc ?_
  repeat (any_goals (first | assumption | wp_step))
theorem cattr_slice {Q : Option Value → Shared → Prop} (hx : h.get? a = some o) (hc : o.cls = .type "slice") (hq : Q (some (.type "slice")) ⟨h, g, d, t + 1, os⟩) : wpAny (model prog w) A (getAttr? (.ref a) "__class__") Q E ⟨h, g, d, t, os⟩ := by
  unfold getAttr? getAttrBy?
  repeat (any_goals (first | assumption | with_reducible apply cby_slice hx hc | wp_step))
end
theorem kitx_slice {K : PySem.W.Frag} {a : Addr} : PySem.W.KitX K (.ref a) (.type "slice") (PySem.W.KitAt a "slice") := PySem.W.kitx_of PySem.W.kitAt_ty (fun {_ _ _ _ _ s} p k => by
  obtain ⟨h, g, d, t, os⟩ := s
  obtain ⟨o, h1, h2⟩ := p
  exact cattr_slice h1 h2 k)
def SlcO (a : Addr) : HO := .ext fun h => ∃ (o : Obj) (vs : Array Value), h.get? a = some o ∧ o.cls = .type "slice" ∧ o.data = .fields vs
theorem slcO_at {P : Program} {w : World} {H : Hp} {h : Heap} {a : Addr} (hok : HOk P w H h) (e : H a = some (SlcO a)) : ∃ (o : Obj) (vs : Array Value), h.get? a = some o ∧ o.cls = .type "slice" ∧ o.data = .fields vs :=
  (show ObjOk P w H h a (SlcO a) from hok a _ e).1
theorem slcO_ok {P : Program} {w : World} {H : Hp} {h : Heap} {a : Addr} {o : Obj} {vs : Array Value} (ha : h.get? a = some o) (hc : o.cls = .type "slice") (hd : o.data = .fields vs) : ObjOk P w H h a (SlcO a) :=
  ⟨⟨o, vs, ha, hc, hd⟩, ⟨o, ha⟩, fun _ _ ⟨o, v, q, r⟩ k => ⟨o, v, k o q, r⟩⟩
def rIsSlc (K : PySem.W.Frag) : List V → Hp → VK → Prop := fun xs H Q => ∃ (a : Addr) (c : V) (u : Value) (b : Bool), xs = [.ref a, c] ∧ H a = some (SlcO a) ∧ ClsV c u ∧ PySem.W.kitOne K (.type "slice") u = some b ∧ Q (.bl b) H
theorem call_isSlc {X : Cx} : CallR X (.builtin "isinstance") (rIsSlc X.K) := by
  intro pins s σ H xs us Q I r h
  obtain ⟨a, c, u, b, rfl, ha, k, e, q⟩ := h
  obtain ⟨u1, u2, rfl, r1, r2⟩ := vals2 r
  have e2 := k.eq r2
  subst e2
  obtain rfl : u1 = Value.ref a := r1
  obtain ⟨o, vs, h1, h2, _⟩ := slcO_at I.hok ha
  exact PySem.W.kia_one kitx_slice I.kIn ⟨o, h1, h2⟩ e (fun z => nomatch z) fun tk => ⟨.bl b, H, I.tok tk, rfl, q⟩
end LwE
namespace DL
open PySem L2
inductive Dt where
  | non | bl (b : Bool) | int (i : Int) | str (x : Str) | drw | any (v : V)
  | tup (l : List Dt) | lst (l : List Dt) | obj (C : Addr) (ns : List Str) (l : List Dt)
  | dK (ks : List Key) (l : List Dt) | dT (ks : List (List Key)) (l : List Dt)
  | opq | slc | exc (C : Addr) (f : Str) (d : Dt) | scr (ns : List Int)
structure Ix where
  m : Addr
  g : Addr
  c : Addr
  T : List (Addr × Str)
  o : Addr
def G (i : Ix) (b : Addr) : Prop := b = i.m ∨ b = i.g ∨ b = i.c ∨ ∃ p ∈ i.T, b = p.1
mutual
def Rep (K : PySem.W.Frag) (i : Ix) (F : Hp) : Dt → V → Prop
  | .non, v => v = .non
  | .bl b, v => v = .bl b
  | .int z, v => v = .int z
  | .str x, v => v = .str x
  | .drw, v => v = .ref i.m
  | .any u, v => v = u
  | .opq, _ => True
  | .slc, v => ∃ a, v = .ref a ∧ F a = some (LwE.SlcO a)
  | .scr ns, v => ∃ a, v = .ref a ∧ SqL K F a (ns.map V.int)
  | .exc C f d, v => ∃ a dd w, v = .ref a ∧ F a = some (LwE.ExK (.ref C) (some dd) a) ∧ F dd = some (.xd [(f, w)]) ∧ Rep K i F d w
  | .tup l, v => ∃ a vs, v = .ref a ∧ SqT K F a vs ∧ Reps K i F l vs
  | .lst l, v => ∃ a vs, v = .ref a ∧ F a = some (.lst vs) ∧ Reps K i F l vs
  | .obj C ns l, v => ∃ a dx gs, v = .ref a ∧ F a = some (.ins C dx gs) ∧ gs.map Prod.fst = ns ∧ Reps K i F l (gs.map Prod.snd)
  | .dK ks l, v => ∃ a kvs, v = .ref a ∧ F a = some (.dK kvs) ∧ kvs.map Prod.fst = ks ∧ Reps K i F l (kvs.map Prod.snd)
  | .dT ks l, v => ∃ a kvs, v = .ref a ∧ F a = some (.dT kvs) ∧ kvs.map Prod.fst = ks ∧ Reps K i F l (kvs.map Prod.snd)
def Reps (K : PySem.W.Frag) (i : Ix) (F : Hp) : List Dt → List V → Prop
  | [], vs => vs = []
  | d :: ds, vs => ∃ v r, vs = v :: r ∧ Rep K i F d v ∧ Reps K i F ds r
end
section
variable {K : PySem.W.Frag} {i : Ix} {F F' : Hp}
theorem sqL_same {a : Addr} {xs : List V} (e : Same F F') (h : SqL K F a xs) : SqL K F' a xs := by
  rcases h with (h | ⟨o, h⟩) | h
  · exact .inl (.inl (e _ _ h))
  · exact .inl (.inr ⟨o, e _ _ h⟩)
  · exact .inr h
theorem sqT_same {a : Addr} {xs : List V} (e : Same F F') (h : SqT K F a xs) : SqT K F' a xs := by
  rcases h with (h | ⟨o, h⟩) | h
  · exact .inl (.inl (e _ _ h))
  · exact .inl (.inr ⟨o, e _ _ h⟩)
  · exact .inr h
mutual
theorem Rep.same (e : Same F F') : ∀ (d : Dt) {v : V}, Rep K i F d v → Rep K i F' d v
  | .non, _, h => h
  | .bl _, _, h => h
  | .int _, _, h => h
  | .str _, _, h => h
  | .drw, _, h => h
  | .any _, _, h => h
  | .opq, _, h => h
  | .slc, _, ⟨a, h1, h2⟩ => ⟨a, h1, e _ _ h2⟩
  | .scr ns, _, ⟨a, h1, h2⟩ => ⟨a, h1, sqL_same e h2⟩
  | .exc C f d, _, ⟨a, dd, w, h1, h2, h3, h4⟩ => ⟨a, dd, w, h1, e _ _ h2, e _ _ h3, Rep.same e d h4⟩
  | .tup l, _, ⟨a, vs, h1, h2, h3⟩ => ⟨a, vs, h1, sqT_same e h2, Reps.same e l h3⟩
  | .lst l, _, ⟨a, vs, h1, h2, h3⟩ => ⟨a, vs, h1, e _ _ h2, Reps.same e l h3⟩
  | .obj C ns l, _, ⟨a, dx, gs, h1, h2, h3, h4⟩ => ⟨a, dx, gs, h1, e _ _ h2, h3, Reps.same e l h4⟩
  | .dK ks l, _, ⟨a, kvs, h1, h2, h3, h4⟩ => ⟨a, kvs, h1, e _ _ h2, h3, Reps.same e l h4⟩
  | .dT ks l, _, ⟨a, kvs, h1, h2, h3, h4⟩ => ⟨a, kvs, h1, e _ _ h2, h3, Reps.same e l h4⟩
theorem Reps.same (e : Same F F') : ∀ (l : List Dt) {vs : List V}, Reps K i F l vs → Reps K i F' l vs
  | [], _, h => h
  | d :: ds, _, ⟨v, r, h1, h2, h3⟩ => ⟨v, r, h1, Rep.same e d h2, Reps.same e ds h3⟩
end
theorem Reps.nil : Reps K i F [] [] := rfl
theorem Reps.cons {d : Dt} {ds : List Dt} {v : V} {vs : List V} (h : Rep K i F d v) (r : Reps K i F ds vs) : Reps K i F (d :: ds) (v :: vs) := ⟨v, vs, rfl, h, r⟩
theorem Reps.len : ∀ {l : List Dt} {vs : List V}, Reps K i F l vs → vs.length = l.length
  | [], _, h => by rw [show _ = [] from h]; rfl
  | d :: ds, _, ⟨v, r, h1, _, h3⟩ => by rw [h1]; show r.length + 1 = ds.length + 1; rw [Reps.len h3]
theorem Reps.append : ∀ {l m : List Dt} {vs us : List V}, Reps K i F l vs → Reps K i F m us → Reps K i F (l ++ m) (vs ++ us)
  | [], _, _, _, h, h' => by rw [show _ = [] from h]; exact h'
  | d :: ds, _, _, _, ⟨v, r, h1, h2, h3⟩, h' => by rw [h1]; exact .cons h2 (Reps.append h3 h')
theorem Reps.get : ∀ {l : List Dt} {vs : List V} {k : Nat} {d : Dt}, Reps K i F l vs → l[k]? = some d → ∃ v, vs[k]? = some v ∧ Rep K i F d v
  | [], _, _, _, _, e => by cases e
  | d :: ds, _, 0, _, ⟨v, r, h1, h2, h3⟩, e => by cases e; exact ⟨v, by rw [h1]; rfl, h2⟩
  | d :: ds, _, k + 1, _, ⟨v, r, h1, h2, h3⟩, e => by
    obtain ⟨w, e1, e2⟩ := Reps.get (k := k) h3 e
    exact ⟨w, by rw [h1]; exact e1, e2⟩
theorem Reps.set : ∀ {l : List Dt} {vs : List V} (k : Nat) {d : Dt} {v : V}, Reps K i F l vs → Rep K i F d v → Reps K i F (l.set k d) (vs.set k v)
  | [], _, _, _, _, h, _ => by rw [show _ = [] from h]; exact rfl
  | x :: ds, _, 0, _, _, ⟨v, r, h1, h2, h3⟩, hd => by rw [h1]; exact .cons hd h3
  | x :: ds, _, k + 1, _, _, ⟨v, r, h1, h2, h3⟩, hd => by rw [h1]; exact .cons h2 (Reps.set k h3 hd)
theorem Reps.take : ∀ {l : List Dt} {vs : List V} (k : Nat), Reps K i F l vs → Reps K i F (l.take k) (vs.take k)
  | [], _, k, h => by rw [show _ = [] from h]; simp; exact rfl
  | x :: ds, _, 0, ⟨v, r, h1, h2, h3⟩ => by rw [h1]; exact rfl
  | x :: ds, _, k + 1, ⟨v, r, h1, h2, h3⟩ => by rw [h1]; exact .cons h2 (Reps.take k h3)
theorem Reps.drop : ∀ {l : List Dt} {vs : List V} (k : Nat), Reps K i F l vs → Reps K i F (l.drop k) (vs.drop k)
  | [], _, k, h => by rw [show _ = [] from h]; simp; exact rfl
  | x :: ds, _, 0, h => h
  | x :: ds, _, k + 1, ⟨v, r, h1, h2, h3⟩ => by rw [h1]; exact Reps.drop k h3
theorem Reps.reverse : ∀ {l : List Dt} {vs : List V}, Reps K i F l vs → Reps K i F l.reverse vs.reverse
  | [], _, h => by rw [show _ = [] from h]; exact rfl
  | x :: ds, _, ⟨v, r, h1, h2, h3⟩ => by
    rw [h1, List.reverse_cons, List.reverse_cons]
    exact (Reps.reverse h3).append (.cons h2 .nil)
theorem Reps.ints : ∀ (l : List Int), Reps K i F (l.map .int) (l.map .int)
  | [] => rfl
  | x :: l => .cons rfl (Reps.ints l)
theorem Reps.of_ints : ∀ {l : List Int} {vs : List V}, Reps K i F (l.map .int) vs → vs = l.map V.int
  | [], _, h => h
  | x :: l, _, ⟨v, r, h1, h2, h3⟩ => by
    rw [h1, Reps.of_ints h3, show v = .int x from h2]
    rfl
end
structure MS where
  n : Int
  gs : List Int
  cs : List Int
  tabs : List (Addr × Str)
structure Exn where
  tag : Nat
  C : Addr
  f : Option (Str × Dt)
inductive Rs (α : Type) where
  | ok (a : α) (s : MS) | ex (e : Exn) (s : MS) | no
abbrev M (α : Type) := MS → Rs α
def M.ret {α : Type} (a : α) : M α := fun s => .ok a s
def M.bnd {α β : Type} (x : M α) (f : α → M β) : M β := fun s => match x s with
  | .ok a s' => f a s'
  | .ex e s' => .ex e s'
  | .no => .no
def M.no {α : Type} : M α := fun _ => .no
def M.rse {α : Type} (e : Exn) : M α := fun s => .ex e s
theorem M.bnd_ok {α β : Type} {x : M α} {f : α → M β} {a : α} {s s' : MS} (h : x s = .ok a s') : M.bnd x f s = f a s' := by
  unfold M.bnd
  rw [h]
inductive R where
  | val (d : Dt) | new (l : List Dt)
def R.d : R → Dt
  | .val d => d
  | .new l => .lst l
inductive Sl where
  | non | val (d : Dt) | own (l : List Dt) | ins (C : Addr) (ns : List Str) (l : List Dt) | nst (ls : List (List Dt))
def R.sl : R → Sl
  | .val d => .val d
  | .new l => .own l
abbrev Cells (l : List Int) : Prop := l.length = 64 ∧ ∀ x ∈ l, 0 ≤ x ∧ x < 2147483647
abbrev kC : Key := Sum.inr "cells"
abbrev kG : Key := Sum.inr "great"
abbrev kS : Key := Sum.inr "spot"
structure MR (i : Ix) (s : MS) (H : Hp) : Prop where
  hm : H i.m = some (.dK [(kC, .ref i.c), (kG, .ref i.g), (kS, .int s.n)])
  hc : H i.c = some (.lst (s.cs.map V.int))
  hg : H i.g = some (.lst (s.gs.map V.int))
  cc : Cells s.cs
  gl : s.gs.length ≤ 63
  ne : i.c ≠ i.g
  n0 : 0 ≤ s.n
  tb : LamX.Tabs i.T H
  tq : i.T = s.tabs
theorem MR.there {i : Ix} {s : MS} {H : Hp} (h : MR i s H) {b : Addr} (g : G i b) : H b ≠ none := by
  rcases g with rfl | rfl | rfl | ⟨p, hp, rfl⟩
  · rw [h.hm]; exact fun z => nomatch z
  · rw [h.hg]; exact fun z => nomatch z
  · rw [h.hc]; exact fun z => nomatch z
  · obtain ⟨ps, e, _⟩ := h.tb p hp
    rw [e]; exact fun z => nomatch z
theorem MR.sm {i : Ix} {s : MS} {H H' : Hp} (h : MR i s H) (e : Same H H') : MR i s H' :=
  ⟨e _ _ h.hm, e _ _ h.hc, e _ _ h.hg, h.cc, h.gl, h.ne, h.n0, h.tb.ext e, h.tq⟩
theorem MR.put {i : Ix} {s : MS} {H : Hp} {p : Addr} {us : List V} (h : MR i s H) (hp : H p = none ∨ ∃ vs, H p = some (.lst vs)) (g : ¬ G i p) : MR i s (upd H p (.lst us)) := by
  have n1 : ∀ {b}, G i b → b ≠ p := fun gb (z : _ = p) => g (z ▸ gb)
  refine ⟨by rw [upd_ne (n1 (.inl rfl))]; exact h.hm, by rw [upd_ne (n1 (.inr (.inr (.inl rfl))))]; exact h.hc, by rw [upd_ne (n1 (.inr (.inl rfl)))]; exact h.hg, h.cc, h.gl, h.ne, h.n0, fun q hq => ?_, h.tq⟩
  obtain ⟨ps, e1, e2, e3⟩ := h.tb q hq
  refine ⟨ps, by rw [upd_ne (n1 (.inr (.inr (.inr ⟨q, hq, rfl⟩))))]; exact e1, e2, fun pos cv hc => ?_⟩
  obtain ⟨c, z1, z2⟩ := e3 pos cv hc
  refine ⟨c, z1, ?_⟩
  have : c ≠ p := fun z => by
    subst z
    rcases hp with hp | ⟨vs, hp⟩ <;> rw [hp] at z2 <;> cases z2
  rw [upd_ne this]
  exact z2

structure Ext (i : Ix) (F H F' H' : Hp) : Prop where
  ff : Same F F'
  fh : Same F' H'
  sb : ∀ b o, H b = some o → ¬ G i b → H' b = some o
  nw : ∀ b, H b ≠ none → F b = none → F' b = none
  al : ∀ b, H b ≠ none → H' b ≠ none
theorem Ext.refl {i : Ix} {F H : Hp} (h : Same F H) : Ext i F H F H := ⟨Same.refl _, h, fun _ _ e _ => e, fun _ _ e => e, fun _ e => e⟩
theorem Ext.trans {i : Ix} {F H F1 H1 F2 H2 : Hp} (a : Ext i F H F1 H1) (b : Ext i F1 H1 F2 H2) : Ext i F H F2 H2 :=
  ⟨a.ff.trans b.ff, b.fh, fun x o e g => b.sb x o (a.sb x o e g) g, fun x e n => b.nw x (a.al x e) (a.nw x e n), fun x e => b.al x (a.al x e)⟩
theorem Ext.same {i : Ix} {F H H' : Hp} (hf : Same F H) (s : Same H H') : Ext i F H F H' :=
  ⟨Same.refl _, hf.trans s, fun _ _ e _ => s _ _ e, fun _ _ e => e, fun b e => by
    cases h : H b with
    | none => exact absurd h e
    | some o => rw [s _ _ h]; exact fun z => nomatch z⟩
theorem Ext.know {i : Ix} {F H F' H' : Hp} {p : Addr} {o : HO} (x : Ext i F H F' H') (hp : H p = none) (h' : H' p = some o) (hf : F' p = none) : Ext i F H (upd F' p o) H' :=
  ⟨fun b u e => by rw [upd_ne (ne_of_none (x.ff _ _ e) hf)]; exact x.ff _ _ e,
   fun b u e => by
    by_cases hb : b = p
    · subst hb; rw [upd_same] at e; rw [h', e]
    · rw [upd_ne hb] at e; exact x.fh _ _ e,
   x.sb, fun b e n => by
    have hb : b ≠ p := fun z => by subst z; exact e hp
    rw [upd_ne hb]; exact x.nw b e n, x.al⟩
theorem same_know {F : Hp} {p : Addr} {o : HO} (hf : F p = none) : Same F (upd F p o) := fun b u e => by rw [upd_ne (ne_of_none e hf)]; exact e
structure Wf (i : Ix) (s : MS) (F H : Hp) : Prop where
  fh : Same F H
  gf : ∀ b, G i b → F b = none
  mr : MR i s H
theorem Wf.ext {i : Ix} {s s' : MS} {F H F' H' : Hp} (w : Wf i s F H) (x : Ext i F H F' H') (m : MR i s' H') : Wf i s' F' H' :=
  ⟨x.fh, fun b g => x.nw b (w.mr.there g) (w.gf b g), m⟩
theorem Wf.off {i : Ix} {s : MS} {F H : Hp} (w : Wf i s F H) {p : Addr} (hp : H p = none) : ¬ G i p := fun g => w.mr.there g hp
def RepR (K : PySem.W.Frag) (i : Ix) (H F' H' : Hp) : R → V → Prop
  | .val d, v => Rep K i F' d v
  | .new l, v => ∃ p vs, v = .ref p ∧ H' p = some (.lst vs) ∧ F' p = none ∧ H p = none ∧ Reps K i F' l vs
theorem RepR.freeze {K : PySem.W.Frag} {i : Ix} {H F F' H' : Hp} {r : R} {v : V} (h : RepR K i H F' H' r v) (x : Ext i F H F' H') : ∃ F2, Ext i F H F2 H' ∧ Same F' F2 ∧ Rep K i F2 r.d v := by
  cases r with
  | val d => exact ⟨F', x, Same.refl _, h⟩
  | new l =>
    obtain ⟨p, vs, e, h1, h2, h3, h4⟩ := h
    exact ⟨upd F' p (.lst vs), x.know h3 h1 h2, same_know h2, p, vs, e, upd_same, Reps.same (same_know h2) l h4⟩
def View (K : PySem.W.Frag) (i : Ix) (F H : Hp) (d : Dt) (v : V) : Prop :=
  Rep K i F d v ∨ ∃ p vs l, d = .lst l ∧ v = .ref p ∧ H p = some (.lst vs) ∧ ¬ G i p ∧ Reps K i F l vs
theorem View.ext {K : PySem.W.Frag} {i : Ix} {F H F' H' : Hp} {d : Dt} {v : V} (h : View K i F H d v) (x : Ext i F H F' H') : View K i F' H' d v := by
  rcases h with h | ⟨p, vs, l, e1, e2, h1, h2, h3⟩
  · exact .inl (Rep.same x.ff d h)
  · exact .inr ⟨p, vs, l, e1, e2, x.sb _ _ h1 h2, h2, Reps.same x.ff l h3⟩
def ExOk (K : PySem.W.Frag) (i : Ix) (E : XK) (F H : Hp) (e : Exn) : Prop :=
  match e.f with
  | none => E (.ref e.C) none H
  | some (x, d) => ∀ v dx, Rep K i F d v → H dx = none → E (.ref e.C) (some dx) (upd H dx (.xd [(x, v)]))
structure Kind (α β : Type) where
  rel : Hp → Hp → Hp → α → β → Prop
  mono : ∀ {H H' F2 H2 a v}, (∀ b, H b ≠ none → H' b ≠ none) → rel H' F2 H2 a v → rel H F2 H2 a v
def kR (K : PySem.W.Frag) (i : Ix) : Kind R V where
  rel := fun H F' H' r v => RepR K i H F' H' r v
  mono := fun {H H' F2 H2 a v} al h => by
    cases a with
    | val d => exact h
    | new l =>
      obtain ⟨p, vs, e, h1, h2, h3, h4⟩ := h
      refine ⟨p, vs, e, h1, h2, ?_, h4⟩
      cases z : H p with
      | none => rfl
      | some o => exact absurd h3 (al p (by rw [z]; exact fun z => nomatch z))
def kV (K : PySem.W.Frag) (i : Ix) : Kind Dt V where
  rel := fun _ F' H' d v => View K i F' H' d v
  mono := fun _ h => h
def kB (K : PySem.W.Frag) (i : Ix) : Kind Bool Bool where
  rel := fun _ _ _ b c => c = b
  mono := fun _ h => h
def kA (K : PySem.W.Frag) (i : Ix) : Kind (List Dt) (List V) where
  rel := fun _ F' _ ds vs => Reps K i F' ds vs
  mono := fun _ h => h
def kO (K : PySem.W.Frag) (i : Ix) : Kind (Option Int) (Option Int) where
  rel := fun _ _ _ a b => b = a
  mono := fun _ h => h
def Ok {α β : Type} (K : PySem.W.Frag) (k : Kind α β) (i : Ix) (E : XK) (F H : Hp) (Q : β → Hp → Prop) : Rs α → Prop
  | .ok a s' => ∀ v F' H', Ext i F H F' H' → MR i s' H' → k.rel H F' H' a v → Q v H'
  | .ex e s' => ∀ F' H', Ext i F H F' H' → MR i s' H' → ExOk K i E F' H' e
  | .no => False
theorem Ok.later {α β : Type} {K : PySem.W.Frag} {k : Kind α β} {i : Ix} {E : XK} {F H F' H' : Hp} {Q : β → Hp → Prop} : ∀ {r : Rs α}, Ok K k i E F H Q r → Ext i F H F' H' → Ok K k i E F' H' Q r
  | .ok a s', h, x => fun v F2 H2 x2 m q => h v F2 H2 (x.trans x2) m (k.mono x.al q)
  | .ex e s', h, x => fun F2 H2 x2 m => h F2 H2 (x.trans x2) m
  | .no, h, _ => h

structure NestAt (K : PySem.W.Frag) (i : Ix) (H0 F H : Hp) (p : Addr) (as : List Addr) (ls : List (List Dt)) : Prop where
  hp : H p = some (.lst (as.map V.ref))
  nd : (p :: as).Nodup
  len : as.length = ls.length
  fr : ∀ b ∈ p :: as, F b = none ∧ H0 b = none ∧ ¬ G i b
  at_ : ∀ (j : Nat) (q : Addr) (l : List Dt), as[j]? = some q → ls[j]? = some l → ∃ vs, H q = some (.lst vs) ∧ Reps K i F l vs
theorem NestAt.lst {K : PySem.W.Frag} {i : Ix} {H0 F H : Hp} {p : Addr} {as : List Addr} {ls : List (List Dt)} (A : NestAt K i H0 F H p as ls) : ∀ b ∈ p :: as, ∃ vs, H b = some (.lst vs) := fun b hb => by
  rcases List.mem_cons.mp hb with rfl | hb
  · exact ⟨_, A.hp⟩
  · obtain ⟨j, hj⟩ := List.mem_iff_getElem?.mp hb
    have hl : j < ls.length := by rw [← A.len]; exact (List.getElem?_eq_some_iff.mp hj).1
    obtain ⟨vs, h1, _⟩ := A.at_ j b ls[j] hj (List.getElem?_eq_getElem hl)
    exact ⟨vs, h1⟩
theorem NestAt.to {K : PySem.W.Frag} {i : Ix} {H0 F H H0' F' H' : Hp} {p : Addr} {as : List Addr} {ls : List (List Dt)} (A : NestAt K i H0 F H p as ls) (ff : Same F F') (h : ∀ b ∈ p :: as, H' b = H b ∧ F' b = none ∧ H0' b = none) : NestAt K i H0' F' H' p as ls :=
  ⟨(h p (List.mem_cons_self ..)).1.trans A.hp, A.nd, A.len, fun b hb => ⟨(h b hb).2.1, (h b hb).2.2, (A.fr b hb).2.2⟩, fun j q l e1 e2 => by
    obtain ⟨vs, h1, h2⟩ := A.at_ j q l e1 e2
    exact ⟨vs, (h q (List.mem_cons_of_mem _ (List.mem_of_getElem? e1))).1.trans h1, Reps.same ff l h2⟩⟩
def NstOwn (σ : L2.St) (δ : List Sl) (p : Addr) (as : List Addr) : Prop := ∀ (j : Nat) (m : List Dt) (q : Addr), δ[j]? = some (Sl.own m) → σ[j]? = some (some (V.ref q)) → q ∉ p :: as
def Nst (K : PySem.W.Frag) (i : Ix) (H0 F H : Hp) (σ : L2.St) (δ : List Sl) : Prop := ∀ (k : Nat) (ls : List (List Dt)), δ[k]? = some (Sl.nst ls) → ∃ p as, σ[k]? = some (some (V.ref p)) ∧ NestAt K i H0 F H p as ls ∧ NstOwn σ δ p as ∧ ∀ (j : Nat) (ms : List (List Dt)), δ[j]? = some (Sl.nst ms) → j = k
theorem Nst.to {K : PySem.W.Frag} {i : Ix} {H0 F H H0' F' H' : Hp} {σ σ' : L2.St} {δ δ' : List Sl} (N : Nst K i H0 F H σ δ) (ff : Same F F') (hδ : ∀ (k : Nat) (ls : List (List Dt)), δ'[k]? = some (Sl.nst ls) → δ[k]? = some (Sl.nst ls) ∧ σ'[k]? = σ[k]?)
    (h : ∀ (k : Nat) (ls : List (List Dt)) (p : Addr) (as : List Addr), δ[k]? = some (Sl.nst ls) → σ[k]? = some (some (V.ref p)) → NestAt K i H0 F H p as ls → NstOwn σ δ p as → (∀ b ∈ p :: as, H' b = H b ∧ F' b = none ∧ H0' b = none) ∧ NstOwn σ' δ' p as) : Nst K i H0' F' H' σ' δ' := fun k ls e => by
  obtain ⟨e1, e2⟩ := hδ k ls e
  obtain ⟨p, as, g1, A, O, one⟩ := N k ls e1
  obtain ⟨h1, h2⟩ := h k ls p as e1 g1 A O
  exact ⟨p, as, e2.trans g1, A.to ff h1, h2, fun j ms ej => one j ms (hδ j ms ej).1⟩
theorem Nst.none {K : PySem.W.Frag} {i : Ix} {H0 F H : Hp} {σ : L2.St} {δ : List Sl} (h : ∀ (k : Nat) (ls : List (List Dt)), δ[k]? ≠ some (Sl.nst ls)) : Nst K i H0 F H σ δ := fun k ls e => absurd e (h k ls)
def Foot (K : PySem.W.Frag) (i : Ix) (H0 F H : Hp) (σ : L2.St) (δ : List Sl) (b : Addr) : Prop := ∃ (k : Nat) (ls : List (List Dt)) (p : Addr) (as : List Addr), δ[k]? = some (Sl.nst ls) ∧ σ[k]? = some (some (V.ref p)) ∧ NestAt K i H0 F H p as ls ∧ b ∈ p :: as
theorem Foot.lst {K : PySem.W.Frag} {i : Ix} {H0 F H : Hp} {σ : L2.St} {δ : List Sl} {b : Addr} (f : Foot K i H0 F H σ δ b) : ∃ vs, H b = some (.lst vs) :=
  let ⟨_, _, _, _, _, _, A, hb⟩ := f
  A.lst b hb
theorem Foot.sub {K : PySem.W.Frag} {i : Ix} {H0 F H : Hp} {σ σ' : L2.St} {δ δ' : List Sl} {b : Addr} (hδ : ∀ (k : Nat) (ls : List (List Dt)), δ'[k]? = some (Sl.nst ls) → δ[k]? = some (Sl.nst ls) ∧ σ'[k]? = σ[k]?) (f : Foot K i H0 F H σ' δ' b) : Foot K i H0 F H σ δ b :=
  let ⟨k, ls, p, as, e1, e2, A, hb⟩ := f
  let ⟨h1, h2⟩ := hδ k ls e1
  ⟨k, ls, p, as, h1, h2.symm.trans e2, A, hb⟩
theorem nst_set {δ : List Sl} {σ : L2.St} {k : Nat} {x : Sl} {v : Option V} (hx : ∀ ls, x ≠ .nst ls) (j : Nat) (ls : List (List Dt)) (e : (δ.set k x)[j]? = some (Sl.nst ls)) : δ[j]? = some (Sl.nst ls) ∧ (List.set σ k v)[j]? = σ[j]? := by
  by_cases hj : j = k
  · subst hj
    by_cases hk : j < δ.length
    · rw [List.getElem?_set_self hk] at e
      exact absurd (Option.some.inj e) (hx ls)
    · rw [List.getElem?_eq_none (by simpa using hk)] at e
      cases e
  · rw [List.getElem?_set_ne (fun z => hj z.symm)] at e
    exact ⟨e, List.getElem?_set_ne (fun z => hj z.symm)⟩
structure Sinv (K : PySem.W.Frag) (i : Ix) (F0 H0 F H : Hp) (σ : L2.St) (δ : List Sl) (s : MS) : Prop where
  base : Ext i F0 H0 F H
  wf : Wf i s F H
  len : σ.length = δ.length
  slot : ∀ (k : Nat) (d : Dt), δ[k]? = some (Sl.val d) → ∃ v, σ[k]? = some (some v) ∧ Rep K i F d v
  own : ∀ (k : Nat) (l : List Dt), δ[k]? = some (Sl.own l) → ∃ p vs, σ[k]? = some (some (V.ref p)) ∧ H p = some (.lst vs) ∧ F p = none ∧ H0 p = none ∧ ¬ G i p ∧ Reps K i F l vs
  ins : ∀ (k : Nat) (C : Addr) (ns : List Str) (l : List Dt), δ[k]? = some (Sl.ins C ns l) → ∃ p dx gs, σ[k]? = some (some (V.ref p)) ∧ H p = some (.ins C dx gs) ∧ F p = none ∧ H0 p = none ∧ ¬ G i p ∧ gs.map Prod.fst = ns ∧ gs.length ≤ 100 ∧ Reps K i F l (gs.map Prod.snd) ∧ p = i.o
  sep : ∀ (k j : Nat) (l m : List Dt) (p : Addr), k ≠ j → δ[k]? = some (Sl.own l) → δ[j]? = some (Sl.own m) → σ[k]? = some (some (V.ref p)) → σ[j]? ≠ some (some (V.ref p))
  nst : Nst K i H0 F H σ δ
section
variable {K : PySem.W.Frag} {i : Ix} {F0 H0 F H F' H' : Hp} {σ : L2.St} {δ : List Sl} {s s' : MS}
theorem Sinv.ext (S : Sinv K i F0 H0 F H σ δ s) (x : Ext i F H F' H') (m : MR i s' H') : Sinv K i F0 H0 F' H' σ δ s' where
  base := S.base.trans x
  wf := S.wf.ext x m
  len := S.len
  slot := fun k d e => let ⟨v, h1, h2⟩ := S.slot k d e; ⟨v, h1, Rep.same x.ff d h2⟩
  own := fun k l e =>
    let ⟨p, vs, h1, h2, h3, h4, h5, h6⟩ := S.own k l e
    ⟨p, vs, h1, x.sb _ _ h2 h5, x.nw _ (by rw [h2]; exact fun z => nomatch z) h3, h4, h5, Reps.same x.ff l h6⟩
  ins := fun k C ns l e =>
    let ⟨p, dx, gs, h1, h2, h3, h4, h5, h6, h7, h8⟩ := S.ins k C ns l e
    ⟨p, dx, gs, h1, x.sb _ _ h2 h5, x.nw _ (by rw [h2]; exact fun z => nomatch z) h3, h4, h5, h6, h7, Reps.same x.ff l h8.1, h8.2⟩
  sep := S.sep
  nst := S.nst.to x.ff (fun k ls e => ⟨e, rfl⟩) fun k ls p as e1 e2 A O => ⟨fun b hb => by
    obtain ⟨vs, h⟩ := A.lst b hb
    obtain ⟨h1, h2, h3⟩ := A.fr b hb
    exact ⟨(x.sb b _ h h3).trans h.symm, x.nw b (by rw [h]; exact fun z => nomatch z) h1, h2⟩, O⟩
theorem Sinv.put (S : Sinv K i F0 H0 F H σ δ s) {H1 : Hp} {r : R} {v : V} (k : Nat) (hr : RepR K i H1 F H r v) (h0 : ∀ b, H0 b ≠ none → H1 b ≠ none) (hg : ∀ b, G i b → H1 b ≠ none)
    (hown : ∀ (j : Nat) (l : List Dt) (p : Addr), δ[j]? = some (Sl.own l) → σ[j]? = some (some (V.ref p)) → H1 p ≠ none)
    (hns : ∀ b, Foot K i H0 F H σ δ b → H1 b ≠ none) : Sinv K i F0 H0 F H (σ.set k (some v)) (δ.set k r.sl) s := by
  have getk : ∀ {j : Nat} {x : Sl}, (δ.set k r.sl)[j]? = some x → (j = k ∧ k < δ.length ∧ x = r.sl) ∨ (j ≠ k ∧ δ[j]? = some x) := by
    intro j x e
    by_cases hj : j = k
    · subst hj
      by_cases hk : j < δ.length
      · rw [List.getElem?_set_self hk] at e
        exact .inl ⟨rfl, hk, (Option.some.inj e).symm⟩
      · rw [List.getElem?_eq_none (by simpa using hk)] at e
        cases e
    · rw [List.getElem?_set_ne (fun z => hj z.symm)] at e
      exact .inr ⟨hj, e⟩
  have putk : k < δ.length → (σ.set k (some v))[k]? = some (some v) := fun hk => List.getElem?_set_self (by rw [S.len]; exact hk)
  have outk : ∀ {j : Nat}, j ≠ k → (σ.set k (some v))[j]? = σ[j]? := fun hj => List.getElem?_set_ne (fun z => hj z.symm)
  have nst' : Nst K i H0 F H (σ.set k (some v)) (δ.set k r.sl) := S.nst.to (Same.refl _) (fun j ls e => by
      rcases getk e with ⟨rfl, hk, e2⟩ | ⟨hj, e⟩
      · cases r <;> cases e2
      · exact ⟨e, outk hj⟩) fun k' ls p as e1 e2 A O => ⟨fun b hb => ⟨rfl, (A.fr b hb).1, (A.fr b hb).2.1⟩, fun j m q ej eq hq => by
      rcases getk ej with ⟨rfl, hk, e3⟩ | ⟨hj, e⟩
      · cases r with
        | val d' => cases e3
        | new l' =>
          obtain ⟨p', vs, rfl, h1, h2, h3, h4⟩ := hr
          rw [putk hk] at eq
          cases eq
          exact hns _ ⟨k', ls, p, as, e1, e2, A, hq⟩ h3
      · exact O j m q e ((outk hj).symm.trans eq) hq⟩
  refine ⟨S.base, S.wf, by rw [List.length_set, List.length_set]; exact S.len, fun j d e => ?_, fun j l e => ?_, fun j C ns l e => ?_, fun j j' l m p hne e e' q => ?_, nst'⟩
  · rcases getk e with ⟨rfl, hk, e2⟩ | ⟨hj, e⟩
    · cases r with
      | val d' => cases e2; exact ⟨v, putk hk, hr⟩
      | new l => cases e2
    · obtain ⟨w, h1, h2⟩ := S.slot j d e
      exact ⟨w, (outk hj).trans h1, h2⟩
  · rcases getk e with ⟨rfl, hk, e2⟩ | ⟨hj, e⟩
    · cases r with
      | val d' => cases e2
      | new l' =>
        cases e2
        obtain ⟨p, vs, rfl, h1, h2, h3, h4⟩ := hr
        refine ⟨p, vs, putk hk, h1, h2, ?_, fun g => hg _ g h3, h4⟩
        cases z : H0 p with
        | none => rfl
        | some o => exact absurd h3 (h0 p (by rw [z]; exact fun z => nomatch z))
    · obtain ⟨p, vs, h1, h⟩ := S.own j l e
      exact ⟨p, vs, (outk hj).trans h1, h⟩
  · rcases getk e with ⟨rfl, hk, e2⟩ | ⟨hj, e⟩
    · cases r <;> cases e2
    · obtain ⟨p, dx, gs, h1, h⟩ := S.ins j C ns l e
      exact ⟨p, dx, gs, (outk hj).trans h1, h⟩
  · rcases getk e with ⟨rfl, hk, e2⟩ | ⟨hj, e1⟩
    · rcases getk e' with ⟨rfl, _, _⟩ | ⟨hj', e3⟩
      · exact absurd rfl hne
      · rw [outk hj']
        intro q'
        cases r with
        | val d' => cases e2
        | new l' =>
          obtain ⟨p', vs, rfl, h1, h2, h3, h4⟩ := hr
          rw [putk hk] at q
          cases q
          exact hown _ _ _ e3 q' h3
    · rw [outk hj] at q
      rcases getk e' with ⟨rfl, hk, e2⟩ | ⟨hj', e3⟩
      · rw [putk hk]
        intro q'
        cases r with
        | val d' => cases e2
        | new l' =>
          obtain ⟨p', vs, rfl, h1, h2, h3, h4⟩ := hr
          cases q'
          exact hown _ _ _ e1 q h3
      · rw [outk hj']
        exact S.sep j j' l m p hne e1 e3 q
end
def J {α β : Type} (k : PySem.W.Frag → Ix → Kind α β) (K : PySem.W.Frag) (E : XK) (t : L2.St → Hp → (β → Hp → Prop) → Prop) (f : List Sl → M α) : Prop :=
  ∀ i F0 H0 F H σ δ s Q, Sinv K i F0 H0 F H σ δ s → Ok K (k K i) i E F H Q (f δ s) → t σ H Q
theorem J.use {α β α2 β2 : Type} {k : PySem.W.Frag → Ix → Kind α β} {k2 : Kind α2 β2} {K : PySem.W.Frag} {E : XK} {t : L2.St → Hp → (β → Hp → Prop) → Prop} {f : List Sl → M α} {g : α → M α2} {i : Ix} {F0 H0 F H : Hp} {σ : L2.St} {δ : List Sl} {s : MS}
    {Q : β2 → Hp → Prop} {Q1 : β → Hp → Prop} (h : J k K E t f) (S : Sinv K i F0 H0 F H σ δ s) (q : Ok K k2 i E F H Q (M.bnd (f δ) g s))
    (cont : ∀ a s' v F' H', f δ s = .ok a s' → Ext i F H F' H' → Sinv K i F0 H0 F' H' σ δ s' → (k K i).rel H F' H' a v → Ok K k2 i E F' H' Q (g a s') → Q1 v H') : t σ H Q1 := by
  refine h i F0 H0 F H σ δ s Q1 S ?_
  unfold M.bnd at q
  cases e : f δ s with
  | ok a s' =>
    rw [e] at q
    intro v F' H' x m r
    exact cont a s' v F' H' e x (S.ext x m) r (q.later x)
  | ex e' s' =>
    rw [e] at q
    exact q
  | no =>
    rw [e] at q
    exact q.elim
theorem J.use0 {α β α2 β2 : Type} {k : PySem.W.Frag → Ix → Kind α β} {k2 : Kind α2 β2} {K : PySem.W.Frag} {E : XK} {t : L2.St → Hp → (β → Hp → Prop) → Prop} {f : List Sl → M α} {g : α → M α2} {i : Ix} {F0 H0 F H : Hp} {σ : L2.St} {δ : List Sl} {s : MS}
    {Q : β2 → Hp → Prop} {Q1 : β → Hp → Prop} (h : J k K E t f) (S : Sinv K i F0 H0 F H σ δ s) (q : Ok K k2 i E F H Q (M.bnd (f δ) g s))
    (cont : ∀ a s' v F' H', f δ s = .ok a s' → Ext i F H F' H' → MR i s' H' → (k K i).rel H F' H' a v → Ok K k2 i E F H Q (g a s') → Q1 v H') : t σ H Q1 := by
  refine h i F0 H0 F H σ δ s Q1 S ?_
  unfold M.bnd at q
  cases e : f δ s with
  | ok a s' =>
    rw [e] at q
    intro v F' H' x m r
    exact cont a s' v F' H' e x m r q
  | ex e' s' =>
    rw [e] at q
    exact q
  | no =>
    rw [e] at q
    exact q.elim
theorem J.useR {α2 β2 : Type} {k2 : Kind α2 β2} {K : PySem.W.Frag} {E : XK} {t : L2.St → Hp → (V → Hp → Prop) → Prop} {f : List Sl → M R} {g : R → M α2} {i : Ix} {F0 H0 F H : Hp} {σ : L2.St} {δ : List Sl} {s : MS}
    {Q : β2 → Hp → Prop} {Q1 : V → Hp → Prop} (h : J kR K E t f) (S : Sinv K i F0 H0 F H σ δ s) (q : Ok K k2 i E F H Q (M.bnd (f δ) g s))
    (cont : ∀ r s' v F' H', f δ s = .ok r s' → Ext i F H F' H' → Sinv K i F0 H0 F' H' σ δ s' → Rep K i F' r.d v → Ok K k2 i E F' H' Q (g r s') → Q1 v H') : t σ H Q1 :=
  h.use0 S q fun r s' v F' H' e x m rel q' => let ⟨F2, x2, _, hr⟩ := RepR.freeze rel x; cont r s' v F2 H' e x2 (S.ext x2 m) hr (q'.later x2)
def DE (X : Cx) (E : XK) (e : Expr) (f : List Sl → M R) : Prop := ∃ t, PE X e t ∧ J kR X.K E t f
def DV (X : Cx) (E : XK) (e : Expr) (f : List Sl → M Dt) : Prop := ∃ t, PE X e t ∧ J kV X.K E t f
def DT (X : Cx) (E : XK) (e : Expr) (f : List Sl → M Bool) : Prop := ∃ t, PT X e t ∧ J kB X.K E t f
def DW (X : Cx) (E : XK) (e : Expr) (f : List Sl → M Bool) : Prop := ∃ t, PW X e t ∧ J kB X.K E t f
def DA (X : Cx) (E : XK) (es : List Expr) (f : List Sl → M (List Dt)) : Prop := ∃ t, PA X es t ∧ J kA X.K E t f
def DO (X : Cx) (E : XK) (e : Option Expr) (f : List Sl → M (Option Int)) : Prop := ∃ t, PO X e t ∧ J kO X.K E t f
end DL
namespace DL
open PySem L2
theorem ext_new {i : Ix} {F H : Hp} {p : Addr} {o : HO} (hf : Same F H) (hp : H p = none) : Ext i F H F (upd H p o) := .same hf (same_know hp)
theorem ext_newK {i : Ix} {F H : Hp} {p : Addr} {o : HO} (hf : Same F H) (hp : H p = none) : Ext i F H (upd F p o) (upd H p o) := (ext_new hf hp).know hp upd_same (hf.free hp)
theorem mr_new {i : Ix} {s : MS} {H : Hp} {p : Addr} {o : HO} (h : MR i s H) (hp : H p = none) : MR i s (upd H p o) := h.sm (same_know hp)
theorem le_line {n : Nat} (h : n ≤ 100000) : n ≤ sizeLine := Nat.le_trans h (by decide)
theorem lt_line {n : Nat} (h : n < 100000) : n < sizeLine := Nat.lt_of_lt_of_le h (by decide)
theorem ok_if {α β : Type} {K : PySem.W.Frag} {k : Kind α β} {i : Ix} {E : XK} {F H : Hp} {Q : β → Hp → Prop} {s : MS} {c : Prop} [Decidable c] {x : M α} (h : Ok K k i E F H Q ((if c then x else M.no) s)) : c ∧ Ok K k i E F H Q (x s) := by
  by_cases hc : c
  · rw [if_pos hc] at h
    exact ⟨hc, h⟩
  · rw [if_neg hc] at h
    exact h.elim
section
variable {K : PySem.W.Frag} {i : Ix} {F H : Hp} {v : V}
theorem View.tup {l : List Dt} (h : View K i F H (.tup l) v) : ∃ a vs, v = .ref a ∧ SqT K F a vs ∧ Reps K i F l vs := by
  rcases h with h | ⟨p, vs, l, e, _⟩
  · exact h
  · cases e
theorem View.lst {l : List Dt} (fh : Same F H) (h : View K i F H (.lst l) v) : ∃ a vs, v = .ref a ∧ H a = some (.lst vs) ∧ Reps K i F l vs := by
  rcases h with ⟨a, vs, h1, h2, h3⟩ | ⟨p, vs, l', e, e2, h1, _, h3⟩
  · exact ⟨a, vs, h1, fh _ _ h2, h3⟩
  · cases e
    exact ⟨p, vs, e2, h1, h3⟩
theorem View.rep {d : Dt} (h : View K i F H d v) (n : ∀ l, d ≠ .lst l) : Rep K i F d v := by
  rcases h with h | ⟨p, vs, l, e, _⟩
  · exact h
  · exact absurd e (n l)
theorem View.int {z : Int} (h : View K i F H (.int z) v) : v = .int z := h.rep fun _ e => nomatch e
theorem View.str {x : Str} (h : View K i F H (.str x) v) : v = .str x := h.rep fun _ e => nomatch e
theorem View.bl {x : Bool} (h : View K i F H (.bl x) v) : v = .bl x := h.rep fun _ e => nomatch e
theorem View.scr {ns : List Int} (h : View K i F H (.scr ns) v) : ∃ a, v = .ref a ∧ SqL K F a (ns.map V.int) := h.rep fun _ e => nomatch e
theorem reps_ints {F : Hp} : ∀ {ns : List Int}, Reps K i F (ns.map .int) (ns.map V.int)
  | [] => rfl
  | n :: ns => ⟨_, _, rfl, rfl, reps_ints⟩
theorem View.non (h : View K i F H .non v) : v = .non := h.rep fun _ e => nomatch e
theorem View.obj {C : Addr} {ns : List Str} {l : List Dt} (h : View K i F H (.obj C ns l) v) : ∃ a dx gs, v = .ref a ∧ F a = some (.ins C dx gs) ∧ gs.map Prod.fst = ns ∧ Reps K i F l (gs.map Prod.snd) := h.rep fun _ e => nomatch e
end
def cVar (k : Nat) : List Sl → M R := fun δ => match δ[k]? with
  | some (.val d) => M.ret (.val d)
  | _ => M.no
def vVar (k : Nat) : List Sl → M Dt := fun δ => match δ[k]? with
  | some (.val d) => M.ret d
  | some (.own l) => M.ret (.lst l)
  | _ => M.no
def cC (d : Dt) : List Sl → M R := fun _ => M.ret (.val d)
def toV (f : List Sl → M R) : List Sl → M Dt := fun δ => M.bnd (f δ) fun r => M.ret r.d
def bin (fa fb : List Sl → M Dt) (op : Dt → Dt → M R) : List Sl → M R := fun δ => M.bnd (fa δ) fun a => M.bnd (fb δ) fun b => op a b
def una (fa : List Sl → M Dt) (op : Dt → M R) : List Sl → M R := fun δ => M.bnd (fa δ) op
def aNil : List Sl → M (List Dt) := fun _ => M.ret []
def aCons (f : List Sl → M R) (g : List Sl → M (List Dt)) : List Sl → M (List Dt) := fun δ => M.bnd (f δ) fun r => M.bnd (g δ) fun ds => M.ret (r.d :: ds)
def cTup (f : List Sl → M (List Dt)) : List Sl → M R := fun δ => M.bnd (f δ) fun ds => if ds.length ≤ 100000 then M.ret (.val (.tup ds)) else M.no
def cLst (f : List Sl → M (List Dt)) : List Sl → M R := fun δ => M.bnd (f δ) fun ds => if ds.length ≤ 100000 then M.ret (.new ds) else M.no
def addD : Dt → Dt → M R
  | .int x, .int y => M.ret (.val (.int (x + y)))
  | .str x, .str y => if x.length + y.length ≤ 100000 then M.ret (.val (.str (x ++ y))) else M.no
  | .lst x, .lst y => if x.length + y.length ≤ 100000 then M.ret (.new (x ++ y)) else M.no
  | .tup x, .tup y => if x.length + y.length ≤ 100000 then M.ret (.val (.tup (x ++ y))) else M.no
  | _, _ => M.no
def subD : Dt → Dt → M R
  | .int x, .int y => M.ret (.val (.int (x - y)))
  | _, _ => M.no
def smallI (x : Int) : Bool := decide (-(2 ^ 64) < x ∧ x < 2 ^ 64)
def mulD : Dt → Dt → M R
  | .int x, .int y => if smallI x || smallI y then M.ret (.val (.int (x * y))) else M.no
  | .lst x, .int y => if y ≤ 2000 ∧ -1000 ≤ y ∧ x.length ≤ 1000 then M.ret (.new (List.replicate y.toNat x).flatten) else M.no
  | .tup x, .int y => if 2 ≤ y ∧ y ≤ 1000 ∧ x.length ≤ 1000 ∧ x ≠ [] then M.ret (.val (.tup (List.replicate y.toNat x).flatten)) else M.no
  | _, _ => M.no
def powD : Dt → Dt → M R
  | .int x, .int y => if 0 ≤ y ∧ y ≤ 1000000 ∧ x.natAbs < 2 ^ 64 then M.ret (.val (.int (x ^ y.toNat))) else M.no
  | _, _ => M.no
def negD : Dt → M R
  | .int x => M.ret (.val (.int (-x)))
  | _ => M.no
def cmpD (p : Int → Int → Bool) : Dt → Dt → M R
  | .int x, .int y => M.ret (.val (.bl (p x y)))
  | _, _ => M.no
mutual
def conv : Dt → Option PyData
  | .non => some .none
  | .bl b => some (.bool b)
  | .int i => some (.int i)
  | .str x => some (.str x)
  | .tup l => (convs l).map .tuple
  | .lst l => (convs l).map .list
  | _ => none
def convs : List Dt → Option (List PyData)
  | [] => some []
  | d :: ds => match conv d, convs ds with
    | some x, some xs => some (x :: xs)
    | _, _ => none
end
def eqD (neg : Bool) (a b : Dt) : M R := match conv a, conv b with
  | some x, some y => if SeqAt.shaped x && SeqAt.shaped y then M.ret (.val (.bl (neg ^^ PyData.eqv x y))) else M.no
  | _, _ => M.no
def ixD : Dt → Dt → M R
  | .lst l, .int k => (match atI l k with
    | some d => M.ret (.val d)
    | none => M.no)
  | .tup l, .int k => (match atI l k with
    | some d => M.ret (.val d)
    | none => M.no)
  | .str x, .int k => (match atI x.cps.toList k with
    | some c => if x.length ≤ 100000 then M.ret (.val (.str ⟨#[c]⟩)) else M.no
    | none => M.no)
  | _, _ => M.no
def cutD (l : List Dt) (lo hi : Option Int) : List Dt := (l.drop (HT.sIx l.length 0 lo)).take (HT.sIx l.length l.length hi - HT.sIx l.length 0 lo)
def slD (a : Dt) (lo hi : Option Int) : M R := match a with
  | .lst l => M.ret (.new (cutD l lo hi))
  | .tup l => M.ret (.val (.tup (cutD l lo hi)))
  | .str x => if x.length ≤ 100000 then M.ret (.val (.str (cutS x lo hi))) else M.no
  | .scr ns => M.ret (.new (cutD (ns.map .int) lo hi))
  | _ => M.no
def oNone : List Sl → M (Option Int) := fun _ => M.ret none
def oSome (f : List Sl → M Dt) : List Sl → M (Option Int) := fun δ => M.bnd (f δ) fun
  | .int z => M.ret (some z)
  | _ => M.no
def cSl (f : List Sl → M Dt) (lo hi : List Sl → M (Option Int)) : List Sl → M R := fun δ => M.bnd (f δ) fun a => M.bnd (lo δ) fun l => M.bnd (hi δ) fun h => slD a l h
def notD : Dt → M R
  | .bl b => M.ret (.val (.bl (!b)))
  | _ => M.no
def truD : Dt → M Bool
  | .non => M.ret false
  | .bl b => M.ret b
  | .int z => M.ret (z != 0)
  | .str x => if x.length ≤ 100000 then M.ret ((x.length : Int) != 0) else M.no
  | .lst l => M.ret !l.isEmpty
  | .tup l => M.ret !l.isEmpty
  | .dK ks _ => M.ret !ks.isEmpty
  | _ => M.no
def tV (f : List Sl → M Dt) : List Sl → M Bool := fun δ => M.bnd (f δ) truD
def tNotD (f : List Sl → M Bool) : List Sl → M Bool := fun δ => M.bnd (f δ) fun b => M.ret !b
def tAndD (f g : List Sl → M Bool) : List Sl → M Bool := fun δ => M.bnd (f δ) fun b => if b = true then g δ else M.ret false
def tOrD (f g : List Sl → M Bool) : List Sl → M Bool := fun δ => M.bnd (f δ) fun b => if b = true then M.ret true else g δ
def andV (f : List Sl → M Dt) (g : List Sl → M R) : List Sl → M R := fun δ => M.bnd (f δ) fun
  | .bl b => if b = true then g δ else M.ret (.val (.bl false))
  | _ => M.no
def orV (f : List Sl → M Dt) (g : List Sl → M R) : List Sl → M R := fun δ => M.bnd (f δ) fun
  | .bl b => if b = true then M.ret (.val (.bl true)) else g δ
  | _ => M.no
def cIf (t : List Sl → M Bool) (f g : List Sl → M R) : List Sl → M R := fun δ => M.bnd (t δ) fun b => if b = true then f δ else g δ

section
variable {X : Cx} {E : XK} {a b c e : Expr} {es : List Expr} {pos : Pos}
theorem de_var (k : Nat) {x : Str} (hN : X.N[k]? = some x := by rfl) (hv : Vis X.env.scope x := by first | exact Or.inl rfl | exact Or.inr (Or.inl rfl) | exact Or.inr (Or.inr rfl)) (hd : (x == ("__debug__" : Str)) = false := by decide)
    (hcd : (x == ("__classdict__" : Str)) = false := by decide) : DE X E (.Name x pos) (cVar k) := by
  refine ⟨_, pe_var hN hv hd hcd, fun i F0 H0 F H σ δ s Q S q => ?_⟩
  unfold cVar at q
  cases h : δ[k]? with
  | none => rw [h] at q; exact q.elim
  | some z =>
    rw [h] at q
    cases z with
    | val d =>
      obtain ⟨v, h1, h2⟩ := S.slot k d h
      exact ⟨v, h1, q v F H (.refl S.wf.fh) S.wf.mr h2⟩
    | non => exact q.elim
    | own l => exact q.elim
    | ins C ns l => exact q.elim
    | nst ls => exact q.elim
theorem dv_var (k : Nat) {x : Str} (hN : X.N[k]? = some x := by rfl) (hv : Vis X.env.scope x := by first | exact Or.inl rfl | exact Or.inr (Or.inl rfl) | exact Or.inr (Or.inr rfl)) (hd : (x == ("__debug__" : Str)) = false := by decide)
    (hcd : (x == ("__classdict__" : Str)) = false := by decide) : DV X E (.Name x pos) (vVar k) := by
  refine ⟨_, pe_var hN hv hd hcd, fun i F0 H0 F H σ δ s Q S q => ?_⟩
  unfold vVar at q
  cases h : δ[k]? with
  | none => rw [h] at q; exact q.elim
  | some z =>
    rw [h] at q
    cases z with
    | val d =>
      obtain ⟨v, h1, h2⟩ := S.slot k d h
      exact ⟨v, h1, q v F H (.refl S.wf.fh) S.wf.mr (.inl h2)⟩
    | non => exact q.elim
    | ins C ns l => exact q.elim
    | nst ls => exact q.elim
    | own l =>
      obtain ⟨p, vs, h1, h2, h3, h4, h5, h6⟩ := S.own k l h
      exact ⟨_, h1, q _ F H (.refl S.wf.fh) S.wf.mr (.inr ⟨p, vs, l, rfl, rfl, h2, h5, h6⟩)⟩
theorem de_c {v : V} {d : Dt} (h : PE X e (tC v)) (r : ∀ K i F, Rep K i F d v) : DE X E e (cC d) :=
  ⟨_, h, fun i F0 H0 F H σ δ s Q S q => q v F H (.refl S.wf.fh) S.wf.mr (r _ _ _)⟩
theorem de_int {z : Int} {j : Nat} : DE X E (.Constant (.int z) j pos) (cC (.int z)) := de_c pe_int fun _ _ _ => rfl
theorem de_bl {z : Bool} {j : Nat} : DE X E (.Constant (.bool z) j pos) (cC (.bl z)) := de_c pe_bl fun _ _ _ => rfl
theorem de_non {j : Nat} : DE X E (.Constant .none j pos) (cC .non) := de_c pe_non fun _ _ _ => rfl
theorem de_str {z : Str} {j : Nat} : DE X E (.Constant (.str z) j pos) (cC (.str z)) := de_c pe_str fun _ _ _ => rfl
theorem de_globI {x : Str} {z : Int} {t : Tok} (hg : Gl X x) (hm : X.mg x = some (.int z t)) (hd : (x == ("__debug__" : Str)) = false := by decide) : DE X E (.Name x pos) (cC (.int z)) := de_c (v := .int z) (pe_glob hg hm ⟨t, rfl⟩ hd) fun _ _ _ => rfl
theorem dv_e {f : List Sl → M R} (h : DE X E e f) : DV X E e (toV f) := by
  obtain ⟨t, ht, hj⟩ := h
  exact ⟨t, ht, fun i F0 H0 F H σ δ s Q S q => hj.useR S q fun r s' v F' H' _ x S' rel q' => q' v F' H' (.refl S'.wf.fh) S'.wf.mr (.inl rel)⟩
theorem da_nil : DA X E [] aNil := ⟨_, pa_nil, fun i F0 H0 F H σ δ s Q S q => q [] F H (.refl S.wf.fh) S.wf.mr rfl⟩
theorem da_cons {f : List Sl → M R} {g : List Sl → M (List Dt)} (h : DE X E e f) (hr : DA X E es g) (hs : starEach (e :: es) X.env = (false, eval e X.env) :: starEach es X.env := by rfl) : DA X E (e :: es) (aCons f g) := by
  obtain ⟨t, ht, hj⟩ := h
  obtain ⟨u, hu, hk⟩ := hr
  refine ⟨_, pa_cons ht hu hs, fun i F0 H0 F H σ δ s Q S q => hj.useR S q fun r s1 v F1 H1 _ x1 S1 r1 q1 => hk.use S1 q1 fun ds s2 vs F2 H2 _ x2 S2 r2 q2 => ?_⟩
  exact q2 _ F2 H2 (.refl S2.wf.fh) S2.wf.mr (.cons (Rep.same x2.ff _ r1) r2)
theorem de_tup {f : List Sl → M (List Dt)} {x1} (h : DA X E es f) : DE X E (.Tuple es x1 pos) (cTup f) := by
  obtain ⟨t, ht, hj⟩ := h
  refine ⟨_, pe_tup ht, fun i F0 H0 F H σ δ s Q S q => hj.use S q fun ds s1 vs F1 H1 _ x1 S1 r1 q1 => ?_⟩
  by_cases hl : ds.length ≤ 100000
  · rw [if_pos hl] at q1
    exact ⟨le_line (by rw [r1.len]; exact hl), fun p hp => q1 _ _ _ (ext_newK S1.wf.fh hp) (mr_new S1.wf.mr hp) ⟨p, vs, rfl, .inl (.inl upd_same), Reps.same (same_know (S1.wf.fh.free hp)) _ r1⟩⟩
  · rw [if_neg hl] at q1
    exact q1.elim
theorem de_lst {f : List Sl → M (List Dt)} (h : DA X E es f) : DE X E (.List es pos) (cLst f) := by
  obtain ⟨t, ht, hj⟩ := h
  refine ⟨_, pe_lst ht, fun i F0 H0 F H σ δ s Q S q => hj.use S q fun ds s1 vs F1 H1 _ x1 S1 r1 q1 => ?_⟩
  by_cases hl : ds.length ≤ 100000
  · rw [if_pos hl] at q1
    exact ⟨le_line (by rw [r1.len]; exact hl), fun p hp => q1 _ _ _ (ext_new S1.wf.fh hp) (mr_new S1.wf.mr hp) ⟨p, vs, rfl, upd_same, S1.wf.fh.free hp, hp, r1⟩⟩
  · rw [if_neg hl] at q1
    exact q1.elim
def OpD (X : Cx) (E : XK) (g : Value → Value → Sem Value) (op : Dt → Dt → M R) : Prop := ∃ r, OpR X g r ∧ ∀ i s F H x y a b Q, Wf i s F H → View X.K i F H a x → View X.K i F H b y → Ok X.K (kR X.K i) i E F H Q (op a b s) → r x y H Q
theorem de_op {fa fb : List Sl → M Dt} {o : Operator} {op : Dt → Dt → M R} (ho : OpD X E (binaryOp o) op) (ha : DV X E a fa) (hb : DV X E b fb) : DE X E (.BinOp a o b pos) (bin fa fb op) := by
  obtain ⟨ta, pa, ja⟩ := ha
  obtain ⟨tb, pb, jb⟩ := hb
  obtain ⟨r, pr, jr⟩ := ho
  exact ⟨_, pe_op pr pa pb, fun i F0 H0 F H σ δ s Q S q => ja.use S q fun x s1 v F1 H1 _ x1 S1 r1 q1 => jb.use S1 q1 fun y s2 u F2 H2 _ x2 S2 r2 q2 => jr i s2 F2 H2 v u x y Q S2.wf (r1.ext x2) r2 q2⟩
theorem de_cmp {fa fb : List Sl → M Dt} {o : CmpOp} {op : Dt → Dt → M R} (ho : OpD X E (compareOp o) op) (ha : DV X E a fa) (hb : DV X E b fb) (hm : behindInMarks o b = false := by first | exact nomark _ | rfl) : DE X E (.Compare a [o] [b] pos) (bin fa fb op) := by
  obtain ⟨ta, pa, ja⟩ := ha
  obtain ⟨tb, pb, jb⟩ := hb
  obtain ⟨r, pr, jr⟩ := ho
  exact ⟨_, pe_cmpR pr pa pb hm, fun i F0 H0 F H σ δ s Q S q => ja.use S q fun x s1 v F1 H1 _ x1 S1 r1 q1 => jb.use S1 q1 fun y s2 u F2 H2 _ x2 S2 r2 q2 => jr i s2 F2 H2 v u x y Q S2.wf (r1.ext x2) r2 q2⟩
theorem op_addD : OpD X E (binaryOp .Add) addD := by
  refine ⟨_, op_add.or (op_add_str.or (op_cat.or op_catA)), fun i s F H x y a b Q W va vb q => ?_⟩
  cases a <;> cases b <;> first | exact q.elim | skip
  · exact .inl ⟨_, _, va.int, vb.int, q _ F H (.refl W.fh) W.mr rfl⟩
  · obtain ⟨h, q⟩ := ok_if q
    exact .inr (.inl ⟨_, _, va.str, vb.str, le_line h, q _ F H (.refl W.fh) W.mr rfl⟩)
  · obtain ⟨h, q⟩ := ok_if q
    · obtain ⟨p, vs, rfl, h1, h2⟩ := va.tup
      obtain ⟨p', vs', rfl, h1', h2'⟩ := vb.tup
      refine .inr (.inr (.inr ⟨p, p', vs, vs', rfl, rfl, sqT_same W.fh h1, sqT_same W.fh h1', le_line (by rw [h2.len, h2'.len]; exact h), fun e => ?_, fun e e' => ?_, fun _ _ z hz => ?_⟩))
      · exact q _ F H (.refl W.fh) W.mr ⟨p', vs', rfl, h1', by
          have := h2.append h2'
          rw [e] at this
          exact this⟩
      · exact q _ F H (.refl W.fh) W.mr ⟨p, vs, rfl, h1, by
          have := h2.append h2'
          rw [e', List.append_nil] at this
          exact this⟩
      · exact q _ _ _ (ext_newK W.fh hz) (mr_new W.mr hz) ⟨z, _, rfl, .inl (.inl upd_same), Reps.same (same_know (W.fh.free hz)) _ (h2.append h2')⟩
  · obtain ⟨h, q⟩ := ok_if q
    · obtain ⟨p, vs, rfl, h1, h2⟩ := va.lst W.fh
      obtain ⟨p', vs', rfl, h1', h2'⟩ := vb.lst W.fh
      exact .inr (.inr (.inl ⟨p, p', vs, vs', rfl, rfl, h1, h1', le_line (by rw [h2.len, h2'.len]; exact h), fun z hz => q _ _ _ (ext_new W.fh hz) (mr_new W.mr hz) ⟨z, _, rfl, upd_same, W.fh.free hz, hz, h2.append h2'⟩⟩))
theorem op_subD : OpD X E (binaryOp .Sub) subD := by
  refine ⟨_, op_sub, fun i s F H x y a b Q W va vb q => ?_⟩
  cases a <;> cases b <;> first | exact q.elim | skip
  exact ⟨_, _, va.int, vb.int, q _ F H (.refl W.fh) W.mr rfl⟩
theorem op_powD : OpD X E (binaryOp .Pow) powD := by
  refine ⟨_, op_pow, fun i s F H x y a b Q W va vb q => ?_⟩
  cases a <;> cases b <;> first | exact q.elim | skip
  obtain ⟨h, q⟩ := ok_if q
  exact ⟨_, _, va.int, vb.int, h, q _ F H (.refl W.fh) W.mr rfl⟩
theorem op_cmpD {o : CmpOp} {p : Int → Int → Bool} (h : OpR X (compareOp o) (rI0 fun x y => .bl (p x y))) : OpD X E (compareOp o) (cmpD p) := by
  refine ⟨_, h, fun i s F H x y a b Q W va vb q => ?_⟩
  cases a <;> cases b <;> first | exact q.elim | skip
  exact ⟨_, _, va.int, vb.int, q _ F H (.refl W.fh) W.mr rfl⟩
theorem op_ltD : OpD X E (compareOp .Lt) (cmpD fun x y => decide (x < y)) := op_cmpD op_lt
theorem op_leD : OpD X E (compareOp .LtE) (cmpD fun x y => decide (x ≤ y)) := op_cmpD op_le
theorem op_gtD : OpD X E (compareOp .Gt) (cmpD fun x y => decide (y < x)) := op_cmpD op_gt
end
end DL
namespace DL
open PySem L2
theorem Reps.flatten {K : PySem.W.Frag} {i : Ix} {F : Hp} {l : List Dt} {vs : List V} (h : Reps K i F l vs) : ∀ n : Nat, Reps K i F (List.replicate n l).flatten (List.replicate n vs).flatten
  | 0 => rfl
  | n + 1 => by
    rw [List.replicate_succ, List.replicate_succ, List.flatten_cons, List.flatten_cons]
    exact h.append (Reps.flatten h n)
theorem isEmp {α β : Type} {l : List α} {m : List β} (h : l.length = m.length) : l.isEmpty = m.isEmpty := by
  cases l <;> cases m <;> simp_all
mutual
theorem dp_of {K : PySem.W.Frag} {i : Ix} {F : Hp} : ∀ (d : Dt) {v : V} {x : PyData}, Rep K i F d v → conv d = some x → Dp K F v x
  | .non, _, _, h, e => by cases e; rw [show _ = V.non from h]; exact .non
  | .bl b, _, _, h, e => by cases e; rw [show _ = V.bl b from h]; exact .bl b
  | .int z, _, _, h, e => by cases e; rw [show _ = V.int z from h]; exact .int z
  | .str z, _, _, h, e => by cases e; rw [show _ = V.str z from h]; exact .str z
  | .tup l, _, _, ⟨a, vs, h1, h2, h3⟩, e => by
    unfold conv at e
    obtain ⟨xs, e1, e2⟩ := Option.map_eq_some_iff.mp e
    rw [h1, ← e2]
    exact .tup h2 (dps_of l h3 e1)
  | .lst l, _, _, ⟨a, vs, h1, h2, h3⟩, e => by
    unfold conv at e
    obtain ⟨xs, e1, e2⟩ := Option.map_eq_some_iff.mp e
    rw [h1, ← e2]
    exact .lst (SqL.of h2) (dps_of l h3 e1)
  | .drw, _, _, _, e => by unfold conv at e; cases e
  | .opq, _, _, _, e => by unfold conv at e; cases e
  | .slc, _, _, _, e => by unfold conv at e; cases e
  | .scr _, _, _, _, e => by unfold conv at e; cases e
  | .exc _ _ _, _, _, _, e => by unfold conv at e; cases e
  | .any _, _, _, _, e => by unfold conv at e; cases e
  | .obj _ _ _, _, _, _, e => by unfold conv at e; cases e
  | .dK _ _, _, _, _, e => by unfold conv at e; cases e
  | .dT _ _, _, _, _, e => by unfold conv at e; cases e
theorem dps_of {K : PySem.W.Frag} {i : Ix} {F : Hp} : ∀ (l : List Dt) {vs : List V} {xs : List PyData}, Reps K i F l vs → convs l = some xs → DpAll K F vs xs
  | [], _, _, h, e => by
    unfold convs at e
    cases e
    rw [show _ = [] from h]
    exact .nil
  | d :: ds, _, _, ⟨v, r, h1, h2, h3⟩, e => by
    unfold convs at e
    cases e1 : conv d with
    | none => rw [e1] at e; cases e
    | some x =>
      cases e2 : convs ds with
      | none => rw [e1, e2] at e; cases e
      | some xs =>
        rw [e1, e2] at e
        cases e
        rw [h1]
        exact .cons (dp_of d h2 e1) (dps_of ds h3 e2)
end
mutual
theorem dp_same {K : PySem.W.Frag} {F F' : Hp} (s : Same F F') : ∀ (x : PyData) {v : V}, Dp K F v x → Dp K F' v x
  | .none, _, h => by cases h; exact .non
  | .bool _, _, h => by cases h; exact .bl _
  | .int _, _, h => by cases h; exact .int _
  | .str _, _, h => by cases h; exact .str _
  | .list xs, _, h => by cases h with | lst h1 h2 => exact .lst (s.seq h1) (dps_same s xs h2)
  | .tuple xs, _, h => by cases h with | tup h1 h2 => exact .tup (sqT_same s h1) (dps_same s xs h2)
  | .dict _, _, h => by cases h
theorem dps_same {K : PySem.W.Frag} {F F' : Hp} (s : Same F F') : ∀ (xs : List PyData) {vs : List V}, DpAll K F vs xs → DpAll K F' vs xs
  | [], _, h => by cases h; exact .nil
  | x :: xs, _, h => by cases h with | cons h1 h2 => exact .cons (dp_same s x h1) (dps_same s xs h2)
end
theorem dp_view {K : PySem.W.Frag} {i : Ix} {F H : Hp} (fh : Same F H) {d : Dt} {v : V} {x : PyData} (h : View K i F H d v) (e : conv d = some x) : Dp K H v x := by
  rcases h with h | ⟨p, vs, l, rfl, rfl, h1, _, h3⟩
  · exact dp_same fh x (dp_of d h e)
  · unfold conv at e
    obtain ⟨xs, e1, e2⟩ := Option.map_eq_some_iff.mp e
    rw [← e2]
    exact .lst (SqL.of h1) (dps_same fh xs (dps_of l h3 e1))
theorem Reps.at {K : PySem.W.Frag} {i : Ix} {F : Hp} {l : List Dt} {vs : List V} {z : Int} {d : Dt} (h : Reps K i F l vs) (e : atI l z = some d) : ∃ v, atI vs z = some v ∧ Rep K i F d v := by
  unfold atI at e ⊢
  rw [h.len]
  cases h1 : ixN l.length z with
  | none => rw [h1] at e; cases e
  | some j =>
    rw [h1] at e
    exact h.get e
theorem Reps.cut {K : PySem.W.Frag} {i : Ix} {F : Hp} {l : List Dt} {vs : List V} (h : Reps K i F l vs) (lo hi : Option Int) : Reps K i F (cutD l lo hi) (cutV vs lo hi) := by
  unfold cutD cutV
  rw [h.len]
  exact (h.drop _).take _
theorem cutD_whole {l : List Dt} {lo hi : Option Int} (h : HT.sIx l.length 0 lo = 0 ∧ HT.sIx l.length l.length hi = l.length) : cutD l lo hi = l := by
  unfold cutD
  rw [h.1, h.2, List.drop_zero, Nat.sub_zero, List.take_length]
theorem lookup_rep {K : PySem.W.Frag} {i : Ix} {F : Hp} {f : Str} : ∀ {ns : List Str} {l : List Dt} {gs : List (Str × V)} {d : Dt}, gs.map Prod.fst = ns → Reps K i F l (gs.map Prod.snd) → (ns.zip l).lookup f = some d → ∃ v, gs.lookup f = some v ∧ Rep K i F d v
  | [], _, _, _, _, _, e => by cases e
  | n :: ns, [], _, _, _, _, e => by cases e
  | n :: ns, d :: ds, [], _, h, _, _ => by cases h
  | n :: ns, d :: ds, (m, u) :: gs, x, h, ⟨v, r, h1, h2, h3⟩, e => by
    injection h with ha hb
    injection h1 with hc hd
    have ha : m = n := ha
    have hc : u = v := hc
    subst ha hc
    rw [List.zip_cons_cons, List.lookup_cons] at e
    rw [List.lookup_cons]
    cases q : f == m with
    | true => rw [q] at e; cases e; exact ⟨u, rfl, h2⟩
    | false => rw [q] at e; exact lookup_rep hb (by rw [show gs.map Prod.snd = r from hd]; exact h3) e
section
variable {X : Cx} {E : XK} {a b c e : Expr} {es : List Expr} {pos : Pos}
theorem op_mulD : OpD X E (binaryOp .Mult) mulD := by
  refine ⟨_, op_mul.or (op_rep.or op_repT), fun i s F H x y a b Q W va vb q => ?_⟩
  cases a <;> cases b <;> first | exact q.elim | skip
  · obtain ⟨h, q⟩ := ok_if q
    rw [Bool.or_eq_true] at h
    refine .inl ⟨_, _, va.int, vb.int, ?_, q _ F H (.refl W.fh) W.mr rfl⟩
    unfold smallI at h
    rcases h with h | h
    · exact .inl (of_decide_eq_true h)
    · exact .inr (of_decide_eq_true h)
  · obtain ⟨⟨h1, h2, h3, h4⟩, q⟩ := ok_if q
    obtain ⟨p, vs, rfl, e1, e2⟩ := va.tup
    refine .inr (.inr ⟨p, _, vs, rfl, vb.int, sqT_same W.fh e1, fun z => h4 ?_, h1, h2, by rw [e2.len]; exact h3, fun z hz => ?_⟩)
    · have := e2.len
      rw [z] at this
      exact List.length_eq_zero_iff.mp this.symm
    · exact q _ _ _ (ext_newK W.fh hz) (mr_new W.mr hz) ⟨z, _, rfl, .inl (.inl upd_same), Reps.same (same_know (W.fh.free hz)) _ (e2.flatten _)⟩
  · obtain ⟨⟨h1, h2, h3⟩, q⟩ := ok_if q
    obtain ⟨p, vs, rfl, e1, e2⟩ := va.lst W.fh
    refine .inr (.inl ⟨p, _, vs, rfl, vb.int, e1, by omega, by omega, ?_, fun z hz => ?_⟩)
    · rw [e2.len]
      exact Nat.le_trans (Nat.mul_le_mul h3 (show _ ≤ 2000 by omega)) (by decide)
    · exact q _ _ _ (ext_new W.fh hz) (mr_new W.mr hz) ⟨z, _, rfl, upd_same, W.fh.free hz, hz, e2.flatten _⟩
theorem de_neg {fa : List Sl → M Dt} (ha : DV X E a fa) : DE X E (.UnaryOp .USub a pos) (una fa negD) := by
  obtain ⟨ta, pa, ja⟩ := ha
  refine ⟨_, pe_un un_neg pa, fun i F0 H0 F H σ δ s Q S q => ja.use S q fun x s1 v F1 H1 e0 x1 S1 r1 q1 => ?_⟩
  clear e0
  cases x <;> first | exact q1.elim | skip
  exact ⟨_, r1.int, q1 _ F1 H1 (.refl S1.wf.fh) S1.wf.mr rfl⟩
theorem op_eqDD (hu : X.A.units + 64 < cLine) : OpD X E (compareOp .Eq) (eqD false) := by
  refine ⟨_, op_eqD hu, fun i s F H x y a b Q W va vb q => ?_⟩
  unfold eqD at q
  cases e1 : conv a with
  | none => rw [e1] at q; exact q.elim
  | some d =>
    cases e2 : conv b with
    | none => rw [e1, e2] at q; exact q.elim
    | some d' =>
      rw [e1, e2] at q
      obtain ⟨h, q⟩ := ok_if q
      rw [Bool.and_eq_true] at h
      exact ⟨d, d', dp_view W.fh va e1, dp_view W.fh vb e2, h.1, h.2, q _ F H (.refl W.fh) W.mr (by rw [Bool.false_xor]; rfl)⟩
theorem op_neDD (hu : X.A.units + 64 < cLine) : OpD X E (compareOp .NotEq) (eqD true) := by
  refine ⟨_, op_neD hu, fun i s F H x y a b Q W va vb q => ?_⟩
  unfold eqD at q
  cases e1 : conv a with
  | none => rw [e1] at q; exact q.elim
  | some d =>
    cases e2 : conv b with
    | none => rw [e1, e2] at q; exact q.elim
    | some d' =>
      rw [e1, e2] at q
      obtain ⟨h, q⟩ := ok_if q
      rw [Bool.and_eq_true] at h
      exact ⟨d, d', dp_view W.fh va e1, dp_view W.fh vb e2, h.1, h.2, q _ F H (.refl W.fh) W.mr (by rw [Bool.true_xor]; rfl)⟩
theorem de_ix {fa fb : List Sl → M Dt} (ha : DV X E a fa) (hb : DV X E b fb) (hs : PlainIx b := by exact fun _ _ => rfl) : DE X E (.Subscript a b pos) (bin fa fb ixD) := by
  obtain ⟨ta, pa, ja⟩ := ha
  obtain ⟨tb, pb, jb⟩ := hb
  refine ⟨_, pe_ix ix_seq pa pb hs, fun i F0 H0 F H σ δ s Q S q => ja.use S q fun x s1 v F1 H1 e0 x1 S1 r1 q1 => jb.use S1 q1 fun y s2 u F2 H2 e2 x2 S2 r2 q2 => ?_⟩
  clear e0 e2
  replace r1 := r1.ext x2
  cases x <;> cases y <;> first | exact q2.elim | skip
  · rename_i z k
    simp only [ixD] at q2
    cases e : atI z.cps.toList k with
    | none => rw [e] at q2; exact q2.elim
    | some c =>
      rw [e] at q2
      obtain ⟨h, q2⟩ := ok_if q2
      exact .inr (.inr ⟨z, k, c, r1.str, r2.int, le_line h, e, q2 _ F2 H2 (.refl S2.wf.fh) S2.wf.mr rfl⟩)
  · rename_i l k
    simp only [ixD] at q2
    cases e : atI l k with
    | none => rw [e] at q2; exact q2.elim
    | some d =>
      rw [e] at q2
      obtain ⟨p, vs, h0, h1, h2⟩ := r1.tup
      obtain ⟨w, e1, e2⟩ := h2.at e
      exact .inr (.inl ⟨p, vs, k, w, h0, r2.int, sqT_same S2.wf.fh h1, e1, q2 _ F2 H2 (.refl S2.wf.fh) S2.wf.mr e2⟩)
  · rename_i l k
    simp only [ixD] at q2
    cases e : atI l k with
    | none => rw [e] at q2; exact q2.elim
    | some d =>
      rw [e] at q2
      obtain ⟨p, vs, h0, h1, h2⟩ := r1.lst S2.wf.fh
      obtain ⟨w, e1, e2⟩ := h2.at e
      exact .inl ⟨p, vs, k, w, h0, r2.int, SqL.of h1, e1, q2 _ F2 H2 (.refl S2.wf.fh) S2.wf.mr e2⟩
theorem do_none : DO X E none oNone := ⟨_, po_none, fun i F0 H0 F H σ δ s Q S q => q none F H (.refl S.wf.fh) S.wf.mr rfl⟩
theorem do_some {f : List Sl → M Dt} (h : DV X E e f) : DO X E (some e) (oSome f) := by
  obtain ⟨t, pt, jt⟩ := h
  refine ⟨_, po_some pt, fun i F0 H0 F H σ δ s Q S q => jt.use S q fun x s1 v F1 H1 e0 x1 S1 r1 q1 => ?_⟩
  clear e0
  cases x <;> first | exact q1.elim | skip
  exact ⟨_, r1.int, q1 _ F1 H1 (.refl S1.wf.fh) S1.wf.mr rfl⟩
theorem de_sl {f : List Sl → M Dt} {fl fh : List Sl → M (Option Int)} {lo hi : Option Expr} {p2 : Pos} (h : DV X E e f) (hl : DO X E lo fl) (hh : DO X E hi fh) : DE X E (.Subscript e (.Slice lo hi none p2) pos) (cSl f fl fh) := by
  obtain ⟨t, pt, jt⟩ := h
  obtain ⟨tl, pl, jl⟩ := hl
  obtain ⟨th, ph, jh⟩ := hh
  refine ⟨_, pe_slice (sl_list.or (sl_tupA.or sl_str)) pt pl ph, fun i F0 H0 F H σ δ s Q S q => jt.use S q fun x s1 v F1 H1 e0 x1 S1 r1 q1 => jl.use S1 q1 fun lx s2 l' F2 H2 e2 x2 S2 r2 q2 => jh.use S2 q2 fun ux s3 u' F3 H3 e3 x3 S3 r3 q3 => ?_⟩
  clear e0 e2 e3
  replace r1 := (r1.ext x2).ext x3
  have r2 : l' = lx := r2
  have r3 : u' = ux := r3
  subst r2 r3
  cases x <;> first | exact q3.elim | skip
  · obtain ⟨h, q3⟩ := ok_if q3
    exact .inr (.inr ⟨_, r1.str, le_line h, q3 _ F3 H3 (.refl S3.wf.fh) S3.wf.mr rfl⟩)
  · rename_i l
    obtain ⟨p, vs, h0, h1, h2⟩ := r1.tup
    refine .inr (.inl ⟨p, vs, h0, sqT_same S3.wf.fh h1, fun hw => ?_, fun _ z hz => ?_⟩)
    · rw [h2.len] at hw
      exact q3 _ F3 H3 (.refl S3.wf.fh) S3.wf.mr ⟨p, vs, rfl, h1, by rw [cutD_whole hw]; exact h2⟩
    · exact q3 _ _ _ (ext_newK S3.wf.fh hz) (mr_new S3.wf.mr hz) ⟨z, _, rfl, .inl (.inl upd_same), Reps.same (same_know (S3.wf.fh.free hz)) _ (h2.cut l' u')⟩
  · obtain ⟨p, vs, h0, h1, h2⟩ := r1.lst S3.wf.fh
    exact .inl ⟨p, vs, h0, SqL.of h1, fun z hz => q3 _ _ _ (ext_new S3.wf.fh hz) (mr_new S3.wf.mr hz) ⟨z, _, rfl, upd_same, S3.wf.fh.free hz, hz, h2.cut l' u'⟩⟩
  · obtain ⟨p, h0, h1⟩ := r1.scr
    exact .inl ⟨p, _, h0, sqL_same S3.wf.fh h1, fun z hz => q3 _ _ _ (ext_new S3.wf.fh hz) (mr_new S3.wf.mr hz) ⟨z, _, rfl, upd_same, S3.wf.fh.free hz, hz, reps_ints.cut l' u'⟩⟩
theorem de_not {fa : List Sl → M Dt} (ha : DV X E a fa) : DE X E (.UnaryOp .Not a pos) (una fa notD) := by
  obtain ⟨ta, pa, ja⟩ := ha
  refine ⟨_, pe_not pa, fun i F0 H0 F H σ δ s Q S q => ja.use S q fun x s1 v F1 H1 e0 x1 S1 r1 q1 => ?_⟩
  clear e0
  cases x <;> first | exact q1.elim | skip
  exact ⟨_, r1.bl, q1 _ F1 H1 (.refl S1.wf.fh) S1.wf.mr rfl⟩
theorem de_one {o : BoolOp} {f : List Sl → M R} (h : DE X E a f) : DE X E (.BoolOp o [a] pos) f := let ⟨t, pt, jt⟩ := h; ⟨t, pe_one pt, jt⟩
theorem de_and {f : List Sl → M Dt} {g : List Sl → M R} (h : DV X E a f) (hr : DE X E (.BoolOp .And (b :: es) pos) g) : DE X E (.BoolOp .And (a :: b :: es) pos) (andV f g) := by
  obtain ⟨t, pt, jt⟩ := h
  obtain ⟨u, pu, ju⟩ := hr
  refine ⟨_, pe_and pt pu, fun i F0 H0 F H σ δ s Q S q => jt.use S q fun x s1 v F1 H1 e0 x1 S1 r1 q1 => ?_⟩
  clear e0
  cases x <;> first | exact q1.elim | skip
  rename_i z
  refine ⟨z, r1.bl, ?_⟩
  cases z with
  | true => exact ju i F0 H0 F1 H1 σ δ s1 Q S1 q1
  | false => exact q1 _ F1 H1 (.refl S1.wf.fh) S1.wf.mr rfl
theorem dt_v {f : List Sl → M Dt} (h : DV X E e f) (he : ∀ whole, isTrue e X.env whole = (do let v ← whole; standAt e.pos; holding [v] (truthy v)) := by intro _; rfl) : DT X E e (tV f) := by
  obtain ⟨t, pt, jt⟩ := h
  refine ⟨_, pt_truth pt he, fun i F0 H0 F H σ δ s Q S q => jt.use S q fun x s1 v F1 H1 e0 x1 S1 r1 q1 => ?_⟩
  clear e0
  have fin : ∀ {z : Bool}, Ok X.K (kB X.K i) i E F1 H1 Q (M.ret z s1) → Q z H1 := fun q => q _ F1 H1 (.refl S1.wf.fh) S1.wf.mr rfl
  cases x <;> first | exact q1.elim | skip
  · rw [r1.non]; exact ⟨_, rfl, fin q1⟩
  · rw [r1.bl]; exact ⟨_, rfl, fin q1⟩
  · rw [r1.int]; exact ⟨_, rfl, fin q1⟩
  · obtain ⟨h, q1⟩ := ok_if q1
    rw [r1.str]
    exact ⟨_, ⟨le_line h, rfl⟩, fin q1⟩
  · rename_i l
    obtain ⟨p, vs, h0, h1, h2⟩ := r1.tup
    rw [h0]
    have e : (!vs.isEmpty) = !l.isEmpty := by rw [isEmp h2.len]
    exact ⟨_, .inr (.inl ⟨vs, sqT_same S1.wf.fh h1, rfl⟩), by rw [e]; exact fin q1⟩
  · rename_i l
    obtain ⟨p, vs, h0, h1, h2⟩ := r1.lst S1.wf.fh
    rw [h0]
    have e : (!vs.isEmpty) = !l.isEmpty := by rw [isEmp h2.len]
    exact ⟨_, .inl ⟨vs, SqL.of h1, rfl⟩, by rw [e]; exact fin q1⟩
  · rename_i ks l
    obtain ⟨p, kvs, h0, h1, h2, h3⟩ := r1.rep fun _ e => nomatch e
    rw [h0]
    have e : (!kvs.isEmpty) = !ks.isEmpty := by rw [isEmp (show kvs.length = ks.length by rw [← h2, List.length_map])]
    exact ⟨_, .inr (.inr ⟨kvs, S1.wf.fh _ _ h1, rfl⟩), by rw [e]; exact fin q1⟩
theorem dt_not {f : List Sl → M Bool} (h : DT X E a f) : DT X E (.UnaryOp .Not a pos) (tNotD f) := by
  obtain ⟨t, pt, jt⟩ := h
  refine ⟨_, pt_not pt, fun i F0 H0 F H σ δ s Q S q => jt.use S q fun x s1 v F1 H1 e0 x1 S1 r1 q1 => ?_⟩
  clear e0
  have r1 : v = x := r1
  subst r1
  exact q1 _ F1 H1 (.refl S1.wf.fh) S1.wf.mr rfl
theorem dt_w {f : List Sl → M Bool} (h : DW X E e f) : DT X E e f := let ⟨t, pt, jt⟩ := h; ⟨t, pt.pt, jt⟩
theorem dw_and1 {f : List Sl → M Bool} (h : DT X E a f) : DW X E (.BoolOp .And [a] pos) f := let ⟨t, pt, jt⟩ := h; ⟨t, pw_and1 pt, jt⟩
theorem dw_or1 {f : List Sl → M Bool} (h : DT X E a f) : DW X E (.BoolOp .Or [a] pos) f := let ⟨t, pt, jt⟩ := h; ⟨t, pw_or1 pt, jt⟩
theorem dw_and {f g : List Sl → M Bool} (h : DT X E a f) (hr : DW X E (.BoolOp .And (b :: es) pos) g) : DW X E (.BoolOp .And (a :: b :: es) pos) (tAndD f g) := by
  obtain ⟨t, pt, jt⟩ := h
  obtain ⟨u, pu, ju⟩ := hr
  refine ⟨_, pw_and pt pu, fun i F0 H0 F H σ δ s Q S q => jt.use S q fun x s1 v F1 H1 e0 x1 S1 r1 q1 => ?_⟩
  clear e0
  have r1 : v = x := r1
  subst r1
  cases v with
  | true => exact ju i F0 H0 F1 H1 σ δ s1 Q S1 q1
  | false => exact q1 _ F1 H1 (.refl S1.wf.fh) S1.wf.mr rfl
theorem dw_or {f g : List Sl → M Bool} (h : DT X E a f) (hr : DW X E (.BoolOp .Or (b :: es) pos) g) : DW X E (.BoolOp .Or (a :: b :: es) pos) (tOrD f g) := by
  obtain ⟨t, pt, jt⟩ := h
  obtain ⟨u, pu, ju⟩ := hr
  refine ⟨_, pw_or pt pu, fun i F0 H0 F H σ δ s Q S q => jt.use S q fun x s1 v F1 H1 e0 x1 S1 r1 q1 => ?_⟩
  clear e0
  have r1 : v = x := r1
  subst r1
  cases v with
  | true => exact q1 _ F1 H1 (.refl S1.wf.fh) S1.wf.mr rfl
  | false => exact ju i F0 H0 F1 H1 σ δ s1 Q S1 q1
end
end DL
namespace DL
open PySem L2
def tOf {α β : Type} (k : PySem.W.Frag → Ix → Kind α β) (K : PySem.W.Frag) (E : XK) (f : List Sl → M α) : L2.St → Hp → (β → Hp → Prop) → Prop :=
  fun σ H Q => ∃ i F0 H0 F δ s, Sinv K i F0 H0 F H σ δ s ∧ Ok K (k K i) i E F H Q (f δ s)
theorem tOf_j {α β : Type} {k : PySem.W.Frag → Ix → Kind α β} {K : PySem.W.Frag} {E : XK} {f : List Sl → M α} : J k K E (tOf k K E f) f := fun i F0 H0 F H σ δ s Q S q => ⟨i, F0, H0, F, δ, s, S, q⟩
theorem DE.pe {X : Cx} {E : XK} {e : Expr} {f : List Sl → M R} (h : DE X E e f) : PE X e (tOf kR X.K E f) :=
  let ⟨_, pt, jt⟩ := h; ⟨fun pins s σ H Q I ⟨i, F0, H0, F, δ, s', S, q⟩ => pt.run pins s σ H Q I (jt i F0 H0 F H σ δ s' Q S q)⟩
theorem DT.pt {X : Cx} {E : XK} {e : Expr} {f : List Sl → M Bool} (h : DT X E e f) : PT X e (tOf kB X.K E f) :=
  let ⟨_, pt, jt⟩ := h; ⟨fun pins s σ H Q I ⟨i, F0, H0, F, δ, s', S, q⟩ => pt.run pins s σ H Q I (jt i F0 H0 F H σ δ s' Q S q)⟩

inductive Fl where
  | nx (δ : List Sl) | ret (r : R) | bk (δ : List Sl) | ct (δ : List Sl)
def OkF (K : PySem.W.Frag) (i : Ix) (F0 H0 : Hp) (D : Ends) (s' : MS) : Fl → Prop
  | .nx δ' => ∀ σ' F' H', Sinv K i F0 H0 F' H' σ' δ' s' → D.nx σ' H'
  | .bk δ' => ∀ σ' F' H', Sinv K i F0 H0 F' H' σ' δ' s' → D.bk σ' H'
  | .ct δ' => ∀ σ' F' H', Sinv K i F0 H0 F' H' σ' δ' s' → D.ct σ' H'
  | .ret r => ∀ v F' H', Ext i F0 H0 F' H' → MR i s' H' → RepR K i H0 F' H' r v → D.rt v H'
def OkS (K : PySem.W.Frag) (i : Ix) (E : XK) (F0 H0 : Hp) (D : Ends) : Rs Fl → Prop
  | .ok f s' => OkF K i F0 H0 D s' f
  | .ex e s' => ∀ F' H', Ext i F0 H0 F' H' → MR i s' H' → ExOk K i E F' H' e
  | .no => False
def JS (K : PySem.W.Frag) (E : XK) (t : TS) (g : List Sl → M Fl) : Prop := ∀ i F0 H0 F H σ δ s D, Sinv K i F0 H0 F H σ δ s → OkS K i E F0 H0 D (g δ s) → t D σ H
def DS (X : Cx) (E : XK) (st : Stmt) (g : List Sl → M Fl) : Prop := ∃ t, PS X st t ∧ JS X.K E t g
def DSs (X : Cx) (E : XK) (st : List Stmt) (g : List Sl → M Fl) : Prop := ∃ t, PSs X st t ∧ JS X.K E t g
theorem J.useS {α β : Type} {k : PySem.W.Frag → Ix → Kind α β} {K : PySem.W.Frag} {E : XK} {t : L2.St → Hp → (β → Hp → Prop) → Prop} {f : List Sl → M α} {g : α → M Fl} {i : Ix} {F0 H0 F H : Hp} {σ : L2.St} {δ : List Sl} {s : MS} {D : Ends}
    {Q1 : β → Hp → Prop} (h : J k K E t f) (S : Sinv K i F0 H0 F H σ δ s) (q : OkS K i E F0 H0 D (M.bnd (f δ) g s))
    (cont : ∀ a s' v F' H', Ext i F H F' H' → Sinv K i F0 H0 F' H' σ δ s' → (k K i).rel H F' H' a v → OkS K i E F0 H0 D (g a s') → Q1 v H') : t σ H Q1 := by
  refine h i F0 H0 F H σ δ s Q1 S ?_
  unfold M.bnd at q
  cases e : f δ s with
  | ok a s' =>
    rw [e] at q
    intro v F' H' x m r
    exact cont a s' v F' H' x (S.ext x m) r q
  | ex e' s' =>
    rw [e] at q
    intro F' H' x m
    exact q F' H' (S.base.trans x) m
  | no =>
    rw [e] at q
    exact q.elim
theorem J.useSR {K : PySem.W.Frag} {E : XK} {t : L2.St → Hp → (V → Hp → Prop) → Prop} {f : List Sl → M R} {g : R → M Fl} {i : Ix} {F0 H0 F H : Hp} {σ : L2.St} {δ : List Sl} {s : MS} {D : Ends}
    {Q1 : V → Hp → Prop} (h : J kR K E t f) (S : Sinv K i F0 H0 F H σ δ s) (q : OkS K i E F0 H0 D (M.bnd (f δ) g s))
    (cont : ∀ r s' v F' H', Ext i F H F' H' → Sinv K i F0 H0 F' H' σ δ s' → Rep K i F' r.d v → OkS K i E F0 H0 D (g r s') → Q1 v H') : t σ H Q1 :=
  h.useS S q fun r s' v F' H' x S' rel q' => let ⟨F2, x2, _, hr⟩ := RepR.freeze rel x; cont r s' v F2 H' x2 (S.ext x2 S'.wf.mr) hr q'
theorem oks_if {K : PySem.W.Frag} {i : Ix} {E : XK} {F0 H0 : Hp} {D : Ends} {s : MS} {c : Prop} [Decidable c] {x : M Fl} (h : OkS K i E F0 H0 D ((if c then x else M.no) s)) : c ∧ OkS K i E F0 H0 D (x s) := by
  by_cases hc : c
  · rw [if_pos hc] at h
    exact ⟨hc, h⟩
  · rw [if_neg hc] at h
    exact h.elim

section
variable {K : PySem.W.Frag} {i : Ix} {F0 H0 F H F' H' : Hp} {σ : L2.St} {δ : List Sl} {s s' : MS}
theorem Foot.back (S : Sinv K i F0 H0 F H σ δ s) (sb : ∀ b o, H b = some o → ¬ G i b → H' b = some o) {b : Addr} (f : Foot K i H0 F' H' σ δ b) : H b ≠ none := by
  obtain ⟨k, ls, p, as, e1, e2, A, hb⟩ := f
  obtain ⟨p2, as2, g1, A2, _⟩ := S.nst k ls e1
  rw [e2] at g1
  cases g1
  have h := sb p _ A2.hp (A2.fr p (List.mem_cons_self ..)).2.2
  rw [A.hp] at h
  have h := HO.lst.inj (Option.some.inj h)
  have e : as = as2 := by
    have := congrArg (List.map fun v => match v with | V.ref q => q | _ => 0) h
    simpa [List.map_map, Function.comp_def] using this
  subst e
  obtain ⟨vs, h3⟩ := A2.lst b hb
  rw [h3]
  exact fun z => nomatch z
theorem Sinv.putE (S : Sinv K i F0 H0 F H σ δ s) (S' : Sinv K i F0 H0 F' H' σ δ s') {r : R} {v : V} (k : Nat) (hr : RepR K i H F' H' r v) (sb : ∀ b o, H b = some o → ¬ G i b → H' b = some o) : Sinv K i F0 H0 F' H' (σ.set k (some v)) (δ.set k r.sl) s' :=
  S'.put k hr (fun b e => S.base.al b e) (fun b g => S.wf.mr.there g) (fun j l p e1 e2 => by
    obtain ⟨p', vs, h1, h2, _⟩ := S.own j l e1
    rw [h1] at e2
    cases e2
    rw [h2]
    exact fun z => nomatch z) fun b f => f.back S sb
theorem Sinv.putD (S : Sinv K i F0 H0 F H σ δ s) {d : Dt} {v : V} (k : Nat) (hr : Rep K i F d v) : Sinv K i F0 H0 F H (σ.set k (some v)) (δ.set k (.val d)) s :=
  S.putE S (r := .val d) k hr fun _ _ e _ => e
theorem Sinv.store (S : Sinv K i F0 H0 F H σ δ s) {k : Nat} {l l' : List Dt} {p : Addr} {vs' : List V} (hk : δ[k]? = some (.own l)) (hσ : σ[k]? = some (some (.ref p))) (hr : Reps K i F l' vs') :
    Sinv K i F0 H0 F (upd H p (.lst vs')) σ (δ.set k (.own l')) s := by
  obtain ⟨p', vs, e1, h1, h2, h3, h4, h5⟩ := S.own k l hk
  rw [hσ] at e1
  cases e1
  have hkl : k < δ.length := (List.getElem?_eq_some_iff.mp hk).1
  have ne : ∀ {b o}, F b = some o → b ≠ p := fun e => ne_of_none e h2
  have neg : ∀ b, G i b → b ≠ p := fun b g z => h4 (z ▸ g)
  refine ⟨⟨S.base.ff, fun b o e => by rw [upd_ne (ne e)]; exact S.base.fh _ _ e, fun b o e g => by rw [upd_ne (ne_of_none e h3)]; exact S.base.sb _ _ e g, S.base.nw, fun b e => ?_⟩,
    ⟨fun b o e => by rw [upd_ne (ne e)]; exact S.wf.fh _ _ e, S.wf.gf, S.wf.mr.put (.inr ⟨_, h1⟩) h4⟩, by rw [List.length_set]; exact S.len, fun j d e => ?_, fun j m e => ?_, fun j C ns m e => ?_, fun j j' m m' q hne e e' hq => ?_, S.nst.to (Same.refl _) (fun j ls e => by
      by_cases hj : j = k
      · subst hj
        rw [List.getElem?_set_self hkl] at e
        cases e
      · rw [List.getElem?_set_ne (fun z => hj z.symm)] at e
        exact ⟨e, rfl⟩) fun j ls p2 as e1' e2' A O => ⟨fun b hb => ⟨upd_ne fun (z : b = p) => O k l p hk hσ (z ▸ hb), (A.fr b hb).1, (A.fr b hb).2.1⟩, fun j' m q ej eq hq => by
      by_cases hj : j' = k
      · subst hj
        rw [hσ] at eq
        cases eq
        exact O j' l p hk hσ hq
      · rw [List.getElem?_set_ne (fun z => hj z.symm)] at ej
        exact O j' m q ej eq hq⟩⟩
  · by_cases hb : b = p
    · rw [hb, upd_same]; exact fun z => nomatch z
    · rw [upd_ne hb]; exact S.base.al b e
  · by_cases hj : j = k
    · subst hj
      rw [List.getElem?_set_self hkl] at e
      cases e
    · rw [List.getElem?_set_ne (fun z => hj z.symm)] at e
      exact S.slot j d e
  · by_cases hj : j = k
    · subst hj
      rw [List.getElem?_set_self hkl] at e
      cases e
      exact ⟨p, vs', hσ, upd_same, h2, h3, h4, hr⟩
    · rw [List.getElem?_set_ne (fun z => hj z.symm)] at e
      obtain ⟨q, us, g1, g2, g3, g4, g5, g6⟩ := S.own j m e
      have : q ≠ p := fun z => by
        subst z
        exact S.sep j k m l q hj e hk g1 hσ
      exact ⟨q, us, g1, by rw [upd_ne this]; exact g2, g3, g4, g5, g6⟩
  · by_cases hj : j = k
    · subst hj
      rw [List.getElem?_set_self hkl] at e
      cases e
    · rw [List.getElem?_set_ne (fun z => hj z.symm)] at e
      obtain ⟨q, dx, gs, g1, g2, g3⟩ := S.ins j C ns m e
      have : q ≠ p := fun z => by
        subst z
        rw [h1] at g2
        cases g2
      exact ⟨q, dx, gs, g1, by rw [upd_ne this]; exact g2, g3⟩
  · have look : ∀ {j : Nat} {m : List Dt}, (δ.set k (.own l'))[j]? = some (.own m) → ∃ m', δ[j]? = some (.own m') := by
      intro j m e
      by_cases hj : j = k
      · subst hj; exact ⟨l, hk⟩
      · rw [List.getElem?_set_ne (fun z => hj z.symm)] at e
        exact ⟨m, e⟩
    obtain ⟨a, e1⟩ := look e
    obtain ⟨b, e2⟩ := look e'
    exact S.sep j j' a b q hne e1 e2 hq
theorem Sinv.freeze (S : Sinv K i F0 H0 F H σ δ s) {k : Nat} {l : List Dt} (hk : δ[k]? = some (.own l)) : ∃ F', Sinv K i F0 H0 F' H σ (δ.set k (.val (.lst l))) s := by
  obtain ⟨p, vs, e1, h1, h2, h3, h4, h5⟩ := S.own k l hk
  have hkl : k < δ.length := (List.getElem?_eq_some_iff.mp hk).1
  have sf : Same F (upd F p (.lst vs)) := same_know h2
  refine ⟨upd F p (.lst vs), S.base.know h3 h1 h2, ⟨fun b o e => ?_, fun b g => ?_, S.wf.mr⟩, by rw [List.length_set]; exact S.len, fun j d e => ?_, fun j m e => ?_, fun j C ns m e => ?_, fun j j' m m' q hne e e' hq => ?_, S.nst.to sf (fun j ls e => by
      by_cases hj : j = k
      · subst hj
        rw [List.getElem?_set_self hkl] at e
        cases e
      · rw [List.getElem?_set_ne (fun z => hj z.symm)] at e
        exact ⟨e, rfl⟩) fun j ls p2 as e1' e2' A O => ⟨fun b hb => ⟨rfl, by rw [upd_ne fun (z : b = p) => O k l p hk e1 (z ▸ hb)]; exact (A.fr b hb).1, (A.fr b hb).2.1⟩, fun j' m q ej eq hq => by
      by_cases hj : j' = k
      · subst hj
        rw [List.getElem?_set_self hkl] at ej
        cases ej
      · rw [List.getElem?_set_ne (fun z => hj z.symm)] at ej
        exact O j' m q ej eq hq⟩⟩
  · by_cases hb : b = p
    · subst hb; rw [upd_same] at e; rw [h1, e]
    · rw [upd_ne hb] at e; exact S.wf.fh _ _ e
  · rw [upd_ne fun (z : b = p) => h4 (z ▸ g)]
    exact S.wf.gf b g
  · by_cases hj : j = k
    · subst hj
      rw [List.getElem?_set_self hkl] at e
      cases e
      exact ⟨_, e1, p, vs, rfl, upd_same, Reps.same sf l h5⟩
    · rw [List.getElem?_set_ne (fun z => hj z.symm)] at e
      obtain ⟨v, g1, g2⟩ := S.slot j d e
      exact ⟨v, g1, Rep.same sf d g2⟩
  · by_cases hj : j = k
    · subst hj
      rw [List.getElem?_set_self hkl] at e
      cases e
    · rw [List.getElem?_set_ne (fun z => hj z.symm)] at e
      obtain ⟨q, us, g1, g2, g3, g4, g5, g6⟩ := S.own j m e
      have : q ≠ p := fun z => by
        subst z
        exact S.sep j k m l q hj e hk g1 e1
      exact ⟨q, us, g1, g2, by rw [upd_ne this]; exact g3, g4, g5, Reps.same sf m g6⟩
  · by_cases hj : j = k
    · subst hj
      rw [List.getElem?_set_self hkl] at e
      cases e
    · rw [List.getElem?_set_ne (fun z => hj z.symm)] at e
      obtain ⟨q, dx, gs, g1, g2, g3, g4, g5, g6, g7, g8⟩ := S.ins j C ns m e
      have : q ≠ p := fun z => by
        subst z
        rw [h1] at g2
        cases g2
      exact ⟨q, dx, gs, g1, g2, by rw [upd_ne this]; exact g3, g4, g5, g6, g7, Reps.same sf m g8.1, g8.2⟩
  · have look : ∀ {j : Nat} {m : List Dt}, (δ.set k (.val (.lst l)))[j]? = some (.own m) → δ[j]? = some (.own m) := by
      intro j m e
      by_cases hj : j = k
      · subst hj
        rw [List.getElem?_set_self hkl] at e
        cases e
      · rw [List.getElem?_set_ne (fun z => hj z.symm)] at e
        exact e
    exact S.sep j j' m m' q hne (look e) (look e') hq
theorem reps_rows {K : PySem.W.Frag} {i : Ix} {F : Hp} : ∀ (as : List Addr) (ls : List (List Dt)), as.length = ls.length → (∀ (j : Nat) (q : Addr) (l : List Dt), as[j]? = some q → ls[j]? = some l → ∃ vs, F q = some (.lst vs) ∧ Reps K i F l vs) → Reps K i F (ls.map .lst) (as.map V.ref)
  | [], [], _, _ => rfl
  | [], _ :: _, h, _ => by cases h
  | _ :: _, [], h, _ => by cases h
  | q :: as, l :: ls, h, g => by
    obtain ⟨vs, h1, h2⟩ := g 0 q l rfl rfl
    exact .cons ⟨q, vs, rfl, h1, h2⟩ (reps_rows as ls (by simpa using h) fun j b m e1 e2 => g (j + 1) b m e1 e2)
theorem Sinv.freezeN (S : Sinv K i F0 H0 F H σ δ s) {k : Nat} {ls : List (List Dt)} (hk : δ[k]? = some (.nst ls)) : ∃ F', Sinv K i F0 H0 F' H σ (δ.set k (.val (.lst (ls.map .lst)))) s := by
  obtain ⟨p, as, e1, A, O, one⟩ := S.nst k ls hk
  have hkl : k < δ.length := (List.getElem?_eq_some_iff.mp hk).1
  have out : ∀ {b : Addr}, b ∉ p :: as → (if b ∈ p :: as then H b else F b) = F b := fun h => if_neg h
  have inn : ∀ {b : Addr}, b ∈ p :: as → (if b ∈ p :: as then H b else F b) = H b := fun h => if_pos h
  have sf : Same F (fun b => if b ∈ p :: as then H b else F b) := fun b o e => by
    show (if b ∈ p :: as then H b else F b) = some o
    rw [out fun h => by rw [(A.fr b h).1] at e; cases e]
    exact e
  have look : ∀ {j : Nat} {x : Sl}, (∀ d, x ≠ .val d) → (δ.set k (.val (.lst (ls.map .lst))))[j]? = some x → j ≠ k ∧ δ[j]? = some x := fun {j x} hx e => by
    by_cases hj : j = k
    · subst hj
      rw [List.getElem?_set_self hkl] at e
      exact absurd (Option.some.inj e).symm (hx _)
    · rw [List.getElem?_set_ne (fun z => hj z.symm)] at e
      exact ⟨hj, e⟩
  refine ⟨fun b => if b ∈ p :: as then H b else F b, ⟨S.base.ff.trans sf, fun b o e => ?_, S.base.sb, fun b e n => ?_, S.base.al⟩, ⟨fun b o e => ?_, fun b g => ?_, S.wf.mr⟩, by rw [List.length_set]; exact S.len, fun j d e => ?_, fun j m e => ?_, fun j C ns m e => ?_, fun j j' m m' q hne e e' hq => ?_, .none fun j ms e => ?_⟩
  · by_cases hb : b ∈ p :: as
    · exact (inn hb).symm.trans e
    · exact S.wf.fh b o ((out hb).symm.trans e)
  · have hb : b ∉ p :: as := fun h => e (A.fr b h).2.1
    exact (out hb).trans (S.base.nw b e n)
  · by_cases hb : b ∈ p :: as
    · exact (inn hb).symm.trans e
    · exact S.wf.fh b o ((out hb).symm.trans e)
  · have hb : b ∉ p :: as := fun h => (A.fr b h).2.2 g
    exact (out hb).trans (S.wf.gf b g)
  · by_cases hj : j = k
    · subst hj
      rw [List.getElem?_set_self hkl] at e
      cases e
      refine ⟨_, e1, p, as.map V.ref, rfl, (inn (List.mem_cons_self ..)).trans A.hp, reps_rows as ls A.len fun j q l g1 g2 => ?_⟩
      obtain ⟨vs, h1, h2⟩ := A.at_ j q l g1 g2
      exact ⟨vs, (inn (List.mem_cons_of_mem _ (List.mem_of_getElem? g1))).trans h1, Reps.same sf l h2⟩
    · rw [List.getElem?_set_ne (fun z => hj z.symm)] at e
      obtain ⟨v, g1, g2⟩ := S.slot j d e
      exact ⟨v, g1, Rep.same sf d g2⟩
  · obtain ⟨hj, e⟩ := look (by intro d z; cases z) e
    obtain ⟨q, us, g1, g2, g3, g4, g5, g6⟩ := S.own j m e
    exact ⟨q, us, g1, g2, (out (O j m q e g1)).trans g3, g4, g5, Reps.same sf m g6⟩
  · obtain ⟨hj, e⟩ := look (by intro d z; cases z) e
    obtain ⟨q, dx, gs, g1, g2, g3, g4, g5, g6, g7, g8⟩ := S.ins j C ns m e
    have hq : q ∉ p :: as := fun h => by
      obtain ⟨vs, z⟩ := A.lst q h
      rw [g2] at z
      cases z
    exact ⟨q, dx, gs, g1, g2, (out hq).trans g3, g4, g5, g6, g7, Reps.same sf m g8.1, g8.2⟩
  · exact S.sep j j' m m' q hne (look (by intro d z; cases z) e).2 (look (by intro d z; cases z) e').2 hq
  · obtain ⟨hj, e⟩ := look (by intro d z; cases z) e
    exact hj (one j ms e)
theorem Ext.rebase {F1 : Hp} (b : Ext i F0 H0 F1 H) (x : Ext i F1 H0 F' H') : Ext i F0 H0 F' H' :=
  ⟨b.ff.trans x.ff, x.fh, x.sb, fun c e n => x.nw c e (b.nw c e n), x.al⟩
theorem Ext.self (b : Ext i F0 H0 F H) : Ext i F H0 F H := ⟨Same.refl _, b.fh, b.sb, fun _ _ n => n, b.al⟩
theorem Sinv.self (S : Sinv K i F0 H0 F H σ δ s) : Sinv K i F H0 F H σ δ s := ⟨S.base.self, S.wf, S.len, S.slot, S.own, S.ins, S.sep, S.nst⟩
theorem Sinv.rebase {F1 H1 : Hp} (b : Ext i F0 H0 F1 H1) (S : Sinv K i F1 H0 F H σ δ s) : Sinv K i F0 H0 F H σ δ s := ⟨b.rebase S.base, S.wf, S.len, S.slot, S.own, S.ins, S.sep, S.nst⟩
theorem OkS.rebase {E : XK} {F1 H1 : Hp} {D : Ends} (b : Ext i F0 H0 F1 H1) : ∀ {r : Rs Fl}, OkS K i E F0 H0 D r → OkS K i E F1 H0 D r
  | .ok (.nx δ') s', q => fun σ' F' H' S => q σ' F' H' (S.rebase b)
  | .ok (.bk δ') s', q => fun σ' F' H' S => q σ' F' H' (S.rebase b)
  | .ok (.ct δ') s', q => fun σ' F' H' S => q σ' F' H' (S.rebase b)
  | .ok (.ret r) s', q => fun v F' H' x m h => q v F' H' (b.rebase x) m h
  | .ex e s', q => fun F' H' x m => q F' H' (b.rebase x) m
  | .no, q => q
end
def gSeq (g1 g2 : List Sl → M Fl) : List Sl → M Fl := fun δ => M.bnd (g1 δ) fun
  | .nx δ' => g2 δ'
  | f => M.ret f
def gNx : List Sl → M Fl := fun δ => M.ret (.nx δ)
def gSet (k : Nat) (f : List Sl → M R) : List Sl → M Fl := fun δ => M.bnd (f δ) fun r => M.ret (.nx (δ.set k r.sl))
def gDrop (f : List Sl → M R) : List Sl → M Fl := fun δ => M.bnd (f δ) fun _ => M.ret (.nx δ)
def gRet (f : List Sl → M R) : List Sl → M Fl := fun δ => M.bnd (f δ) fun r => M.ret (.ret r)
def gRetV (k : Nat) : List Sl → M Fl := fun δ => match δ[k]? with
  | some (.val d) => M.ret (.ret (.val d))
  | some (.own l) => M.ret (.ret (.new l))
  | _ => M.no
def gRetN : List Sl → M Fl := fun _ => M.ret (.ret (.val .non))
def gIf (t : List Sl → M Bool) (f g : List Sl → M Fl) : List Sl → M Fl := fun δ => M.bnd (t δ) fun b => if b = true then f δ else g δ
def gBk : List Sl → M Fl := fun δ => M.ret (.bk δ)
def gCt : List Sl → M Fl := fun δ => M.ret (.ct δ)
def frz (k : Nat) (δ : List Sl) : List Sl := match δ[k]? with
  | some (.own l) => δ.set k (.val (.lst l))
  | some (.nst ls) => δ.set k (.val (.lst (ls.map .lst)))
  | _ => δ
def gFrz (k : Nat) (g : List Sl → M Fl) : List Sl → M Fl := fun δ => g (frz k δ)
def gApp (k : Nat) (f : List Sl → M R) : List Sl → M Fl := fun δ => match δ[k]? with
  | some (.own l) => M.bnd (f δ) fun r => if l.length < 100000 then M.ret (.nx (δ.set k (.own (l ++ [r.d])))) else M.no
  | _ => M.no
def gExt (k : Nat) (f : List Sl → M Dt) : List Sl → M Fl := fun δ => match δ[k]? with
  | some (.own l) => M.bnd (f δ) fun
    | .lst m => if l.length + m.length ≤ 100000 then M.ret (.nx (δ.set k (.own (l ++ m)))) else M.no
    | _ => M.no
  | _ => M.no
def gSetI (k : Nat) (f : List Sl → M R) (fi : List Sl → M Dt) : List Sl → M Fl := fun δ => match δ[k]? with
  | some (.own l) => M.bnd (f δ) fun r => M.bnd (fi δ) fun
    | .int j => (match ixN l.length j with
      | some n => M.ret (.nx (δ.set k (.own (l.set n r.d))))
      | none => M.no)
    | _ => M.no
  | _ => M.no
def tgN (k : Nat) : Dt → List Sl → Option (List Sl) := fun d δ => some (δ.set k (.val d))
def tgs : List (Dt → List Sl → Option (List Sl)) → List Dt → List Sl → Option (List Sl)
  | [], [], δ => some δ
  | g :: gs, d :: ds, δ => match g d δ with
    | some δ' => tgs gs ds δ'
    | none => none
  | _, _, _ => none
def tgT (gs : List (Dt → List Sl → Option (List Sl))) : Dt → List Sl → Option (List Sl) := fun d δ => match d with
  | .tup l => tgs gs l δ
  | _ => none
def gAsg (f : List Sl → M R) (g : Dt → List Sl → Option (List Sl)) : List Sl → M Fl := fun δ => M.bnd (f δ) fun r => match g r.d δ with
  | some δ' => M.ret (.nx δ')
  | none => M.no

section
variable {X : Cx} {E : XK} {a b c e : Expr} {st : Stmt} {sts rest : List Stmt} {pos : Pos}
theorem dss_nil : DSs X E [] gNx := ⟨_, pss_nil, fun i F0 H0 F H σ δ s D S q => q σ F H S⟩
theorem dss_one {g : List Sl → M Fl} (h : DS X E st g) : DSs X E [st] g := let ⟨t, pt, jt⟩ := h; ⟨t, pss_one pt, jt⟩
theorem dss_cons {g g2 : List Sl → M Fl} (h : DS X E st g) (hr : DSs X E rest g2) : DSs X E (st :: rest) (gSeq g g2) := by
  obtain ⟨t, pt, jt⟩ := h
  obtain ⟨u, pu, ju⟩ := hr
  refine ⟨_, pss_cons pt pu, fun i F0 H0 F H σ δ s D S q => jt i F0 H0 F H σ δ s _ S ?_⟩
  unfold gSeq M.bnd at q
  cases e : g δ s with
  | ok f s' =>
    rw [e] at q
    cases f with
    | nx δ' => exact fun σ' F' H' S' => ju i F0 H0 F' H' σ' δ' s' D S' q
    | ret r => exact q
    | bk δ' => exact q
    | ct δ' => exact q
  | ex e' s' => rw [e] at q; exact q
  | no => rw [e] at q; exact q.elim
theorem ds_set (k : Nat) {x : Str} {f : List Sl → M R} {pos' : Pos} (hN : X.N.Nodup) (he : DE X E e f) (hi : X.N[k]? = some x := by rfl) (hx : Loc X.env.scope x := by first | exact Or.inl rfl | exact Or.inr rfl) (hs : swapsWith e (some (.Name x pos')) pos.line X.env = pure false := by rfl)
    (hf : X.fn x = true ∨ X.env.scope.names.lookup x = some .local := by first | exact .inl rfl | exact .inr rfl | assumption) : DS X E (.Assign [.Name x pos'] e pos) (gSet k f) := by
  obtain ⟨t, pt, jt⟩ := he
  exact ⟨_, ps_set hN hi hx pt hs hf, fun i F0 H0 F H σ δ s D S q => jt.useS S q fun r s1 v F1 H1 x1 S1 r1 q1 => q1 _ F1 H1 (S.putE S1 k r1 x1.sb)⟩
theorem ds_expr {f : List Sl → M R} (he : DE X E e f) (hs : swapsWith e none pos.line X.env = pure false := by rfl) : DS X E (.Expr e pos) (gDrop f) := by
  obtain ⟨t, pt, jt⟩ := he
  exact ⟨_, ps_expr pt hs, fun i F0 H0 F H σ δ s D S q => jt.useSR S q fun r s1 v F1 H1 x1 S1 r1 q1 => q1 _ F1 H1 S1⟩
theorem ds_ret {f : List Sl → M R} (he : DE X E e f) : DS X E (.Return (some e) pos) (gRet f) := by
  obtain ⟨t, pt, jt⟩ := he
  exact ⟨_, ps_ret pt, fun i F0 H0 F H σ δ s D S q => jt.useS S q fun r s1 v F1 H1 x1 S1 r1 q1 => q1 v F1 H1 S1.base S1.wf.mr ((kR X.K i).mono (fun b e => S.base.al b e) r1)⟩
theorem ds_if {t : List Sl → M Bool} {f g : List Sl → M Fl} (hc : DT X E c t) (ha : DSs X E sts f) (hb : DSs X E rest g) : DS X E (.If c sts rest pos) (gIf t f g) := by
  obtain ⟨t, pt, jt⟩ := hc
  obtain ⟨u, pu, ju⟩ := ha
  obtain ⟨w, pw, jw⟩ := hb
  refine ⟨_, ps_if pt pu pw, fun i F0 H0 F H σ δ s D S q => jt.useS S q fun x s1 v F1 H1 x1 S1 r1 q1 => ?_⟩
  have r1 : v = x := r1
  subst r1
  cases v with
  | true => exact ju i F0 H0 F1 H1 σ δ s1 D S1 q1
  | false => exact jw i F0 H0 F1 H1 σ δ s1 D S1 q1
theorem ds_frz (k : Nat) {g : List Sl → M Fl} (h : DS X E st g) : DS X E st (gFrz k g) := by
  obtain ⟨t, pt, jt⟩ := h
  refine ⟨t, pt, fun i F0 H0 F H σ δ s D S q => ?_⟩
  unfold gFrz frz at q
  cases h : δ[k]? with
  | none => rw [h] at q; exact jt i F0 H0 F H σ δ s D S q
  | some z =>
    rw [h] at q
    cases z with
    | val d => exact jt i F0 H0 F H σ δ s D S q
    | non => exact jt i F0 H0 F H σ δ s D S q
    | ins C ns l => exact jt i F0 H0 F H σ δ s D S q
    | nst ls =>
      obtain ⟨F', S'⟩ := S.freezeN h
      exact jt i F0 H0 F' H σ _ s D S' q
    | own l =>
      obtain ⟨F', S'⟩ := S.freeze h
      exact jt i F0 H0 F' H σ _ s D S' q
theorem ds_app (k : Nat) {f : List Sl → M R} (h : ∀ t, PE X e t → PS X st (tDrop (tBM X.K "list" rAppend (tVar k) (tCons t tNil)))) (he : DE X E e f) : DS X E st (gApp k f) := by
  obtain ⟨t, pt, jt⟩ := he
  refine ⟨_, h t pt, fun i F0 H0 F H σ δ s D S q => ?_⟩
  unfold gApp at q
  cases hk : δ[k]? with
  | none => rw [hk] at q; exact q.elim
  | some z =>
    rw [hk] at q
    cases z with
    | val d => exact q.elim
    | non => exact q.elim
    | ins C ns l => exact q.elim
    | nst ls => exact q.elim
    | own l =>
      obtain ⟨p, vs, h1, h2, h3, h4, h5, h6⟩ := S.own k l hk
      refine ⟨_, h1, .inl ⟨rfl, vs, SqL.of h2⟩, jt.useSR S q fun r s1 v F1 H1 x1 S1 r1 q1 => ?_⟩
      obtain ⟨hl, q1⟩ := oks_if q1
      obtain ⟨p', vs', g1, g2, g3, g4, g5, g6⟩ := S1.own k l hk
      rw [h1] at g1
      cases g1
      exact ⟨p, vs', v, rfl, rfl, g2, lt_line (by rw [g6.len]; exact hl), q1 _ F1 _ (S1.store hk h1 (g6.append (.cons r1 .nil)))⟩
theorem ds_setI (k : Nat) {f : List Sl → M R} {fi : List Sl → M Dt} (h : ∀ t u, PE X e t → PE X a u → PS X st (tAsg t (gSub (tVar k) u rSetL))) (he : DE X E e f) (hi : DV X E a fi) : DS X E st (gSetI k f fi) := by
  obtain ⟨t, pt, jt⟩ := he
  obtain ⟨u, pu, ju⟩ := hi
  refine ⟨_, h t u pt pu, fun i F0 H0 F H σ δ s D S q => ?_⟩
  unfold gSetI at q
  cases hk : δ[k]? with
  | none => rw [hk] at q; exact q.elim
  | some z =>
    rw [hk] at q
    cases z with
    | val d => exact q.elim
    | non => exact q.elim
    | ins C ns l => exact q.elim
    | nst ls => exact q.elim
    | own l =>
      refine jt.useSR S q fun r s1 v F1 H1 x1 S1 r1 q1 => ?_
      obtain ⟨p, vs, h1, h2, h3, h4, h5, h6⟩ := S1.own k l hk
      refine ⟨_, h1, ju.useS S1 q1 fun z s2 w F2 H2 x2 S2 r2 q2 => ?_⟩
      cases z <;> first | exact q2.elim | skip
      rename_i j
      obtain ⟨p', vs', g1, g2, g3, g4, g5, g6⟩ := S2.own k l hk
      rw [h1] at g1
      cases g1
      cases ej : ixN l.length j with
      | none => simp only [ej] at q2; exact q2.elim
      | some n =>
        simp only [ej] at q2
        refine ⟨p, vs', j, n, rfl, View.int r2, g2, by rw [g6.len]; exact ej, q2 _ F2 _ (S2.store hk h1 (g6.set n (Rep.same x2.ff _ r1)))⟩
def JG (K : PySem.W.Frag) (t : TG) (g : Dt → List Sl → Option (List Sl)) : Prop := ∀ i F0 H0 F H σ δ s d v δ' (Q : L2.St → Hp → Prop), Sinv K i F0 H0 F H σ δ s → Rep K i F d v → g d δ = some δ' → (∀ σ', Sinv K i F0 H0 F H σ' δ' s → Q σ' H) → t v σ H Q
def JGs (K : PySem.W.Frag) (t : TGs) (gs : List (Dt → List Sl → Option (List Sl))) : Prop := ∀ i F0 H0 F H σ δ s ds vs δ' (Q : L2.St → Hp → Prop), Sinv K i F0 H0 F H σ δ s → Reps K i F ds vs → tgs gs ds δ = some δ' → (∀ σ', Sinv K i F0 H0 F H σ' δ' s → Q σ' H) → t vs σ H Q
def DG (X : Cx) (tg : Expr) (g : Dt → List Sl → Option (List Sl)) : Prop := ∃ t, PG X tg t ∧ JG X.K t g
def DGs (X : Cx) (tg : List Expr) (gs : List (Dt → List Sl → Option (List Sl))) : Prop := ∃ t, PGs X tg t ∧ JGs X.K t gs
theorem dg_name (k : Nat) {x : Str} {p : Pos} (hN : X.N.Nodup) (hi : X.N[k]? = some x := by rfl) (hx : Loc X.env.scope x := by first | exact Or.inl rfl | exact Or.inr rfl) (hf : X.fn x = true ∨ X.env.scope.names.lookup x = some .local := by first | exact .inl rfl | exact .inr rfl | assumption) : DG X (.Name x p) (tgN k) :=
  ⟨_, pg_name hN hi hx hf, fun i F0 H0 F H σ δ s d v δ' Q S r e q => by
    cases e
    exact q _ (S.putD k r)⟩
theorem dgs_nil : DGs X [] [] := ⟨_, pgs_nil, fun i F0 H0 F H σ δ s ds vs δ' Q S r e q => by
  cases ds with
  | nil => cases e; exact ⟨r, q _ S⟩
  | cons d ds => cases e⟩
theorem dgs_cons {g : Dt → List Sl → Option (List Sl)} {gs : List (Dt → List Sl → Option (List Sl))} {ts : List Expr} (h1 : DG X e g) (h2 : DGs X ts gs) (hs : (assignEach (e :: ts) X.env).map (·.2) = assign e X.env :: (assignEach ts X.env).map (·.2) := by rfl) : DGs X (e :: ts) (g :: gs) := by
  obtain ⟨t, pt, jt⟩ := h1
  obtain ⟨u, pu, ju⟩ := h2
  refine ⟨_, pgs_cons pt pu hs, fun i F0 H0 F H σ δ s ds vs δ' Q S r e q => ?_⟩
  cases ds with
  | nil => cases e
  | cons d ds =>
    obtain ⟨v, vr, e1, r1, r2⟩ := r
    unfold tgs at e
    cases e2 : g d δ with
    | none => rw [e2] at e; cases e
    | some δ1 =>
      rw [e2] at e
      exact ⟨v, vr, e1, jt i F0 H0 F H σ δ s d v δ1 _ S r1 e2 fun σ' S' => ju i F0 H0 F H σ' δ1 s ds vr δ' Q S' r2 e q⟩
theorem tgs_len : ∀ {gs : List (Dt → List Sl → Option (List Sl))} {ds : List Dt} {δ δ' : List Sl}, tgs gs ds δ = some δ' → ds.length = gs.length
  | [], [], _, _, _ => rfl
  | [], _ :: _, _, _, e => by cases e
  | _ :: _, [], _, _, e => by cases e
  | g :: gs, d :: ds, δ, δ', e => by
    unfold tgs at e
    cases e2 : g d δ with
    | none => rw [e2] at e; cases e
    | some δ1 => rw [e2] at e; rw [List.length_cons, List.length_cons, tgs_len e]
end
end DL
namespace LwE
open PySem PySem.Spec PyProof.Rows L2
set_option maxHeartbeats 1000000 in
theorem enum_new1 {v : Value} {o : Obj} {H : Heap → Prop} (B : Begins v o H) :
    Meets (Builtin.«enumerate.__new__» ⟨[.type "enumerate", v], []⟩) (fun _ R s => H s.heap ∧
      R (.ok (.ret (.ref (s.heap.push o).objs.size)))
        { s with heap := (s.heap.push o).push { cls := .type "enumerate", data := .fields #[.none, .bool false, .ref s.heap.objs.size, rawInt 0, .none, .none] } }) :=
  .of_wp fun prog w A R s z => by
    obtain ⟨hp, gn, dr, tk, os⟩ := s
    obtain ⟨z1, z2⟩ := z
    have hsub := sub_enumerate
    have start : ∀ {A' : Around} {E : Value → Shared → Prop} {Q : Value → Shared → Prop}, Q (.ref hp.objs.size) ⟨hp.push o, gn, dr, tk, os⟩ →
        wpAny (model prog w) A' (pyIter v) Q E ⟨hp, gn, dr, tk, os⟩ := fun q => B.iter prog w _ _ ⟨hp, gn, dr, tk, os⟩ _ z1 q
    wp_walk using start
    refine wpAny_stack_any fun st => wpAny_pure ?_
    split
    next c _ _ _ _ _ =>
      cases (c == Value.type "enumerate") <;> (wp_walk using start; exact ⟨_, rfl, z2⟩)
    next =>
      wp_walk using start
      exact ⟨_, rfl, z2⟩
section
variable {prog : Program} {w : World} {A : Around} {E : Value → Shared → Prop} {s : Shared}
theorem enum_begins1 {v : Value} {o : Obj} {H : Heap → Prop} {Q : Value → Shared → Prop} (B : Begins v o H) (z : H s.heap)
    (q : ∀ h', IsEnum h' (s.heap.objs.size + 1) s.heap.objs.size 0 .none → h'.get? s.heap.objs.size = some o →
      (∀ b u, s.heap.get? b = some u → h'.get? b = some u) → Q (.ref (s.heap.objs.size + 1)) { s with heap := h' }) :
    wpAny (model prog w) A (call (.type "enumerate") [v]) Q E s := by
  refine callType_new F.called_enumerate (by decide) (F.typeCall_enumerate_1 _) (F.newCall_enumerate_1 _) (fun obj => F.args_object_init_2 obj _) F.entry_enumerate_new (enum_new1 B) ⟨z, ?_⟩
  have ez : (s.heap.push o).objs.size = s.heap.objs.size + 1 := by rw [Heap.size_push]
  show _ ∧ _
  rw [ez]
  have ee : IsEnum ((s.heap.push o).push { cls := .type "enumerate", data := .fields #[.none, .bool false, .ref s.heap.objs.size, rawInt 0, .none, .none] })
      (s.heap.objs.size + 1) s.heap.objs.size 0 .none := by
    have u := Heap.get?_push_size (s.heap.push o) (o := { cls := .type "enumerate", data := .fields #[.none, .bool false, .ref s.heap.objs.size, rawInt 0, .none, .none] }) rfl
    rw [ez] at u
    exact u
  exact ⟨⟨_, ee, rfl⟩, q _ ee (Heap.get?_push_of_some _ (Heap.get?_push_size _ B.free)) fun b u x => Heap.get?_push_of_some _ (Heap.get?_push_of_some _ x)⟩
end
def Ien (K : PySem.W.Frag) (a : Addr) : It where
  go := fun i H => ∃ (xs : List V) (x : V), SqT K H a xs ∧ xs[i]? = some x
  yld := fun i H v H' => ∃ T x, v = .ref T ∧ H T = none ∧ H' = upd H T (.tup [.int (i : Nat), x]) ∧ ∀ xs, SqT K H a xs → xs[i]? = some x
  stop := fun i H => ∃ xs : List V, SqT K H a xs ∧ xs.length ≤ i
theorem apart_it {h : Heap} {it a : Addr} {i : Nat} {its : Array Value} (st : h.IsTupleIter it a i) (p : h.IsTuple a its) : a ≠ it := fun z => by
  obtain ⟨o, e1, c1, _⟩ := st
  obtain ⟨o2, e2, c2, _⟩ := p
  rw [z, e1] at e2
  cases e2
  rw [c1] at c2
  exact absurd c2 (by decide)
theorem turn_ien {P : Program} {w : World} {K : PySem.W.Frag} {elts : List Expr} {kk : Nat} {tpos : Pos} (a e it : Addr) :
    Turn P w K (.Tuple elts kk tpos) (Ien K a) [e, it] e (fun i h => (∃ old, IsEnum h e it ((i : Nat) : Int) old) ∧ h.IsTupleIter it a i ∧ e ≠ it ∧ e ≠ a) where
  mem := by simp
  obj := fun i h st b hb => by
    obtain ⟨⟨old, he⟩, ⟨o, ho, hc, hd⟩, _⟩ := st
    rcases (show b = e ∨ b = it by simpa using hb) with z | z <;> subst z
    · exact ⟨_, he, fun v q => nomatch q⟩
    · exact ⟨o, ho, fun v q => by rw [hd] at q; cases q⟩
  keep := fun i h h' st k => by
    obtain ⟨⟨old, he⟩, hi, n1, n2⟩ := st
    exact ⟨⟨old, k e (by simp) _ he⟩, hi.at fun o q => k it (by simp) o q, n1, n2⟩
  item := by
    intro X hP hw hK hc i pins s σ H E I hf st hg
    subst hP hw hK
    obtain ⟨⟨old, he⟩, hit, n1, n2⟩ := st
    obtain ⟨xs, x, hq, hx⟩ := hg
    obtain ⟨its, rv, p, hz⟩ := I.tuple hq
    obtain ⟨u, hu, ru⟩ := rv.get hx
    have lt1 : e < s.heap.objs.size := Heap.lt_size he
    have lt2 : it < s.heap.objs.size := by
      obtain ⟨_, q, _⟩ := hit
      exact Heap.lt_size q
    have pT : s.heap.IsTuple a its.toArray := p
    have hlt : i < its.toArray.size := by
      have q := (List.getElem?_eq_some_iff.mp hu).1
      simpa using q
    have D := Draws.tuple (prog := X.prog) (w := X.w) (A := X.A.in1) (I.ok.hd hc) it a (apart_it hit pT) its.toArray
    refine wpAny_pyNext_enum_itemC D he ⟨hit, pT⟩ hlt n1 (by simp [n1, n2]) fun y h' tk hy ho hs' hT hsz hk => ?_
    have ey : y = u := by
      have q : its.toArray[i]? = some y := hy
      rw [show its.toArray[i]? = its[i]? from by simp, hu] at q
      exact (Option.some.inj q).symm
    subst ey
    refine ⟨_, rfl, wpAny_letOwnedTupleGo_enum (s := { s with heap := h', toks := tk + 1 }) ho fun h'' he' sb => ?_⟩
    have hT2 := (sb.2 _ (Nat.ne_of_gt lt1)).trans hT
    have made : ObjOk X.prog X.w (upd H s.heap.objs.size (.tup [.int (i : Nat), x])) h'' s.heap.objs.size (.tup [.int (i : Nat), x]) :=
      ⟨(by decide : 2 ≤ sizeLine), [.int i tk, y], .cons ⟨_, rfl⟩ (.cons ru .nil), _, hT2, rfl, _, rfl⟩
    have J : Inv X pins σ (upd H s.heap.objs.size (.tup [.int (i : Nat), x])) { s with heap := h'', toks := tk + 1 } :=
      I.turnedNew (ch := [e, it]) (fun b ob hb q => (sb.2 b (fun z => hb (by simp [z]))).trans (hk b ob (fun z => hb (by simp [z])) (fun z => hb (by simp [z])) q)) hf (Nat.le_refl _) made
    refine ⟨.ref s.heap.objs.size, _, J, rfl, ⟨_, x, rfl, I.hok.fresh (Nat.le_refl _), rfl, fun ys hy2 => by rw [I.tuple_inj hy2 hq]; exact hx⟩,
      ⟨⟨y, ?_⟩, hs'.1.at fun o q => (sb.2 it (Ne.symm n1)).trans q, n1, n2⟩, fun b hb => ?_⟩
    · rw [show ((i + 1 : Nat) : Int) = (i : Int) + 1 by omega]
      exact he'
    · have hlt3 : b < s.heap.objs.size := by
        rcases (show b = e ∨ b = it by simpa using hb) with z | z <;> (rw [z]; assumption)
      rw [upd_ne (Nat.ne_of_lt hlt3)]
      exact (hf b hb).1
  done := by
    intro X hP hw hK hc i pins s σ H E I hf st hg
    subst hP hw hK
    obtain ⟨⟨old, he⟩, hit, n1, n2⟩ := st
    obtain ⟨xs, hq, hx⟩ := hg
    obtain ⟨its, rv, p, hz⟩ := I.tuple hq
    obtain ⟨f0, f1, f2, f3, f4, f5⟩ := hf it (by simp)
    have pT : s.heap.IsTuple a its.toArray := p
    have hT : s.TypeIs (.ref e) "enumerate" := ⟨_, he, rfl⟩
    unfold pyNext
    refine wpAny_bind (wpAny_attempt (wpAny_callSpecial?_slot (name := Str.ofString "__next__") hT F.slot_enumerate_next
      (wpAny_call_entry F.slot_enumerate_next hT F.entry_enumerate_next ?_ (F.args_enumerate_next_1 _))))
    show wpAny _ _ (field (.ref e) 2 >>= _) _ _ _
    refine wpAny_bind (wpAny_field he rfl (x := .ref it) rfl ?_)
    have hl := rv.length
    refine wpAny_bind (wpAny_nextOf_tuple_end (I.ok.hd hc) hit pT (by simp; omega) fun h' x he' hx' => ?_)
    obtain ⟨o, ho, hcl⟩ := hx'
    refine wpAny_bind (wpAny_isInstance (T := "StopIteration") (b := true) ⟨o, ho, hcl⟩ isSubtype_stop ?_)
    exact wpAny_pure ⟨rfl, I.turned (t' := s.toks) (fun b o hb q => he' b o hb q) f0 f1 f3 f4 f5⟩
  self := fun A i s Q E st h => by
    obtain ⟨⟨_, he⟩, _⟩ := st
    exact wpAny_pyIter_enum he h
def iEnT (K : PySem.W.Frag) (ta : TA) : TI := fun σ H R => ta σ H fun vs H1 => ∃ a xs, vs = [.ref a] ∧ SqT K H1 a xs ∧ R (Ien K a) H1
theorem pi_enT {X : Cx} {e : Expr} {ta : TA} {p pos tpos : Pos} {elts : List Expr} {kk : Nat} (hg : Gl X "enumerate") (hm : X.mg "enumerate" = none) (ha : PA X [e] ta)
    (hs : starEach [e] X.env = [(false, eval e X.env)] := by rfl) : PI X (.Tuple elts kk tpos) (.Call (.Name "enumerate" p) [e] [] pos) (iEnT X.K ta) := by
  refine ⟨fun pins s σ H R I h => ?_⟩
  refine Call_ (ld_blt I hg hm boot_enumerate (PyProof.Rows.callWith_type1 (thn (ha.run pos pins s σ H _ I h) fun us s1 ⟨vs, H1, I1, r1, q1⟩ => ?_) hs rfl))
  obtain ⟨a, xs, rfl, hq, q⟩ := q1
  obtain ⟨u, rfl, ru⟩ : ∃ u, us = [u] ∧ RelV (.ref a) u := by
    cases r1 with
    | cons r rr =>
      cases rr
      exact ⟨_, rfl, r⟩
  obtain rfl : u = Value.ref a := ru
  obtain ⟨its, rv, p', hz⟩ := I1.tuple hq
  have pT : s1.heap.IsTuple a its.toArray := p'
  refine enum_begins1 (begins_tuple a its.toArray) pT fun h' he hit hk => wpAny_pyIter_enum he ?_
  have I2 : Inv X pins σ H1 { s1 with heap := h' } := I1.kept (t' := s1.toks) hk
  have lta : a < s1.heap.objs.size := by
    obtain ⟨o, e1, _⟩ := pT
    exact Heap.lt_size e1
  refine ⟨s1.heap.objs.size + 1, [s1.heap.objs.size + 1, s1.heap.objs.size], _, _, H1, rfl, I2, turn_ien a (s1.heap.objs.size + 1) s1.heap.objs.size,
    ⟨⟨.none, he⟩, ⟨_, hit, rfl, rfl⟩, Nat.succ_ne_self _, Nat.ne_of_gt (Nat.lt_succ_of_lt lta)⟩, fun b hb => ?_, q⟩
  have le1 : s1.heap.objs.size ≤ b := by
    rcases (show b = s1.heap.objs.size + 1 ∨ b = s1.heap.objs.size by simpa using hb) with z | z
    · rw [z]
      exact Nat.le_succ _
    · rw [z]
      exact Nat.le_refl _
  exact I1.fpOk le1 (I1.hok.fresh le1)
theorem for_enL {K : PySem.W.Frag} {a : Addr} {xs : List V} {g : TG} {tb : TS} {D : Ends} {σ : L2.St} {H : Hp} (Pv : Nat → L2.St → Hp → Prop) (h0 : Pv 0 σ H) (hl : ∀ i σ H, i ≤ xs.length → Pv i σ H → SqL K H a xs)
    (hs : ∀ i x T σ H, xs[i]? = some x → Pv i σ H → H T = none → g (.ref T) σ (upd H T (.tup [.int (i : Nat), x])) fun σ2 H2 => tb { D with nx := Pv (i + 1), ct := Pv (i + 1), bk := D.nx } σ2 H2)
    (hd : ∀ σ H, Pv xs.length σ H → D.nx σ H) :
    ∃ W : Nat → Nat → L2.St → Hp → Prop, (∃ m, W 0 m σ H) ∧ ∀ i m σ H, W i m σ H →
      ((Ite K a).stop i H ∧ D.nx σ H) ∨ ((Ite K a).go i H ∧ ∃ N : L2.St → Hp → Prop, (∀ σ' H', N σ' H' → ∃ m', m' < m ∧ W (i + 1) m' σ' H') ∧
        ∀ x H', (Ite K a).yld i H x H' → g x σ H' fun σ2 H2 => tb { D with nx := N, ct := N, bk := D.nx } σ2 H2) := by
  refine ⟨fun i m σ H => m = xs.length - i ∧ i ≤ xs.length ∧ Pv i σ H, ⟨xs.length, by simp, Nat.zero_le _, h0⟩, ?_⟩
  intro i m σ H hW
  obtain ⟨rfl, hi, p⟩ := hW
  have q := hl i σ H hi p
  by_cases hlt : i < xs.length
  · refine .inr ⟨⟨xs, xs[i], q, by simp [hlt]⟩, Pv (i + 1), fun σ' H' p' => ⟨xs.length - (i + 1), by omega, rfl, hlt, p'⟩, fun x H' y => ?_⟩
    obtain ⟨T, v, rfl, hT, rfl, y2⟩ := y
    exact hs i v T σ H (y2 xs q) p hT
  · obtain rfl : i = xs.length := by omega
    exact .inl ⟨⟨xs, q, Nat.le_refl _⟩, hd σ H p⟩
end LwE
namespace DL
open PySem L2
def Walks (K : PySem.W.Frag) (i : Ix) (J : It) (F1 : Hp) (l : List Dt) : Prop := ∀ n F H, Same F1 F → Same F H →
  (∀ d, l[n]? = some d → J.go n H ∧ ∀ x H', J.yld n H x H' → ∃ F', Same F F' ∧ Same F' H' ∧ Same H H' ∧ (∀ b, H b ≠ none → F b = none → F' b = none) ∧ Rep K i F' d x) ∧ (l.length ≤ n → J.stop n H)
theorem walk_ext {i : Ix} {F H F' H' : Hp} (ff : Same F F') (fh : Same F' H') (hh : Same H H') (nw : ∀ b, H b ≠ none → F b = none → F' b = none) : Ext i F H F' H' :=
  ⟨ff, fh, fun b o e _ => hh b o e, nw, fun b e => by
    cases h : H b with
    | none => exact absurd h e
    | some o => rw [hh _ _ h]; exact fun z => nomatch z⟩
def WalksV (K : PySem.W.Frag) (i : Ix) (J : It) (F1 H1 : Hp) (l : List Dt) : Prop := ∀ n F H, Ext i F1 H1 F H →
  (∀ d, l[n]? = some d → J.go n H ∧ ∀ x H', J.yld n H x H' → ∃ F', Same F F' ∧ Same F' H' ∧ Same H H' ∧ (∀ b, H b ≠ none → F b = none → F' b = none) ∧ Rep K i F' d x) ∧ (l.length ≤ n → J.stop n H)
theorem Walks.v {K : PySem.W.Frag} {i : Ix} {J : It} {F1 H1 : Hp} {l : List Dt} (w : Walks K i J F1 l) : WalksV K i J F1 H1 l := fun n F H x => w n F H x.ff x.fh
def kW (K : PySem.W.Frag) (i : Ix) : Kind (List Dt) It where
  rel := fun _ F' _ l J => Walks K i J F' l
  mono := fun _ h => h
def kWV (K : PySem.W.Frag) (i : Ix) : Kind (List Dt) It where
  rel := fun _ F' H' l J => WalksV K i J F' H' l
  mono := fun _ h => h
def DI (X : Cx) (E : XK) (tg e : Expr) (f : List Sl → M (List Dt)) : Prop := ∃ w, PI X tg e w ∧ J kW X.K E w f
def DIV (X : Cx) (E : XK) (tg e : Expr) (f : List Sl → M (List Dt)) : Prop := ∃ w, PI X tg e w ∧ J kWV X.K E w f
def wSeq (f : List Sl → M Dt) : List Sl → M (List Dt) := fun δ => M.bnd (f δ) fun
  | .lst l => M.ret l
  | .tup l => M.ret l
  | _ => M.no
def wLst (f : List Sl → M Dt) : List Sl → M (List Dt) := fun δ => M.bnd (f δ) fun
  | .lst l => M.ret l
  | _ => M.no
def wTup (f : List Sl → M Dt) : List Sl → M (List Dt) := fun δ => M.bnd (f δ) fun
  | .tup l => M.ret l
  | _ => M.no
def enumD : Nat → List Dt → List Dt
  | _, [] => []
  | n, d :: ds => .tup [.int (n : Int), d] :: enumD (n + 1) ds
theorem enumD_get : ∀ {l : List Dt} {m n : Nat}, (enumD m l)[n]? = l[n]?.map fun d => .tup [.int ((m + n : Nat) : Int), d]
  | [], _, _ => rfl
  | d :: ds, m, 0 => rfl
  | d :: ds, m, n + 1 => by
    show (enumD (m + 1) ds)[n]? = _
    rw [enumD_get, show m + 1 + n = m + (n + 1) by omega]
    rfl
theorem enumD_len : ∀ (l : List Dt) (m : Nat), (enumD m l).length = l.length
  | [], _ => rfl
  | d :: ds, m => by show (enumD (m + 1) ds).length + 1 = _; rw [enumD_len ds]; rfl
def rngD (lo : Int) (n : Nat) : List Dt := (List.range n).map fun (k : Nat) => .int (lo + (k : Int))
def wRng1 (f : List Sl → M Dt) : List Sl → M (List Dt) := fun δ => M.bnd (f δ) fun
  | .int z => if -100000 ≤ z ∧ z ≤ 100000 then M.ret (rngD 0 z.toNat) else M.no
  | _ => M.no
theorem walks_r {K : PySem.W.Frag} {i : Ix} {F1 : Hp} (lo : Int) (n : Nat) : Walks K i (Itr lo n) F1 (rngD lo n) := fun k F H s1 s2 => by
  refine ⟨fun d e => ?_, fun hn => ?_⟩
  · unfold rngD at e
    rw [List.getElem?_map] at e
    obtain ⟨j, e1, e2⟩ := Option.map_eq_some_iff.mp e
    obtain ⟨h1, h2⟩ := List.getElem?_eq_some_iff.mp e1
    rw [List.getElem_range] at h2
    rw [List.length_range] at h1
    subst h2 e2
    refine ⟨h1, fun x H' y => ?_⟩
    obtain ⟨rfl, rfl⟩ := y
    exact ⟨F, Same.refl _, s2, Same.refl _, fun _ _ n => n, rfl⟩
  · unfold rngD at hn
    rw [List.length_map, List.length_range] at hn
    exact hn
theorem same_up {F H : Hp} {T : Addr} {o : HO} (fh : Same F H) (hT : H T = none) : Same F (upd F T o) ∧ Same (upd F T o) (upd H T o) ∧ Same H (upd H T o) ∧ ∀ b, H b ≠ none → F b = none → upd F T o b = none :=
  ⟨same_know (fh.free hT), fun b u e => by
    by_cases hb : b = T
    · subst hb; rw [upd_same] at e ⊢; exact e
    · rw [upd_ne hb] at e ⊢; exact fh _ _ e, same_know hT, fun b e n => by rw [upd_ne (fun (z : b = T) => e (z ▸ hT))]; exact n⟩
theorem walks_e {K : PySem.W.Frag} {i : Ix} {F1 : Hp} {a : Addr} {vs : List V} {l : List Dt} (h : F1 a = some (.lst vs)) (r : Reps K i F1 l vs) : Walks K i (Ite K a) F1 (enumD 0 l) := fun n F H s1 s2 => by
  have h' : SqL K H a vs := SqL.of (s2 _ _ (s1 _ _ h))
  refine ⟨fun d e => ?_, fun hn => ⟨vs, h', by rw [r.len]; rw [enumD_len] at hn; exact hn⟩⟩
  rw [enumD_get] at e
  obtain ⟨d0, e0, rfl⟩ := Option.map_eq_some_iff.mp e
  obtain ⟨v, e1, e2⟩ := r.get e0
  refine ⟨⟨vs, v, h', e1⟩, fun x H' y => ?_⟩
  obtain ⟨T, x', rfl, hT, rfl, y⟩ := y
  have := y vs h'
  rw [e1] at this
  cases this
  obtain ⟨a1, a2, a3, a4⟩ := same_up (o := .tup [.int (n : Int), v]) s2 hT
  refine ⟨_, a1, a2, a3, a4, T, [.int (n : Int), v], rfl, .inl (.inl upd_same), .cons ?_ (.cons (Rep.same (s1.trans a1) d0 e2) .nil)⟩
  rw [Nat.zero_add]
  exact rfl

def gForL (tg : Dt → List Sl → Option (List Sl)) (body : List Sl → M Fl) : List Dt → List Sl → M Fl
  | [], δ => M.ret (.nx δ)
  | d :: ds, δ => match tg d δ with
    | some δ1 => M.bnd (body δ1) fun
      | .nx δ2 => gForL tg body ds δ2
      | .ct δ2 => gForL tg body ds δ2
      | .bk δ2 => M.ret (.nx δ2)
      | .ret r => M.ret (.ret r)
    | none => M.no
def gFor (src : List Sl → M (List Dt)) (tg : Dt → List Sl → Option (List Sl)) (body : List Sl → M Fl) : List Sl → M Fl := fun δ => M.bnd (src δ) fun l => gForL tg body l δ
def whileN (t : List Sl → M Bool) (body : List Sl → M Fl) : Nat → List Sl → M Fl
  | 0, _ => M.no
  | n + 1, δ => M.bnd (t δ) fun b => if b = true then M.bnd (body δ) fun
      | .nx δ2 => whileN t body n δ2
      | .ct δ2 => whileN t body n δ2
      | .bk δ2 => M.ret (.nx δ2)
      | .ret r => M.ret (.ret r)
    else M.ret (.nx δ)
open Classical in
noncomputable def gWhile (t : List Sl → M Bool) (body : List Sl → M Fl) : List Sl → M Fl := fun δ s => if h : ∃ n, whileN t body n δ s ≠ .no then whileN t body (choose h) δ s else .no
theorem whileN_mono {t : List Sl → M Bool} {body : List Sl → M Fl} : ∀ {n : Nat} {δ : List Sl} {s : MS}, whileN t body n δ s ≠ .no → whileN t body (n + 1) δ s = whileN t body n δ s
  | 0, δ, s, h => absurd rfl h
  | n + 1, δ, s, h => by
    unfold whileN M.bnd at h ⊢
    cases e : t δ s with
    | no => rfl
    | ex a b => rfl
    | ok b s1 =>
      rw [e] at h
      cases b with
      | false => rfl
      | true =>
        simp only [if_true] at h ⊢
        cases e2 : body δ s1 with
        | no => rfl
        | ex a b => rfl
        | ok f s2 =>
          rw [e2] at h
          cases f with
          | nx δ2 => exact whileN_mono h
          | ct δ2 => exact whileN_mono h
          | bk δ2 => rfl
          | ret r => rfl
theorem whileN_le {t : List Sl → M Bool} {body : List Sl → M Fl} {n : Nat} {δ : List Sl} {s : MS} (h : whileN t body n δ s ≠ .no) : ∀ k, whileN t body (n + k) δ s = whileN t body n δ s
  | 0 => rfl
  | k + 1 => by
    rw [← Nat.add_assoc, whileN_mono (by rw [whileN_le h k]; exact h), whileN_le h k]
theorem gWhile_eq {t : List Sl → M Bool} {body : List Sl → M Fl} {n : Nat} {δ : List Sl} {s : MS} (h : whileN t body n δ s ≠ .no) : gWhile t body δ s = whileN t body n δ s := by
  have hx : ∃ n, whileN t body n δ s ≠ .no := ⟨n, h⟩
  unfold gWhile
  rw [dif_pos hx]
  have h2 := Classical.choose_spec hx
  generalize Classical.choose hx = m at h2
  rcases Nat.le_total n m with z | z
  · have := whileN_le h (m - n)
    rw [show n + (m - n) = m by omega] at this
    exact this
  · have := whileN_le h2 (n - m)
    rw [show m + (n - m) = n by omega] at this
    exact this.symm
theorem gWhile_of {t : List Sl → M Bool} {body : List Sl → M Fl} {n : Nat} {δ : List Sl} {s : MS} {r : Rs Fl} (h : whileN t body n δ s = r) (hr : r ≠ .no) : gWhile t body δ s = r := by
  rw [← h]
  exact gWhile_eq (by rw [h]; exact hr)
section
variable {X : Cx} {E : XK} {a b c e tgE : Expr} {st : Stmt} {sts rest : List Stmt} {pos : Pos}
theorem forL_core {K : PySem.W.Frag} {i : Ix} {H0 F1 : Hp} {D : Ends} {tg : Dt → List Sl → Option (List Sl)} {g : TG} {body : List Sl → M Fl} {tb : TS} {l : List Dt} {J : It} (hg : JG K g tg) (hb : JS K E tb body) (hw : Walks K i J F1 l) :
    ∀ (n : Nat) (m : Nat) (σ : L2.St) (H : Hp), (m = l.length - n ∧ n ≤ l.length ∧ ∃ F δ s, Sinv K i F1 H0 F H σ δ s ∧ OkS K i E F1 H0 D (gForL tg body (l.drop n) δ s)) →
      (J.stop n H ∧ D.nx σ H) ∨ (J.go n H ∧ ∃ N : L2.St → Hp → Prop, (∀ σ' H', N σ' H' → ∃ m', m' < m ∧ (m' = l.length - (n + 1) ∧ n + 1 ≤ l.length ∧ ∃ F δ s, Sinv K i F1 H0 F H' σ' δ s ∧ OkS K i E F1 H0 D (gForL tg body (l.drop (n + 1)) δ s))) ∧
        ∀ x H', J.yld n H x H' → g x σ H' fun σ2 H2 => tb { D with nx := N, ct := N, bk := D.nx } σ2 H2) := by
  rintro n m σ H ⟨rfl, hn, F, δ, s, S, q⟩
  obtain ⟨w1, w2⟩ := hw n F H S.base.ff S.wf.fh
  by_cases hlt : n < l.length
  · have ed : l[n]? = some l[n] := List.getElem?_eq_getElem hlt
    obtain ⟨hgo, hy⟩ := w1 _ ed
    rw [List.drop_eq_getElem_cons hlt] at q
    unfold gForL at q
    refine .inr ⟨hgo, fun σ' H' => ∃ F δ s, Sinv K i F1 H0 F H' σ' δ s ∧ OkS K i E F1 H0 D (gForL tg body (l.drop (n + 1)) δ s), fun σ' H' h => ⟨_, by omega, rfl, hlt, h⟩, fun x H' y => ?_⟩
    obtain ⟨F', ff, fh, hh, nw, hr⟩ := hy x H' y
    have x' : Ext i F H F' H' := walk_ext ff fh hh nw
    have S' := S.ext x' (S.wf.mr.sm hh)
    cases e2 : tg l[n] δ with
    | none => rw [e2] at q; exact q.elim
    | some δ1 =>
      rw [e2] at q
      refine hg i F1 H0 F' H' σ δ s _ x δ1 _ S' hr e2 fun σ1 S1 => hb i F1 H0 F' H' σ1 δ1 s _ S1 ?_
      simp only [M.bnd] at q
      cases e3 : body δ1 s with
      | no => rw [e3] at q; exact q.elim
      | ex a b => rw [e3] at q; exact q
      | ok f s2 =>
        rw [e3] at q
        cases f with
        | nx δ2 => exact fun σ2 F2 H2 S2 => ⟨F2, δ2, s2, S2, q⟩
        | ct δ2 => exact fun σ2 F2 H2 S2 => ⟨F2, δ2, s2, S2, q⟩
        | bk δ2 => exact q
        | ret r => exact q
  · have e0 : n = l.length := by omega
    subst e0
    rw [List.drop_length] at q
    exact .inl ⟨w2 (Nat.le_refl _), q σ F H S⟩
theorem ds_for {src : List Sl → M (List Dt)} {tg : Dt → List Sl → Option (List Sl)} {body : List Sl → M Fl} (hp : PassesOwn (model X.prog X.w) X.A X.env X.xe) (hc : X.calm = true) (hi : DI X E tgE e src) (hg : DG X tgE tg) (hb : DSs X E sts body)
    (hs : ∀ x, foldedSetIterable e X.env x = pure x := by intro _; rfl) : DS X E (.For tgE e sts [] pos) (gFor src tg body) := by
  obtain ⟨w, pw, jw⟩ := hi
  obtain ⟨g, pg, jg⟩ := hg
  obtain ⟨tb, pb, jb⟩ := hb
  refine ⟨_, ps_for hp hc pw pg pb hs, fun i F0 H0 F H σ δ s D S q => jw.useS S q fun l s1 J F1 H1 x1 S1 r1 q1 => ?_⟩
  refine ⟨_, ⟨_, rfl, Nat.zero_le _, F1, δ, s1, S1.self, ?_⟩, forL_core jg jb r1⟩
  rw [List.drop_zero]
  exact q1.rebase S1.base
theorem ds_while {t : List Sl → M Bool} {body : List Sl → M Fl} (hp : PassesOwn (model X.prog X.w) X.A X.env X.xe) (hc : DT X E c t) (hb : DSs X E sts body) : DS X E (.While c sts [] pos) (gWhile t body) := by
  obtain ⟨tt, pt, jt⟩ := hc
  obtain ⟨tb, pb, jb⟩ := hb
  refine ⟨_, ps_while hp pt pb, fun i F0 H0 F H σ δ s D S q => ?_⟩
  refine ⟨fun m σ H => ∃ F δ s, Sinv X.K i F0 H0 F H σ δ s ∧ OkS X.K i E F0 H0 D (whileN t body m δ s), ?_, ?_⟩
  · have h : ∃ n, whileN t body n δ s ≠ .no := by
      refine Classical.byContradiction fun h => ?_
      unfold gWhile at q
      rw [dif_neg h] at q
      exact q
    obtain ⟨n, hn⟩ := h
    rw [gWhile_eq hn] at q
    exact ⟨n, F, δ, s, S, q⟩
  · rintro m σ H ⟨F, δ, s, S, q⟩
    cases m with
    | zero => exact q.elim
    | succ m =>
      unfold whileN at q
      refine jt.useS S q fun x s1 v F1 H1 x1 S1 r1 q1 => ?_
      have r1 : v = x := r1
      subst r1
      cases v with
      | false => exact q1 σ F1 H1 S1
      | true =>
        refine iteT ⟨fun σ' H' => ∃ F δ s, Sinv X.K i F0 H0 F H' σ' δ s ∧ OkS X.K i E F0 H0 D (whileN t body m δ s), fun σ' H' h => ⟨m, Nat.lt_succ_self m, h⟩, jb i F0 H0 F1 H1 σ δ s1 _ S1 ?_⟩
        rw [if_pos rfl] at q1
        unfold M.bnd at q1
        cases e3 : body δ s1 with
        | no => rw [e3] at q1; exact q1.elim
        | ex a b => rw [e3] at q1; exact q1
        | ok f s2 =>
          rw [e3] at q1
          cases f with
          | nx δ2 => exact fun σ2 F2 H2 S2 => ⟨F2, δ2, s2, S2, q1⟩
          | ct δ2 => exact fun σ2 F2 H2 S2 => ⟨F2, δ2, s2, S2, q1⟩
          | bk δ2 => exact q1
          | ret r => exact q1
theorem DI.v {f : List Sl → M (List Dt)} (h : DI X E tgE e f) : DIV X E tgE e f := by
  obtain ⟨w, pw, jw⟩ := h
  refine ⟨w, pw, fun i F0 H0 F H σ δ s Q S q => jw i F0 H0 F H σ δ s Q S ?_⟩
  cases e2 : f δ s <;> rw [e2] at q
  · exact fun J F' H' x m r => q J F' H' x m r.v
  · exact q
  · exact q
theorem di_range1 {f : List Sl → M Dt} {p : Pos} (h : DV X E a f) (hg : Gl X "range" := by rfl) (hm : X.mg "range" = none) (hs : starEach [a] X.env = [(false, eval a X.env)] := by rfl) : DI X E tgE (.Call (.Name "range" p) [a] [] pos) (wRng1 f) := by
  obtain ⟨t, pt, jt⟩ := h
  refine ⟨_, pi_range1 hg hm (pa_cons pt pa_nil hs) hs, fun i F0 H0 F H σ δ s Q S q => jt.use S q fun d s1 v F1 H1 e0 x1 S1 r1 q1 => ?_⟩
  clear e0
  cases d <;> first | exact q1.elim | skip
  obtain ⟨h, q1⟩ := ok_if q1
  exact ⟨_, by rw [View.int r1], by omega, by omega, q1 _ F1 H1 (.refl S1.wf.fh) S1.wf.mr (walks_r 0 _)⟩
end
end DL
namespace DL
open PySem L2
def wipeD (δ : List Sl) : List Nat → List Sl
  | [] => δ
  | v :: vs => (wipeD δ vs).set v .non
section
variable {K : PySem.W.Frag} {i : Ix} {F0 H0 F H F' H' : Hp} {σ : L2.St} {δ : List Sl} {s s' : MS}
theorem Sinv.del (S : Sinv K i F0 H0 F H σ δ s) (k : Nat) : Sinv K i F0 H0 F H (σ.set k none) (δ.set k .non) s := by
  have look : ∀ {j : Nat} {x : Sl}, x ≠ .non → (δ.set k Sl.non)[j]? = some x → j ≠ k ∧ δ[j]? = some x := by
    intro j x hx e
    by_cases hj : j = k
    · subst hj
      by_cases hk : j < δ.length
      · rw [List.getElem?_set_self hk] at e
        exact absurd (Option.some.inj e).symm hx
      · rw [List.getElem?_eq_none (by simpa using hk)] at e
        cases e
    · rw [List.getElem?_set_ne (fun z => hj z.symm)] at e
      exact ⟨hj, e⟩
  have out : ∀ {j : Nat}, j ≠ k → (σ.set k none)[j]? = σ[j]? := fun hj => List.getElem?_set_ne (fun z => hj z.symm)
  refine ⟨S.base, S.wf, by rw [List.length_set, List.length_set]; exact S.len, fun j d e => ?_, fun j l e => ?_, fun j C ns l e => ?_, fun j j' l m p hne e e' q => ?_, S.nst.to (Same.refl _) (fun j ls e => by
      obtain ⟨h1, h2⟩ := look (x := .nst ls) (by intro z; cases z) e
      exact ⟨h2, out h1⟩) fun j ls p as e1 e2 A O => ⟨fun b hb => ⟨rfl, (A.fr b hb).1, (A.fr b hb).2.1⟩, fun j' m q ej eq hq => by
      obtain ⟨h1, h2⟩ := look (x := .own m) (by intro z; cases z) ej
      rw [out h1] at eq
      exact O j' m q h2 eq hq⟩⟩
  · obtain ⟨h1, h2⟩ := look (x := .val d) (by intro z; cases z) e
    rw [out h1]
    exact S.slot j d h2
  · obtain ⟨h1, h2⟩ := look (x := .own l) (by intro z; cases z) e
    rw [out h1]
    exact S.own j l h2
  · obtain ⟨h1, h2⟩ := look (x := .ins C ns l) (by intro z; cases z) e
    rw [out h1]
    exact S.ins j C ns l h2
  · obtain ⟨h1, h2⟩ := look (x := .own l) (by intro z; cases z) e
    obtain ⟨h3, h4⟩ := look (x := .own m) (by intro z; cases z) e'
    rw [out h1] at q
    rw [out h3]
    exact S.sep j j' l m p hne h2 h4 q
theorem Sinv.wipe (S : Sinv K i F0 H0 F H σ δ s) : ∀ vs : List Nat, Sinv K i F0 H0 F H (L2.wipe σ vs) (wipeD δ vs) s
  | [] => S
  | v :: vs => (S.wipe vs).del v
theorem Sinv.side {p : Addr} {us : List V} (S : Sinv K i F0 H0 F H σ δ s) (hp : H p = none ∨ ∃ vs, H p = some (.lst vs)) (hF : F p = none) (h0 : H0 p = none) (g : ¬ G i p) (hn : ∀ (j : Nat) (l : List Dt), δ[j]? = some (Sl.own l) → σ[j]? ≠ some (some (V.ref p))) (hf : ¬ Foot K i H0 F H σ δ p) : Sinv K i F0 H0 F (upd H p (.lst us)) σ δ s := by
  have ne : ∀ {b o}, F b = some o → b ≠ p := fun e => ne_of_none e hF
  refine ⟨⟨S.base.ff, fun b o e => by rw [upd_ne (ne e)]; exact S.base.fh _ _ e, fun b o e _ => by rw [upd_ne (ne_of_none e h0)]; exact S.base.sb _ _ e (by assumption), S.base.nw, fun b e => ?_⟩,
    ⟨fun b o e => by rw [upd_ne (ne e)]; exact S.wf.fh _ _ e, S.wf.gf, S.wf.mr.put hp g⟩, S.len, S.slot, fun j l e => ?_, fun j C ns l e => ?_, S.sep, S.nst.to (Same.refl _) (fun j ls e => ⟨e, rfl⟩) fun j ls p2 as e1 e2 A O => ⟨fun b hb => ⟨upd_ne fun (z : b = p) => hf ⟨j, ls, p2, as, e1, e2, A, z ▸ hb⟩, (A.fr b hb).1, (A.fr b hb).2.1⟩, O⟩⟩
  · by_cases hb : b = p
    · rw [hb, upd_same]; exact fun z => nomatch z
    · rw [upd_ne hb]; exact S.base.al b e
  · obtain ⟨q, us, g1, g2, g3⟩ := S.own j l e
    exact ⟨q, us, g1, by rw [upd_ne fun (z : q = p) => hn j l e (by rw [← z]; exact g1)]; exact g2, g3⟩
  · obtain ⟨q, dx, gs, g1, g2, g3⟩ := S.ins j C ns l e
    refine ⟨q, dx, gs, g1, ?_, g3⟩
    rw [upd_ne fun (z : q = p) => ?_]
    · exact g2
    · subst z
      rcases hp with hp | ⟨vs, hp⟩ <;> rw [hp] at g2 <;> cases g2
theorem Ext.side {p : Addr} {o : HO} (x : Ext i F H F' H') (hp : H p = none) (hF : F' p = none) : Ext i F H F' (upd H' p o) :=
  ⟨x.ff, fun b u e => by rw [upd_ne (ne_of_none e hF)]; exact x.fh _ _ e, fun b u e g => by rw [upd_ne (ne_of_none e hp)]; exact x.sb _ _ e g, x.nw, fun b e => by
    by_cases hb : b = p
    · rw [hb, upd_same]; exact fun z => nomatch z
    · rw [upd_ne hb]; exact x.al b e⟩
end
def M.nx {α : Type} (x : M α) : M α := fun s => match x s with
  | .ok a s' => .ok a s'
  | _ => .no
def compL (tg : Dt → List Sl → Option (List Sl)) (tt : List Sl → M Bool) (fe : List Sl → M R) (δ : List Sl) : List Dt → M (List Dt)
  | [] => M.ret []
  | d :: ds => match tg d δ with
    | some δ1 => M.bnd (tt δ1) fun b => if b = true then M.bnd (fe δ1) fun r => M.bnd (compL tg tt fe δ ds) fun rest => M.ret (r.d :: rest) else compL tg tt fe δ ds
    | none => M.no
def cLc (src : List Sl → M (List Dt)) (tg : Dt → List Sl → Option (List Sl)) (tt : List Sl → M Bool) (fe : List Sl → M R) (vs : List Nat) : List Sl → M R := fun δ => M.bnd (src δ) fun l =>
  if l.length ≤ 100000 then M.bnd (M.nx (compL tg tt fe (wipeD δ vs) l)) fun ds => M.ret (.new ds) else M.no
def tYesD : List Sl → M Bool := fun _ => M.ret true
def JGw (K : PySem.W.Frag) (t : TG) (g : Dt → List Sl → Option (List Sl)) (vs : List Nat) : Prop := ∀ i F0 H0 F H σ δ s d v δ' (Q : L2.St → Hp → Prop), Sinv K i F0 H0 F H (L2.wipe σ vs) (wipeD δ vs) s → Rep K i F d v → g d (wipeD δ vs) = some δ' →
  (∀ σ', Sinv K i F0 H0 F H σ' δ' s → Q σ' H) → t v (L2.wipe σ vs) H fun σ2 H2 => L2.wipe σ2 vs = L2.wipe σ vs ∧ Q σ2 H2
def E1 : XK := fun _ _ _ => False
theorem nx_of {α : Type} {x : M α} {s : MS} : (∃ a s', x s = .ok a s' ∧ M.nx x s = .ok a s') ∨ M.nx x s = .no := by
  unfold M.nx
  cases e : x s with
  | ok a s' => exact .inl ⟨a, s', rfl, rfl⟩
  | ex a b => exact .inr rfl
  | no => exact .inr rfl
def restG (tg : Dt → List Sl → Option (List Sl)) (tt : List Sl → M Bool) (fe : List Sl → M R) (δ : List Sl) (acc : List Dt) (l : List Dt) : M R := M.bnd (M.nx (compL tg tt fe δ l)) fun ds => M.ret (.new (acc ++ ds))
theorem restG_cons {tg : Dt → List Sl → Option (List Sl)} {tt : List Sl → M Bool} {fe : List Sl → M R} {δ δ1 : List Sl} {acc : List Dt} {d : Dt} {ds : List Dt} {s : MS} {K : PySem.W.Frag} {k : Kind R V} {i : Ix} {E : XK} {F H : Hp} {Q : VK} (ht : tg d δ = some δ1)
    (q : Ok K k i E F H Q (restG tg tt fe δ acc (d :: ds) s)) : ∃ b s1, tt δ1 s = .ok b s1 ∧ ((b = false ∧ Ok K k i E F H Q (restG tg tt fe δ acc ds s1)) ∨ (b = true ∧ ∃ r s2, fe δ1 s1 = .ok r s2 ∧ Ok K k i E F H Q (restG tg tt fe δ (acc ++ [r.d]) ds s2))) := by
  unfold restG M.bnd at q
  rcases nx_of (x := compL tg tt fe δ (d :: ds)) (s := s) with ⟨a, s', e1, e2⟩ | e
  · rw [e2] at q
    unfold compL at e1
    rw [ht] at e1
    simp only [M.bnd] at e1
    cases et : tt δ1 s with
    | no => rw [et] at e1; cases e1
    | ex a b => rw [et] at e1; cases e1
    | ok b s1 =>
      rw [et] at e1
      refine ⟨b, s1, rfl, ?_⟩
      cases b with
      | false =>
        refine .inl ⟨rfl, ?_⟩
        have e1 : compL tg tt fe δ ds s1 = .ok a s' := e1
        unfold restG M.bnd M.nx
        rw [e1]
        exact q
      | true =>
        refine .inr ⟨rfl, ?_⟩
        have e1 : M.bnd (fe δ1) (fun r => M.bnd (compL tg tt fe δ ds) fun rest => M.ret (r.d :: rest)) s1 = .ok a s' := e1
        unfold M.bnd at e1
        cases ef : fe δ1 s1 with
        | no => simp only [ef] at e1; cases e1
        | ex a b => simp only [ef] at e1; cases e1
        | ok r s2 =>
          simp only [ef] at e1
          cases ec : compL tg tt fe δ ds s2 with
          | no => rw [ec] at e1; cases e1
          | ex a b => rw [ec] at e1; cases e1
          | ok rest s3 =>
            rw [ec] at e1
            cases e1
            refine ⟨r, s2, rfl, ?_⟩
            unfold restG M.bnd M.nx
            rw [ec]
            simp only [List.append_assoc, List.singleton_append]
            exact q
  · rw [e] at q
    exact q.elim
theorem lc_j {K : PySem.W.Frag} {E : XK} {w : TI} {g : TG} {src : List Sl → M (List Dt)} {tg : Dt → List Sl → Option (List Sl)} {tt : List Sl → M Bool} {fe : List Sl → M R} {vs : List Nat} (jw : J kWV K E w src) (jg : JGw K g tg vs) :
    J kR K E (tLc w g (tOf kB K E1 tt) (tOf kR K E1 fe) vs) (cLc src tg tt fe vs) := fun i F0 H0 F H σ δ s Q S q => by
  refine jw.use0 S q fun l s1 It F1 H1 e0 x1 m1 r1 q1 => ?_
  have S1 := S.ext x1 m1
  obtain ⟨hl, q1⟩ := ok_if q1
  intro D hD
  have hD0 : H0 D = none := by
    cases z : H0 D with
    | none => rfl
    | some o => exact absurd hD (S1.base.al D (by rw [z]; exact fun z => nomatch z))
  have hDs : H D = none := by
    cases z : H D with
    | none => rfl
    | some o => exact absurd hD (x1.al D (by rw [z]; exact fun z => nomatch z))
  have gD : ¬ G i D := S1.wf.off hD
  have own1 : ∀ (j : Nat) (l : List Dt), (wipeD δ vs)[j]? = some (Sl.own l) → (L2.wipe σ vs)[j]? ≠ some (some (V.ref D)) := fun j l e z => by
    obtain ⟨p, us, g1, g2, _⟩ := (S1.wipe vs).own j l e
    rw [z] at g1
    cases g1
    rw [hD] at g2
    cases g2
  have F1D : F1 D = none := S1.wf.fh.free hD
  refine ⟨fun n m H3 => m = l.length - n ∧ n ≤ l.length ∧ ∃ F3 s3 acc us, Sinv K i F0 H0 F3 H3 (L2.wipe σ vs) (wipeD δ vs) s3 ∧ Ext i F1 H1 F3 H3 ∧ H3 D = some (.lst us) ∧ F3 D = none ∧ Reps K i F3 acc us ∧ acc.length ≤ n ∧ Ok K (kR K i) i E F H Q (restG tg tt fe (wipeD δ vs) acc (l.drop n) s3),
    ⟨_, rfl, Nat.zero_le _, F1, s1, [], [], (S1.wipe vs).side (.inl hD) F1D hD0 gD own1 (fun f => by obtain ⟨us, g⟩ := f.lst; rw [hD] at g; cases g), (Ext.refl S1.wf.fh).side hD F1D, upd_same, F1D, rfl, Nat.zero_le _, ?_⟩, ?_⟩
  · rw [List.drop_zero]
    unfold restG
    simp only [List.nil_append]
    exact q1
  rintro n m H3 ⟨rfl, hn, F3, s3, acc, us, S3, x3, hd3, hf3, r3, ha, q3⟩
  obtain ⟨w1, w2⟩ := r1 n F3 H3 x3
  by_cases hlt : n < l.length
  · have ed : l[n]? = some l[n] := List.getElem?_eq_getElem hlt
    obtain ⟨hgo, hy⟩ := w1 _ ed
    rw [List.drop_eq_getElem_cons hlt] at q3
    refine .inr ⟨hgo, fun H4 => ∃ F3 s3 acc us, Sinv K i F0 H0 F3 H4 (L2.wipe σ vs) (wipeD δ vs) s3 ∧ Ext i F1 H1 F3 H4 ∧ H4 D = some (.lst us) ∧ F3 D = none ∧ Reps K i F3 acc us ∧ acc.length ≤ n + 1 ∧ Ok K (kR K i) i E F H Q (restG tg tt fe (wipeD δ vs) acc (l.drop (n + 1)) s3),
      fun H4 h => ⟨_, by omega, rfl, hlt, h⟩, fun x H4 y => ?_⟩
    obtain ⟨F4, ff, fh, hh, nw, hr⟩ := hy x H4 y
    have x4 : Ext i F3 H3 F4 H4 := walk_ext ff fh hh nw
    have S4 := S3.ext x4 (S3.wf.mr.sm hh)
    have hd4 : H4 D = some (.lst us) := hh _ _ hd3
    have hf4 : F4 D = none := x4.nw D (by rw [hd3]; exact fun z => nomatch z) hf3
    cases et : tg l[n] (wipeD δ vs) with
    | none =>
      exfalso
      unfold restG M.bnd M.nx compL at q3
      rw [et] at q3
      exact q3
    | some δ1 =>
      obtain ⟨b, s5, e5, q5⟩ := restG_cons et q3
      refine jg i F0 H0 F4 H4 σ δ s3 _ x δ1 _ S4 hr et fun σ1 T4 => ⟨i, F0, H0, F4, δ1, s3, T4, ?_⟩
      rw [e5]
      intro b' F5 H5 x5 m5 rb
      have rb : b' = b := rb
      subst rb
      have S5 := S4.ext x5 m5
      have T5 := T4.ext x5 m5
      have hd5 : H5 D = some (.lst us) := x5.sb _ _ hd4 gD
      have hf5 : F5 D = none := x5.nw D (by rw [hd4]; exact fun z => nomatch z) hf4
      rcases q5 with ⟨rfl, q5⟩ | ⟨rfl, r, s6, e6, q6⟩
      · exact iteF ⟨F5, s5, acc, us, S5, (x3.trans x4).trans x5, hd5, hf5, Reps.same (x4.ff.trans x5.ff) _ r3, by omega, q5⟩
      · refine iteT ⟨i, F0, H0, F5, δ1, s5, T5, ?_⟩
        rw [e6]
        intro v F6 H6 x6 m6 rv
        obtain ⟨F7, x7, ff7, rv7⟩ := RepR.freeze rv x6
        have S7 := S5.ext x7 m6
        have hd7 : H6 D = some (.lst us) := x7.sb _ _ hd5 gD
        have hf7 : F7 D = none := x7.nw D (by rw [hd5]; exact fun z => nomatch z) hf5
        have r7 := (Reps.same ((x4.ff.trans x5.ff).trans x7.ff) _ r3).append (Reps.cons rv7 .nil)
        refine ⟨us, hd7, lt_line ?_, F7, s6, acc ++ [r.d], us ++ [v], S7.side (.inr ⟨_, hd7⟩) hf7 hD0 gD own1 (fun f => f.back (S1.wipe vs) (((x3.trans x4).trans x5).trans x7).sb hD), (((x3.trans x4).trans x5).trans x7).side hD hf7, upd_same, hf7, r7, by rw [List.length_append, List.length_singleton]; omega, q6⟩
        rw [r3.len]
        omega
  · have e1 : n = l.length := by omega
    subst e1
    rw [List.drop_length] at q3
    refine .inl ⟨w2 (Nat.le_refl _), ?_⟩
    unfold restG M.bnd M.nx compL at q3
    simp only [M.ret, List.append_nil] at q3
    exact q3 _ F3 H3 (x1.trans x3) S3.wf.mr ⟨D, us, rfl, hd3, hf3, hDs, r3⟩
section
variable {X : Cx} {E : XK} {elt tgE iter : Expr} {ifs : List Expr} {scope : Scope} {own : List (Str × Nat)} {pos : Pos}
def DTs (X : Cx) (E : XK) (ifs : List Expr) (f : List Sl → M Bool) : Prop := PTs X ifs (tOf kB X.K E f)
theorem dts_nil : DTs X E [] tYesD := ⟨fun pins s σ H Q I ⟨i, F0, H0, F, δ, s', S, q⟩ => pts_nil.run pins s σ H Q I (q true F H (.refl S.wf.fh) S.wf.mr rfl)⟩
theorem de_lc {vs : List Nat} {src : List Sl → M (List Dt)} {g : TG} {tg : Dt → List Sl → Option (List Sl)} {tt : List Sl → M Bool} {fe : List Sl → M R} (hc : X.calm = true) (hN : X.N.Nodup) (hi : DIV X E tgE iter src) (ok : BlkOk X.N X.env.scope scope own) (jg : JGw X.K g tg (own.map (·.2)))
    (hg : ∀ (s : Shared) (H : Hp) (C : Addr) (cl : List (Str × Addr)) (fp : List Addr), PG (X.blk s H scope (compEnvC scope cl C X.env) fp) tgE g) (ht : ∀ (s : Shared) (H : Hp) (C : Addr) (cl : List (Str × Addr)) (fp : List Addr), DTs (X.blk s H scope (compEnvC scope cl C X.env) fp) E1 ifs tt)
    (he : ∀ (s : Shared) (H : Hp) (C : Addr) (cl : List (Str × Addr)) (fp : List Addr), DE (X.blk s H scope (compEnvC scope cl C X.env) fp) E1 elt fe) (hs : ∀ x, foldedSetIterable iter X.env x = pure x := by intro _; rfl) (hvs : own.map (·.2) = vs := by rfl) :
    DE X E (.ListComp elt [⟨tgE, iter, ifs, 0⟩] scope pos) (cLc src tg tt fe vs) := by
  subst hvs
  obtain ⟨w, pw, jw⟩ := hi
  exact ⟨_, pe_lc hc hN pw ok hg (tt := tOf kB X.K E1 tt) ht (te := tOf kR X.K E1 fe) (fun s H C cl fp => (he s H C cl fp).pe) hs, lc_j jw jg⟩
theorem ds_setLc (k : Nat) {vs : List Nat} {y : Str} {py spos : Pos} {src : List Sl → M (List Dt)} {g : TG} {tg : Dt → List Sl → Option (List Sl)} {tt : List Sl → M Bool} {fe : List Sl → M R} (hc : X.calm = true) (hN : X.N.Nodup) (hi : DIV X E tgE iter src) (ok : BlkOk X.N X.env.scope scope own) (jg : JGw X.K g tg (own.map (·.2)))
    (hg : ∀ (s : Shared) (H : Hp) (C : Addr) (cl : List (Str × Addr)) (fp : List Addr), PG (X.blk s H scope (compEnvC scope cl C X.env) fp) tgE g) (ht : ∀ (s : Shared) (H : Hp) (C : Addr) (cl : List (Str × Addr)) (fp : List Addr), DTs (X.blk s H scope (compEnvC scope cl C X.env) fp) E1 ifs tt)
    (he : ∀ (s : Shared) (H : Hp) (C : Addr) (cl : List (Str × Addr)) (fp : List Addr), DE (X.blk s H scope (compEnvC scope cl C X.env) fp) E1 elt fe) (hs : ∀ x, foldedSetIterable iter X.env x = pure x := by intro _; rfl)
    (hy : X.N[k]? = some y := by rfl) (hyl : X.env.scope.names.lookup y = some .local := by rfl) (hsw : swapsWith (.ListComp elt [⟨tgE, iter, ifs, 0⟩] scope pos) (some (.Name y py)) spos.line X.env = pure true := by exact sw_true rfl rfl rfl (by decide +kernel)) (hvs : own.map (·.2) = vs := by rfl) :
    DS X E (.Assign [.Name y py] (.ListComp elt [⟨tgE, iter, ifs, 0⟩] scope pos) spos) (gSet k (cLc src tg tt fe vs)) := by
  subst hvs
  obtain ⟨w, pw, jw⟩ := hi
  refine ⟨_, ps_setLc hc hN hy hyl hsw pw ok hg (tt := tOf kB X.K E1 tt) ht (te := tOf kR X.K E1 fe) (fun s H C cl fp => (he s H C cl fp).pe) hs, fun i F0 H0 F H σ δ s D S q => ?_⟩
  exact J.useS (lc_j jw jg) S q fun r s1 v F1 H1 x1 S1 r1 q1 => q1 _ F1 H1 (S.putE S1 k r1 x1.sb)
end
theorem wipe_get {σ : L2.St} {j : Nat} : ∀ {vs : List Nat}, (L2.wipe σ vs)[j]? = if j ∈ vs then (σ[j]?.map fun _ => none) else σ[j]?
  | [] => by simp [L2.wipe]
  | v :: vs => by
    unfold L2.wipe
    by_cases hj : v = j
    · subst hj
      rw [if_pos (List.mem_cons_self ..), List.getElem?_set, if_pos rfl, wipe_length]
      by_cases hv : v < σ.length
      · rw [if_pos hv, List.getElem?_eq_getElem hv]
        rfl
      · rw [if_neg hv, List.getElem?_eq_none (by omega)]
        rfl
    · rw [List.getElem?_set_ne hj, wipe_get]
      have : (j ∈ v :: vs) ↔ j ∈ vs := by
        rw [List.mem_cons]
        exact ⟨fun h => h.elim (fun e => absurd e.symm hj) id, .inr⟩
      simp only [this]
theorem wipe_set {σ : L2.St} {k : Nat} {v : Option V} {vs : List Nat} (h : k ∈ vs) : L2.wipe (σ.set k v) vs = L2.wipe σ vs := by
  refine List.ext_getElem? fun j => ?_
  rw [wipe_get, wipe_get]
  by_cases hj : j ∈ vs
  · rw [if_pos hj, if_pos hj]
    by_cases e : k = j
    · subst e
      rw [List.getElem?_set, if_pos rfl]
      by_cases hv : k < σ.length
      · rw [if_pos hv, List.getElem?_eq_getElem hv]
        rfl
      · rw [if_neg hv, List.getElem?_eq_none (by omega)]
    · rw [List.getElem?_set_ne e]
  · rw [if_neg hj, if_neg hj, List.getElem?_set_ne]
    intro e
    exact hj (e ▸ h)
theorem wipe_wipe {σ : L2.St} {vs : List Nat} : L2.wipe (L2.wipe σ vs) vs = L2.wipe σ vs := by
  refine List.ext_getElem? fun j => ?_
  rw [wipe_get, wipe_get]
  split
  · cases σ[j]? <;> rfl
  · rfl
theorem jgw_name (K : PySem.W.Frag) (k : Nat) : JGw K (gName k) (tgN k) [k] := fun i F0 H0 F H σ δ s d v δ' Q S r e q => by
  cases e
  refine ⟨?_, q _ (S.putD k r)⟩
  rw [wipe_set (List.mem_cons_self ..), wipe_wipe]
end DL
namespace DL
open PySem PySem.Spec PyProof.Rows L2
def spD (K : PySem.W.Frag) (n : Nat) (sem : List Dt → M R) : Sp := fun vs H Q E => ∃ i F s ds, Wf i s F H ∧ Reps K i F ds vs ∧ ds.length = n ∧ Ok K (kR K i) i E F H Q (sem ds s)
structure FnX (P : Program) (w : World) (K : PySem.W.Frag) (mg : Str → Option Value) (base : Heap) (CX : CXT) (k : Nat) (f : Addr) (fd : FuncData) (ps : List Str) (sp : Sp) : Prop where
  len : ∀ vs H Q E, sp vs H Q E → vs.length = ps.length
  run : ∀ (A : Around) (outer : List Env) (s : Shared) (H : Hp) (args : Args) (us : List Value) (vs : List V) (Q : VK) (E : XK), A.guards = some [] → Room k A →
    Env0 P w K mg base A outer s H → BindsTo s fd args (ps.zip us) → Vals vs us → sp vs H Q E → codeAny (model P w) A (.call (.ref f) args) (CR CX outer P w H s Q E) s
theorem FnOk.cx {P : Program} {w : World} {K : PySem.W.Frag} {mg : Str → Option Value} {base : Heap} {CX : CXT} {k : Nat} {f : Addr} {fd : FuncData} {ps : List Str} {sp : Sp} (F : FnOk P w K mg base CX0 k f fd ps sp) : FnOk P w K mg base CX k f fd ps sp :=
  ⟨F.len, fun A outer s H args us vs Q E hr he hb hv hs => codeAny_mono (F.run A outer s H args us vs Q E hr he hb hv hs) fun r s' q => by
    cases r with
    | error e => exact (show False from q).elim
    | ok fl => cases fl <;> exact q⟩
theorem FnOk.x {P : Program} {w : World} {K : PySem.W.Frag} {mg : Str → Option Value} {base : Heap} {CX : CXT} {k : Nat} {f : Addr} {fd : FuncData} {ps : List Str} {sp : Sp} (F : FnOk P w K mg base CX k f fd ps sp) : FnX P w K mg base CX k f fd ps sp :=
  ⟨F.len, fun A outer s H args us vs Q E _ hr => F.run A outer s H args us vs Q E hr⟩
theorem FnX.imp {P : Program} {w : World} {K : PySem.W.Frag} {mg : Str → Option Value} {base : Heap} {CX : CXT} {k : Nat} {f : Addr} {fd : FuncData} {ps : List Str} {sp sp' : Sp} (F : FnX P w K mg base CX k f fd ps sp)
    (h : ∀ vs H Q E, sp' vs H Q E → sp vs H Q E) : FnX P w K mg base CX k f fd ps sp' :=
  ⟨fun vs H Q E q => F.len vs H Q E (h _ _ _ _ q), fun A outer s H args us vs Q E hg hr he hb hv hs => F.run A outer s H args us vs Q E hg hr he hb hv (h _ _ _ _ hs)⟩
theorem FnX.mono {P : Program} {w : World} {K : PySem.W.Frag} {mg : Str → Option Value} {base : Heap} {CX : CXT} {j k : Nat} {f : Addr} {fd : FuncData} {ps : List Str} {sp : Sp} (F : FnX P w K mg base CX j f fd ps sp) (h : j ≤ k) : FnX P w K mg base CX k f fd ps sp :=
  ⟨F.len, fun A outer s H args us vs Q E hg hr => F.run A outer s H args us vs Q E hg (hr.mono h)⟩
section
variable {X : Cx} {CX : CXT} {k : Nat} {f C : Addr} {fd : FuncData} {ps : List Str} {sp : Sp} {E : XK} {x m : Str} {p pos apos : Pos} {e o : Expr} {es : List Expr} {ta : TE} {t : TA}
theorem run_fnX {pins : List (Addr × Obj)} {σ : L2.St} {H : Hp} {s : Shared} {Q : VK} {us : List Value} {vs : List V} (F : FnX X.prog X.w X.K X.mg X.base CX k f fd ps sp) (hg : X.A.guards = some []) (hr : Room k X.A) (hb : Binds X.K fd ps []) (hx : Passes CX X E)
    (I : Inv X pins σ H s) (r : Vals vs us) (h : sp vs H Q E) : wpAny (model X.prog X.w) X.A (call (.ref f) us) (EP X pins σ Q) X.xe s := by
  have hl : (us ++ []).length = ps.length := by rw [List.append_nil, ← r.length]; exact F.len _ _ _ _ h
  have b0 := hb s us I.kIn hl
  rw [List.append_nil] at b0
  refine wpAny_call (codeAny_mono (F.run X.A X.stack s H ⟨us, []⟩ us vs Q E hg hr I.env0 b0 r h) fun r s' hq => ?_)
  cases r with
  | error e => exact hx pins σ H s e s' I hq
  | ok fl =>
    cases fl with
    | ret u => exact I.after hq
    | next => exact False.elim hq
    | brk => exact False.elim hq
    | cont => exact False.elim hq
theorem pe_callX (F : FnX X.prog X.w X.K X.mg X.base CX k f fd ps sp) (hgu : X.A.guards = some []) (hr : Room k X.A) (hg : Gl X x) (hm : X.mg x = some (.ref f)) (hk : PySem.W.keepIn X.K (.ref f) = true) (hb : Binds X.K fd ps []) (hx : Passes CX X E)
    (ha : PA X (e :: es) t) (hdb : (x == ("__debug__" : Str)) = false := by decide) (he : starEach (e :: es) X.env = (false, eval e X.env) :: starEach es X.env := by rfl) (hpl : (backTo pos (starEach es X.env)).any (·.1) = false := by rfl) :
    PE X (.Call (.Name x p) (e :: es) [] pos) (tCall sp [] E t) := by
  refine ⟨fun pins s σ H Q I h => ?_⟩
  refine wpAny_Call_Name_kw (ld_glob I hg hm ?_ hdb)
  refine PySem.W.callWith_K (h₀ := X.base) I.ok.mod.kin hk (thn (ha.run pos pins s σ H _ I h) fun us s1 ⟨vs, H1, I1, r, q⟩ => ⟨I1.kIn, ?_⟩) he hpl
  exact run_fnX F hgu hr hb hx I1 r (by have z : sp (vs ++ []) H1 Q E := q; rw [List.append_nil] at z; exact z)
end
def FnD (P : Program) (w : World) (K : PySem.W.Frag) (mg : Str → Option Value) (base : Heap) (k : Nat) (f : Addr) (fd : FuncData) (ps : List Str) (sem : List Dt → M R) : Prop := FnX P w K mg base (L2.CX P w) k f fd ps (spD K ps.length sem)
theorem FnD.imp {P : Program} {w : World} {K : PySem.W.Frag} {mg : Str → Option Value} {base : Heap} {k : Nat} {f : Addr} {fd : FuncData} {ps : List Str} {sem sem' : List Dt → M R} (F : FnD P w K mg base k f fd ps sem) (h : ∀ ds s, sem' ds s ≠ .no → ds.length = ps.length → sem ds s = sem' ds s) : FnD P w K mg base k f fd ps sem' :=
  FnX.imp F fun vs H Q E ⟨i, F, s, ds, W, r, hl, q⟩ => ⟨i, F, s, ds, W, r, hl, by
    rw [h ds s (fun e => by rw [e] at q; exact q) hl]
    exact q⟩
theorem sinv_start {K : PySem.W.Frag} {i : Ix} {F H : Hp} {s : MS} {ds : List Dt} {vs : List V} (W : Wf i s F H) (r : Reps K i F ds vs) (N : List Str) : Sinv K i F H F H (L2.start N vs) (ds.map Sl.val ++ List.replicate (N.length - ds.length) .non) s := by
  have look : ∀ {j : Nat} {x : Sl}, (ds.map Sl.val ++ List.replicate (N.length - ds.length) Sl.non)[j]? = some x → (∃ d, x = .val d ∧ ds[j]? = some d) ∨ x = .non := by
    intro j x e
    rw [List.getElem?_append] at e
    split at e
    · rw [List.getElem?_map] at e
      obtain ⟨d, e1, e2⟩ := Option.map_eq_some_iff.mp e
      exact .inl ⟨d, e2.symm, e1⟩
    · rw [List.getElem?_replicate] at e
      split at e
      · exact .inr (Option.some.inj e).symm
      · cases e
  refine ⟨.refl W.fh, W, ?_, fun j d e => ?_, fun j l e => ?_, fun j C ns l e => ?_, fun j j' l m p hne e => ?_, .none fun j ls e => by rcases look e with ⟨d', e1, e2⟩ | e1 <;> cases e1⟩
  · unfold L2.start
    rw [List.length_append, List.length_append, List.length_map, List.length_map, List.length_replicate, List.length_replicate, r.len]
  · rcases look e with ⟨d', e1, e2⟩ | e1
    · cases e1
      obtain ⟨v, g1, g2⟩ := r.get e2
      refine ⟨v, ?_, g2⟩
      unfold L2.start
      rw [List.getElem?_append_left (by rw [List.length_map]; exact (List.getElem?_eq_some_iff.mp g1).1), List.getElem?_map, g1]
      rfl
    · cases e1
  · rcases look e with ⟨d', e1, e2⟩ | e1 <;> cases e1
  · rcases look e with ⟨d', e1, e2⟩ | e1 <;> cases e1
  · rcases look e with ⟨d', e1, e2⟩ | e1 <;> cases e1
def semOf (n : Nat) (g : List Sl → M Fl) (ds : List Dt) : M R := M.bnd (g (ds.map Sl.val ++ List.replicate (n - ds.length) .non)) fun
  | .nx _ => M.ret (.val .non)
  | .ret r => M.ret r
  | _ => M.no
section
variable {P : Program} {w : World} {K : PySem.W.Frag} {mg : Str → Option Value} {base : Heap}
theorem okX {CX : CXT} {x qual : Str} {st : Stmt} {f : Addr} {fd : FuncData} {N ps : List Str} {k : Nat} {sp : Sp} (F : Fun K x qual st f fd) (S : FnScope N ps (defScope st)) (len : ∀ vs H Q E, sp vs H Q E → vs.length = ps.length)
    (hbody : ∀ (cdv : Value) (A : Around) (outer : List Env) (s : Shared) (H : Hp) (vs : List V) (Q : VK) (E : XK), PySem.W.codeIn K cdv qual = true → A.guards = some [] → Room k (A.deeper (PyProof.Rows.envOfC qual (defScope st) s.heap.objs.size f cdv)) → sp vs H Q E →
      ∃ t, PSs (cxOf CX P w K mg base N qual (defScope st) f cdv A outer s H E) (defBody st) t ∧ t { nx := fun _ H' => Q .non H', rt := Q } (L2.start N vs) H) : FnX P w K mg base CX (k + 1) f fd ps sp := by
  obtain ⟨oc, od, kV, doc, pm, an, cdv, ct, osl, rfl, lk, hcd⟩ := F.ex
  refine ⟨len, fun A outer s H args us vs Q E hg hr e0 hb r h => ?_⟩
  have old : ∀ b o, base.get? b = some o → s.heap.get? b = some o := fun b o e => (e0.bs b o e).1
  have Ks : K.In s.heap := e0.mod.kin.keeps old
  have free : s.heap.NoLimit := e0.mod.nolimit.keeps old
  have kinds : ∀ y ∈ ps.zip us, (defScope st).names.lookup y.1 = some .local ∨
      ((defScope st).names.lookup y.1 = some .cell ∧ ((cellsFrom (s.heap.objs.size + 1) (defScope st).names []).lookup y.1).isSome = true) := by
    rintro ⟨n, v⟩ hy
    rcases S.par n (List.of_mem_zip hy).1 with z | z
    · exact .inl z
    · exact .inr ⟨z, PySem.W.cellsFrom_some _ _ _ (.inl z)⟩
  refine codeAny_call_function hr.depth (Ks _ _ lk) rfl S.co S.gen rfl (PySem.W.codeRec_of Ks hcd) (hb _ _ _ _ ?_)
  refine wpAny_newFunctionEnv_cells S.kind kinds fun env eq s1 entry => ?_
  subst eq
  refine ⟨free.keeps entry.toInCall.keep, codeAny_func ?_⟩
  obtain ⟨t, ht, q⟩ := hbody cdv A outer s H vs Q E hcd hg (hr.deeper _) h
  have I := inv_start (CX := CX) (E := E) S hr.hd e0 (len _ _ _ _ h) r entry
  refine wpAny_mono (ht.run [] s1 (L2.start N vs) H _ I q) (fun fl s' z => ?_) fun _ _ z => z
  cases fl with
  | brk =>
    obtain ⟨_, _, _, z⟩ := z
    exact z.elim
  | cont =>
    obtain ⟨_, _, _, z⟩ := z
    exact z.elim
  | next =>
    obtain ⟨σ', H', J, z⟩ := z
    exact ⟨.non, H', J.os, J.bare, J.base, J.hok, rfl, z⟩
  | ret u =>
    obtain ⟨v, σ', H', J, rv, z⟩ := z
    exact ⟨v, H', J.os, J.bare, J.base, J.hok, rv, z⟩
theorem fnD_of {x qual : Str} {st : Stmt} {f : Addr} {fd : FuncData} {N ps : List Str} {k : Nat} {g : List Sl → M Fl} (F : Fun K x qual st f fd) (S : FnScope N ps (defScope st))
    (hbody : ∀ (cdv : Value) (A : Around) (outer : List Env) (s : Shared) (H : Hp) (E : XK), PySem.W.codeIn K cdv qual = true → A.guards = some [] → Room k (A.deeper (PyProof.Rows.envOfC qual (defScope st) s.heap.objs.size f cdv)) → DSs (cxOf (L2.CX P w) P w K mg base N qual (defScope st) f cdv A outer s H E) E (defBody st) g) :
    FnD P w K mg base (k + 1) f fd ps (semOf N.length g) := by
  refine okX F S (fun vs H Q E ⟨i, F, s, ds, W, r, hl, q⟩ => by rw [r.len]; exact hl) (fun cdv A outer s H vs Q E hcd hg hr ⟨i, F, s', ds, W, r, hl, q⟩ => ?_)
  obtain ⟨t, pt, jt⟩ := hbody cdv A outer s H E hcd hg hr
  refine ⟨t, pt, jt i F H F H _ _ s' _ (sinv_start W r N) ?_⟩
  unfold semOf M.bnd at q
  cases e : g (ds.map Sl.val ++ List.replicate (N.length - ds.length) .non) s' with
  | no => rw [e] at q; exact q.elim
  | ex a b => rw [e] at q; exact q
  | ok fl s2 =>
    rw [e] at q
    cases fl with
    | nx δ => exact fun σ' F' H' S' => q .non F' H' S'.base S'.wf.mr rfl
    | ret r => exact q
    | bk δ => exact q.elim
    | ct δ => exact q.elim
end
def cCall (n : Nat) (fa : List Sl → M (List Dt)) (sem : List Dt → M R) : List Sl → M R := fun δ => M.bnd (fa δ) fun ds => if ds.length = n then sem ds else M.no
def recvD (C : Addr) (m : Str) : Dt → Bool
  | .obj C' ns _ => decide (C' = C) && !ns.contains m
  | _ => false
def cMeth (C : Addr) (m : Str) (n : Nat) (fo : List Sl → M R) (fa : List Sl → M (List Dt)) (sem : List Dt → M R) : List Sl → M R := fun δ => M.bnd (fo δ) fun r => if recvD C m r.d = true then M.bnd (fa δ) fun ds => if ds.length + 1 = n then sem (r.d :: ds) else M.no else M.no
def cMeth0 (C : Addr) (m : Str) (n : Nat) (fo : List Sl → M R) (sem : List Dt → M R) : List Sl → M R := fun δ => M.bnd (fo δ) fun r => if recvD C m r.d = true ∧ 1 = n then sem [r.d] else M.no
section
variable {X : Cx} {E : XK} {a b c e : Expr} {es : List Expr} {pos : Pos}
theorem de_call {k : Nat} {f : Addr} {fd : FuncData} {ps : List Str} {sem : List Dt → M R} {x : Str} {p : Pos} {fa : List Sl → M (List Dt)} (F : FnD X.prog X.w X.K X.mg X.base k f fd ps sem) (hgu : X.A.guards = some []) (hr : Room k X.A) (hm : X.mg x = some (.ref f)) (hk : PySem.W.keepIn X.K (.ref f) = true) (hb : Binds X.K fd ps [])
    (px : Passes (L2.CX X.prog X.w) X E) (ha : DA X E (e :: es) fa) (hn : (e :: es).length = ps.length := by rfl) (hg : Gl X x := by rfl) (hdb : (x == ("__debug__" : Str)) = false := by decide) (he : starEach (e :: es) X.env = (false, eval e X.env) :: starEach es X.env := by rfl) (hpl : (backTo pos (starEach es X.env)).any (·.1) = false := by rfl) :
    DE X E (.Call (.Name x p) (e :: es) [] pos) (cCall ps.length fa sem) := by
  obtain ⟨t, pt, jt⟩ := ha
  refine ⟨_, pe_callX F hgu hr hg hm hk hb px pt hdb he hpl, fun i F0 H0 F1 H σ δ s Q S q => jt.use S q fun ds s1 vs F2 H2 e0 x1 S1 r1 q1 => ?_⟩
  obtain ⟨hl, q1⟩ := ok_if q1
  exact ⟨i, F2, s1, ds, S1.wf, by rw [List.append_nil]; exact r1, hl, q1⟩
def lenD : Dt → M R
  | .lst l => M.ret (.val (.int (l.length : Nat)))
  | .tup l => M.ret (.val (.int (l.length : Nat)))
  | .str x => if x.length ≤ 100000 then M.ret (.val (.int (x.length : Nat))) else M.no
  | _ => M.no
def listD : Dt → M R
  | .lst l => M.ret (.new l)
  | .tup l => M.ret (.new l)
  | _ => M.no
def tupleD : Dt → M R
  | .lst l => M.ret (.val (.tup l))
  | .tup l => M.ret (.val (.tup l))
  | _ => M.no
def intsD : List Dt → Option (List Int)
  | [] => some []
  | .int z :: ds => (intsD ds).map (z :: ·)
  | _ => none
theorem intsD_eq : ∀ {l : List Dt} {ns : List Int}, intsD l = some ns → l = ns.map .int
  | [], _, e => by cases e; rfl
  | d :: ds, ns, e => by
    cases d <;> first | (cases e; done) | skip
    obtain ⟨r, e1, e2⟩ := Option.map_eq_some_iff.mp (show (intsD ds).map _ = some ns from e)
    rw [← e2, intsD_eq e1]
    rfl
def CallD (X : Cx) (E : XK) (f : Value) (op : Dt → M R) : Prop := ∃ r, CallR X f r ∧ ∀ i s F H x a Q, Wf i s F H → View X.K i F H a x → Ok X.K (kR X.K i) i E F H Q (op a s) → r [x] H Q
theorem de_b1 {id : String} {x : Str} {p : Pos} {f : List Sl → M Dt} {op : Dt → M R} (hc : CallD X E (.builtin id) op) (ha : DV X E e f) (hm : X.mg x = none) (hv : bootBuiltins x = some (.builtin id) := by decide +kernel) (hg : Gl X x := by rfl) (hn : x ≠ "__name__" := by decide) (hdb : (x == ("__debug__" : Str)) = false := by decide)
    (he : starEach [e] X.env = (false, eval e X.env) :: starEach [] X.env := by rfl) (hpl : (backTo pos (starEach [] X.env)).any (·.1) = false := by rfl) : DE X E (.Call (.Name x p) [e] [] pos) (una f op) := by
  obtain ⟨t, pt, jt⟩ := ha
  obtain ⟨r, pr, jr⟩ := hc
  exact ⟨_, pe_callB pr hg hm hv (pa_cons pt pa_nil he) hn hdb he hpl, fun i F0 H0 F H σ δ s Q S q => jt.use S q fun d s1 v F1 H1 e0 x1 S1 r1 q1 => jr i s1 F1 H1 v d Q S1.wf r1 q1⟩
theorem de_t1 {T : String} {x : Str} {p : Pos} {f : List Sl → M Dt} {op : Dt → M R} (hc : CallD X E (.type T) op) (ha : DV X E e f) (hm : X.mg x = none) (hv : bootBuiltins x = some (.type T) := by decide +kernel) (hg : Gl X x := by rfl) (hn : x ≠ "__name__" := by decide) (hdb : (x == ("__debug__" : Str)) = false := by decide)
    (he : starEach [e] X.env = (false, eval e X.env) :: starEach [] X.env := by rfl) (hpl : (backTo pos (starEach [] X.env)).any (·.1) = false := by rfl) : DE X E (.Call (.Name x p) [e] [] pos) (una f op) := by
  obtain ⟨t, pt, jt⟩ := ha
  obtain ⟨r, pr, jr⟩ := hc
  exact ⟨_, pe_callTy pr hg hm hv (pa_cons pt pa_nil he) hn hdb he hpl, fun i F0 H0 F H σ δ s Q S q => jt.use S q fun d s1 v F1 H1 e0 x1 S1 r1 q1 => jr i s1 F1 H1 v d Q S1.wf r1 q1⟩
theorem cd_len : CallD X E (.builtin "len") lenD := by
  refine ⟨_, call_len_seq.or call_len_str, fun i s F H x a Q W v q => ?_⟩
  cases a <;> first | exact q.elim | skip
  · obtain ⟨h, q⟩ := ok_if q
    exact .inr ⟨_, by rw [v.str], le_line h, q _ F H (.refl W.fh) W.mr rfl⟩
  · obtain ⟨p, vs, h0, h1, h2⟩ := v.tup
    exact .inl ⟨p, vs, by rw [h0], .inr (sqT_same W.fh h1), q _ F H (.refl W.fh) W.mr (by rw [h2.len]; rfl)⟩
  · obtain ⟨p, vs, h0, h1, h2⟩ := v.lst W.fh
    exact .inl ⟨p, vs, by rw [h0], .inl (SqL.of h1), q _ F H (.refl W.fh) W.mr (by rw [h2.len]; rfl)⟩
theorem cd_list : CallD X E (.type "list") listD := by
  refine ⟨_, call_list_of, fun i s F H x a Q W v q => ?_⟩
  cases a <;> first | exact q.elim | skip
  · obtain ⟨p, vs, h0, h1, h2⟩ := v.tup
    exact ⟨p, vs, by rw [h0], .inr (sqT_same W.fh h1), fun z hz => q _ _ _ (ext_new W.fh hz) (mr_new W.mr hz) ⟨z, _, rfl, upd_same, W.fh.free hz, hz, h2⟩⟩
  · obtain ⟨p, vs, h0, h1, h2⟩ := v.lst W.fh
    exact ⟨p, vs, by rw [h0], .inl (SqL.of h1), fun z hz => q _ _ _ (ext_new W.fh hz) (mr_new W.mr hz) ⟨z, _, rfl, upd_same, W.fh.free hz, hz, h2⟩⟩
theorem cd_tuple : CallD X E (.type "tuple") tupleD := by
  refine ⟨_, call_tuple_of, fun i s F H x a Q W v q => ?_⟩
  cases a <;> first | exact q.elim | skip
  · obtain ⟨p, vs, h0, h1, h2⟩ := v.tup
    exact ⟨p, vs, by rw [h0], .inr ⟨sqT_same W.fh h1, q _ F H (.refl W.fh) W.mr ⟨p, vs, rfl, h1, h2⟩⟩⟩
  · obtain ⟨p, vs, h0, h1, h2⟩ := v.lst W.fh
    exact ⟨p, vs, by rw [h0], .inl ⟨SqL.of h1, fun z hz => q _ _ _ (ext_newK W.fh hz) (mr_new W.mr hz) ⟨z, _, rfl, .inl (.inl upd_same), Reps.same (same_know (W.fh.free hz)) _ h2⟩⟩⟩
end
end DL
namespace LwE
open PySem PySem.Spec PyProof.Rows L2
structure OexG (K : PySem.W.Frag) (C : Addr) (newId : String) (bmB : List Value) : Prop where
  cls : ∃ nm q N bs bm sn sub ab col dd k0 k1 k2 k3 k5, K.lookup C = some (excClassObj nm q C N bs bm true sn sub ab col dd k0 k1 k2 k3 k5 newId) ∧
    (∀ self : Value, refuseLoop self "__setattr__" bm = pure ()) ∧ (∀ Y : String, bm.contains (.type Y) = bmB.contains (.type Y)) ∧ bm.contains (.type "object") = true
  sa : PySem.W.findIn K (.ref C) "__setattr__" = some (some (.builtin "object.__setattr__"))
  exC : PySem.W.subIn K (.ref C) (.type "BaseException") = some true
  tyC : PySem.W.typeIn K (.ref C) = some (.type "type")
  kC : PySem.W.keepIn K (.ref C) = true
abbrev bmV : List Value := [.type "ValueError", .type "Exception", .type "BaseException", .type "object"]
abbrev bmO : List Value := [.type "OverflowError", .type "ArithmeticError", .type "Exception", .type "BaseException", .type "object"]
theorem oexG_V {K : PySem.W.Frag} {C : Addr} (T : OexC K C) : OexG K C "ValueError.__new__" bmV := by
  obtain ⟨nm, q, N, bs, bm, sn, sub, ab, col, dd, k0, k1, k2, k3, k5, h, hb⟩ := T.cls
  exact ⟨⟨nm, q, N, bs, bm, sn, sub, ab, col, dd, k0, k1, k2, k3, k5, h, fun self => PySem.HandSPX.refsVE_pass self bm hb, fun Y => PySem.HandSPX.refsVE_contains Y bm hb, (PySem.HandSPX.refsVE_contains "object" bm hb).trans (by decide +kernel)⟩, T.sa, T.exC, T.tyC, T.kC⟩
section
open Builtin Builtin.ObjectAttr PySem.W PySem.HandSPX
variable {prog : Program} {w : World} {A : Around} {R : Result → Shared → Prop} {hp : Heap} {g : Array GenState} {d : Drawn} {t : Nat} {os : OsState} {K : Frag} {name : Str} {tk : Tok} {v : Value} {x C : Addr} {fv : Array Value} {cd : ClassData}
theorem first_field (X : K.In hp) (hx : hp.get? x = some { cls := .ref C, data := .fields fv }) (hcd : clsIn K C = some cd) (hpass : ∀ self : Value, refuseLoop self "__setattr__" cd.mro = pure ()) (hne : cd.mro.isEmpty = false) (hob : cd.mro.contains (.type "object") = true)
    (hh : cd.hasDict = true) (ha : findIn K (.ref C) name = some none)
    (hq : ∀ h' tk' dx, (∀ b o, b ≠ x → hp.get? b = some o → h'.get? b = some o) → hp.objs.size ≤ dx → dx ≠ x → h'.get? x = some { cls := .ref C, dict := some dx, data := .fields fv } → h'.Ns1 dx (fun y => if y = name then some v else none) → R (.ok (.ret .none)) ⟨h', g, d, tk', os⟩) :
    codeAny (model prog w) A (.call (.builtin "object.__setattr__") ⟨[.ref x, .str name tk, v], []⟩) R ⟨hp, g, d, t, os⟩ := by
  have inst : InstAt hp x { cls := .ref C, data := .fields fv } C none := ⟨hx, rfl, rfl, trivial⟩
  have far : hp.objs.size ≠ x := Nat.ne_of_gt (Heap.lt_size hx)
  have mro1 : mroIn K C (.type "object") = some true := by
    unfold mroIn
    rw [hcd, Option.bind_some, hne, hob]
    rfl
  have mro2 : Looks (model prog w) hp (mroOf (.ref C)) cd.mro := (looks_clsIn X hcd).andThen .now
  have cls2 : Looks (model prog w) hp (classData C) cd := looks_clsIn X hcd
  have taker : Looks (model prog w) hp (storeTaker? none) none := .now
  have S := F.store_object
  refine codeAny_call_builtin S.slot.plain S.entry (@check_slot (model prog w) _ _ ⟨hp, g, d, t, os⟩ _ _ _ (.ref x) [.str name tk, v] [] _ S.kind S.split (inst.type.andThen (looks_mroIn X mro1)) (S.args (.ref x) (.str name tk) v) ?_)
  rw [osa_eq, refuse_eq]
  refine wpAny_bind (wpAny_bind (inst.type.at (wpAny_bind (mro2.at ?_))))
  rw [hpass]
  refine wpAny_pure (wpAny_bind (inst.type.at (wpAny_bind ((looks_findIn X ha).at (wpAny_bind (taker.at ?_))))))
  change wpAny _ _ (storeInOwnDict (.ref x) (.ref C) (.str name tk) name v false) _ _ _
  obtain ⟨_, _, _, _, _, hd, _, _, _, _, _⟩ := cd
  obtain rfl : hd = true := hh
  unfold storeInOwnDict ownDictForStores
  repeat (first | with_reducible refine store_in_new ?_ ?_ | with_reducible refine wpAny_loadPart_at hx ?_ | with_reducible refine cls2.at ?_ | wp_step)
  · exact ⟨_, #[], _, (Heap.get?_update_ne _ _ _ _ far).trans (Heap.get?_push_at rfl rfl), rfl, fun e he => absurd he (by simp), fun _ => rfl⟩
  · intro h' tk' ns sb
    have keep : ∀ {b o}, b ≠ hp.objs.size → (hp.push { cls := .type "dict", data := .dict #[] }).get? b = some o → b ≠ x → h'.get? b = some o := fun {b o} n e nx => (sb.2 b n).trans ((Heap.get?_update_ne _ _ _ _ nx).trans e)
    refine hq h' tk' hp.objs.size (fun b o nx e => keep (Nat.ne_of_lt (Heap.lt_size e)) (Heap.get?_push_of_some _ e) nx) (Nat.le_refl _) far ?_ ns
    exact (sb.2 x far.symm).trans (Heap.get?_update_self _ (Heap.get?_push_of_some _ hx) rfl)
end
section
variable {X : Cx} {pins : List (Addr × Obj)} {σ : L2.St} {H : Hp} {s : Shared} {a C : Addr} {f : Str} {y : V} {u : Value} {newId : String} {bmB : List Value}
theorem note_first {Q : Unit → Shared → Prop} {E : Value → Shared → Prop} {A : Around} (hex : X.ex = []) (T : OexG X.K C newId bmB) (I : Inv X pins σ H s) (e : H a = some (exo a C none)) (hno : PySem.W.findIn X.K (.ref C) f = some none) (ry : RelV y u)
    (h : ∀ dx s', H dx = none → dx ≠ a → Inv X pins σ (upd (upd H dx (exd dx [(f, y)])) a (exo a C (some dx))) s' → Q () s') : wpAny (model X.prog X.w) A (setAttr (.ref a) f u) Q E s := by
  obtain ⟨nm, q, N, bs, bm, sn, sub, ab, col, dd, k0, k1, k2, k3, k5, hC, hpass, hcon, hob⟩ := T.cls
  have hcl : PySem.W.clsIn X.K C = some { name := nm, bases := bs, mro := .ref C :: bm, ns := N, qualname := q, hasDict := true, slotNames := sn, subclasses := sub, abstract := ab, collection := col, hasDel := false } := by
    unfold PySem.W.clsIn
    rw [hC] <;> rfl
  obtain ⟨t1, ho⟩ := exo_at I.hok e
  obtain ⟨hp, g, d, t, os⟩ := s
  refine PySem.W.set_plain I.kIn (od := none) ⟨ho, rfl, rfl, trivial⟩ T.sa (first_field I.kIn ho hcl (fun self => by rw [refuseLoop_ref]; exact hpass self) rfl (by rw [List.contains_cons, hob, Bool.or_true]) rfl hno fun h' tk' dx k dn dne hx hn => ?_)
  have hnd : H dx = none := I.hok.fresh dn
  have I1 : Inv X pins σ (upd H a (exo a C (some dx))) ⟨h', g, d, tk', os⟩ := I.write (t' := tk') (x := a) (e := a) (by rw [e]; exact True.intro) (.inl rfl) k ⟨_, hx⟩ (exo_ok hx)
  have old : ∀ {b o}, hp.get? b = some o → b ≠ dx := fun {b o} q => Nat.ne_of_lt (Nat.lt_of_lt_of_le (Heap.lt_size q) dn)
  have I2 : Inv X pins σ (upd (upd H a (exo a C (some dx))) dx (exd dx [(f, y)])) ⟨h', g, d, tk', os⟩ := by
    refine inv_track I1 (exd_ok hn (relO_put (fs := []) ry fun _ => True.intro)) (by rw [upd_ne dne]; exact hnd) ?_ (fun x c q => ?_) ?_ fun p hp' => ?_
    · obtain ⟨m, ⟨o, _, _, z, _⟩, _⟩ := I.loc
      exact (old z).symm
    · obtain ⟨w, o, z, _⟩ := I.cell x c q
      exact old z
    · cases z : X.s_0.heap.get? dx with
      | none => rfl
      | some o =>
        obtain ⟨o', z'⟩ := I.base.there dx o z (by rw [hex]; simp)
        exact absurd rfl (old z')
    · exact old (I.pin p hp').1
  refine h dx _ hnd dne ?_
  have sw : upd (upd H a (exo a C (some dx))) dx (exd dx [(f, y)]) = upd (upd H dx (exd dx [(f, y)])) a (exo a C (some dx)) := by
    funext b
    by_cases h1 : b = a
    · rw [h1, upd_same, upd_ne dne.symm, upd_same]
    · by_cases h2 : b = dx
      · rw [h2, upd_same, upd_ne dne, upd_same]
      · rw [upd_ne h2, upd_ne h1, upd_ne h1, upd_ne h2]
  rw [sw] at I2
  exact I2
def tNote (K : PySem.W.Frag) (f : Str) (to te : TE) : TS := fun D σ H => te σ H fun y H1 => to σ H1 fun x H2 => ∃ (a C : Addr) (newId : String) (bmB : List Value), x = .ref a ∧ OexG K C newId bmB ∧ PySem.W.findIn K (.ref C) f = some none ∧ H2 a = some (exo a C none) ∧
  ∀ dx, H2 dx = none → dx ≠ a → D.nx σ (upd (upd H2 dx (exd dx [(f, y)])) a (exo a C (some dx)))
theorem ps_note {o e : Expr} {to te : TE} {p' pos : Pos} (hex : X.ex = []) (ho : PE X o to) (he : PE X e te) (hs : swapsWith e (some (.Attribute o f p')) pos.line X.env = pure false := by rfl) : PS X (.Assign [.Attribute o f p'] e pos) (tNote X.K f to te) := by
  constructor
  intro pins s σ H D I h
  refine plainObj_wpAny_Assign_Attribute (thn (he.run pins s σ H _ I h) fun v s1 ⟨y, H1, I1, r1, q1⟩ => thn (ho.run pins s1 σ H1 _ I1 q1) fun u s2 ⟨x, H2, I2, r2, a, C, newId, bmB, ex, T, hno, ea, q⟩ => ?_) hs
  subst ex
  obtain rfl : u = Value.ref a := r2
  exact note_first hex T I2 ea hno r1 fun dx s' n ne J => ⟨σ, _, J, q dx n ne⟩
theorem pmk_note {B initId : String} {CX : CXT} {x : Str} {fI : Addr} {k : Nat} {fd : FuncData} {ps : List Str} {sp : Sp} {e : Expr} {es : List Expr} {ta : TA} {p pos : Pos} (Fa : ExcBaseFacts B newId initId bmB) (T : OexG X.K C newId bmB)
    (iC : PySem.W.findIn X.K (.ref C) "__init__" = some (some (.ref fI))) (tI : PySem.W.typeIn X.K (.ref fI) = some (.type "function")) (F1 : FnOk X.prog X.w X.K X.mg X.base CX k fI fd ps sp) (hr : Room (k + 1) X.A) (hb : Binds X.K fd ps [])
    (hx : Passes CX X (fun _ _ _ => False)) (hg : Gl X x) (hm : X.mg x = some (.ref C)) (ha : PA X (e :: es) ta) (hdb : (x == ("__debug__" : Str)) = false := by decide)
    (he : starEach (e :: es) X.env = (false, eval e X.env) :: starEach es X.env := by rfl) (hpl : (backTo pos (starEach es X.env)).any (·.1) = false := by rfl) :
    PMk X (.Call (.Name x p) (e :: es) [] pos) (tMkO C sp [] ta) := by
  intro pins s σ H Q I h
  obtain ⟨nm, q, N, bs, bm, sn, sub, ab, col, dd, k0, k1, k2, k3, k5, hC, hpass, hcon, hob⟩ := T.cls
  refine wpAny_Call_Name_kw (ld_glob I hg hm (PySem.W.callWith_K (h₀ := X.base) I.ok.mod.kin T.kC (thn (ha.run pos pins s σ H _ I h) fun us s1 ⟨vs, H1, I1, r1, hz, q1⟩ => ⟨I1.kIn, ?_⟩) he hpl) hdb)
  obtain ⟨hp, g, dr, tk, os⟩ := s1
  have keep : ∀ b o, hp.get? b = some o → ((hp.push (PySem.W.kdv_tup us)).push (PySem.HandSPX.excO C hp.objs.size)).get? b = some o := fun b o e => Heap.get?_push_of_some _ (Heap.get?_push_of_some _ e)
  have here : ((hp.push (PySem.W.kdv_tup us)).push (PySem.HandSPX.excO C hp.objs.size)).get? (hp.objs.size + 1) = some (PySem.HandSPX.excO C hp.objs.size) := by heap_get
  have hn : H1 (hp.objs.size + 1) = none := I1.hok.fresh (Nat.le_succ _)
  have sp1 := q1 _ hn
  have I2 := I1.laid (t' := tk) (o := exo (hp.objs.size + 1) C none) keep (Nat.le_succ _) (exo_ok here)
  have len : us.length ≤ sizeLine := by
    rw [← Paired.length r1, sizeLine_eq]
    omega
  rw [List.append_nil] at sp1
  have r2 : Vals (V.ref (hp.objs.size + 1) :: vs) (Value.ref (hp.objs.size + 1) :: us) := .cons rfl r1
  have lp : ((Value.ref (hp.objs.size + 1) :: us) ++ ([] : List Value)).length = ps.length := by
    rw [List.append_nil, ← r2.length]
    exact F1.len _ _ _ _ sp1
  have bd := hb _ (Value.ref (hp.objs.size + 1) :: us) I2.kIn lp
  rw [List.append_nil] at bd
  show wpAny _ _ (call (.ref C) us) _ _ _
  refine wpAny_call (PySem.HandSPX.call_own Fa hcon (I1.kIn _ _ hC) (PySem.W.looks_findIn I1.kIn iC) (fun self => PySem.W.bind_fn I1.kIn self tI) len
    (codeAny_mono (F1.run _ X.stack _ _ ⟨Value.ref (hp.objs.size + 1) :: us, []⟩ _ _ _ (fun _ _ _ => False) (hr.make C us []) (I2.env0.make C us []) bd r2 sp1) fun r s' hq => ?_))
  cases r with
  | error er => exact hx pins σ _ _ er s' I2 hq
  | ok fl =>
    cases fl with
    | ret u =>
      obtain ⟨v, H2, os2, bare2, un2, hok2, rv, ev, d, fs, ea, ed, hd1, q2⟩ := hq
      subst ev
      obtain ⟨h2, g2, d2, t2, os'⟩ := s'
      exact ⟨rv, mk_end (raises_own T.exC T.tyC) I1 (Nat.le_succ _) keep un2 hok2 os2 bare2 ea ed hd1 q2⟩
    | next => exact hq.elim
    | brk => exact hq.elim
    | cont => exact hq.elim
end
end LwE
namespace DL
open PySem L2 LwE
section
variable {P : Program} {w : World} {K : PySem.W.Frag} {mg : Str → Option Value} {base : Heap}
def spENote (C : Addr) (f : Str) : Sp := fun vs H Q _ => ∃ (a : Addr) (x : V), vs = [.ref a, x] ∧ H a = some (exo a C none) ∧ ∀ dx, H dx = none → dx ≠ a → Q .non (upd (upd H dx (exd dx [(f, x)])) a (exo a C (some dx)))
theorem raise_read {C : Addr} {f : Str} {H : Hp} {x : V} {Q : XK} (h : ∀ d, H d = none → Q (.ref C) (some d) (upd H d (.xd [(f, x)]))) : [x].length ≤ 1000 ∧ ∀ a, H a = none → spENote C f (.ref a :: ([x] ++ [])) (upd H a (exo a C none))
    (fun v H2 => v = .non ∧ ∃ (d : Addr) (fs : List (Str × V)), H2 a = some (exo a C (some d)) ∧ H2 d = some (exd d fs) ∧ H d = none ∧ Q (.ref C) (some d) (upd (del H2 a) d (.xd fs))) (fun _ _ _ => False) := by
  refine ⟨by show 1 ≤ 1000; decide, fun a ha => ⟨a, x, rfl, upd_same, fun dx hdx ne => ⟨rfl, dx, [(f, x)], upd_same, ?_, ?_, ?_⟩⟩⟩
  · rw [upd_ne ne, upd_same]
  · rw [upd_ne ne] at hdx
    exact hdx
  · have hd : H dx = none := by
      rw [upd_ne ne] at hdx
      exact hdx
    have e : upd (del (upd (upd (upd H a (exo a C none)) dx (exd dx [(f, x)])) a (exo a C (some dx))) a) dx (.xd [(f, x)]) = upd H dx (.xd [(f, x)]) := by
      funext b
      by_cases h1 : b = dx
      · rw [h1, upd_same, upd_same]
      · rw [upd_ne h1, upd_ne h1]
        by_cases h2 : b = a
        · rw [h2, del_same, ha]
        · rw [del_ne h2, upd_ne h2, upd_ne h1, upd_ne h2]
    rw [e]
    exact h dx hd
structure Er (P : Program) (w : World) (K : PySem.W.Frag) (mg : Str → Option Value) (base : Heap) (x : Str) (C : Addr) (B newId initId : String) (bmB : List Value) (f : Str) (fI : Addr) (dI : FuncData) : Prop where
  Fa : ExcBaseFacts B newId initId bmB
  T : OexG K C newId bmB
  g : mg x = some (.ref C)
  iC : PySem.W.findIn K (.ref C) "__init__" = some (some (.ref fI))
  tI : PySem.W.typeIn K (.ref fI) = some (.type "function")
  ok : FnOk P w K mg base CX0 1 fI dI ["self", f] (spENote C f)
  b : Binds K dI ["self", f] []
theorem pass00 {X : Cx} : Passes CX0 X (fun _ _ _ => False) := fun _ _ _ _ _ _ _ h => h.elim
theorem ok_note {fI C : Addr} {dI : FuncData} {st : Stmt} {q x newId : String} {qual fld : Str} {bm : List Value} (F : Fun K "__init__" qual st fI dI) (T : OexG K C newId bm) (no : PySem.W.findIn K (.ref C) fld = some none) (sc : FnScope ["self", fld] ["self", fld] (defScope st))
    (hb : ∀ (cdv : Value) (A : Around) (outer : List Env) (s : Shared) (H : Hp) (E : XK), ∃ t, PSs (cxOf CX0 P w K mg base ["self", fld] qual (defScope st) fI cdv A outer s H E).nox (defBody st) t ∧ ∀ D σ H1, tNote K fld (tVar 0) (tVar 1) D σ H1 → t D σ H1) :
    FnOk P w K mg base CX0 1 fI dI ["self", fld] (spENote C fld) := by
  refine F.ok sc (fun vs H Q E h => ?_) (fun cdv A outer s H vs Q E hr h => ?_)
  · obtain ⟨a, x, rfl, _⟩ := h
    rfl
  · obtain ⟨a, x, rfl, ha, k⟩ := h
    obtain ⟨t, pt, jt⟩ := hb cdv A outer s H E
    exact ⟨t, pt, jt _ _ _ ⟨_, rfl, _, rfl, a, C, _, _, rfl, T, no, ha, fun dx h1 h2 => k dx h1 h2⟩⟩
end
end DL
namespace DL
open PySem PySem.Spec PyProof.Rows L2 LwE
structure RsD (P : Program) (w : World) (K : PySem.W.Frag) (mg : Str → Option Value) (base : Heap) (x : Str) (C : Addr) (fld : Str) : Prop where
  ex : ∃ B newId initId bm fI dI, Er P w K mg base x C B newId initId bm fld fI dI
def gRaise (tag : Nat) (C : Addr) (fld : Str) (f : List Sl → M R) : List Sl → M Fl := fun δ => M.bnd (f δ) fun r => M.rse ⟨tag, C, some (fld, r.d)⟩
section
variable {X : Cx} {E : XK} {a b c e : Expr} {es : List Expr} {pos : Pos}
theorem ds_raise (tag : Nat) {x : Str} {C : Addr} {fld : Str} {f : List Sl → M R} {p p2 : Pos} (hc : X.calm = true) (T : RsD X.prog X.w X.K X.mg X.base x C fld) (tk : Takes X fun cls d _ H => E cls d H) (hr : Room 2 X.A) (he : DE X E e f) (hg : Gl X x := by rfl) (hdb : (x == ("__debug__" : Str)) = false := by decide)
    (hst : starEach [e] X.env = (false, eval e X.env) :: starEach [] X.env := by rfl) (hpl : (backTo p2 (starEach [] X.env)).any (·.1) = false := by rfl) : DS X E (.Raise (some (.Call (.Name x p) [e] [] p2)) none pos) (gRaise tag C fld f) := by
  obtain ⟨B, newId, initId, bm, fI, dI, R⟩ := T.ex
  obtain ⟨t, pt, jt⟩ := he
  refine ⟨_, ps_raise hc tk (pmk_note R.Fa R.T R.iC R.tI R.ok hr R.b pass00 hg R.g (pa_cons pt pa_nil hst) hdb hst hpl), fun i F0 H0 F H σ δ s D S q => jt.useSR S q fun r s1 v F1 H1 x1 S1 r1 q1 => ?_⟩
  exact raise_read fun d hd => q1 F1 H1 S1.base S1.wf.mr v d r1 hd
def Sl.isIns : Sl → Bool
  | .ins _ _ _ => true
  | _ => false
def oneIns (k : Nat) (δ : List Sl) : Bool := (δ.set k .non).all fun x => !x.isIns
theorem oneIns_of {k j : Nat} {δ : List Sl} {C : Addr} {ns : List Str} {l : List Dt} (h : oneIns k δ = true) (hj : j ≠ k) (e : δ[j]? = some (.ins C ns l)) : False := by
  unfold oneIns at h
  rw [List.all_eq_true] at h
  have : Sl.ins C ns l ∈ δ.set k .non := List.mem_of_getElem? (i := j) (by rw [List.getElem?_set_ne (fun z => hj z.symm)]; exact e)
  have := h _ this
  cases this
def gFld (k : Nat) (C : Addr) (f : Str) (fe : List Sl → M R) : List Sl → M Fl := fun δ => match δ[k]? with
  | some (.ins C' ns l) => if C' = C ∧ ns.contains f = false ∧ ns.length < 100 ∧ oneIns k δ = true then M.bnd (fe δ) fun r => M.ret (.nx (δ.set k (.ins C' (ns ++ [f]) (l ++ [r.d])))) else M.no
  | _ => M.no
theorem putF_new {f : Str} {v : V} : ∀ {gs : List (Str × V)}, f ∉ gs.map Prod.fst → putF f v gs = gs ++ [(f, v)]
  | [], _ => rfl
  | (g, x) :: r, h => by
    have h1 : g ≠ f := fun e => h (by rw [e]; exact List.mem_cons_self ..)
    unfold putF
    rw [if_neg h1, putF_new fun m => h (List.mem_cons_of_mem _ m)]
    rfl
theorem Sinv.fld {K : PySem.W.Frag} {i : Ix} {F0 H0 F H : Hp} {σ : L2.St} {δ : List Sl} {s : MS} (S : Sinv K i F0 H0 F H σ δ s) {k : Nat} {C : Addr} {ns : List Str} {l : List Dt} {p dx : Addr} {gs : List (Str × V)} {f : Str} {d : Dt} {v : V} (hk : δ[k]? = some (.ins C ns l)) (hσ : σ[k]? = some (some (.ref p)))
    (hp : H p = some (.ins C dx gs)) (hd : Rep K i F d v) (hn : ns.contains f = false) (hl : ns.length < 100) (h1i : oneIns k δ = true) : Sinv K i F0 H0 F (upd H p (.ins C dx (putF f v gs))) σ (δ.set k (.ins C (ns ++ [f]) (l ++ [d]))) s := by
  obtain ⟨p', dx', gs', e1, h1, h2, h3, h4, h5, h6, h7⟩ := S.ins k C ns l hk
  rw [hσ] at e1
  cases e1
  rw [hp] at h1
  cases h1
  have hkl : k < δ.length := (List.getElem?_eq_some_iff.mp hk).1
  have ne : ∀ {b o}, F b = some o → b ≠ p := fun e => ne_of_none e h2
  have nf : f ∉ gs.map Prod.fst := fun m => by
    rw [h5] at m
    rw [List.contains_iff_mem.mpr m] at hn
    cases hn
  have mr : MR i s (upd H p (.ins C dx (putF f v gs))) := by
    have m := S.wf.mr
    have n1 : ∀ {b}, G i b → b ≠ p := fun gb (z : _ = p) => h4 (z ▸ gb)
    refine ⟨by rw [upd_ne (n1 (.inl rfl))]; exact m.hm, by rw [upd_ne (n1 (.inr (.inr (.inl rfl))))]; exact m.hc, by rw [upd_ne (n1 (.inr (.inl rfl)))]; exact m.hg, m.cc, m.gl, m.ne, m.n0, fun q hq => ?_, m.tq⟩
    obtain ⟨ps, z1, z2, z3⟩ := m.tb q hq
    refine ⟨ps, by rw [upd_ne (n1 (.inr (.inr (.inr ⟨q, hq, rfl⟩))))]; exact z1, z2, fun pos cv hc => ?_⟩
    obtain ⟨c, y1, y2⟩ := z3 pos cv hc
    refine ⟨c, y1, ?_⟩
    have : c ≠ p := fun z => by
      subst z
      rw [hp] at y2
      cases y2
    rw [upd_ne this]
    exact y2
  refine ⟨⟨S.base.ff, fun b o e => by rw [upd_ne (ne e)]; exact S.base.fh _ _ e, fun b o e g => by rw [upd_ne (ne_of_none e h3)]; exact S.base.sb _ _ e g, S.base.nw, fun b e => ?_⟩,
    ⟨fun b o e => by rw [upd_ne (ne e)]; exact S.wf.fh _ _ e, S.wf.gf, mr⟩, by rw [List.length_set]; exact S.len, fun j d e => ?_, fun j m e => ?_, fun j C' ns' m e => ?_, fun j j' m m' q hne e e' hq => ?_, S.nst.to (Same.refl _) (fun j ls e => by
      have := nst_set (σ := σ) (v := none) (by intro ls z; cases z) j ls e
      exact ⟨this.1, rfl⟩) fun j ls p2 as e1' e2' A O => ⟨fun b hb => ⟨upd_ne (fun (z : b = p) => by
        obtain ⟨vs, h⟩ := A.lst b hb
        rw [z, hp] at h
        cases h), (A.fr b hb).1, (A.fr b hb).2.1⟩, fun j' m q ej eq hq => by
      by_cases hj : j' = k
      · subst hj
        rw [List.getElem?_set_self hkl] at ej
        cases ej
      · rw [List.getElem?_set_ne (fun z => hj z.symm)] at ej
        exact O j' m q ej eq hq⟩⟩
  · by_cases hb : b = p
    · rw [hb, upd_same]; exact fun z => nomatch z
    · rw [upd_ne hb]; exact S.base.al b e
  · by_cases hj : j = k
    · subst hj
      rw [List.getElem?_set_self hkl] at e
      cases e
    · rw [List.getElem?_set_ne (fun z => hj z.symm)] at e
      exact S.slot j d e
  · by_cases hj : j = k
    · subst hj
      rw [List.getElem?_set_self hkl] at e
      cases e
    · rw [List.getElem?_set_ne (fun z => hj z.symm)] at e
      obtain ⟨q, us, g1, g2, g3⟩ := S.own j m e
      have : q ≠ p := fun z => by
        subst z
        rw [hp] at g2
        cases g2
      exact ⟨q, us, g1, by rw [upd_ne this]; exact g2, g3⟩
  · by_cases hj : j = k
    · subst hj
      rw [List.getElem?_set_self hkl] at e
      cases e
      refine ⟨p, dx, _, hσ, upd_same, h2, h3, h4, ?_, ?_, ?_⟩
      · rw [putF_new nf, List.map_append, h5]
        rfl
      · rw [putF_new nf, List.length_append, List.length_singleton]
        have : gs.length = ns.length := by rw [← h5, List.length_map]
        omega
      · rw [putF_new nf, List.map_append]
        exact ⟨h7.1.append (.cons hd .nil), h7.2⟩
    · rw [List.getElem?_set_ne (fun z => hj z.symm)] at e
      exact (oneIns_of h1i hj e).elim
  · have look : ∀ {j : Nat} {m : List Dt}, (δ.set k (.ins C (ns ++ [f]) (l ++ [d])))[j]? = some (.own m) → δ[j]? = some (.own m) := by
      intro j m e
      by_cases hj : j = k
      · subst hj
        rw [List.getElem?_set_self hkl] at e
        cases e
      · rw [List.getElem?_set_ne (fun z => hj z.symm)] at e
        exact e
    exact S.sep j j' m m' q hne (look e) (look e') hq
theorem ds_fld (k : Nat) {C : Addr} {f : Str} {fe : List Sl → M R} {o : Expr} {pos' : Pos} (h : ∀ t, PE X e t → PS X (.Assign [.Attribute o f pos'] e pos) (sFld X.K (tVar k) t f)) (cl : Cls X.K C) (na : NoAttr X.K C f) (he : DE X E e fe) : DS X E (.Assign [.Attribute o f pos'] e pos) (gFld k C f fe) := by
  obtain ⟨t, pt, jt⟩ := he
  refine ⟨_, h t pt, fun i F0 H0 F H σ δ s D S q => ?_⟩
  unfold gFld at q
  cases hk : δ[k]? with
  | none => rw [hk] at q; exact q.elim
  | some z =>
    rw [hk] at q
    cases z with
    | val d => exact q.elim
    | non => exact q.elim
    | own l => exact q.elim
    | nst ls => exact q.elim
    | ins C' ns l =>
      replace q : OkS X.K i E F0 H0 D ((if C' = C ∧ ns.contains f = false ∧ ns.length < 100 ∧ oneIns k δ = true then M.bnd (fe δ) fun r => M.ret (.nx (δ.set k (.ins C' (ns ++ [f]) (l ++ [r.d])))) else M.no) s) := q
      obtain ⟨⟨h1, h2, h3, h4⟩, q2⟩ := oks_if q
      clear q
      subst h1
      refine jt.useSR S q2 fun r s1 v F1 H1 x1 S1 r1 q1 => ?_
      obtain ⟨p, dx, gs, e1, g1, g2, g3, g4, g5, g6, g7⟩ := S1.ins k C' ns l hk
      exact ⟨_, e1, p, C', dx, gs, rfl, g1, cl, na, by omega, q1 _ F1 _ (S1.fld hk e1 g1 r1 h2 h3 h4)⟩
end
def OkI (K : PySem.W.Frag) (i : Ix) (E : XK) (F Hp : L2.Hp) (x : Addr) (Q : VK) : Rs R → Prop
  | .ok r s' => ∃ C ns l, r = .val (.obj C ns l) ∧ ∀ F' H' dx gs, Ext i F Hp F' H' → MR i s' H' → H' x = some (.ins C dx gs) → F' x = none → gs.map Prod.fst = ns → Reps K i F' l (gs.map Prod.snd) → Q .non H'
  | .ex e s' => ∀ F' H', Ext i F Hp F' H' → MR i s' H' → ExOk K i E F' H' e
  | .no => False
def spI (K : PySem.W.Frag) (C : Addr) (n : Nat) (sem : List Dt → M R) : Sp := fun vs H Q E => ∃ i F s ds x dx us Hp, vs = .ref x :: us ∧ H = upd (upd Hp dx (.own x)) x (.ins C dx []) ∧ Hp x = none ∧ Hp dx = none ∧ dx ≠ x ∧ i.o = x ∧ Wf i s F Hp ∧ Reps K i F ds us ∧ ds.length + 1 = n ∧ OkI K i E F Hp x Q (sem ds s)
structure MkD (P : Program) (w : World) (K : PySem.W.Frag) (mg : Str → Option Value) (base : Heap) (x : Str) (C : Addr) (ps : List Str) (k : Nat) (sem : List Dt → M R) : Prop where
  g : mg x = some (.ref C)
  ex : ∃ f fd, Mk K C f ∧ Binds K fd ps [] ∧ FnX P w K mg base (L2.CX P w) k f fd ps (spI K C ps.length sem)
theorem sinv_init {K : PySem.W.Frag} {i : Ix} {F Hp : L2.Hp} {s : MS} {C : Addr} {ds : List Dt} {us : List V} {x dx : Addr} (W : Wf i s F Hp) (r : Reps K i F ds us) (hx : Hp x = none) (hdx : Hp dx = none) (ne : dx ≠ x) (ho : i.o = x) (N : List Str) :
    Sinv K i F Hp F (upd (upd Hp dx (.own x)) x (.ins C dx [])) (L2.start N (.ref x :: us)) (.ins C [] [] :: (ds.map Sl.val ++ List.replicate (N.length - (ds.length + 1)) .non)) s := by
  have s1 : Same Hp (upd (upd Hp dx (.own x)) x (.ins C dx [])) := (same_know hdx).trans (same_know (by rw [upd_ne ne.symm]; exact hx))
  have look : ∀ {j : Nat} {y : Sl}, (Sl.ins C [] [] :: (ds.map Sl.val ++ List.replicate (N.length - (ds.length + 1)) Sl.non))[j]? = some y → (j = 0 ∧ y = .ins C [] []) ∨ (∃ m d, j = m + 1 ∧ y = .val d ∧ ds[m]? = some d) ∨ y = .non := by
    intro j y e
    cases j with
    | zero => cases e; exact .inl ⟨rfl, rfl⟩
    | succ m =>
      rw [List.getElem?_cons_succ, List.getElem?_append] at e
      split at e
      · rw [List.getElem?_map] at e
        obtain ⟨d, e1, e2⟩ := Option.map_eq_some_iff.mp e
        exact .inr (.inl ⟨m, d, rfl, e2.symm, e1⟩)
      · rw [List.getElem?_replicate] at e
        split at e
        · exact .inr (.inr (Option.some.inj e).symm)
        · cases e
  refine ⟨.same W.fh s1, ⟨W.fh.trans s1, W.gf, W.mr.sm s1⟩, ?_, fun j d e => ?_, fun j l e => ?_, fun j C' ns l e => ?_, fun j j' l m p hne e => ?_, .none fun j ls e => by rcases look e with ⟨_, e1⟩ | ⟨m, d', _, e1, e2⟩ | e1 <;> cases e1⟩
  · unfold L2.start
    simp only [List.length_append, List.length_map, List.length_replicate, List.length_cons, r.len]
    omega
  · rcases look e with ⟨_, e1⟩ | ⟨m, d', rfl, e1, e2⟩ | e1
    · cases e1
    · cases e1
      obtain ⟨v, g1, g2⟩ := r.get e2
      refine ⟨v, ?_, g2⟩
      unfold L2.start
      rw [List.map_cons, List.cons_append, List.getElem?_cons_succ, List.getElem?_append_left (by rw [List.length_map]; exact (List.getElem?_eq_some_iff.mp g1).1), List.getElem?_map, g1]
      rfl
    · cases e1
  · rcases look e with ⟨_, e1⟩ | ⟨m, d', rfl, e1, e2⟩ | e1 <;> cases e1
  · rcases look e with ⟨rfl, e1⟩ | ⟨m, d', rfl, e1, e2⟩ | e1
    · cases e1
      exact ⟨x, dx, [], rfl, upd_same, W.fh.free hx, hx, W.off hx, rfl, by decide, rfl, ho.symm⟩
    · cases e1
    · cases e1
  · rcases look e with ⟨_, e1⟩ | ⟨m, d', rfl, e1, e2⟩ | e1 <;> cases e1
def selfD : Option Sl → M R
  | some (.ins C ns l) => M.ret (.val (.obj C ns l))
  | _ => M.no
def semI (C : Addr) (n : Nat) (g : List Sl → M Fl) (ds : List Dt) : M R := M.bnd (g (.ins C [] [] :: (ds.map Sl.val ++ List.replicate (n - (ds.length + 1)) .non))) fun
  | .nx δ => selfD δ[0]?
  | _ => M.no
section
variable {P : Program} {w : World} {K : PySem.W.Frag} {mg : Str → Option Value} {base : Heap}
theorem fnI_of {C : Addr} {x qual : Str} {st : Stmt} {f : Addr} {fd : FuncData} {N ps : List Str} {k : Nat} {g : List Sl → M Fl} (F : Fun K x qual st f fd) (S : FnScope N ps (defScope st))
    (hbody : ∀ (cdv : Value) (A : Around) (outer : List Env) (s : Shared) (H : Hp) (E : XK), PySem.W.codeIn K cdv qual = true → A.guards = some [] → Room k (A.deeper (PyProof.Rows.envOfC qual (defScope st) s.heap.objs.size f cdv)) → DSs (cxOf (L2.CX P w) P w K mg base N qual (defScope st) f cdv A outer s H E) E (defBody st) g) :
    FnX P w K mg base (L2.CX P w) (k + 1) f fd ps (spI K C ps.length (semI C N.length g)) := by
  refine okX F S (fun vs H Q E ⟨i, F, s, ds, x, dx, us, Hp, e1, e2, e3, e4, e5, e6, W, r, hl, q⟩ => by rw [e1, List.length_cons, r.len]; exact hl) (fun cdv A outer s H vs Q E hcd hg hr ⟨i, F, s', ds, x, dx, us, Hp, e1, e2, e3, e4, e5, e6, W, r, hl, q⟩ => ?_)
  obtain ⟨t, pt, jt⟩ := hbody cdv A outer s H E hcd hg hr
  subst e1 e2
  refine ⟨t, pt, jt i F Hp F _ _ _ s' _ (sinv_init W r e3 e4 e5 e6 N) ?_⟩
  unfold semI M.bnd at q
  cases e : g (.ins C [] [] :: (ds.map Sl.val ++ List.replicate (N.length - (ds.length + 1)) .non)) s' with
  | no => rw [e] at q; exact q.elim
  | ex a b => rw [e] at q; exact q
  | ok fl s2 =>
    rw [e] at q
    cases fl with
    | nx δ =>
      intro σ' F' H' S'
      cases e0 : δ[0]? with
      | none => simp only [e0] at q; exact q.elim
      | some z =>
        simp only [e0] at q
        cases z with
        | val d => exact q.elim
        | non => exact q.elim
        | own l => exact q.elim
        | nst ls => exact q.elim
        | ins C' ns l =>
          obtain ⟨C2, ns2, l2, y1, y2⟩ := q
          cases y1
          obtain ⟨p, dx', gs, g1, g2, g3, g4, g5, g6, g7, g8, g9⟩ := S'.ins 0 _ _ _ e0
          rw [e6] at g9
          subst g9
          exact y2 F' H' dx' gs S'.base S'.wf.mr g2 g3 g6 g8
    | ret r => exact q.elim
    | bk δ => exact q.elim
    | ct δ => exact q.elim
end
end DL
namespace Lw
open PySem L2
def top (i : Nat) : Stmt := PySem.Challenge.pw_liftwords_k02_words_as_rows.main.body.getD i (.Pass ⟨0, 0, 0, 0⟩)
abbrev sMixed : Stmt := top 28
abbrev sFolded : Stmt := top 29
abbrev sDraw : Stmt := top 30
abbrev sBegun : Stmt := top 31
abbrev sHeard : Stmt := top 35
structure Bare (mg : Str → Option Value) : Prop where
  isinstance : mg "isinstance" = none
  int : mg "int" = none
  bool : mg "bool" = none
  list : mg "list" = none
  tuple : mg "tuple" = none
  len : mg "len" = none
  range : mg "range" = none
  enumerate : mg "enumerate" = none
  sorted : mg "sorted" = none
  min : mg "min" = none
  repr : mg "repr" = none
  any : mg "any" = none
  max : mg "max" = none
  abs : mg "abs" = none
  zip : mg "zip" = none
  ve : mg "ValueError" = none
  str : mg "str" = none
  sum : mg "sum" = none
  all : mg "all" = none
  dict : mg "dict" = none
structure Df (K : PySem.W.Frag) (mg : Str → Option Value) (x : Str) (st : Stmt) (f : Addr) (fd : FuncData) : Prop where
  fn : Fun K x x st f fd
  g : mg x = some (.ref f)
end Lw
namespace LwE
open PySem PySem.Spec PyProof.Rows L2
theorem lc_zipL {K : PySem.W.Frag} {a b : Addr} {xs ys : List V} {g : TG} {tt : TT} {te : TE} {vs : List Nat} {σ : L2.St} {H1 : Hp} {D : Addr} {Qd : Hp → Prop} (hlen : xs.length = ys.length) (Pv : Nat → Hp → Prop) (h0 : Pv 0 (upd H1 D (.lst [])))
    (hl : ∀ i H, i ≤ xs.length → Pv i H → SqL K H a xs ∧ SqL K H b ys)
    (hs : ∀ i x y T H, xs[i]? = some x → ys[i]? = some y → Pv i H → H T = none → g (.ref T) (wipe σ vs) (upd H T (.tup [x, y])) fun σ2 H2 => wipe σ2 vs = wipe σ vs ∧ tt σ2 H2 fun b H3 =>
      if b = true then te σ2 H3 fun y H4 => ∃ acc, H4 D = some (.lst acc) ∧ acc.length < sizeLine ∧ Pv (i + 1) (upd H4 D (.lst (acc ++ [y]))) else Pv (i + 1) H3) (hd : ∀ H, Pv xs.length H → Qd H) :
    ∃ W : Nat → Nat → Hp → Prop, (∃ m, W 0 m (upd H1 D (.lst []))) ∧ ∀ i m H, W i m H →
      ((Itz K a b).stop i H ∧ Qd H) ∨ ((Itz K a b).go i H ∧ ∃ Nx : Hp → Prop, (∀ H', Nx H' → ∃ m', m' < m ∧ W (i + 1) m' H') ∧ ∀ x H', (Itz K a b).yld i H x H' → g x (wipe σ vs) H' fun σ2 H2 => wipe σ2 vs = wipe σ vs ∧ tt σ2 H2 fun b H3 =>
        if b = true then te σ2 H3 fun y H4 => ∃ acc, H4 D = some (.lst acc) ∧ acc.length < sizeLine ∧ Nx (upd H4 D (.lst (acc ++ [y]))) else Nx H3) := by
  refine ⟨fun i m H => m + i = xs.length ∧ Pv i H, ⟨xs.length, Nat.add_zero _, h0⟩, fun i m H ⟨hm, p⟩ => ?_⟩
  obtain ⟨q1, q2⟩ := hl i H (by omega) p
  cases m with
  | zero =>
    have e : i = xs.length := by omega
    rw [e] at p
    exact .inl ⟨⟨xs, ys, q1, q2, .inl (by omega)⟩, hd H p⟩
  | succ m =>
    have h1 : i < xs.length := by omega
    refine .inr ⟨⟨xs, ys, xs[i], ys[i]'(by omega), q1, q2, List.getElem?_eq_getElem h1, List.getElem?_eq_getElem (by omega)⟩, Pv (i + 1), fun H' p' => ⟨m, Nat.lt_succ_self m, by omega, p'⟩, fun v H' y => ?_⟩
    obtain ⟨T, x, z, rfl, hT, rfl, y1, y2⟩ := y
    exact hs i x z T H (y1 xs q1) (y2 ys q2) p hT
theorem takes_len {X : Cx} {W : WX} (t : Takes X W) : Takes X fun c d σ H => σ.length = X.N.length → W c d σ H := fun u s' ⟨a, B, sI, pins, σ, H, cls, d, e, I, nb, up, sky, na, os, ag, w⟩ =>
  t u s' ⟨a, B, sI, pins, σ, H, cls, d, e, I, nb, up, sky, na, os, ag, w I.len⟩
theorem pe_weak {X : Cx} {e : Expr} {te : TE} (he : PE X e te) : PE X e fun σ H Q => ∃ Qm : VK, te σ H Qm ∧ ∀ v H', Qm v H' → Q v H' :=
  ⟨fun pins s σ H Q I ⟨Qm, h, i⟩ => wpAny_mono (he.run pins s σ H Qm I h) (fun u s1 ⟨v, H1, I1, r, q⟩ => ⟨v, H1, I1, r, i _ _ q⟩) fun _ _ z => z⟩
theorem sameN {H : Hp} {p : Addr} {o : HO} (h : H p = none) : Same H (upd H p o) := fun b u e => by
  rw [upd_ne (ne_of_none e h)]
  exact e
theorem look_one (f : Str) (v : V) : List.lookup f [(f, v)] = some v := by simp [List.lookup]
end LwE
namespace Lw
open PySem L2 LwE LamX
inductive Kd
  | size | letters | index | number | deed | table | move | shape | stuck | great | recd | osize | ohouse
  deriving DecidableEq
def Kd.word : Kd → Str
  | .size => "size" | .letters => "letters" | .index => "index" | .number => "number" | .deed => "deed" | .table => "table" | .move => "move" | .shape => "shape" | .stuck => "stuck" | .great => "great" | .recd => "recording" | .osize => "othersize" | .ohouse => "otherhouse"
def Kd.field : Kd → Str
  | .size => "value" | .letters => "place" | .index => "value" | .number => "value" | .deed => "place" | .table => "row" | .move => "place" | .shape => "value" | .stuck => "place" | .great => "most" | .recd => "" | .osize => "" | .ohouse => ""
def Kd.fl : Kd → Bool
  | .recd => false | .osize => false | .ohouse => false | _ => true
def Kd.ve : Kd → Bool
  | .stuck => false | .great => false | _ => true
structure Eca where
  lift : Addr
  of : Kd → Addr
structure Ec (K : PySem.W.Frag) (mg : Str → Option Value) (e : Eca) : Prop where
  isinstance : mg "isinstance" = none
  zip : mg "zip" = none
  len : mg "len" = none
  ve : mg "ValueError" = none
  lift : mg "LiftError" = some (.ref e.lift)
  size : mg "BadSize" = some (.ref (e.of .size))
  letters : mg "BadLetters" = some (.ref (e.of .letters))
  index : mg "BadIndex" = some (.ref (e.of .index))
  number : mg "BadNumber" = some (.ref (e.of .number))
  deed : mg "BadDeed" = some (.ref (e.of .deed))
  table : mg "BadTable" = some (.ref (e.of .table))
  move : mg "BadMove" = some (.ref (e.of .move))
  shape : mg "BadShape" = some (.ref (e.of .shape))
  recd : mg "BadRecording" = some (.ref (e.of .recd))
  osize : mg "OtherSize" = some (.ref (e.of .osize))
  ohouse : mg "OtherHouse" = some (.ref (e.of .ohouse))
  stuck : mg "Stuck" = some (.ref (e.of .stuck))
  great : mg "TooGreat" = some (.ref (e.of .great))
  K_ : HeldK K
structure Ek (K : PySem.W.Frag) (e : Eca) (k : Kd) : Prop where
  held : HeldC K (e.of k)
  no : k.fl = true → PySem.W.findIn K (.ref (e.of k)) k.field = some none
  exm : PySem.W.exmAny K (.ref (e.of k)) [.ref e.lift, .ref (e.of .stuck), .ref (e.of .great)] = some true
  is_ : ∀ k', PySem.W.kitOne K (.ref (e.of k)) (.ref (e.of k')) = some (decide (k = k'))
  ve : PySem.W.kitOne K (.ref (e.of k)) (.type "ValueError") = some k.ve
def Dk (H : Hp) (d : Option Addr) : Prop := ∀ dd, d = some dd → ∃ fs, H dd = some (.xd fs)
def rIsHeldO (K : PySem.W.Frag) : List V → Hp → VK → Prop := fun xs H Q => ∃ (a C : Addr) (d : Option Addr) (c : V) (u : Value) (b : Bool), xs = [.ref a, c] ∧ HeldC K C ∧ H a = some (ExK (.ref C) d a) ∧ Dk H d ∧ ClsV c u ∧
  PySem.W.kitOne K (.ref C) u = some b ∧ Q (.bl b) H
theorem call_isHeldO {X : Cx} (T : HeldK X.K) : CallR X (.builtin "isinstance") (rIsHeldO X.K) := by
  intro pins s σ H xs us Q I r h
  obtain ⟨a, C, d, c, u, b, rfl, Cl, ha, hd, k, e, q⟩ := h
  obtain ⟨u1, u2, rfl, r1, r2⟩ := vals2 r
  have e2 := k.eq r2
  subst e2
  obtain rfl : u1 = Value.ref a := r1
  have hcl : (PySem.W.clsIn X.K C).isSome = true := by
    obtain ⟨cd, hc, _⟩ := PySem.W.any_some Cl.hd
    rw [hc]
    rfl
  have J : ∃ oe od, PySem.W.InstAt s.heap a oe C od := by
    cases d with
    | none =>
      obtain ⟨oe, vs, ge, ze, de⟩ := exK_at I.hok ha
      exact ⟨oe, none, ge, ze.1, by unfold PySem.W.notCls; rw [de] <;> rfl, by rw [ze.2]; trivial⟩
    | some dd =>
      obtain ⟨fs, hd⟩ := hd dd rfl
      obtain ⟨oe, od, mA, J, _, _⟩ := held_inst I ha hd
      exact ⟨oe, some od, J⟩
  obtain ⟨oe, od, J⟩ := J
  exact PySem.W.kia_one (PySem.W.kitx_exc hcl Cl.ga Cl.gg Cl.exC Cl.ca T.cn T.ct Cl.cm) I.kIn J e (fun z => nomatch z) fun tk => ⟨.bl b, H, I.tok tk, rfl, q⟩
def FlD (H : Hp) (k : Kd) (d : Option Addr) (v : V) : Prop := match d with
  | some dd => k.fl = true ∧ H dd = some (.xd [(k.field, v)])
  | none => k.fl = false
theorem FlD.same {H H' : Hp} {k : Kd} {d : Option Addr} {v : V} (h : FlD H k d v) (s : Same H H') : FlD H' k d v := by
  cases d with
  | none => exact h
  | some dd => exact ⟨h.1, s _ _ h.2⟩
theorem FlD.dk {H : Hp} {k : Kd} {d : Option Addr} {v : V} (h : FlD H k d v) : Dk H d := fun dd e => by
  subst e
  exact ⟨_, h.2⟩
theorem FlD.some {H : Hp} {k : Kd} {d : Option Addr} {v : V} (h : FlD H k d v) (hk : k.fl = true) : ∃ dd, d = some dd ∧ H dd = some (.xd [(k.field, v)]) := by
  cases d with
  | none =>
    have h : k.fl = false := h
    rw [hk] at h
    cases h
  | some dd => exact ⟨dd, rfl, h.2⟩
def Tw (k : Kd) (v : V) (Q : VK) (H : Hp) : Prop := if k.fl = true then ∀ p H', Same H H' → H p = none → H' p = some (.tup [.str k.word, v]) → Q (.ref p) H' else ∀ H', Same H H' → Q (.str k.word) H'
theorem Tw.tup {k : Kd} {v : V} {Q : VK} {H : Hp} (h : Tw k v Q H) (hk : k.fl = true) : ∀ p H', Same H H' → H p = none → H' p = some (.tup [.str k.word, v]) → Q (.ref p) H' := by
  unfold Tw at h
  rw [if_pos hk] at h
  exact h
theorem Tw.one {k : Kd} {v : V} {Q : VK} {H : Hp} (h : Tw k v Q H) (hk : k.fl = false) : ∀ H', Same H H' → Q (.str k.word) H' := by
  unfold Tw at h
  rw [if_neg (by rw [hk]; decide)] at h
  exact h
theorem Tw.same {k : Kd} {v : V} {Q : VK} {H H' : Hp} (h : Tw k v Q H) (s : Same H H') : Tw k v Q H' := by
  unfold Tw at h ⊢
  split
  · rename_i hk
    rw [if_pos hk] at h
    exact fun p H2 s2 n e => h p H2 (s.trans s2) (s.free n) e
  · rename_i hk
    rw [if_neg hk] at h
    exact fun H2 s2 => h H2 (s.trans s2)
def Rf (K : PySem.W.Frag) (e : Eca) (Q : VK) : XK := fun cls d H => ∃ (k : Kd) (v : V), Ek K e k ∧ cls = .ref (e.of k) ∧ FlD H k d v ∧ Tw k v Q H
def TTheard (K : PySem.W.Frag) (e : Eca) : (XK → Hp → VK → Prop) → Hp → VK → Prop := fun tl H Q =>
  ∀ l, H l = none → tl (Rf K e Q) (upd H l (.lst [])) fun v H1 => ∀ p, H1 p = none → Q (.ref p) (upd H1 p (.lst [v]))
abbrev Nhd : List Str := ["call", "told", "error", "e", "valued", "kinds", "words", "found", "word", "is_so"]
theorem scHeard : FnScope Nhd ["call"] (defScope sHeard) := ⟨rfl, rfl, rfl, by decide +kernel, rfl, by decide +kernel, by decide +kernel⟩
def wds : List Str := ["size", "letters", "index", "number", "deed", "table", "move", "shape", "recording", "othersize", "otherhouse"]
def kbs (k : Kd) : List Bool := [decide (k = .size), decide (k = .letters), decide (k = .index), decide (k = .number), decide (k = .deed), decide (k = .table), decide (k = .move), decide (k = .shape), decide (k = .recd), decide (k = .osize), decide (k = .ohouse)]
def kept (k : Kd) (i : Nat) : List Str := (((wds.zip (kbs k)).take i).filter (·.2)).map (·.1)
theorem kept_len (k : Kd) (i : Nat) : (kept k i).length ≤ 11 := by
  unfold kept
  rw [List.length_map]
  refine Nat.le_trans (List.length_filter_le _ _) ?_
  rw [List.length_take]
  have : (wds.zip (kbs k)).length = 11 := rfl
  omega
theorem kept_succ {k : Kd} {i : Nat} {x : Str} {b : Bool} (h1 : wds[i]? = some x) (h2 : (kbs k)[i]? = some b) : kept k (i + 1) = kept k i ++ if b then [x] else [] := by
  have hz : (wds.zip (kbs k))[i]? = some (x, b) := by
    rw [List.getElem?_zip_eq_some]
    exact ⟨h1, h2⟩
  unfold kept
  rw [List.take_succ, hz]
  cases b <;> simp
theorem kept_all {k : Kd} (h1 : k ≠ .stuck) (h2 : k ≠ .great) : kept k 11 = [k.word] := by
  cases k <;> first | rfl | exact absurd rfl h1 | exact absurd rfl h2
section
variable {X : Cx} {g : Addr} {cdg : Value} {q : Str} {e : Eca}
set_option maxHeartbeats 4000000 in
theorem heard_rest (F : Ec X.K X.mg e) (s : Shared) (H : Hp) : ∃ tr : TS, PSs (cxOf C8.CX0 X.prog X.w X.K X.mg X.base Nhd "_law_heard" (defScope sHeard) g cdg X.A X.stack s H C8.E0).nox ((defBody sHeard).drop 6) tr ∧
    ∀ (D : Ends) (o0 o1 o3 o5 o6 o7 o8 o9 : Option V) (a : Addr) (dd : Option Addr) (k : Kd) (v : V) (vb : Bool) (H1 : Hp), Ek X.K e k → k ≠ .stuck → k ≠ .great → vb = (decide (k = .size) || (decide (k = .index) || decide (k = .number))) →
      H1 a = some (ExK (.ref (e.of k)) dd a) → FlD H1 k dd v → Tw k v (fun x H' => D.rt x H') H1 → tr D [o0, o1, some (.ref a), o3, some (.bl vb), o5, o6, o7, o8, o9] H1 := by
  refine ⟨_, pss_cons (ps_set (i := 5) scHeard.nd rfl (Or.inl rfl) (pe_lst (pa_cons (pe_callB (call_isHeldO F.K_) (by rfl) F.isinstance (by decide +kernel) (pa_cons (pv 2) (pa_cons (pe_glob (v := .ref (e.of .size)) (by rfl) F.size rfl) pa_nil)))
      (pa_cons (pe_callB (call_isHeldO F.K_) (by rfl) F.isinstance (by decide +kernel) (pa_cons (pv 2) (pa_cons (pe_glob (v := .ref (e.of .letters)) (by rfl) F.letters rfl) pa_nil)))
      (pa_cons (pe_callB (call_isHeldO F.K_) (by rfl) F.isinstance (by decide +kernel) (pa_cons (pv 2) (pa_cons (pe_glob (v := .ref (e.of .index)) (by rfl) F.index rfl) pa_nil))) pa_nil)))))
    (pss_cons (ps_set (i := 5) scHeard.nd rfl (Or.inl rfl) (pe_op op_cat (pv 5) (pe_lst (pa_cons (pe_callB (call_isHeldO F.K_) (by rfl) F.isinstance (by decide +kernel) (pa_cons (pv 2) (pa_cons (pe_glob (v := .ref (e.of .number)) (by rfl) F.number rfl) pa_nil)))
      (pa_cons (pe_callB (call_isHeldO F.K_) (by rfl) F.isinstance (by decide +kernel) (pa_cons (pv 2) (pa_cons (pe_glob (v := .ref (e.of .deed)) (by rfl) F.deed rfl) pa_nil)))
      (pa_cons (pe_callB (call_isHeldO F.K_) (by rfl) F.isinstance (by decide +kernel) (pa_cons (pv 2) (pa_cons (pe_glob (v := .ref (e.of .table)) (by rfl) F.table rfl) pa_nil))) pa_nil))))))
    (pss_cons (ps_set (i := 5) scHeard.nd rfl (Or.inl rfl) (pe_op op_cat (pv 5) (pe_lst (pa_cons (pe_callB (call_isHeldO F.K_) (by rfl) F.isinstance (by decide +kernel) (pa_cons (pv 2) (pa_cons (pe_glob (v := .ref (e.of .move)) (by rfl) F.move rfl) pa_nil)))
      (pa_cons (pe_callB (call_isHeldO F.K_) (by rfl) F.isinstance (by decide +kernel) (pa_cons (pv 2) (pa_cons (pe_glob (v := .ref (e.of .shape)) (by rfl) F.shape rfl) pa_nil)))
      (pa_cons (pe_callB (call_isHeldO F.K_) (by rfl) F.isinstance (by decide +kernel) (pa_cons (pv 2) (pa_cons (pe_glob (v := .ref (e.of .recd)) (by rfl) F.recd rfl) pa_nil))) pa_nil))))))
    (pss_cons (ps_set (i := 5) scHeard.nd rfl (Or.inl rfl) (pe_op op_cat (pv 5) (pe_lst (pa_cons (pe_callB (call_isHeldO F.K_) (by rfl) F.isinstance (by decide +kernel) (pa_cons (pv 2) (pa_cons (pe_glob (v := .ref (e.of .osize)) (by rfl) F.osize rfl) pa_nil)))
      (pa_cons (pe_callB (call_isHeldO F.K_) (by rfl) F.isinstance (by decide +kernel) (pa_cons (pv 2) (pa_cons (pe_glob (v := .ref (e.of .ohouse)) (by rfl) F.ohouse rfl) pa_nil))) pa_nil)))))
    (pss_cons (ps_set (i := 6) scHeard.nd rfl (Or.inl rfl) (pe_lst (pa_cons pe_str (pa_cons pe_str (pa_cons pe_str (pa_cons pe_str (pa_cons pe_str (pa_cons pe_str (pa_cons pe_str (pa_cons pe_str (pa_cons pe_str pa_nil)))))))))))
    (pss_cons (ps_set (i := 6) scHeard.nd rfl (Or.inl rfl) (pe_op op_cat (pv 6) (pe_lst (pa_cons pe_str (pa_cons pe_str pa_nil)))))
    (pss_cons (ps_setLc (i := 7) (own := [("word", 8), ("is_so", 9)]) (g := gTup X.K 2 (gCons (gName 8) (gCons (gName 9) gNil))) rfl scHeard.nd rfl rfl (sw_true rfl rfl rfl (by decide +kernel)) (pi_zip (by rfl) F.zip (pa_cons (pv 6) (pa_cons (pv 5) pa_nil)))
      (blkOk_by (N := Nhd) (sc := defScope sHeard) (by decide +kernel)) (fun _ _ _ _ _ => pg_tup rfl (pgs_cons (pg_name (i := 8) scHeard.nd rfl (Or.inl rfl)) (pgs_cons (pg_name (i := 9) scHeard.nd rfl (Or.inl rfl)) pgs_nil)))
      (fun _ _ _ _ _ => pts_one (pt_val (pv 9))) (fun _ _ _ _ _ => pv 8))
    (pss_cons (ps_if (PW.pt (pw_or (pt_cmpR op_ne (pe_callB call_len_seq (by rfl) F.len PySem.boot_len (pa_cons (pv 7) pa_nil)) pe_int (nomark _))
        (pw_or1 (pt_not (pt_val (pe_callB (call_isHeldO F.K_) (by rfl) F.isinstance (by decide +kernel) (pa_cons (pv 2) (pa_cons (pe_bltn (v := .ty "ValueError") (by rfl) F.ve (by decide +kernel) rfl) pa_nil)))))))) (pss_one (ps_ret pe_str)) pss_nil)
    (pss_cons (ps_if (PW.pt (pw_or (pt_val (pv 4)) (pw_or1 (pt_cmpR op_eq (pe_ix ix_list (pv 7) pe_int (fun _ _ => rfl)) pe_str (nomark _))))) (pss_one (ps_ret (pe_tup (pa_cons (pe_ix ix_list (pv 7) pe_int (fun _ _ => rfl)) (pa_cons (pe_fldHeld (pv 2)) pa_nil))))) pss_nil)
    (pss_cons (ps_if (pt_cmpR op_in_seq (pe_ix ix_list (pv 7) pe_int (fun _ _ => rfl)) (pe_tup (pa_cons pe_str (pa_cons pe_str (pa_cons pe_str pa_nil)))) (by rfl)) (pss_one (ps_ret (pe_tup (pa_cons (pe_ix ix_list (pv 7) pe_int (fun _ _ => rfl)) (pa_cons (pe_fldHeld (pv 2)) pa_nil))))) pss_nil)
    (pss_one (ps_ret (pe_ifExp (pt_cmpR op_eq (pe_ix ix_list (pv 7) pe_int (fun _ _ => rfl)) pe_str (nomark _)) (pe_tup (pa_cons pe_str (pa_cons (pe_fldHeld (pv 2)) pa_nil))) (pe_ix ix_list (pv 7) pe_int (fun _ _ => rfl)))))))))))))), ?_⟩
  intro D o0 o1 o3 o5 o6 o7 o8 o9 a dd k v vb H0 E_ hk1 hk2 hvb ha hda kq
  have sA : Same H0 H0 := Same.refl _
  refine ⟨_, rfl, a, _, dd, _, _, _, rfl, E_.held, ha, hda.dk, ClsV.own _, E_.is_ .size, _, rfl, a, _, dd, _, _, _, rfl, E_.held, ha, hda.dk, ClsV.own _, E_.is_ .letters, _, rfl, a, _, dd, _, _, _, rfl, E_.held, ha, hda.dk, ClsV.own _, E_.is_ .index, (by show 3 ≤ sizeLine; decide), fun l1 hl1 => ?_⟩
  have s_l1 : Same H0 (upd H0 l1 (HO.lst [V.bl (decide (k = Kd.size)), V.bl (decide (k = Kd.letters)), V.bl (decide (k = Kd.index))])) := sameN hl1
  have e_l1 : (upd H0 l1 (HO.lst [V.bl (decide (k = Kd.size)), V.bl (decide (k = Kd.letters)), V.bl (decide (k = Kd.index))])) l1 = some (HO.lst [V.bl (decide (k = Kd.size)), V.bl (decide (k = Kd.letters)), V.bl (decide (k = Kd.index))]) := upd_same
  generalize upd H0 l1 (HO.lst [V.bl (decide (k = Kd.size)), V.bl (decide (k = Kd.letters)), V.bl (decide (k = Kd.index))]) = H1 at s_l1 e_l1 ⊢
  replace ha := s_l1 _ _ ha
  replace hda := hda.same s_l1
  replace sA := sA.trans s_l1
  refine ⟨_, rfl, _, rfl, a, _, dd, _, _, _, rfl, E_.held, ha, hda.dk, ClsV.own _, E_.is_ .number, _, rfl, a, _, dd, _, _, _, rfl, E_.held, ha, hda.dk, ClsV.own _, E_.is_ .deed, _, rfl, a, _, dd, _, _, _, rfl, E_.held, ha, hda.dk, ClsV.own _, E_.is_ .table, (by show 3 ≤ sizeLine; decide), fun l2 hl2 => ?_⟩
  have s_l2 : Same H1 (upd H1 l2 (HO.lst [V.bl (decide (k = Kd.number)), V.bl (decide (k = Kd.deed)), V.bl (decide (k = Kd.table))])) := sameN hl2
  have e_l2 : (upd H1 l2 (HO.lst [V.bl (decide (k = Kd.number)), V.bl (decide (k = Kd.deed)), V.bl (decide (k = Kd.table))])) l2 = some (HO.lst [V.bl (decide (k = Kd.number)), V.bl (decide (k = Kd.deed)), V.bl (decide (k = Kd.table))]) := upd_same
  generalize upd H1 l2 (HO.lst [V.bl (decide (k = Kd.number)), V.bl (decide (k = Kd.deed)), V.bl (decide (k = Kd.table))]) = H2 at s_l2 e_l2 ⊢
  replace ha := s_l2 _ _ ha
  replace hda := hda.same s_l2
  replace e_l1 := s_l2 _ _ e_l1
  replace sA := sA.trans s_l2
  refine ⟨l1, l2, _, _, rfl, rfl, e_l1, e_l2, (by rw [sizeLine_eq]; simp), fun l3 hl3 => ?_⟩
  have s_l3 : Same H2 (upd H2 l3 (HO.lst ([V.bl (decide (k = Kd.size)), V.bl (decide (k = Kd.letters)), V.bl (decide (k = Kd.index))] ++ [V.bl (decide (k = Kd.number)), V.bl (decide (k = Kd.deed)), V.bl (decide (k = Kd.table))]))) := sameN hl3
  have e_l3 : (upd H2 l3 (HO.lst ([V.bl (decide (k = Kd.size)), V.bl (decide (k = Kd.letters)), V.bl (decide (k = Kd.index))] ++ [V.bl (decide (k = Kd.number)), V.bl (decide (k = Kd.deed)), V.bl (decide (k = Kd.table))]))) l3 = some (HO.lst ([V.bl (decide (k = Kd.size)), V.bl (decide (k = Kd.letters)), V.bl (decide (k = Kd.index))] ++ [V.bl (decide (k = Kd.number)), V.bl (decide (k = Kd.deed)), V.bl (decide (k = Kd.table))])) := upd_same
  generalize upd H2 l3 (HO.lst ([V.bl (decide (k = Kd.size)), V.bl (decide (k = Kd.letters)), V.bl (decide (k = Kd.index))] ++ [V.bl (decide (k = Kd.number)), V.bl (decide (k = Kd.deed)), V.bl (decide (k = Kd.table))])) = H3 at s_l3 e_l3 ⊢
  replace ha := s_l3 _ _ ha
  replace hda := hda.same s_l3
  replace sA := sA.trans s_l3
  refine ⟨_, rfl, _, rfl, a, _, dd, _, _, _, rfl, E_.held, ha, hda.dk, ClsV.own _, E_.is_ .move, _, rfl, a, _, dd, _, _, _, rfl, E_.held, ha, hda.dk, ClsV.own _, E_.is_ .shape, _, rfl, a, _, dd, _, _, _, rfl, E_.held, ha, hda.dk, ClsV.own _, E_.is_ .recd, (by show 3 ≤ sizeLine; decide), fun l4 hl4 => ?_⟩
  have s_l4 : Same H3 (upd H3 l4 (HO.lst [V.bl (decide (k = Kd.move)), V.bl (decide (k = Kd.shape)), V.bl (decide (k = Kd.recd))])) := sameN hl4
  have e_l4 : (upd H3 l4 (HO.lst [V.bl (decide (k = Kd.move)), V.bl (decide (k = Kd.shape)), V.bl (decide (k = Kd.recd))])) l4 = some (HO.lst [V.bl (decide (k = Kd.move)), V.bl (decide (k = Kd.shape)), V.bl (decide (k = Kd.recd))]) := upd_same
  generalize upd H3 l4 (HO.lst [V.bl (decide (k = Kd.move)), V.bl (decide (k = Kd.shape)), V.bl (decide (k = Kd.recd))]) = H4 at s_l4 e_l4 ⊢
  replace ha := s_l4 _ _ ha
  replace hda := hda.same s_l4
  replace e_l3 := s_l4 _ _ e_l3
  replace sA := sA.trans s_l4
  refine ⟨l3, l4, _, _, rfl, rfl, e_l3, e_l4, (by rw [sizeLine_eq]; simp), fun l5 hl5 => ?_⟩
  have s_l5 : Same H4 (upd H4 l5 (HO.lst ([V.bl (decide (k = Kd.size)), V.bl (decide (k = Kd.letters)), V.bl (decide (k = Kd.index))] ++ [V.bl (decide (k = Kd.number)), V.bl (decide (k = Kd.deed)), V.bl (decide (k = Kd.table))] ++ [V.bl (decide (k = Kd.move)), V.bl (decide (k = Kd.shape)), V.bl (decide (k = Kd.recd))]))) := sameN hl5
  have e_l5 : (upd H4 l5 (HO.lst ([V.bl (decide (k = Kd.size)), V.bl (decide (k = Kd.letters)), V.bl (decide (k = Kd.index))] ++ [V.bl (decide (k = Kd.number)), V.bl (decide (k = Kd.deed)), V.bl (decide (k = Kd.table))] ++ [V.bl (decide (k = Kd.move)), V.bl (decide (k = Kd.shape)), V.bl (decide (k = Kd.recd))]))) l5 = some (HO.lst ([V.bl (decide (k = Kd.size)), V.bl (decide (k = Kd.letters)), V.bl (decide (k = Kd.index))] ++ [V.bl (decide (k = Kd.number)), V.bl (decide (k = Kd.deed)), V.bl (decide (k = Kd.table))] ++ [V.bl (decide (k = Kd.move)), V.bl (decide (k = Kd.shape)), V.bl (decide (k = Kd.recd))])) := upd_same
  generalize upd H4 l5 (HO.lst ([V.bl (decide (k = Kd.size)), V.bl (decide (k = Kd.letters)), V.bl (decide (k = Kd.index))] ++ [V.bl (decide (k = Kd.number)), V.bl (decide (k = Kd.deed)), V.bl (decide (k = Kd.table))] ++ [V.bl (decide (k = Kd.move)), V.bl (decide (k = Kd.shape)), V.bl (decide (k = Kd.recd))])) = H5 at s_l5 e_l5 ⊢
  replace ha := s_l5 _ _ ha
  replace hda := hda.same s_l5
  replace sA := sA.trans s_l5
  refine ⟨_, rfl, _, rfl, a, _, dd, _, _, _, rfl, E_.held, ha, hda.dk, ClsV.own _, E_.is_ .osize, _, rfl, a, _, dd, _, _, _, rfl, E_.held, ha, hda.dk, ClsV.own _, E_.is_ .ohouse, (by show 2 ≤ sizeLine; decide), fun l6 hl6 => ?_⟩
  have s_l6 : Same H5 (upd H5 l6 (HO.lst [V.bl (decide (k = Kd.osize)), V.bl (decide (k = Kd.ohouse))])) := sameN hl6
  have e_l6 : (upd H5 l6 (HO.lst [V.bl (decide (k = Kd.osize)), V.bl (decide (k = Kd.ohouse))])) l6 = some (HO.lst [V.bl (decide (k = Kd.osize)), V.bl (decide (k = Kd.ohouse))]) := upd_same
  generalize upd H5 l6 (HO.lst [V.bl (decide (k = Kd.osize)), V.bl (decide (k = Kd.ohouse))]) = H6 at s_l6 e_l6 ⊢
  replace ha := s_l6 _ _ ha
  replace hda := hda.same s_l6
  replace e_l5 := s_l6 _ _ e_l5
  replace sA := sA.trans s_l6
  refine ⟨l5, l6, _, _, rfl, rfl, e_l5, e_l6, (by rw [sizeLine_eq]; simp), fun l7 hl7 => ?_⟩
  have s_l7 : Same H6 (upd H6 l7 (HO.lst ([V.bl (decide (k = Kd.size)), V.bl (decide (k = Kd.letters)), V.bl (decide (k = Kd.index))] ++ [V.bl (decide (k = Kd.number)), V.bl (decide (k = Kd.deed)), V.bl (decide (k = Kd.table))] ++ [V.bl (decide (k = Kd.move)), V.bl (decide (k = Kd.shape)), V.bl (decide (k = Kd.recd))] ++ [V.bl (decide (k = Kd.osize)), V.bl (decide (k = Kd.ohouse))]))) := sameN hl7
  have e_l7 : (upd H6 l7 (HO.lst ([V.bl (decide (k = Kd.size)), V.bl (decide (k = Kd.letters)), V.bl (decide (k = Kd.index))] ++ [V.bl (decide (k = Kd.number)), V.bl (decide (k = Kd.deed)), V.bl (decide (k = Kd.table))] ++ [V.bl (decide (k = Kd.move)), V.bl (decide (k = Kd.shape)), V.bl (decide (k = Kd.recd))] ++ [V.bl (decide (k = Kd.osize)), V.bl (decide (k = Kd.ohouse))]))) l7 = some (HO.lst ([V.bl (decide (k = Kd.size)), V.bl (decide (k = Kd.letters)), V.bl (decide (k = Kd.index))] ++ [V.bl (decide (k = Kd.number)), V.bl (decide (k = Kd.deed)), V.bl (decide (k = Kd.table))] ++ [V.bl (decide (k = Kd.move)), V.bl (decide (k = Kd.shape)), V.bl (decide (k = Kd.recd))] ++ [V.bl (decide (k = Kd.osize)), V.bl (decide (k = Kd.ohouse))])) := upd_same
  generalize upd H6 l7 (HO.lst ([V.bl (decide (k = Kd.size)), V.bl (decide (k = Kd.letters)), V.bl (decide (k = Kd.index))] ++ [V.bl (decide (k = Kd.number)), V.bl (decide (k = Kd.deed)), V.bl (decide (k = Kd.table))] ++ [V.bl (decide (k = Kd.move)), V.bl (decide (k = Kd.shape)), V.bl (decide (k = Kd.recd))] ++ [V.bl (decide (k = Kd.osize)), V.bl (decide (k = Kd.ohouse))])) = H7 at s_l7 e_l7 ⊢
  replace ha := s_l7 _ _ ha
  replace hda := hda.same s_l7
  replace sA := sA.trans s_l7
  refine ⟨(by show 9 ≤ sizeLine; decide), fun w1 hw1 => ?_⟩
  have s_w1 : Same H7 (upd H7 w1 (HO.lst [V.str "size", V.str "letters", V.str "index", V.str "number", V.str "deed", V.str "table", V.str "move", V.str "shape", V.str "recording"])) := sameN hw1
  have e_w1 : (upd H7 w1 (HO.lst [V.str "size", V.str "letters", V.str "index", V.str "number", V.str "deed", V.str "table", V.str "move", V.str "shape", V.str "recording"])) w1 = some (HO.lst [V.str "size", V.str "letters", V.str "index", V.str "number", V.str "deed", V.str "table", V.str "move", V.str "shape", V.str "recording"]) := upd_same
  generalize upd H7 w1 (HO.lst [V.str "size", V.str "letters", V.str "index", V.str "number", V.str "deed", V.str "table", V.str "move", V.str "shape", V.str "recording"]) = H8 at s_w1 e_w1 ⊢
  replace ha := s_w1 _ _ ha
  replace hda := hda.same s_w1
  replace e_l7 := s_w1 _ _ e_l7
  replace sA := sA.trans s_w1
  refine ⟨_, rfl, (by show 2 ≤ sizeLine; decide), fun w2 hw2 => ?_⟩
  have s_w2 : Same H8 (upd H8 w2 (HO.lst [V.str "othersize", V.str "otherhouse"])) := sameN hw2
  have e_w2 : (upd H8 w2 (HO.lst [V.str "othersize", V.str "otherhouse"])) w2 = some (HO.lst [V.str "othersize", V.str "otherhouse"]) := upd_same
  generalize upd H8 w2 (HO.lst [V.str "othersize", V.str "otherhouse"]) = H9 at s_w2 e_w2 ⊢
  replace ha := s_w2 _ _ ha
  replace hda := hda.same s_w2
  replace e_l7 := s_w2 _ _ e_l7
  replace e_w1 := s_w2 _ _ e_w1
  replace sA := sA.trans s_w2
  refine ⟨w1, w2, _, _, rfl, rfl, e_w1, e_w2, (by rw [sizeLine_eq]; simp), fun w3 hw3 => ?_⟩
  have s_w3 : Same H9 (upd H9 w3 (HO.lst ([V.str "size", V.str "letters", V.str "index", V.str "number", V.str "deed", V.str "table", V.str "move", V.str "shape", V.str "recording"] ++ [V.str "othersize", V.str "otherhouse"]))) := sameN hw3
  have e_w3 : (upd H9 w3 (HO.lst ([V.str "size", V.str "letters", V.str "index", V.str "number", V.str "deed", V.str "table", V.str "move", V.str "shape", V.str "recording"] ++ [V.str "othersize", V.str "otherhouse"]))) w3 = some (HO.lst ([V.str "size", V.str "letters", V.str "index", V.str "number", V.str "deed", V.str "table", V.str "move", V.str "shape", V.str "recording"] ++ [V.str "othersize", V.str "otherhouse"])) := upd_same
  generalize upd H9 w3 (HO.lst ([V.str "size", V.str "letters", V.str "index", V.str "number", V.str "deed", V.str "table", V.str "move", V.str "shape", V.str "recording"] ++ [V.str "othersize", V.str "otherhouse"])) = HA at s_w3 e_w3 ⊢
  replace ha := s_w3 _ _ ha
  replace hda := hda.same s_w3
  replace e_l7 := s_w3 _ _ e_l7
  replace sA := sA.trans s_w3
  have eW : HA w3 = some (.lst (wds.map V.str)) := e_w3
  have eK : HA l7 = some (.lst ((kbs k).map V.bl)) := e_l7
  refine ⟨_, rfl, _, rfl, w3, l7, _, _, rfl, SqL.of eW, SqL.of eK, fun R hR => lc_zipL (K := X.K) (a := w3) (b := l7) (xs := wds.map V.str) (ys := (kbs k).map V.bl) rfl (fun i H' => Same HA H' ∧ H' R = some (.lst ((kept k i).map V.str))) ⟨sameN hR, by rw [upd_same]; rfl⟩
    (fun i H' _ ⟨s, _⟩ => ⟨SqL.of (s _ _ eW), SqL.of (s _ _ eK)⟩) ?_ ?_⟩
  · rintro i x y T H' hx hy ⟨s2, e2⟩ hT
    rw [List.getElem?_map, Option.map_eq_some_iff] at hx hy
    obtain ⟨x, hx, rfl⟩ := hx
    obtain ⟨y, hy, rfl⟩ := hy
    have ks := kept_succ hx hy
    have s3 : Same H' (upd H' T (.tup [.str x, .bl y])) := sameN hT
    have eT : (upd H' T (.tup [.str x, .bl y])) T = some (.tup [.str x, .bl y]) := upd_same
    generalize upd H' T (.tup [.str x, .bl y]) = HB at s3 eT ⊢
    refine ⟨T, _, rfl, SqT.of eT, rfl, _, _, rfl, _, _, rfl, rfl, rfl, ?_⟩
    refine ⟨_, rfl, _, rfl, ?_⟩
    cases y with
    | true =>
      refine iteT ⟨_, rfl, _, s3 _ _ e2, ?_, fun b o q => ?_, ?_⟩
      · have := kept_len k i
        rw [List.length_map, sizeLine_eq]
        omega
      · rw [upd_ne (ne_of_none q hR)]
        exact s3 _ _ (s2 _ _ q)
      · rw [upd_same, ks]
        simp
    | false =>
      refine iteF ⟨s2.trans s3, ?_⟩
      rw [ks]
      simpa using s3 _ _ e2
  · rintro HB ⟨s2, e2⟩
    rw [show ((wds.map V.str).length) = 11 from rfl, kept_all hk1 hk2] at e2
    replace sA := sA.trans s2
    replace ha := s2 _ _ ha
    replace hda := hda.same s2
    have eR : HB R = some (.lst [.str k.word]) := e2
    have ve : k.ve = true := by
      cases k <;> first | rfl | exact absurd rfl hk1 | exact absurd rfl hk2
    refine ⟨_, rfl, R, _, rfl, .inl (SqL.of eR), rfl, _, rfl, iteF ⟨_, rfl, a, _, dd, _, _, _, rfl, E_.held, ha, hda.dk, ClsV.ty _, E_.ve, _, rfl, ?_⟩⟩
    rw [ve]
    refine iteF ⟨_, rfl, _, rfl, ?_⟩
    have fin : k.fl = true → ∀ (p : Addr) (H' : Hp) (h : H' p = none), Same HB H' → D.rt (.ref p) (upd H' p (.tup [.str k.word, v])) := fun hf p H' h s => kq.tup hf p _ ((sA.trans s).trans (sameN h)) ((sA.trans s).free h) upd_same
    have fin0 : k.fl = false → ∀ (H' : Hp), Same HB H' → D.rt (.str k.word) H' := fun hf H' s => kq.one hf _ (sA.trans s)
    subst hvb
    cases k
    case size =>
      obtain ⟨dd, rfl, hd2⟩ := hda.some rfl
      exact iteT ⟨_, rfl, R, _, _, _, rfl, rfl, SqL.of (eR), at_of (j := 0) rfl rfl, _, rfl, a, _, dd, _, v, rfl, E_.held, E_.no rfl, ha, hd2, look_one _ _, (by show 2 ≤ sizeLine; decide), fun p hp => fin rfl p _ hp (Same.refl _)⟩
    case letters =>
      obtain ⟨dd, rfl, hd2⟩ := hda.some rfl
      refine iteF ⟨_, rfl, R, _, _, _, rfl, rfl, SqL.of (eR), at_of (j := 0) rfl rfl, rfl, _, rfl, ?_⟩
      rw [decide_eq_false (by decide +kernel)]
      refine iteF ⟨_, rfl, R, _, _, _, rfl, rfl, SqL.of (eR), at_of (j := 0) rfl rfl, (by show 3 ≤ sizeLine; decide), fun q hq => ?_⟩
      have sQ : Same HB (upd HB q (.tup [.str "letters", .str "deed", .str "move"])) := sameN hq
      refine ⟨q, _, rfl, .inr (SqT.of upd_same), rfl, rfl, _, rfl, ?_⟩
      rw [if_neg Bool.false_ne_true]
      rw [show inV (V.str (Kd.word .letters)) [V.str "letters", V.str "deed", V.str "move"] = true by decide +kernel]
      exact iteT ⟨_, rfl, R, _, _, _, rfl, rfl, SqL.of (sQ _ _ eR), at_of (j := 0) rfl rfl, _, rfl, a, _, dd, _, v, rfl, E_.held, E_.no rfl, sQ _ _ ha, sQ _ _ hd2, look_one _ _, (by show 2 ≤ sizeLine; decide), fun p hp => fin rfl p _ hp sQ⟩
    case index =>
      obtain ⟨dd, rfl, hd2⟩ := hda.some rfl
      exact iteT ⟨_, rfl, R, _, _, _, rfl, rfl, SqL.of (eR), at_of (j := 0) rfl rfl, _, rfl, a, _, dd, _, v, rfl, E_.held, E_.no rfl, ha, hd2, look_one _ _, (by show 2 ≤ sizeLine; decide), fun p hp => fin rfl p _ hp (Same.refl _)⟩
    case number =>
      obtain ⟨dd, rfl, hd2⟩ := hda.some rfl
      exact iteT ⟨_, rfl, R, _, _, _, rfl, rfl, SqL.of (eR), at_of (j := 0) rfl rfl, _, rfl, a, _, dd, _, v, rfl, E_.held, E_.no rfl, ha, hd2, look_one _ _, (by show 2 ≤ sizeLine; decide), fun p hp => fin rfl p _ hp (Same.refl _)⟩
    case deed =>
      obtain ⟨dd, rfl, hd2⟩ := hda.some rfl
      refine iteF ⟨_, rfl, R, _, _, _, rfl, rfl, SqL.of (eR), at_of (j := 0) rfl rfl, rfl, _, rfl, ?_⟩
      rw [decide_eq_false (by decide +kernel)]
      refine iteF ⟨_, rfl, R, _, _, _, rfl, rfl, SqL.of (eR), at_of (j := 0) rfl rfl, (by show 3 ≤ sizeLine; decide), fun q hq => ?_⟩
      have sQ : Same HB (upd HB q (.tup [.str "letters", .str "deed", .str "move"])) := sameN hq
      refine ⟨q, _, rfl, .inr (SqT.of upd_same), rfl, rfl, _, rfl, ?_⟩
      rw [if_neg Bool.false_ne_true]
      rw [show inV (V.str (Kd.word .deed)) [V.str "letters", V.str "deed", V.str "move"] = true by decide +kernel]
      exact iteT ⟨_, rfl, R, _, _, _, rfl, rfl, SqL.of (sQ _ _ eR), at_of (j := 0) rfl rfl, _, rfl, a, _, dd, _, v, rfl, E_.held, E_.no rfl, sQ _ _ ha, sQ _ _ hd2, look_one _ _, (by show 2 ≤ sizeLine; decide), fun p hp => fin rfl p _ hp sQ⟩
    case table =>
      obtain ⟨dd, rfl, hd2⟩ := hda.some rfl
      refine iteF ⟨_, rfl, R, _, _, _, rfl, rfl, SqL.of (eR), at_of (j := 0) rfl rfl, rfl, _, rfl, ?_⟩
      rw [decide_eq_false (by decide +kernel)]
      refine iteF ⟨_, rfl, R, _, _, _, rfl, rfl, SqL.of (eR), at_of (j := 0) rfl rfl, (by show 3 ≤ sizeLine; decide), fun q hq => ?_⟩
      have sQ : Same HB (upd HB q (.tup [.str "letters", .str "deed", .str "move"])) := sameN hq
      refine ⟨q, _, rfl, .inr (SqT.of upd_same), rfl, rfl, _, rfl, ?_⟩
      rw [if_neg Bool.false_ne_true]
      rw [show inV (V.str (Kd.word .table)) [V.str "letters", V.str "deed", V.str "move"] = false by decide +kernel]
      refine iteF ⟨_, rfl, R, _, _, _, rfl, rfl, SqL.of (sQ _ _ eR), at_of (j := 0) rfl rfl, rfl, _, rfl, ?_⟩
      rw [decide_eq_true (show V.str (Kd.word .table) = V.str "table" from rfl)]
      exact iteT ⟨_, rfl, a, _, dd, _, v, rfl, E_.held, E_.no rfl, sQ _ _ ha, sQ _ _ hd2, look_one _ _, (by show 2 ≤ sizeLine; decide), fun p hp => fin rfl p _ hp sQ⟩
    case move =>
      obtain ⟨dd, rfl, hd2⟩ := hda.some rfl
      refine iteF ⟨_, rfl, R, _, _, _, rfl, rfl, SqL.of (eR), at_of (j := 0) rfl rfl, rfl, _, rfl, ?_⟩
      rw [decide_eq_false (by decide +kernel)]
      refine iteF ⟨_, rfl, R, _, _, _, rfl, rfl, SqL.of (eR), at_of (j := 0) rfl rfl, (by show 3 ≤ sizeLine; decide), fun q hq => ?_⟩
      have sQ : Same HB (upd HB q (.tup [.str "letters", .str "deed", .str "move"])) := sameN hq
      refine ⟨q, _, rfl, .inr (SqT.of upd_same), rfl, rfl, _, rfl, ?_⟩
      rw [if_neg Bool.false_ne_true]
      rw [show inV (V.str (Kd.word .move)) [V.str "letters", V.str "deed", V.str "move"] = true by decide +kernel]
      exact iteT ⟨_, rfl, R, _, _, _, rfl, rfl, SqL.of (sQ _ _ eR), at_of (j := 0) rfl rfl, _, rfl, a, _, dd, _, v, rfl, E_.held, E_.no rfl, sQ _ _ ha, sQ _ _ hd2, look_one _ _, (by show 2 ≤ sizeLine; decide), fun p hp => fin rfl p _ hp sQ⟩
    case shape =>
      obtain ⟨dd, rfl, hd2⟩ := hda.some rfl
      refine iteF ⟨_, rfl, R, _, _, _, rfl, rfl, SqL.of (eR), at_of (j := 0) rfl rfl, rfl, _, rfl, ?_⟩
      rw [decide_eq_true (show V.str (Kd.word .shape) = V.str "shape" from rfl)]
      exact iteT ⟨_, rfl, R, _, _, _, rfl, rfl, SqL.of (eR), at_of (j := 0) rfl rfl, _, rfl, a, _, dd, _, v, rfl, E_.held, E_.no rfl, ha, hd2, look_one _ _, (by show 2 ≤ sizeLine; decide), fun p hp => fin rfl p _ hp (Same.refl _)⟩
    case stuck =>
      exact absurd rfl hk1
    case great =>
      exact absurd rfl hk2
    case recd =>
      refine iteF ⟨_, rfl, R, _, _, _, rfl, rfl, SqL.of (eR), at_of (j := 0) rfl rfl, rfl, _, rfl, ?_⟩
      rw [decide_eq_false (by decide +kernel)]
      refine iteF ⟨_, rfl, R, _, _, _, rfl, rfl, SqL.of (eR), at_of (j := 0) rfl rfl, (by show 3 ≤ sizeLine; decide), fun q hq => ?_⟩
      have sQ : Same HB (upd HB q (.tup [.str "letters", .str "deed", .str "move"])) := sameN hq
      refine ⟨q, _, rfl, .inr (SqT.of upd_same), rfl, rfl, _, rfl, ?_⟩
      rw [if_neg Bool.false_ne_true]
      rw [show inV (V.str (Kd.word .recd)) [V.str "letters", V.str "deed", V.str "move"] = false by decide +kernel]
      refine iteF ⟨_, rfl, R, _, _, _, rfl, rfl, SqL.of (sQ _ _ eR), at_of (j := 0) rfl rfl, rfl, _, rfl, ?_⟩
      rw [decide_eq_false (by decide +kernel)]
      exact iteF ⟨_, rfl, R, _, _, _, rfl, rfl, SqL.of (sQ _ _ eR), at_of (j := 0) rfl rfl, fin0 rfl _ sQ⟩
    case osize =>
      refine iteF ⟨_, rfl, R, _, _, _, rfl, rfl, SqL.of (eR), at_of (j := 0) rfl rfl, rfl, _, rfl, ?_⟩
      rw [decide_eq_false (by decide +kernel)]
      refine iteF ⟨_, rfl, R, _, _, _, rfl, rfl, SqL.of (eR), at_of (j := 0) rfl rfl, (by show 3 ≤ sizeLine; decide), fun q hq => ?_⟩
      have sQ : Same HB (upd HB q (.tup [.str "letters", .str "deed", .str "move"])) := sameN hq
      refine ⟨q, _, rfl, .inr (SqT.of upd_same), rfl, rfl, _, rfl, ?_⟩
      rw [if_neg Bool.false_ne_true]
      rw [show inV (V.str (Kd.word .osize)) [V.str "letters", V.str "deed", V.str "move"] = false by decide +kernel]
      refine iteF ⟨_, rfl, R, _, _, _, rfl, rfl, SqL.of (sQ _ _ eR), at_of (j := 0) rfl rfl, rfl, _, rfl, ?_⟩
      rw [decide_eq_false (by decide +kernel)]
      exact iteF ⟨_, rfl, R, _, _, _, rfl, rfl, SqL.of (sQ _ _ eR), at_of (j := 0) rfl rfl, fin0 rfl _ sQ⟩
    case ohouse =>
      refine iteF ⟨_, rfl, R, _, _, _, rfl, rfl, SqL.of (eR), at_of (j := 0) rfl rfl, rfl, _, rfl, ?_⟩
      rw [decide_eq_false (by decide +kernel)]
      refine iteF ⟨_, rfl, R, _, _, _, rfl, rfl, SqL.of (eR), at_of (j := 0) rfl rfl, (by show 3 ≤ sizeLine; decide), fun q hq => ?_⟩
      have sQ : Same HB (upd HB q (.tup [.str "letters", .str "deed", .str "move"])) := sameN hq
      refine ⟨q, _, rfl, .inr (SqT.of upd_same), rfl, rfl, _, rfl, ?_⟩
      rw [if_neg Bool.false_ne_true]
      rw [show inV (V.str (Kd.word .ohouse)) [V.str "letters", V.str "deed", V.str "move"] = false by decide +kernel]
      refine iteF ⟨_, rfl, R, _, _, _, rfl, rfl, SqL.of (sQ _ _ eR), at_of (j := 0) rfl rfl, rfl, _, rfl, ?_⟩
      rw [decide_eq_false (by decide +kernel)]
      exact iteF ⟨_, rfl, R, _, _, _, rfl, rfl, SqL.of (sQ _ _ eR), at_of (j := 0) rfl rfl, fin0 rfl _ sQ⟩
set_option maxHeartbeats 4000000 in
theorem heard_gives (F : Ec X.K X.mg e) : GivesTo X Nhd "_law_heard" (defScope sHeard) g cdg (defBody sHeard) "call" q (TTheard X.K e) := by
  intro f c' s H Q tl act hc h
  let X1 : Cx := (cxOf C8.CX0 X.prog X.w X.K X.mg X.base Nhd "_law_heard" (defScope sHeard) g cdg X.A X.stack s H C8.E0).nox
  obtain ⟨tr, htr, hrest⟩ := heard_rest (g := g) (cdg := cdg) F s H
  refine ⟨_, pss_cons (ps_par (i := 1) (j := 2) (by rfl) scHeard.nd rfl rfl (by decide) rfl rfl (pa_cons (pe_lst pa_nil) (pa_cons pe_non pa_nil)) (by rfl))
    (pss_cons (ps_try_hold (X := X1) (i := 3) (c1 := .ref e.lift) (c2 := .ref (e.of .stuck)) (c3 := .ref (e.of .great))
      (tb := fun W D σ H => ∃ Ech : XK, (∀ cls d σ' H', σ'.length = 10 → Ech cls d H' → W cls d σ' H') ∧ σ[0]? = some (some (.ref f)) ∧ H c' = some (CodeO c' q) ∧ ∃ Qm : VK, tl Ech H Qm ∧ ∀ v H1, Qm v H1 → [v].length ≤ sizeLine ∧ ∀ p, H1 p = none → D.nx (σ.set 1 (some (.ref p))) (upd H1 p (.lst [v])))
      rfl rfl rfl scHeard.nd rfl rfl ⟨rfl, F.lift⟩ ⟨rfl, F.stuck⟩ ⟨rfl, F.great⟩ (fun W pn xe tk _ => ?body) (fun a oe cls d pn _ _ => pss_one (ps_set (i := 2) scHeard.nd rfl (Or.inl rfl) (pv 3))))
    (pss_cons (ps_if (pt_cmpR op_isN (pv 2) pe_non (nomark _)) (pss_one (ps_ret (pv 1))) pss_nil)
    (pss_cons (ps_if (pt_val (pe_callB (call_isHeldO F.K_) (by rfl) F.isinstance (by decide +kernel) (pa_cons (pv 2) (pa_cons (pe_glob (v := .ref (e.of .stuck)) (by rfl) F.stuck rfl) pa_nil))))
      (pss_one (ps_ret (pe_ifExp (pt_not (pt_val (pe_callB (call_isHeldO F.K_) (by rfl) F.isinstance (by decide +kernel) (pa_cons (pv 2) (pa_cons (pe_bltn (v := .ty "ValueError") (by rfl) F.ve (by decide +kernel) rfl) pa_nil)))))
        (pe_tup (pa_cons pe_str (pa_cons (pe_fldHeld (pv 2)) pa_nil))) pe_str))) pss_nil)
    (pss_cons (ps_if (pt_val (pe_callB (call_isHeldO F.K_) (by rfl) F.isinstance (by decide +kernel) (pa_cons (pv 2) (pa_cons (pe_glob (v := .ref (e.of .great)) (by rfl) F.great rfl) pa_nil))))
      (pss_one (ps_ret (pe_ifExp (pt_not (pt_val (pe_callB (call_isHeldO F.K_) (by rfl) F.isinstance (by decide +kernel) (pa_cons (pv 2) (pa_cons (pe_bltn (v := .ty "ValueError") (by rfl) F.ve (by decide +kernel) rfl) pa_nil)))))
        (pe_tup (pa_cons pe_str (pa_cons (pe_fldHeld (pv 2)) pa_nil))) pe_str))) pss_nil)
    (pss_cons (ps_set (i := 4) scHeard.nd rfl (Or.inl rfl) (pe_or (pe_callB (call_isHeldO F.K_) (by rfl) F.isinstance (by decide +kernel) (pa_cons (pv 2) (pa_cons (pe_glob (v := .ref (e.of .size)) (by rfl) F.size rfl) pa_nil)))
      (pe_or (pe_callB (call_isHeldO F.K_) (by rfl) F.isinstance (by decide +kernel) (pa_cons (pv 2) (pa_cons (pe_glob (v := .ref (e.of .index)) (by rfl) F.index rfl) pa_nil)))
      (pe_one (pe_callB (call_isHeldO F.K_) (by rfl) F.isinstance (by decide +kernel) (pa_cons (pv 2) (pa_cons (pe_glob (v := .ref (e.of .number)) (by rfl) F.number rfl) pa_nil)))))))
    htr))))), ?_⟩
  case body =>
    refine ⟨fun pins s' σ H' D I h' => ?_⟩
    obtain ⟨Ech, hW, h1, h2, Qm, h3, h4⟩ := h'
    refine PSs.run (X := X1.tr pn xe) (pss_one (ps_set (i := 1) scHeard.nd rfl (Or.inl rfl) (pe_lst (pa_cons (pe_weak (act (fun cls d σ H => σ.length = 10 → W cls d σ H) pn xe Ech _ _ (takes_len tk) fun cls d σ' H' h z => hW cls d σ' H' z h)) pa_nil)))) pins s' σ H' D I ?_
    exact ⟨Qm, ⟨h1, h2, h3⟩, h4⟩
  refine ⟨Nat.zero_le _, fun l hl => ⟨_, _, rfl, Rf X.K e Q, fun cls d σ' H' hσ hR => ?_, rfl, ?_, _, h l hl, fun v H1 hv => ⟨(by show 1 ≤ sizeLine; decide), fun p hp => ?_⟩⟩⟩
  · -- a refusal
    obtain ⟨k, v, E_, rfl, hd, kq⟩ := hR
    match σ', hσ with
    | [o0, o1, o2, o3, o4, o5, o6, o7, o8, o9], _ =>
    refine ⟨E_.exm, fun a na => ⟨_, rfl, ?_⟩⟩
    have ha : (upd H' a (ExK (.ref (e.of k)) d a)) a = some (ExK (.ref (e.of k)) d a) := upd_same
    have s1 : Same H' (upd H' a (ExK (.ref (e.of k)) d a)) := fun b o q => by
      rw [upd_ne (ne_of_none q na)]
      exact q
    have hda := hd.same s1
    have kq := kq.same s1
    refine ⟨_, rfl, rfl, _, rfl, ?_⟩
    rw [decide_eq_false (by intro z; cases z)]
    refine iteF ⟨_, rfl, a, _, d, _, _, _, rfl, E_.held, ha, hda.dk, ClsV.own _, E_.is_ .stuck, _, rfl, ?_⟩
    by_cases hk1 : k = .stuck
    · subst hk1
      refine iteT ⟨_, rfl, a, _, d, _, _, _, rfl, E_.held, ha, hda.dk, ClsV.ty _, E_.ve, _, rfl, iteT ?_⟩
      obtain ⟨dd, rfl, hd2⟩ := hda.some rfl
      exact ⟨_, rfl, a, _, dd, _, v, rfl, E_.held, E_.no rfl, ha, hd2, look_one _ _, (by show 2 ≤ sizeLine; decide), fun p hp => kq.tup rfl p _ (sameN hp) hp upd_same⟩
    rw [decide_eq_false hk1]
    refine iteF ⟨_, rfl, a, _, d, _, _, _, rfl, E_.held, ha, hda.dk, ClsV.own _, E_.is_ .great, _, rfl, ?_⟩
    by_cases hk2 : k = .great
    · subst hk2
      refine iteT ⟨_, rfl, a, _, d, _, _, _, rfl, E_.held, ha, hda.dk, ClsV.ty _, E_.ve, _, rfl, iteT ?_⟩
      obtain ⟨dd, rfl, hd2⟩ := hda.some rfl
      exact ⟨_, rfl, a, _, dd, _, v, rfl, E_.held, E_.no rfl, ha, hd2, look_one _ _, (by show 2 ≤ sizeLine; decide), fun p hp => kq.tup rfl p _ (sameN hp) hp upd_same⟩
    rw [decide_eq_false hk2]
    refine iteF ?_
    -- one of the ValueErrors
    refine ⟨_, rfl, a, _, d, _, _, _, rfl, E_.held, ha, hda.dk, ClsV.own _, E_.is_ .size, _, rfl, ite2 (fun h1 => ?_) fun h1 => ⟨_, rfl, a, _, d, _, _, _, rfl, E_.held, ha, hda.dk, ClsV.own _, E_.is_ .index, _, rfl, ite2 (fun h2 => ?_) fun h2 => ⟨_, rfl, a, _, d, _, _, _, rfl, E_.held, ha, hda.dk, ClsV.own _, E_.is_ .number, ?_⟩⟩⟩
    · exact hrest _ _ _ _ _ _ _ _ _ a d k v _ _ E_ hk1 hk2 (by rw [h1]; rfl) ha hda kq
    · exact hrest _ _ _ _ _ _ _ _ _ a d k v _ _ E_ hk1 hk2 (by rw [h2]; simp) ha hda kq
    · exact hrest _ _ _ _ _ _ _ _ _ a d k v _ _ E_ hk1 hk2 (by rw [Bool.eq_false_iff.mpr h1, Bool.eq_false_iff.mpr h2]; rfl) ha hda kq
  · rw [upd_ne (ne_of_none hc hl)]
    exact hc
  · exact ⟨_, rfl, rfl, _, rfl, iteT ⟨_, rfl, hv p hp⟩⟩
end
end Lw
namespace DL
open PySem PySem.Spec PyProof.Rows L2 LwE Lw
mutual
theorem Rep.ix {K : PySem.W.Frag} {i j : Ix} {F : Hp} (h : i.m = j.m) : ∀ (d : Dt) {v : V}, Rep K i F d v → Rep K j F d v
  | .non, _, h => h
  | .bl _, _, h => h
  | .int _, _, h => h
  | .str _, _, h => h
  | .drw, v, q => by
    have q : v = .ref i.m := q
    show v = .ref j.m
    rw [q, h]
  | .any _, _, h => h
  | .opq, _, h => h
  | .slc, _, h => h
  | .scr _, _, h => h
  | .exc C f d, _, ⟨a, dd, w, h1, h2, h3, h4⟩ => ⟨a, dd, w, h1, h2, h3, Rep.ix h d h4⟩
  | .tup l, _, ⟨a, vs, h1, h2, h3⟩ => ⟨a, vs, h1, h2, Reps.ix h l h3⟩
  | .lst l, _, ⟨a, vs, h1, h2, h3⟩ => ⟨a, vs, h1, h2, Reps.ix h l h3⟩
  | .obj C ns l, _, ⟨a, dx, gs, h1, h2, h3, h4⟩ => ⟨a, dx, gs, h1, h2, h3, Reps.ix h l h4⟩
  | .dK ks l, _, ⟨a, kvs, h1, h2, h3, h4⟩ => ⟨a, kvs, h1, h2, h3, Reps.ix h l h4⟩
  | .dT ks l, _, ⟨a, kvs, h1, h2, h3, h4⟩ => ⟨a, kvs, h1, h2, h3, Reps.ix h l h4⟩
theorem Reps.ix {K : PySem.W.Frag} {i j : Ix} {F : Hp} (h : i.m = j.m) : ∀ (l : List Dt) {vs : List V}, Reps K i F l vs → Reps K j F l vs
  | [], _, h => h
  | d :: ds, _, ⟨v, r, h1, h2, h3⟩ => ⟨v, r, h1, Rep.ix h d h2, Reps.ix h ds h3⟩
end
def Ix.at (i : Ix) (x : Addr) : Ix := { i with o := x }
theorem MR.at {i : Ix} {s : MS} {H : Hp} {x : Addr} (h : MR i s H) : MR (i.at x) s H := ⟨h.hm, h.hc, h.hg, h.cc, h.gl, h.ne, h.n0, h.tb, h.tq⟩
theorem MR.un {i : Ix} {s : MS} {H : Hp} {x : Addr} (h : MR (i.at x) s H) : MR i s H := ⟨h.hm, h.hc, h.hg, h.cc, h.gl, h.ne, h.n0, h.tb, h.tq⟩
theorem Ext.un {i : Ix} {F H F' H' : Hp} {x : Addr} (h : Ext (i.at x) F H F' H') : Ext i F H F' H' := ⟨h.ff, h.fh, h.sb, h.nw, h.al⟩
section
variable {X : Cx} {CX : CXT} {k : Nat} {f C : Addr} {fd : FuncData} {ps : List Str} {sp : Sp} {E : XK} {x m : Str} {p pos apos : Pos} {e o : Expr} {es : List Expr} {ta : TE} {t : TA}
theorem run_makeX {pins : List (Addr × Obj)} {σ : L2.St} {H : Hp} {s : Shared} {Q : VK} {us : List Value} {vs : List V} (M : Mk X.K C f) (F : FnX X.prog X.w X.K X.mg X.base CX k f fd ps sp) (hgu : X.A.guards = some []) (hr : Room (k + 1) X.A) (hb : Binds X.K fd ps [])
    (hx : Passes CX X E) (I : Inv X pins σ H s) (r : Vals vs us)
    (h : ∀ x dx, H x = none → H dx = none → dx ≠ x → sp (.ref x :: vs) (upd (upd H dx (.own x)) x (.ins C dx [])) (fun v H2 => v = .non ∧ Q (.ref x) H2) E) :
    wpAny (model X.prog X.w) X.A (call (.ref C) us) (EP X pins σ Q) X.xe s := by
  have hq := h (s.heap.objs.size + 1) s.heap.objs.size (I.hok.fresh (Nat.le_succ _)) (I.hok.fresh (Nat.le_refl _)) (Nat.ne_of_lt (Nat.lt_succ_self _))
  have I2 := Inv.made (C := C) I
  have r2 : Vals (V.ref (s.heap.objs.size + 1) :: vs) (Value.ref (s.heap.objs.size + 1) :: us) := .cons rfl r
  have hl : ((Value.ref (s.heap.objs.size + 1) :: us) ++ []).length = ps.length := by
    have e := r2.length
    rw [F.len _ _ _ _ hq] at e
    rw [List.append_nil]
    exact e.symm
  have b0 := hb _ (Value.ref (s.heap.objs.size + 1) :: us) I2.kIn hl
  rw [List.append_nil] at b0
  have hg2 : (X.A.under (.builtin "type.__call__" ⟨.ref C :: us, []⟩)).guards = some [] := by
    first
      | exact hgu
      | (simp [Around.under, Code.isGuard, guardIds]; exact hgu)
      | simpa [Around.under] using hgu
  refine wpAny_call (make_map (f := f) I.kIn M.makes M.init (beq_iff_eq.mp M.fn) (codeAny_mono (F.run _ X.stack _ _ ⟨Value.ref (s.heap.objs.size + 1) :: us, []⟩ (Value.ref (s.heap.objs.size + 1) :: us) _ _ E hg2 (hr.make C us [])
    (I2.env0.make C us []) b0 r2 hq) fun r s' hq' => ?_))
  cases r with
  | error e => exact hx pins σ _ _ e s' I2 hq'
  | ok fl =>
    cases fl with
    | ret u =>
      obtain ⟨v, H', I3, rv, ev, q3⟩ := I2.after hq'
      subst ev
      exact ⟨rv, ⟨V.ref (s.heap.objs.size + 1), H', I3, rfl, q3⟩⟩
    | next => exact False.elim hq'
    | brk => exact False.elim hq'
    | cont => exact False.elim hq'
theorem pe_makeX (M : Mk X.K C f) (F : FnX X.prog X.w X.K X.mg X.base CX k f fd ps sp) (hgu : X.A.guards = some []) (hr : Room (k + 1) X.A) (hg : Gl X x) (hm : X.mg x = some (.ref C)) (hb : Binds X.K fd ps []) (hx : Passes CX X E)
    (ha : PA X (e :: es) t) (hdb : (x == ("__debug__" : Str)) = false := by decide) (he : starEach (e :: es) X.env = (false, eval e X.env) :: starEach es X.env := by rfl) (hpl : (backTo pos (starEach es X.env)).any (·.1) = false := by rfl) :
    PE X (.Call (.Name x p) (e :: es) [] pos) (tMake C sp [] E t) := by
  refine ⟨fun pins s σ H Q I h => ?_⟩
  refine wpAny_Call_Name_kw (ld_glob I hg hm ?_ hdb)
  refine PySem.W.callWith_K (h₀ := X.base) I.ok.mod.kin M.kp (thn (ha.run pos pins s σ H _ I h) fun us s1 ⟨vs, H1, I1, r, q⟩ => ⟨I1.kIn, ?_⟩) he hpl
  exact run_makeX M F hgu hr hb hx I1 r fun x dx h1 h2 h3 => by have z := q x dx h1 h2 h3; rw [List.append_nil] at z; exact z
def objR : R → M R
  | .val (.obj C ns l) => M.ret (.val (.obj C ns l))
  | _ => M.no
def cMake (n : Nat) (fa : List Sl → M (List Dt)) (sem : List Dt → M R) : List Sl → M R := fun δ => M.bnd (fa δ) fun ds => if ds.length + 1 = n then M.bnd (sem ds) objR else M.no
theorem de_make {sem : List Dt → M R} {fa : List Sl → M (List Dt)} (T : MkD X.prog X.w X.K X.mg X.base x C ps k sem) (hgu : X.A.guards = some []) (hr : Room (k + 1) X.A) (px : Passes (L2.CX X.prog X.w) X E) (ha : DA X E (e :: es) fa) (hg : Gl X x := by rfl)
    (hdb : (x == ("__debug__" : Str)) = false := by decide) (he : starEach (e :: es) X.env = (false, eval e X.env) :: starEach es X.env := by rfl) (hpl : (backTo pos (starEach es X.env)).any (·.1) = false := by rfl) :
    DE X E (.Call (.Name x p) (e :: es) [] pos) (cMake ps.length fa sem) := by
  obtain ⟨f, fd, M, hb, F⟩ := T.ex
  obtain ⟨t, pt, jt⟩ := ha
  refine ⟨_, pe_makeX M F hgu hr hg T.g hb px pt hdb he hpl, fun i F0 H0 F1 H σ δ s Q S q => jt.use S q fun ds s1 vs F2 H2 e0 x1 S1 r1 q1 => ?_⟩
  obtain ⟨hl, q1⟩ := ok_if q1
  intro y dy h1 h2 h3
  have r1 : Reps X.K i F2 ds vs := r1
  refine ⟨i.at y, F2, s1, ds, y, dy, vs, H2, by rw [List.append_nil], rfl, h1, h2, h3, rfl, ⟨S1.wf.fh, S1.wf.gf, S1.wf.mr.at⟩, Reps.ix (j := i.at y) (show i.m = (i.at y).m from rfl) ds r1, hl, ?_⟩
  unfold DL.M.bnd at q1
  cases e1 : sem ds s1 with
  | no => rw [e1] at q1; exact q1.elim
  | ex a b =>
    rw [e1] at q1
    intro F' H' x' m'
    have := q1 F' H' x'.un m'.un
    unfold ExOk at this ⊢
    cases hf : a.f with
    | none => rw [hf] at this; exact this
    | some z =>
      rw [hf] at this
      exact fun v dx r hd => this v dx (Rep.ix (j := i) (show (i.at y).m = i.m from rfl) _ r) hd
  | ok r s2 =>
    rw [e1] at q1
    cases r with
    | new l => exact q1.elim
    | val d =>
      cases d <;> first | exact q1.elim | skip
      rename_i C' ns l
      refine ⟨C', ns, l, rfl, fun F' H' dx gs x' m' g1 g2 g3 g4 => ⟨rfl, q1 _ (upd F' y (.ins C' dx gs)) H' (x'.un.know h1 g1 g2) m'.un ?_⟩⟩
      have sf : Same F' (upd F' y (.ins C' dx gs)) := same_know g2
      exact ⟨y, dx, gs, rfl, upd_same, g3, Reps.ix (j := i) (show (i.at y).m = i.m from rfl) _ (Reps.same sf _ g4)⟩
end
def kdOf : Nat → Option Kd
  | 0 => some Kd.size
  | 1 => some Kd.letters
  | 2 => some Kd.index
  | 3 => some Kd.number
  | 4 => some Kd.deed
  | 5 => some Kd.table
  | 6 => some Kd.move
  | 7 => some Kd.shape
  | 8 => some Kd.stuck
  | 9 => some Kd.great
  | 10 => some Kd.recd
  | 11 => some Kd.osize
  | 12 => some Kd.ohouse
  | _ => none
def heardX (e : Eca) (U : Kd → Bool) (x : Exn) : Option Dt := match kdOf x.tag, x.f with
  | some k, some (f, d) => if U k = true ∧ x.C = e.of k ∧ f = k.field then (match k.fl with | true => some (.tup [.str k.word, d]) | false => none) else none
  | some k, none => if U k = true ∧ x.C = e.of k then (match k.fl with | true => none | false => some (.str k.word)) else none
  | _, _ => none
def heardR (e : Eca) (U : Kd → Bool) : Rs R → Rs R
  | .ok r s => .ok (.new [r.d]) s
  | .ex x s => (match heardX e U x with
    | some d => .ok (.val d) s
    | none => .no)
  | .no => .no
def tabOk (P : Addr) (q : Str) (T : List (Addr × Str)) : Prop := (P, q) ∈ T ∧ ∀ p ∈ T, p.1 = P → p.2 = q
open Classical in
noncomputable def cHeard (e : Eca) (U : Kd → Bool) (P : Addr) (q : Str) (f : List Sl → M R) : List Sl → M R := fun δ s => if tabOk P q s.tabs then heardR e U (f δ s) else .no
end DL
namespace LwE
open PySem PySem.Spec PyProof.Rows L2 LamX
structure LamY (sc scope : Scope) (y0 : Str) : Prop where
  kind : scope.kind = .function
  co : scope.isCoroutine = false
  gen : scope.isGenerator = false
  own : ∀ y ∈ scope.names, y.2 ≠ .cell ∧ (y.2 = .local → y.1 = y0)
  loc : scope.names.lookup y0 = some .local
  free : ∀ y ∈ scope.names, y.2 = .free → sc.names.lookup y.1 = some .cell ∨ sc.names.lookup y.1 = some .free
section
variable {X : Cx} {pins : List (Addr × Obj)} {σ : L2.St} {H HZ : Hp} {s s1 : Shared}
theorem LamY.has {scope : Scope} {y0 : Str} (L : LamY X.env.scope scope y0) (ok : X.Ok) : ∀ y ∈ scope.names, y.2 = .free → ∃ c, X.env.cells.lookup y.1 = some c := by
  intro y hy e
  exact (L.free y hy e).elim (fun z => ok.has _ (.inl z)) fun z => ok.has _ (.inr z)
end
end LwE
namespace LwE
open PySem PySem.Spec PyProof.Rows L2 LamX
end LwE
namespace LwE
open PySem PySem.Spec PyProof.Rows L2 LamX Lw
section
variable {X : Cx} {pins : List (Addr × Obj)} {σ : L2.St} {H : Hp} {s : Shared}
set_option maxHeartbeats 1000000 in
end
end LwE
namespace DL
open PySem PySem.Spec PyProof.Rows L2 LwE LamX Lw
def KeepB (P : Addr) (H H' : Hp) : Prop := ∀ b o, H b = some o → b ≠ P → H' b = some o
section
variable {X : Cx} {pins : List (Addr × Obj)} {σ : L2.St} {H : Hp} {s : Shared}
theorem far_stack (I : Inv X pins σ H s) {f : Addr} (hf : s.heap.objs.size ≤ f) : f ∉ frs X.stack := by
  intro hz
  rcases List.mem_cons.mp (I.stkSub _ hz) with e | e
  · have hlt := I.lt
    rw [← e] at hlt
    exact Nat.lt_irrefl _ (Nat.lt_of_lt_of_le hlt hf)
  · exact I.nofs hf e
theorem tabs_row {T : List (Addr × Str)} {P c' : Addr} {q : Str} {ps : Array Value} {pos : Pos} (hP : H P = some (.tbl ps)) (hm : (P, q) ∈ T) (hu : ∀ p ∈ T, p.1 = P → p.2 = q) (hT : Tabs T H) (nC : H c' = none) :
    KeepB P H (upd (upd H P (.tbl (ps ++ #[rawInt pos.line, rawInt pos.col, .ref c']))) c' (CodeO c' q)) ∧ Tabs T (upd (upd H P (.tbl (ps ++ #[rawInt pos.line, rawInt pos.col, .ref c']))) c' (CodeO c' q)) := by
  have kb : KeepB P H (upd (upd H P (.tbl (ps ++ #[rawInt pos.line, rawInt pos.col, .ref c']))) c' (CodeO c' q)) := fun b o e nb => by
    rw [upd_ne (ne_of_none e nC), upd_ne nb]
    exact e
  have codeP : ∀ {c q'}, H c = some (CodeO c q') → c ≠ P := fun e z => by
    rw [z, hP] at e
    exact codeO_ne ps (Option.some.inj e).symm
  obtain ⟨ps0, z0, ht, ha⟩ := hT _ hm
  have z0 : H P = some (.tbl ps0) := z0
  rw [hP] at z0
  cases z0
  refine ⟨kb, fun p hp => ?_⟩
  by_cases hb : p.1 = P
  · rw [hu p hp hb, hb]
    have eL : (ps ++ #[rawInt pos.line, rawInt pos.col, .ref c']).toList = ps.toList ++ [rawInt pos.line, rawInt pos.col, .ref c'] := by simp
    refine ⟨_, by rw [upd_ne (ne_of_none hP nC), upd_same], by rw [eL]; exact PySem.TriplesOk_snoc _ _ _ _ ht, fun p' cv hcv => ?_⟩
    rw [eL] at hcv
    rcases among_app _ ht hcv with w | w
    · obtain ⟨k, k1, k2⟩ := ha p' cv w
      exact ⟨k, k1, kb _ _ k2 (codeP k2)⟩
    · exact ⟨c', w, upd_same⟩
  · obtain ⟨ps', a1, a2, a3⟩ := hT p hp
    refine ⟨ps', kb _ _ a1 hb, a2, fun p' cv hcv => ?_⟩
    obtain ⟨k, k1, k2⟩ := a3 p' cv hcv
    exact ⟨k, k1, kb _ _ k2 (codeP k2)⟩
theorem lamK_make {T : List (Addr × Str)} {c P : Addr} {params : Arguments} {body : Expr} {scope : Scope} {pos : Pos} {E : Value → Shared → Prop} {Q : Value → Shared → Prop} (I : Inv X pins σ H s) (TB : TabB X.base X.mg c P) (hcode : X.env.code = .ref c)
    (hm : (P, X.env.qual ++ "<lambda>") ∈ T) (hu : ∀ p ∈ T, p.1 = P → p.2 = X.env.qual ++ "<lambda>") (hT : Tabs T H) (hdef : defaultsOf params X.env = ([], [])) (hfree : ∀ y ∈ scope.names, y.2 = .free → ∃ c, X.env.cells.lookup y.1 = some c)
    (h : ∀ (f c' : Addr) (pm ctv : Value) (H1 : Hp) (s' : Shared), Inv X pins σ H1 s' → KeepB P H H1 → Tabs T H1 →
      s'.heap.get? f = some (PySem.W.kla_obj "<lambda>" (X.env.qual ++ "<lambda>") params body scope (cloFrom X.env.cells scope.names []) pm c' ctv) → H1 f = none → f ∉ frs X.stack → H1 c' = some (CodeO c' (X.env.qual ++ "<lambda>")) → Q (.ref f) s') :
    wpAny (model X.prog X.w) X.A (eval (.Lambda params body scope pos) X.env) Q E s := by
  have tabP := hT _ hm
  obtain ⟨ps, hP, ht, ha⟩ := tabP
  have at_P : s.heap.get? P = some { cls := .none, data := .fields ps } := I.hok P _ hP
  have bltP : s.heap.BuiltinsAt X.mg P := TB.bm.keeps I.bk
  refine PySem.W.kla_eval hdef ?_
  cases hc : codeAmong pos ps.toList with
  | some cv =>
    obtain ⟨c', e, hco⟩ := ha pos cv hc
    subst e
    refine PySem.W.kla_makeFunctionHit (mg := X.mg) (c := c) (P := P) (ps := ps) (closure_ok hfree) I.ok.glob (I.mod.glob.keeps I.bk) hcode (TB.code.keeps I.bk) at_P ht hc bltP ?_
    intro ctv h' tk hx hsz
    have I3 : Inv X pins σ H { s with heap := h'.push (PySem.W.kla_obj "<lambda>" (X.env.qual ++ "<lambda>") params body scope (cloFrom X.env.cells scope.names []) ((X.mg "__name__").getD .none) c' ctv), toks := tk } :=
      I.kept fun b o e => Heap.get?_push_of_some _ (hx b o e)
    exact h _ c' _ ctv H _ I3 (fun _ _ e _ => e) hT (Heap.get?_push_size _ rfl) (I.hok.fresh hsz) (far_stack I hsz) hco
  | none =>
    refine PySem.W.kla_makeFunction (mg := X.mg) (c := c) (P := P) (ps := ps) (closure_ok hfree) I.ok.glob (I.mod.glob.keeps I.bk) hcode (TB.code.keeps I.bk) at_P ht hc TB.gP bltP ?_
    intro c' ctv h' tk hx hge hlt hrec htb
    obtain ⟨c2, oc, vs, t2, q2, hoc, hd, hv⟩ := hrec
    cases q2
    have le2 : s.heap.objs.size ≤ h'.objs.size := Nat.le_trans hge (Nat.le_of_lt hlt)
    have nC : H c' = none := I.hok.fresh hge
    obtain ⟨kb, tb⟩ := tabs_row (pos := pos) hP hm hu hT nC
    have I3 := inv_table (t' := tk) (more := #[rawInt pos.line, rawInt pos.col, .ref c'])
      (h' := h'.push (PySem.W.kla_obj "<lambda>" (X.env.qual ++ "<lambda>") params body scope (cloFrom X.env.cells scope.names []) ((X.mg "__name__").getD .none) c' ctv)) I hP
      (fun b o nb e => Heap.get?_push_of_some _ (hx b o nb e)) (Heap.get?_push_of_some _ htb) hge ⟨oc, vs, t2, Heap.get?_push_of_some _ hoc, hd, hv⟩
    refine h _ c' _ ctv _ _ I3 kb tb (Heap.get?_push_size _ rfl) ?_ (far_stack I le2) upd_same
    have nf1 : h'.objs.size ≠ c' := Nat.ne_of_gt hlt
    have nf2 : h'.objs.size ≠ P := Nat.ne_of_gt (Nat.lt_of_lt_of_le (Heap.lt_size at_P) le2)
    rw [upd_ne nf1, upd_ne nf2]
    exact I.hok.fresh le2
theorem pe_actK {Ng : List Str} {qg : Str} {sg : Scope} {g f c' : Addr} {cdg pm ctv : Value} {params : Arguments} {body : Expr} {scope : Scope} {k : Nat} {a : Str} {pn : List (Addr × Obj)} {xe : Value → Shared → Prop} {W : WX} {E : XK} {tb : TE} {p1 p2 : Pos}
    (I : Inv X pins σ H s) (L : LamS X.env.scope scope) (hf : s.heap.get? f = some (PySem.W.kla_obj "<lambda>" (X.env.qual ++ "<lambda>") params body scope (cloFrom X.env.cells scope.names []) pm c' ctv)) (hfn : H f = none) (hfr : f ∉ frs X.stack)
    (hbind : bindArgs (PySem.W.kla_fn "<lambda>" (X.env.qual ++ "<lambda>") params body scope (cloFrom X.env.cells scope.names []) pm (.ref c') ctv) ⟨[], []⟩ = pure [])
    (tk : Takes ((cxOf C8.CX0 X.prog X.w X.K X.mg X.base Ng qg sg g cdg X.A X.stack s H C8.E0).tr pn xe) W) (hW : ∀ cls d σ' H', E cls d H' → W cls d σ' H') (hr : Room (k + 1) (X.A.deeper (envOfC qg sg s.heap.objs.size g cdg)))
    (hbody : ∀ (A : Around) (outer : List Env) (s : Shared) (H : Hp), A.guards = X.A.guards → Room k (A.deeper (lamEnv X scope s.heap.objs.size f c')) → PE (lamCx X A outer s H E scope f c') body tb)
    (hN : Ng[0]? = some a) (hv : Vis sg a) (hd : (a == ("__debug__" : Str)) = false) (hcd : (a == ("__classdict__" : Str)) = false) :
    PE ((cxOf C8.CX0 X.prog X.w X.K X.mg X.base Ng qg sg g cdg X.A X.stack s H C8.E0).tr pn xe) (.Call (.Name a p1) [] [] p2)
      (fun σZ HZ Q => σZ[0]? = some (some (.ref f)) ∧ HZ c' = some (CodeO c' (X.env.qual ++ "<lambda>")) ∧ tb σ HZ Q) := by
  refine ⟨fun pinsZ sZ σZ HZ Q IZ ⟨hs, hc, ht⟩ => ?_⟩
  refine wpAny_Call_Name_kw (thn ((pe_var (pos := p1) (i := 0) hN hv hd hcd).run pinsZ sZ σZ HZ (fun v H1 => v = .ref f ∧ H1 = HZ) IZ ⟨.ref f, hs, rfl, rfl⟩) ?_)
  rintro u s1 ⟨v, H1, I1, r1, rfl, rfl⟩
  obtain rfl : u = Value.ref f := r1
  have f1 := I1.base.keep f _ hf hfn hfr fun w => nomatch (show f ∈ ([] : List Addr) from w)
  refine PySem.W.callWith_F0 ⟨_, _, _, _, f1⟩ ?_
  have un : Un (frs X.stack) [] H H1 s.heap s1.heap := I1.base
  obtain ⟨⟨oc, vs, tq, hoc, hdc, hvc⟩, _, _⟩ := I1.hok c' _ hc
  have run : codeAny (model X.prog X.w) (X.A.deeper (envOfC qg sg s.heap.objs.size g cdg)) (.call (.ref f) ⟨[], []⟩)
      (CR (L2.CX X.prog X.w) (envOfC qg sg s.heap.objs.size g cdg :: X.stack) X.prog X.w H1 s1 Q E) s1 := by
    refine PySem.W.kla_callFunE hr.depth f1 rfl L.co L.gen rfl ⟨c', oc, vs, tq, rfl, hoc, hdc, hvc⟩ ?_
    rw [hbind]
    refine wpAny_pure (wpAny_newFunctionEnv (fun y hy => (L.own y hy).2) (fun y hy => absurd hy (by simp)) (fun h₁ hns hsb => ⟨I1.nolimit.fresh _ hsb, ?_⟩) L.kind)
    show codeAny _ _ (.expr body (lamEnv X scope s1.heap.objs.size f c')) _ _
    have kp : ∀ b o, s1.heap.get? b = some o → h₁.get? b = some o := fun b o e => hsb.extBut b o (Nat.ne_of_lt (Heap.lt_size e)) (Heap.get?_push_of_some _ e)
    have J' : Inv (lamCx X (X.A.deeper (envOfC qg sg s.heap.objs.size g cdg)) (envOfC qg sg s.heap.objs.size g cdg :: X.stack) s1 H1 E scope f c') [] σ H1 { s1 with heap := h₁, toks := s1.toks + ([] : List (Str × Value)).length } :=
      lam_start2 I L I1.env0 hr.hd un hns kp
    refine PySem.W.kla_codeExpr (wpAny_mono ((hbody (X.A.deeper (envOfC qg sg s.heap.objs.size g cdg)) _ s1 H1 rfl (hr.deeper _)).run [] _ _ H1 Q J' ht) ?_ fun e s' q => q)
    rintro v s' ⟨w', H', J', rv, q⟩
    exact ⟨w', H', J'.os, J'.bare, J'.base, J'.hok, rv, q⟩
  have out : Passes (L2.CX X.prog X.w) ((cxOf C8.CX0 X.prog X.w X.K X.mg X.base Ng qg sg g cdg X.A X.stack s H C8.E0).tr pn xe) E := passes_call tk hW
  refine wpAny_call (codeAny_mono run ?_)
  intro r s' q
  cases r with
  | error e => exact out pinsZ σZ H1 s1 e s' I1 q
  | ok fl =>
    cases fl with
    | ret u => exact I1.after q
    | next => exact False.elim q
    | brk => exact False.elim q
    | cont => exact False.elim q
end
def tLamK (P : Addr) (q : Str) (TT : (XK → Hp → VK → Prop) → Hp → VK → Prop) (t : XK → TE) : TE := fun σ H Q => ∃ T : List (Addr × Str), (P, q) ∈ T ∧ (∀ p ∈ T, p.1 = P → p.2 = q) ∧ Tabs T H ∧ ∀ H1, KeepB P H H1 → Tabs T H1 → TT (fun E H' Q' => t E σ H' Q') H1 Q
theorem pe_giveK {X : Cx} {x a : Str} {st : Stmt} {g c Pt : Addr} {fd : FuncData} {k : Nat} {Ng : List Str} {TT : (XK → Hp → VK → Prop) → Hp → VK → Prop} {params : Arguments} {body : Expr} {scope : Scope} {t : XK → TE} {p lpos pos : Pos}
    (FH : Fun X.K x x st g fd) (hmg : X.mg x = some (.ref g)) (bH : L2.Binds X.K fd [a] []) (Sg : FnScope Ng [a] (defScope st)) (hN : Ng[0]? = some a) (hv : Vis (defScope st) a) (hG : ∀ cdv, GivesTo X Ng x (defScope st) g cdv (defBody st) a (X.env.qual ++ "<lambda>") TT)
    (TB : TabB X.base X.mg c Pt) (hcode : X.env.code = .ref c) (hr : Room (k + 2) X.A) (hg : Gl X x) (L : LamS X.env.scope scope) (hdef : defaultsOf params X.env = ([], []))
    (hbind : ∀ (q : Str) (cl : List (Str × Addr)) (pm cv ctv : Value), bindArgs (PySem.W.kla_fn "<lambda>" q params body scope cl pm cv ctv) ⟨[], []⟩ = pure [])
    (hbody : ∀ (A : Around) (outer : List Env) (s : Shared) (H : Hp) (E : XK) (f c' : Addr), A.guards = X.A.guards → Room k (A.deeper (lamEnv X scope s.heap.objs.size f c')) → PE (lamCx X A outer s H E scope f c') body (t E))
    (hdb : (x == ("__debug__" : Str)) = false := by decide) (hd : (a == ("__debug__" : Str)) = false := by decide) (hcd : (a == ("__classdict__" : Str)) = false := by decide) :
    PE X (.Call (.Name x p) [.Lambda params body scope lpos] [] pos) (tLamK Pt (X.env.qual ++ "<lambda>") TT t) := by
  obtain ⟨oc, od, kV, doc, pm, an, cdv, ct, osl, rfl, lk, hcdv⟩ := FH.ex
  refine ⟨fun pins s σ H Q I ⟨T, hm, hu, hT, h⟩ => ?_⟩
  refine wpAny_Call_Name_kw (ld_glob I hg hmg ?_ hdb)
  refine PySem.W.callWith_K (h₀ := X.base) I.ok.mod.kin FH.kp ?_ (by rfl) (by rfl)
  show wpAny _ _ (spliced ((false, eval (.Lambda params body scope lpos) X.env) :: backTo pos (starEach [] X.env))) _ _ s
  refine Calls.spliced_cons (lamK_make I TB hcode hm hu hT hdef (L.has I.ok) ?_)
  intro f c' pm' ctv H1 s' I1 eN T1 hf hfn hfr hco
  refine Calls.spliced_nil ⟨I1.kIn, ?_⟩
  have run : codeAny (model X.prog X.w) X.A (.call (.ref g) ⟨[.ref f], []⟩) (CR C8.CX0 X.stack X.prog X.w H1 s' Q C8.E0) s' := by
    refine run_ofS (N := Ng) (ps := [a]) (us := [.ref f]) (vs := [.ref f]) lk hcdv Sg hr I1.env0 (bH s' [.ref f] I1.kIn rfl) (.cons rfl .nil) rfl fun hr' => ?_
    obtain ⟨t', ht', hq'⟩ := hG cdv f c' s' H1 Q (fun E H' Q' => t E σ H' Q')
      (fun W pn xe E p1 p2 tk hW => pe_actK I1 L hf hfn hfr (hbind _ _ _ _ _) tk hW hr' (fun A outer s H hgu hr2 => hbody A outer s H E f c' hgu hr2) hN hv hd hcd) hco (h H1 eN T1)
    exact ⟨t', ht'.nox, hq'⟩
  refine wpAny_call (codeAny_mono run ?_)
  intro r s2 q
  cases r with
  | error e => exact (show False from q).elim
  | ok fl =>
    cases fl with
    | ret u => exact I1.after q
    | next => exact False.elim q
    | brk => exact False.elim q
    | cont => exact False.elim q
end DL
namespace DL
open PySem PySem.Spec PyProof.Rows L2 LwE LamX Lw
theorem ext_keepB {i : Ix} {s : MS} {F H H1 : Hp} {P : Addr} (W : Wf i s F H) (g : G i P) (x : KeepB P H H1) (t : Tabs i.T H1) (hP : P ∈ i.T.map Prod.fst) : Ext i F H F H1 ∧ MR i s H1 := by
  have neF : ∀ {b o}, F b = some o → b ≠ P := fun e => ne_of_none e (W.gf P g)
  obtain ⟨q, hq, eq⟩ := List.mem_map.mp hP
  have tP : H1 P ≠ none := by
    obtain ⟨ps, e, _⟩ := t q hq
    rw [← eq, e]
    exact fun z => nomatch z
  have hPt : ∃ ps, H P = some (.tbl ps) := by
    obtain ⟨ps, e, _⟩ := W.mr.tb q hq
    exact ⟨ps, by rw [← eq]; exact e⟩
  obtain ⟨ps, hPt⟩ := hPt
  have ne : ∀ {b o}, H b = some o → (∀ ps, o ≠ .tbl ps) → b ≠ P := fun e n z => by
    subst z
    rw [hPt] at e
    exact n ps (Option.some.inj e).symm
  refine ⟨⟨Same.refl _, fun b o e => x _ _ (W.fh _ _ e) (neF e), fun b o e gb => x _ _ e fun z => gb (z ▸ g), fun _ _ n => n, fun b e => ?_⟩,
    ⟨x _ _ W.mr.hm (ne W.mr.hm fun _ z => nomatch z), x _ _ W.mr.hc (ne W.mr.hc fun _ z => nomatch z), x _ _ W.mr.hg (ne W.mr.hg fun _ z => nomatch z), W.mr.cc, W.mr.gl, W.mr.ne, W.mr.n0, t, W.mr.tq⟩⟩
  by_cases hb : b = P
  · rw [hb]; exact tP
  · cases z : H b with
    | none => exact absurd z e
    | some o => rw [x _ _ z hb]; exact fun z => nomatch z
theorem heard_j {K : PySem.W.Frag} {E : XK} {e : Eca} {U : Kd → Bool} {P : Addr} {q : Str} {t : XK → TE} {f : List Sl → M R} (EK : ∀ k, U k = true → Ek K e k) (jt : ∀ E', J kR K E' (t E') f) : J kR K E (tLamK P q (TTheard K e) t) (cHeard e U P q f) := fun i F0 H0 F H σ δ s Q S qq => by
  unfold cHeard at qq
  by_cases ht : tabOk P q s.tabs
  rotate_left
  · rw [if_neg ht] at qq
    exact qq.elim
  rw [if_pos ht] at qq
  obtain ⟨h1, h2⟩ := ht
  have tq := S.wf.mr.tq
  rw [← tq] at h1 h2
  have gP : G i P := .inr (.inr (.inr ⟨_, h1, rfl⟩))
  refine ⟨i.T, h1, h2, S.wf.mr.tb, fun H1 kb T1 l hl => ?_⟩
  obtain ⟨x1, m1⟩ := ext_keepB S.wf gP kb T1 (List.mem_map.mpr ⟨_, h1, rfl⟩)
  have S1 := S.ext x1 m1
  have x2 : Ext i F H1 F (upd H1 l (.lst [])) := ext_new S1.wf.fh hl
  have S2 := S1.ext x2 (mr_new m1 hl)
  have q2 := qq.later (x1.trans x2)
  refine jt _ i F0 H0 F _ σ δ s _ S2 ?_
  cases ef : f δ s with
  | no => rw [ef] at q2; exact q2.elim
  | ok r s' =>
    rw [ef] at q2
    intro v F3 H3 x3 m3 r3
    obtain ⟨F4, x4, _, r4⟩ := RepR.freeze r3 x3
    intro p hp
    refine q2 _ F4 _ (x4.trans (ext_new x4.fh hp)) (mr_new m3 hp) ⟨p, [v], rfl, upd_same, x4.fh.free hp, ?_, .cons r4 .nil⟩
    cases z : upd H1 l (.lst []) p with
    | none => rfl
    | some o => exact absurd hp (x4.al p (by rw [z]; exact fun z => nomatch z))
  | ex a s' =>
    rw [ef] at q2
    intro F3 H3 x3 m3
    unfold heardR at q2
    cases eh : heardX e U a with
    | none => simp only [eh] at q2; exact q2.elim
    | some d =>
      simp only [eh] at q2
      unfold heardX at eh
      cases ek : kdOf a.tag with
      | none => rw [ek] at eh; cases eh
      | some k =>
        cases efl : a.f with
        | none =>
          rw [ek, efl] at eh
          by_cases hc : U k = true ∧ a.C = e.of k
          rotate_left
          · simp only [if_neg hc] at eh
            cases eh
          simp only [if_pos hc] at eh
          obtain ⟨hU, hc1⟩ := hc
          cases hfl : k.fl with
          | true => rw [hfl] at eh; cases eh
          | false =>
            rw [hfl] at eh
            cases eh
            unfold ExOk
            rw [efl, hc1]
            refine ⟨k, .non, EK k hU, rfl, hfl, ?_⟩
            unfold Tw
            rw [if_neg (by rw [hfl]; decide)]
            exact fun H5 s5 => q2 (.str k.word) _ H5 (x3.trans (Ext.same x3.fh s5)) (m3.sm s5) rfl
        | some z =>
          obtain ⟨fl, dd⟩ := z
          rw [ek, efl] at eh
          by_cases hc : U k = true ∧ a.C = e.of k ∧ fl = k.field
          rotate_left
          · simp only [if_neg hc] at eh
            cases eh
          simp only [if_pos hc] at eh
          obtain ⟨hU, hc1, hc2⟩ := hc
          cases hfl : k.fl with
          | false => rw [hfl] at eh; cases eh
          | true =>
            rw [hfl] at eh
            cases eh
            subst hc2
            unfold ExOk
            rw [efl, hc1]
            intro v dx rv hdx
            have sdx : Same H3 (upd H3 dx (.xd [(k.field, v)])) := same_know hdx
            refine ⟨k, v, EK k hU, rfl, ⟨hfl, upd_same⟩, ?_⟩
            unfold Tw
            rw [if_pos hfl]
            intro p H5 s5 np hp
            have s35 : Same H3 H5 := sdx.trans s5
            have hp3 : H3 p = none := sdx.free np
            have f3 : F3 p = none := x3.fh.free hp3
            have x5 : Ext i F3 H3 (upd F3 p (.tup [.str k.word, v])) H5 := (Ext.same x3.fh s35).know hp3 hp f3
            exact q2 (.ref p) _ H5 (x3.trans x5) (m3.sm s35) ⟨p, _, rfl, .inl (.inl upd_same), .cons rfl (.cons (Rep.same (same_know f3) _ rv) .nil)⟩
end DL
namespace LwE
open PySem PySem.Spec PyProof.Rows L2
section
variable {X : Cx} {pins : List (Addr × Obj)} {σ : L2.St} {H : Hp} {s : Shared} {k : Nat} {f C : Addr} {fd : FuncData} {ps : List Str} {sp : Sp}
theorem inst_of {dx a : Addr} {fs : List (Str × V)} (I : Inv X pins σ H s) (e : H a = some (.ins C dx fs)) : ∃ ox od, PySem.W.InstAt s.heap a ox C (some od) := by
  obtain ⟨mA, O, _⟩ := ins_get I.hok e
  obtain ⟨od, J, _⟩ := O.look
  exact ⟨_, od, J⟩
theorem bound_slot {M : Model} {A : Around} {E : Value → Shared → Prop} {K : PySem.W.Frag} {x : Addr} {ox : Obj} {od : Option Obj} {name : Str} {B id : String} {args : List Value} {Q : Option Value → Shared → Prop} (Xk : K.In s.heap) (I : PySem.W.InstAt s.heap x ox C od)
    (hs : PySem.W.findIn K (.ref C) name = some (some (.builtin id))) (S : Slot B name id) (h : wpAny M A (call (.builtin id) (.ref x :: args)) (fun v => Q (some v)) E s) : wpAny M A (callSpecialIfBound? (.ref x) name args) Q E s := by
  simp only [callSpecialIfBound?, bindSpecialIfBound?]
  refine wpAny_holding (wpAny_bind (wpAny_bind (wpAny_bind (I.type.here ((PySem.W.looks_findIn Xk hs).here ?_)))))
  simp only [S.bind]
  refine wpAny_bind (wpAny_askSetting (wpAny_ite ?_))
  have fin : wpAny M A (call (.builtin id) ([.ref x] ++ args) >>= fun v => pure (some v)) Q E s := wpAny_bind (wpAny_mono h (fun v s' z => wpAny_pure z) fun _ _ z => z)
  split
  · exact wpAny_bind (wpAny_pure (wpAny_pure fin))
  · exact wpAny_tryCatch (wpAny_bind (wpAny_pure (wpAny_pure fin)))
end
end LwE
namespace DL
open PySem PySem.Spec PyProof.Rows L2 LwE
inductive Tst where
  | ty (T : String) | own (C : Addr)
def tyV : Tst → V
  | .ty T => .ty T
  | .own C => .ref C
def tyU : Tst → Value
  | .ty T => .type T
  | .own C => .ref C
theorem tyC : ∀ t, ClsV (tyV t) (tyU t)
  | .ty T => .ty T
  | .own C => .own C
theorem tyCs : ∀ ts : List Tst, Paired ClsV (ts.map tyV) (ts.map tyU)
  | [] => .nil
  | t :: ts => .cons (tyC t) (tyCs ts)
def tyN : Dt → Option String
  | .non => some "NoneType"
  | .bl _ => some "bool"
  | .int _ => some "int"
  | .str _ => some "str"
  | .tup _ => some "tuple"
  | .lst _ => some "list"
  | .dK _ _ => some "dict"
  | .dT _ _ => some "dict"
  | _ => none
abbrev nts : List String := ["NoneType", "bool", "int", "str", "tuple", "list", "dict"]
abbrev bts : List String := ["bool", "int", "str", "tuple", "list", "dict"]
theorem tyN_in {d : Dt} {a : String} (h : tyN d = some a) : a ∈ nts := by
  cases d <;> first | (cases h; done) | (cases h; decide)
structure Oc (K : PySem.W.Frag) (C : Addr) : Prop where
  cl : Cls K C
  ca : PySem.W.findIn K (.ref C) "__class__" = some (some (.builtin "object.__class__"))
  cn : PySem.W.specialIn K (.builtin "object.__class__") "__get__" = some (some (.builtin "getset_descriptor.__get__"))
  ct : PySem.W.takesIn K (.builtin "object.__class__") = some true
  cm : PySem.W.mroIn K C (.type "object") = some true
  ic : PySem.W.isClsIn K C = true
  ty : PySem.W.typeIn K (.ref C) = some (.type "type")
  bt : ∀ T ∈ bts, PySem.W.subIn K (.ref C) (.type T) = some false
structure Ocs (K : PySem.W.Frag) (cs : List Addr) : Prop where
  one : ∀ C ∈ cs, Oc K C
  two : ∀ C ∈ cs, ∀ D ∈ cs, C ≠ D → PySem.W.subIn K (.ref C) (.ref D) = some false
def tst1 (cs : List Addr) : Tst → Dt → Option Bool
  | .ty T, d => (match tyN d with
    | some a => kitB a T
    | none => (match d with
      | .obj C _ _ => if C ∈ cs ∧ T ∈ bts then some false else none
      | _ => none))
  | .own C, d => (match tyN d with
    | some _ => if C ∈ cs then some false else none
    | none => (match d with
      | .obj C' _ _ => if C ∈ cs ∧ C' ∈ cs then some (decide (C' = C)) else none
      | _ => none))
def tstA (cs : List Addr) : List Tst → Dt → Option Bool
  | [], _ => some false
  | t :: ts, d => match tst1 cs t d with
    | some true => some true
    | some false => tstA cs ts d
    | none => none
def isiD (cs : List Addr) (ts : List Tst) (d : Dt) : M R := match tstA cs ts d with
  | some b => M.ret (.val (.bl b))
  | none => M.no
theorem kitCls_own {K : PySem.W.Frag} {b : Addr} {t : Value} {r : Bool} (i : PySem.W.isClsIn K b = true) (y : PySem.W.typeIn K (.ref b) = some (.type "type")) (s : PySem.W.subIn K t (.ref b) = some r) : PySem.W.kitCls K t (.ref b) = some r := by
  have c : ((PySem.W.clsIn K b).isSome && PySem.W.typeIn K (.ref b) == some (.type "type")) = true := by
    rw [show (PySem.W.clsIn K b).isSome = true from i, y]
    rfl
  show (if ((PySem.W.clsIn K b).isSome && PySem.W.typeIn K (.ref b) == some (.type "type")) = true then PySem.W.subIn K t (.ref b) else none) = some r
  rw [if_pos c]
  exact s
theorem mro_own {a : String} (h : a ∈ nts) : ∃ l, PySem.fastBuiltinMro a = some l ∧ ∀ C : Addr, l.contains (.ref C) = false := by
  simp only [nts, List.mem_cons, List.not_mem_nil, or_false] at h
  have f1 : PySem.fastBuiltinMro "NoneType" = some [.type "NoneType", .type "object"] := by decide +kernel
  have f2 : PySem.fastBuiltinMro "bool" = some [.type "bool", .type "int", .type "object"] := by decide +kernel
  have f3 : PySem.fastBuiltinMro "int" = some [.type "int", .type "object"] := by decide +kernel
  have f4 : PySem.fastBuiltinMro "str" = some [.type "str", .type "object"] := by decide +kernel
  have f5 : PySem.fastBuiltinMro "tuple" = some [.type "tuple", .type "object"] := by decide +kernel
  have f6 : PySem.fastBuiltinMro "list" = some [.type "list", .type "object"] := by decide +kernel
  have f7 : PySem.fastBuiltinMro "dict" = some [.type "dict", .type "object"] := by decide +kernel
  rcases h with rfl | rfl | rfl | rfl | rfl | rfl | rfl
  · exact ⟨_, f1, fun C => by simp⟩
  · exact ⟨_, f2, fun C => by simp⟩
  · exact ⟨_, f3, fun C => by simp⟩
  · exact ⟨_, f4, fun C => by simp⟩
  · exact ⟨_, f5, fun C => by simp⟩
  · exact ⟨_, f6, fun C => by simp⟩
  · exact ⟨_, f7, fun C => by simp⟩
theorem kit_b_own {K : PySem.W.Frag} {C : Addr} {a : String} (h : a ∈ nts) (o : Oc K C) : PySem.W.kitOne K (.type a) (.ref C) = some false := by
  obtain ⟨l, e, hl⟩ := mro_own h
  unfold PySem.W.kitOne
  rw [if_neg (fun z => by simp at z)]
  refine kitCls_own o.ic o.ty ?_
  show (PySem.fastBuiltinMro a).map (·.contains (.ref C)) = some false
  rw [e]
  show some (l.contains (.ref C)) = some false
  rw [hl]
theorem kit_own_b {K : PySem.W.Frag} {C : Addr} {T : String} (h : T ∈ bts) (o : Oc K C) : PySem.W.kitOne K (.ref C) (.type T) = some false := by
  have m : PySem.W.kitMeta T = true := by
    simp only [bts, List.mem_cons, List.not_mem_nil, or_false] at h
    rcases h with rfl | rfl | rfl | rfl | rfl | rfl <;> decide +kernel
  unfold PySem.W.kitOne
  rw [if_neg (fun z => by simp at z)]
  show (if PySem.W.kitMeta T = true then PySem.W.subIn K (.ref C) (.type T) else none) = some false
  rw [if_pos m]
  exact o.bt T h
theorem kit_own_own {K : PySem.W.Frag} {cs : List Addr} {C D : Addr} (O : Ocs K cs) (hC : C ∈ cs) (hD : D ∈ cs) : PySem.W.kitOne K (.ref C) (.ref D) = some (decide (C = D)) := by
  unfold PySem.W.kitOne
  by_cases e : C = D
  · subst e
    rw [if_pos (by simp), decide_eq_true rfl]
  · rw [if_neg (fun z => e (by simpa using z)), decide_eq_false e]
    exact kitCls_own (O.one D hD).ic (O.one D hD).ty (O.two C hC D hD e)
section
variable {X : Cx} {E : XK} {a b c e : Expr} {es : List Expr} {pos : Pos}
theorem tyx_of {K : PySem.W.Frag} {i : Ix} {F H : Hp} {cs : List Addr} (O : Ocs K cs) (fh : Same F H) {d : Dt} {v : V} (h : View K i F H d v) {t0 : Tst} {r0 : Bool} (e0 : tst1 cs t0 d = some r0) : ∃ w, TyX K H v w ∧ ∀ t r, tst1 cs t d = some r → PySem.W.kitOne K w (tyU t) = some r := by
  have bas : ∀ {a : String}, tyN d = some a → ∀ t r, tst1 cs t d = some r → PySem.W.kitOne K (.type a) (tyU t) = some r := fun {a} ea t r e => by
    cases t with
    | ty T =>
      simp only [tst1, ea] at e
      exact kit_ty e
    | own C =>
      simp only [tst1, ea] at e
      split at e
      · cases e
        exact kit_b_own (tyN_in ea) (O.one C (by assumption))
      · cases e
  rcases h with h | ⟨p, vs, l, rfl, rfl, h1, _, _⟩
  · cases d with
    | non => rw [show v = V.non from h]; exact ⟨_, .base .non, bas rfl⟩
    | bl z => rw [show v = V.bl z from h]; exact ⟨_, .base (.bl _), bas rfl⟩
    | int z => rw [show v = V.int z from h]; exact ⟨_, .base (.int _), bas rfl⟩
    | str z => rw [show v = V.str z from h]; exact ⟨_, .base (.str _), bas rfl⟩
    | drw => cases t0 <;> simp [tst1, tyN] at e0
    | any v => cases t0 <;> simp [tst1, tyN] at e0
    | opq => cases t0 <;> simp [tst1, tyN] at e0
    | slc => cases t0 <;> simp [tst1, tyN] at e0
    | scr ns => cases t0 <;> simp [tst1, tyN] at e0
    | exc C f d => cases t0 <;> simp [tst1, tyN] at e0
    | tup l =>
      obtain ⟨p, vs, rfl, h1, _⟩ := h
      rcases h1 with (h1 | ⟨o, h1⟩) | ⟨o, its, n, k1, k2, _⟩
      · exact ⟨_, .base (.tup (fh _ _ h1)), bas rfl⟩
      · exact ⟨_, .fTuple (fh _ _ h1), bas rfl⟩
      · exact ⟨_, .kTuple k1 k2, bas rfl⟩
    | lst l =>
      obtain ⟨p, vs, rfl, h1, _⟩ := h
      exact ⟨_, .base (.lst (fh _ _ h1)), bas rfl⟩
    | dK ks l =>
      obtain ⟨p, vs, rfl, h1, _⟩ := h
      exact ⟨_, .base (.dK (fh _ _ h1)), bas rfl⟩
    | dT ks l =>
      obtain ⟨p, vs, rfl, h1, _⟩ := h
      exact ⟨_, .base (.dT (fh _ _ h1)), bas rfl⟩
    | obj C ns l =>
      obtain ⟨p, dx, gs, rfl, h1, _, _⟩ := h
      have hC : C ∈ cs := by
        cases t0 with
        | ty T =>
          simp only [tst1, tyN] at e0
          split at e0
          · rename_i hc
            exact hc.1
          · cases e0
        | own D =>
          simp only [tst1, tyN] at e0
          split at e0
          · rename_i hc
            exact hc.2
          · cases e0
      have o := O.one C hC
      refine ⟨_, .base (.ins (fh _ _ h1) o.cl o.ca o.cn o.ct o.cm), fun t r e => ?_⟩
      cases t with
      | ty T =>
        simp only [tst1, tyN] at e
        split at e
        · rename_i hc
          cases e
          exact kit_own_b hc.2 o
        · cases e
      | own D =>
        simp only [tst1, tyN] at e
        split at e
        · rename_i hc
          cases e
          exact kit_own_own O hc.2 hc.1
        · cases e
  · exact ⟨_, .base (.lst h1), bas rfl⟩
theorem tstA_hd {cs : List Addr} {t : Tst} {ts : List Tst} {d : Dt} {r : Bool} (e : tstA cs (t :: ts) d = some r) : ∃ b, tst1 cs t d = some b := by
  unfold tstA at e
  cases z : tst1 cs t d with
  | none => rw [z] at e; cases e
  | some b => exact ⟨b, rfl⟩
theorem kits_of {K : PySem.W.Frag} {cs : List Addr} {d : Dt} {w : Value} (k : ∀ t r', tst1 cs t d = some r' → PySem.W.kitOne K w (tyU t) = some r') : ∀ {ts : List Tst} {r : Bool}, tstA cs ts d = some r → PySem.W.kitAny K w (ts.map tyU) = some r
  | [], r, e => by cases e; exact kitAny_nil
  | t :: ts, r, e => by
    unfold tstA at e
    cases z : tst1 cs t d with
    | none => rw [z] at e; cases e
    | some b =>
      rw [z] at e
      cases b with
      | true => cases e; exact kitAny_cons (k t _ z) (fun z => by cases z) fun _ => rfl
      | false => exact kitAny_cons (k t _ z) (fun _ => kits_of k e) fun z => by cases z
def DC (X : Cx) (e : Expr) (t : Tst) : Prop := PE X e (tC (tyV t))
def DCs (X : Cx) (es : List Expr) (ts : List Tst) : Prop := PA X es (fun _ H Q => Q (ts.map tyV) H)
theorem dc_b {x : Str} {T : String} (hm : X.mg x = none) (hg : Gl X x := by rfl) (hv : bootBuiltins x = some (.type T) := by decide +kernel) (hn : x ≠ "__name__" := by decide) (hd : (x == ("__debug__" : Str)) = false := by decide) : DC X (.Name x pos) (.ty T) := pe_bltn (v := .ty T) hg hm hv rfl hn hd
theorem dc_o {x : Str} {C : Addr} (hm : X.mg x = some (.ref C)) (hg : Gl X x := by rfl) (hd : (x == ("__debug__" : Str)) = false := by decide) : DC X (.Name x pos) (.own C) := pe_glob (v := .ref C) hg hm rfl hd
theorem dcs_nil : DCs X [] [] := pa_nil
theorem dcs_cons {t : Tst} {ts : List Tst} (h : DC X e t) (hr : DCs X es ts) (hs : starEach (e :: es) X.env = (false, eval e X.env) :: starEach es X.env := by rfl) : DCs X (e :: es) (t :: ts) := pa_cons h hr hs
theorem de_isi {cs : List Addr} {t : Tst} {f : List Sl → M Dt} {p : Pos} (O : Ocs X.K cs) (ha : DV X E a f) (hc : DC X c t) (hm : X.mg "isinstance" = none) (hg : Gl X "isinstance" := by rfl)
    (hs : starEach [a, c] X.env = (false, eval a X.env) :: starEach [c] X.env := by rfl) (hs2 : starEach [c] X.env = (false, eval c X.env) :: starEach [] X.env := by rfl) (hpl : (backTo pos (starEach [c] X.env)).any (·.1) = false := by rfl) :
    DE X E (.Call (.Name "isinstance" p) [a, c] [] pos) (una f (isiD cs [t])) := by
  obtain ⟨u, pu, ju⟩ := ha
  refine ⟨_, pe_callB call_isi hg hm (by decide +kernel) (pa_cons pu (pa_cons hc pa_nil hs2) hs) (by decide) (by decide) hs hpl, fun i F0 H0 F H σ δ s Q S q => ju.use S q fun d s1 v F1 H1 e0 x1 S1 r1 q1 => ?_⟩
  clear e0
  unfold isiD at q1
  have r1 : View X.K i F1 H1 d v := r1
  cases e1 : tstA cs [t] d with
  | none => rw [e1] at q1; exact q1.elim
  | some b =>
    rw [e1] at q1
    have e2 : tst1 cs t d = some b := by
      unfold tstA at e1
      cases z : tst1 cs t d with
      | none => rw [z] at e1; cases e1
      | some w => cases w <;> rw [z] at e1 <;> exact e1
    obtain ⟨w, h1, h2⟩ := tyx_of O S1.wf.fh r1 e2
    exact ⟨v, tyV t, w, tyU t, b, rfl, tyC t, h1, h2 _ _ e2, q1 _ F1 H1 (.refl S1.wf.fh) S1.wf.mr rfl⟩
theorem de_isiT {cs : List Addr} {t : Tst} {ts : List Tst} {f : List Sl → M Dt} {p p2 : Pos} {k : Nat} (O : Ocs X.K cs) (ha : DV X E a f) (hc : DCs X es (t :: ts)) (hl : ts.length < 1000) (hm : X.mg "isinstance" = none) (hg : Gl X "isinstance" := by rfl)
    (hs : starEach [a, .Tuple es k p2] X.env = (false, eval a X.env) :: starEach [.Tuple es k p2] X.env := by rfl) (hs2 : starEach [.Tuple es k p2] X.env = (false, eval (.Tuple es k p2) X.env) :: starEach [] X.env := by rfl) (hpl : (backTo pos (starEach [.Tuple es k p2] X.env)).any (·.1) = false := by rfl) :
    DE X E (.Call (.Name "isinstance" p) [a, .Tuple es k p2] [] pos) (una f (isiD cs (t :: ts))) := by
  obtain ⟨u, pu, ju⟩ := ha
  refine ⟨_, pe_callB call_isiT hg hm (by decide +kernel) (pa_cons pu (pa_cons (pe_tup hc) pa_nil hs2) hs) (by decide) (by decide) hs hpl, fun i F0 H0 F H σ δ s Q S q => ju.use S q fun d s1 v F1 H1 e0 x1 S1 r1 q1 => ?_⟩
  clear e0
  unfold isiD at q1
  have r1 : View X.K i F1 H1 d v := r1
  cases e1 : tstA cs (t :: ts) d with
  | none => rw [e1] at q1; exact q1.elim
  | some b =>
    rw [e1] at q1
    obtain ⟨b0, e2⟩ := tstA_hd e1
    refine ⟨le_line (by rw [List.length_map, List.length_cons]; omega), fun z hz => ?_⟩
    have x2 : Ext i F1 H1 F1 (upd H1 z (.tup ((t :: ts).map tyV))) := ext_new S1.wf.fh hz
    obtain ⟨w, h1, h2⟩ := tyx_of O x2.fh (r1.ext x2) e2
    exact ⟨v, z, (t :: ts).map tyV, w, (t :: ts).map tyU, b, rfl, upd_same, tyCs _, h1, kits_of h2 e1, q1 _ F1 _ x2 (mr_new S1.wf.mr hz) rfl⟩
end
end DL
namespace DL
open PySem PySem.Spec PyProof.Rows L2 LwE
section
open AutoSeq1 (wpAny_loadPart')
open SeqAt
theorem list_eq_declines_dict (l b : Addr) (items : Array Value) (dt2 : Data) (n : Nat) (dd dd2 : Option Addr) (sl sl2 : Array (Option Value)) :
    Meets (Builtin.«list.__eq__» ⟨[.ref l, .ref b], []⟩) (fun _ R s => s.heap.get? l = some { cls := .type "list", dict := dd, data := .seq items n, slots := sl } ∧ s.heap.get? b = some { cls := .type "dict", dict := dd2, data := dt2, slots := sl2 } ∧ R (.ok (.ret .notImplemented)) s) :=
  .of_wp fun prog w A R s h => by obtain ⟨hp, g, d, tk, os⟩ := s; obtain ⟨hl, hb, h⟩ := h; have f1 := F.sub_dict_list; wp_walk using wpAny_loadPart' hl, wpAny_loadPart' hb; exact ⟨_, rfl, h⟩
theorem list_ne_declines_dict (l b : Addr) (items : Array Value) (dt2 : Data) (n : Nat) (dd dd2 : Option Addr) (sl sl2 : Array (Option Value)) :
    Meets (Builtin.«list.__ne__» ⟨[.ref l, .ref b], []⟩) (fun _ R s => s.heap.get? l = some { cls := .type "list", dict := dd, data := .seq items n, slots := sl } ∧ s.heap.get? b = some { cls := .type "dict", dict := dd2, data := dt2, slots := sl2 } ∧ R (.ok (.ret .notImplemented)) s) :=
  .of_wp fun prog w A R s h => by obtain ⟨hp, g, d, tk, os⟩ := s; obtain ⟨hl, hb, h⟩ := h; have f1 := F.sub_dict_list; wp_walk using wpAny_loadPart' hl, wpAny_loadPart' hb; exact ⟨_, rfl, h⟩
variable {A : Around} {s : Shared}
theorem dict_list_eq {l b : Addr} {ol : Obj} {items : Array Value} (ho : s.heap.get? l = some ol) (hc : ol.cls = .type "dict") (hb : s.heap.IsList b items) (hu : A.units < cLine) : SeqAt.RcAt A s (.ref l) (.ref b) false := fun prog w E Q h => by
  obtain ⟨⟨cls2, dd2, data2, sl2⟩, ho2, hc2, n2, hd2⟩ := id hb
  obtain ⟨cls, dd, data, sl⟩ := ol
  simp only at hc hc2 hd2
  subst hc hc2 hd2
  have hne : l ≠ b := fun e => by
    subst e
    rw [ho] at ho2
    have h1 := congrArg Obj.cls (Option.some.inj ho2)
    simp at h1
  exact rc_eq_decline_or (k := false) ⟨_, ho, rfl⟩ ⟨_, ho2, rfl⟩ (by decide) F.sub_list_dict F.slot_dict_eq F.slot_list_eq_refl
    (fun _ hq => wpAny_call_entry PySem.F.slot_dict_eq ⟨_, ho, rfl⟩ PySem.F.entry_dict_eq (by
      show wpAny _ _ (Builtin.Dict.dictSlotArgs "__eq__" ⟨[.ref l, .ref b], []⟩ >>= _) _ _ s
      refine wpAny_bind ?_
      unfold Builtin.Dict.dictSlotArgs
      refine wpAny_bind (wpAny_notOrdered_dict ⟨_, ho, rfl⟩ ?_)
      show wpAny _ _ (pure (Value.ref l, Value.ref b)) _ _ s
      refine wpAny_pure ?_
      refine wpAny_bind (wpAny_isInstance (T := "list") ⟨_, ho2, rfl⟩ PySem.F.sub_list_dict ?_)
      simp only [Bool.not_false, if_true]
      refine wpAny_bind (wpAny_rule (wpAny_bind (wpAny_pure (wpAny_pure ⟨_, rfl, hq⟩)))))
      (PySem.F.args_dict_eq_2 _ _))
    (fun _ hq => call_meets F.slot_list_eq_refl ⟨_, ho2, rfl⟩ F.entry_list_eq (F.args_list_eq_2 _ _) (list_eq_declines_dict b l items data n2 dd2 dd sl2 sl) ⟨ho2, ho, hq⟩)
    (fun _ hq => wpAny_isSame_ref_other hne ho ho2 (by simp) hq) (.inr hu) h
theorem dict_list_ne {l b : Addr} {ol : Obj} {items : Array Value} (ho : s.heap.get? l = some ol) (hc : ol.cls = .type "dict") (hb : s.heap.IsList b items) (hu : A.units < cLine) : SeqAt.RcNeAt A s (.ref l) (.ref b) true := fun prog w E Q h => by
  obtain ⟨⟨cls2, dd2, data2, sl2⟩, ho2, hc2, n2, hd2⟩ := id hb
  obtain ⟨cls, dd, data, sl⟩ := ol
  simp only at hc hc2 hd2
  subst hc hc2 hd2
  have hne : l ≠ b := fun e => by
    subst e
    rw [ho] at ho2
    have h1 := congrArg Obj.cls (Option.some.inj ho2)
    simp at h1
  exact rc_ne_decline_or (k := false) ⟨_, ho, rfl⟩ ⟨_, ho2, rfl⟩ (by decide) F.sub_list_dict F.slot_dict_ne F.slot_list_ne_refl
    (fun _ hq => wpAny_call_entry PySem.F.slot_dict_ne ⟨_, ho, rfl⟩ PySem.F.entry_dict_ne (by
      show wpAny _ _ (Builtin.Dict.dictSlotArgs "__ne__" ⟨[.ref l, .ref b], []⟩ >>= _) _ _ s
      refine wpAny_bind ?_
      unfold Builtin.Dict.dictSlotArgs
      refine wpAny_bind (wpAny_notOrdered_dict ⟨_, ho, rfl⟩ ?_)
      show wpAny _ _ (pure (Value.ref l, Value.ref b)) _ _ s
      refine wpAny_pure ?_
      refine wpAny_bind (wpAny_isInstance (T := "list") ⟨_, ho2, rfl⟩ PySem.F.sub_list_dict ?_)
      simp only [Bool.not_false, if_true]
      refine wpAny_bind (wpAny_rule (wpAny_bind (wpAny_pure (wpAny_pure ⟨_, rfl, hq⟩)))))
      (PySem.F.args_dict_ne_2 _ _))
    (fun _ hq => call_meets F.slot_list_ne_refl ⟨_, ho2, rfl⟩ F.entry_list_ne (F.args_list_ne_2 _ _) (list_ne_declines_dict b l items data n2 dd2 dd sl2 sl) ⟨ho2, ho, hq⟩)
    (fun _ hq => wpAny_isSame_ref_other hne ho ho2 (by simp) hq) (.inr hu) h
end
inductive KNe (K : PySem.W.Frag) (H : Hp) : V → V → Prop where
  | lt {a b : Addr} {xs ys : List V} (h : SqL K H a xs) (h' : SqT K H b ys) : KNe K H (.ref a) (.ref b)
  | tl {a b : Addr} {xs ys : List V} (h : SqT K H a xs) (h' : SqL K H b ys) : KNe K H (.ref a) (.ref b)
  | ll {a b : Addr} {xs ys : List V} (h : SqL K H a xs) (h' : SqL K H b ys) (n : xs.length ≠ ys.length) : KNe K H (.ref a) (.ref b)
  | dl {a b : Addr} {kvs : List (Key × V)} {ys : List V} (h : H a = some (.dK kvs)) (h' : SqL K H b ys) : KNe K H (.ref a) (.ref b)
  | ln {a : Addr} {xs : List V} (h : SqL K H a xs) : KNe K H (.ref a) .non
  | nl {a : Addr} {xs : List V} (h : SqL K H a xs) : KNe K H .non (.ref a)
  | tn {a : Addr} {xs : List V} (h : SqT K H a xs) : KNe K H (.ref a) .non
  | nt {a : Addr} {xs : List V} (h : SqT K H a xs) : KNe K H .non (.ref a)
  | lb {a : Addr} {xs : List V} (h : SqL K H a xs) (z : Bool) : KNe K H (.ref a) (.bl z)
  | bl {a : Addr} {xs : List V} (h : SqL K H a xs) (z : Bool) : KNe K H (.bl z) (.ref a)
  | tb {a : Addr} {xs : List V} (h : SqT K H a xs) (z : Bool) : KNe K H (.ref a) (.bl z)
  | bt {a : Addr} {xs : List V} (h : SqT K H a xs) (z : Bool) : KNe K H (.bl z) (.ref a)
  | li {a : Addr} {xs : List V} (h : SqL K H a xs) (z : Int) : KNe K H (.ref a) (.int z)
  | il {a : Addr} {xs : List V} (h : SqL K H a xs) (z : Int) : KNe K H (.int z) (.ref a)
  | ti {a : Addr} {xs : List V} (h : SqT K H a xs) (z : Int) : KNe K H (.ref a) (.int z)
  | it {a : Addr} {xs : List V} (h : SqT K H a xs) (z : Int) : KNe K H (.int z) (.ref a)
  | ls {a : Addr} {xs : List V} (h : SqL K H a xs) (z : Str) : KNe K H (.ref a) (.str z)
  | sl {a : Addr} {xs : List V} (h : SqL K H a xs) (z : Str) : KNe K H (.str z) (.ref a)
  | ts {a : Addr} {xs : List V} (h : SqT K H a xs) (z : Str) : KNe K H (.ref a) (.str z)
  | st {a : Addr} {xs : List V} (h : SqT K H a xs) (z : Str) : KNe K H (.str z) (.ref a)
section
variable {X : Cx} {pins : List (Addr × Obj)} {σ : L2.St} {H : Hp} {s : Shared}
theorem I_list (I : Inv X pins σ H s) {a : Addr} {xs : List V} (h : SqL X.K H a xs) : ∃ its : Array Value, s.heap.IsList a its ∧ its.size = xs.length := by
  obtain ⟨i1, rv, ⟨o, n, e, c, _, dd⟩, _⟩ := I.list h
  exact ⟨i1.toArray, ⟨o, e, c, n, dd⟩, by rw [List.size_toArray, rv.length]⟩
theorem I_tup (I : Inv X pins σ H s) {a : Addr} {xs : List V} (h : SqT X.K H a xs) : ∃ its : Array Value, s.heap.IsTuple a its := by
  obtain ⟨i2, _, p2, _⟩ := I.tuple h
  exact ⟨_, p2⟩
theorem kne_eq (I : Inv X pins σ H s) {x y : V} {v u : Value} (h : KNe X.K H x y) (rx : RelV x v) (ry : RelV y u) (hu : X.A.units < cLine) : SeqAt.RcAt X.A s v u false := by
  cases h with
  | lt h h' => obtain ⟨_, a, _⟩ := I_list I h; obtain ⟨_, b⟩ := I_tup I h'; cases rx; cases ry; exact SeqAt.RcAt.list_tuple a b hu
  | tl h h' => obtain ⟨_, a⟩ := I_tup I h; obtain ⟨_, b, _⟩ := I_list I h'; cases rx; cases ry; exact SeqAt.RcAt.tuple_list a b hu
  | ll h h' n => obtain ⟨_, a, e1⟩ := I_list I h; obtain ⟨_, b, e2⟩ := I_list I h'; cases rx; cases ry; exact SeqAt.RcAt.lists_lengths a b (by simp only [bne_iff_ne, ne_eq]; omega) hu
  | @dl p q kvs ys h h' =>
    obtain ⟨_, b, e2⟩ := I_list I h'
    obtain ⟨_, _, vs, _, o, es, ep, h1, h2, _⟩ := (show ObjOk X.prog X.w H s.heap p (.dK kvs) from I.hok p _ h)
    cases rx; cases ry
    exact dict_list_eq h1 h2.1 b hu
  | ln h => obtain ⟨_, a, _⟩ := I_list I h; cases rx; cases ry; exact SeqAt.RcAt.list_none a hu
  | nl h => obtain ⟨_, a, _⟩ := I_list I h; cases rx; cases ry; exact SeqAt.RcAt.none_list a hu
  | tn h => obtain ⟨_, a⟩ := I_tup I h; cases rx; cases ry; exact SeqAt.RcAt.tuple_none a hu
  | nt h => obtain ⟨_, a⟩ := I_tup I h; cases rx; cases ry; exact SeqAt.RcAt.none_tuple a hu
  | lb h z => obtain ⟨_, a, _⟩ := I_list I h; cases rx; cases ry; exact SeqAt.RcAt.list_bool z a hu
  | bl h z => obtain ⟨_, a, _⟩ := I_list I h; cases rx; cases ry; exact SeqAt.RcAt.bool_list z a hu
  | tb h z => obtain ⟨_, a⟩ := I_tup I h; cases rx; cases ry; exact SeqAt.RcAt.tuple_bool z a hu
  | bt h z => obtain ⟨_, a⟩ := I_tup I h; cases rx; cases ry; exact SeqAt.RcAt.bool_tuple z a hu
  | li h z => obtain ⟨_, a, _⟩ := I_list I h; cases rx; obtain ⟨t, rfl⟩ := ry; exact SeqAt.RcAt.list_int z t a hu
  | il h z => obtain ⟨_, a, _⟩ := I_list I h; obtain ⟨t, rfl⟩ := rx; cases ry; exact SeqAt.RcAt.int_list z t a hu
  | ti h z => obtain ⟨_, a⟩ := I_tup I h; cases rx; obtain ⟨t, rfl⟩ := ry; exact SeqAt.RcAt.tuple_int z t a hu
  | it h z => obtain ⟨_, a⟩ := I_tup I h; obtain ⟨t, rfl⟩ := rx; cases ry; exact SeqAt.RcAt.int_tuple z t a hu
  | ls h z => obtain ⟨_, a, _⟩ := I_list I h; cases rx; obtain ⟨t, rfl⟩ := ry; exact SeqAt.RcAt.list_str z t a hu
  | sl h z => obtain ⟨_, a, _⟩ := I_list I h; obtain ⟨t, rfl⟩ := rx; cases ry; exact SeqAt.RcAt.str_list z t a hu
  | ts h z => obtain ⟨_, a⟩ := I_tup I h; cases rx; obtain ⟨t, rfl⟩ := ry; exact SeqAt.RcAt.tuple_str z t a hu
  | st h z => obtain ⟨_, a⟩ := I_tup I h; obtain ⟨t, rfl⟩ := rx; cases ry; exact SeqAt.RcAt.str_tuple z t a hu
theorem kne_ne (I : Inv X pins σ H s) {x y : V} {v u : Value} (h : KNe X.K H x y) (rx : RelV x v) (ry : RelV y u) (hu : X.A.units < cLine) : SeqAt.RcNeAt X.A s v u true := by
  cases h with
  | lt h h' => obtain ⟨_, a, _⟩ := I_list I h; obtain ⟨_, b⟩ := I_tup I h'; cases rx; cases ry; exact SeqAt.RcNeAt.list_tuple a b hu
  | tl h h' => obtain ⟨_, a⟩ := I_tup I h; obtain ⟨_, b, _⟩ := I_list I h'; cases rx; cases ry; exact SeqAt.RcNeAt.tuple_list a b hu
  | ll h h' n => obtain ⟨_, a, e1⟩ := I_list I h; obtain ⟨_, b, e2⟩ := I_list I h'; cases rx; cases ry; exact SeqAt.RcNeAt.lists_lengths a b (by simp only [bne_iff_ne, ne_eq]; omega) hu
  | @dl p q kvs ys h h' =>
    obtain ⟨_, b, e2⟩ := I_list I h'
    obtain ⟨_, _, vs, _, o, es, ep, h1, h2, _⟩ := (show ObjOk X.prog X.w H s.heap p (.dK kvs) from I.hok p _ h)
    cases rx; cases ry
    exact dict_list_ne h1 h2.1 b hu
  | ln h => obtain ⟨_, a, _⟩ := I_list I h; cases rx; cases ry; exact SeqAt.RcNeAt.list_none a hu
  | nl h => obtain ⟨_, a, _⟩ := I_list I h; cases rx; cases ry; exact SeqAt.RcNeAt.none_list a hu
  | tn h => obtain ⟨_, a⟩ := I_tup I h; cases rx; cases ry; exact SeqAt.RcNeAt.tuple_none a hu
  | nt h => obtain ⟨_, a⟩ := I_tup I h; cases rx; cases ry; exact SeqAt.RcNeAt.none_tuple a hu
  | lb h z => obtain ⟨_, a, _⟩ := I_list I h; cases rx; cases ry; exact SeqAt.RcNeAt.list_bool z a hu
  | bl h z => obtain ⟨_, a, _⟩ := I_list I h; cases rx; cases ry; exact SeqAt.RcNeAt.bool_list z a hu
  | tb h z => obtain ⟨_, a⟩ := I_tup I h; cases rx; cases ry; exact SeqAt.RcNeAt.tuple_bool z a hu
  | bt h z => obtain ⟨_, a⟩ := I_tup I h; cases rx; cases ry; exact SeqAt.RcNeAt.bool_tuple z a hu
  | li h z => obtain ⟨_, a, _⟩ := I_list I h; cases rx; obtain ⟨t, rfl⟩ := ry; exact SeqAt.RcNeAt.list_int z t a hu
  | il h z => obtain ⟨_, a, _⟩ := I_list I h; obtain ⟨t, rfl⟩ := rx; cases ry; exact SeqAt.RcNeAt.int_list z t a hu
  | ti h z => obtain ⟨_, a⟩ := I_tup I h; cases rx; obtain ⟨t, rfl⟩ := ry; exact SeqAt.RcNeAt.tuple_int z t a hu
  | it h z => obtain ⟨_, a⟩ := I_tup I h; obtain ⟨t, rfl⟩ := rx; cases ry; exact SeqAt.RcNeAt.int_tuple z t a hu
  | ls h z => obtain ⟨_, a, _⟩ := I_list I h; cases rx; obtain ⟨t, rfl⟩ := ry; exact SeqAt.RcNeAt.list_str z t a hu
  | sl h z => obtain ⟨_, a, _⟩ := I_list I h; obtain ⟨t, rfl⟩ := rx; cases ry; exact SeqAt.RcNeAt.str_list z t a hu
  | ts h z => obtain ⟨_, a⟩ := I_tup I h; cases rx; obtain ⟨t, rfl⟩ := ry; exact SeqAt.RcNeAt.tuple_str z t a hu
  | st h z => obtain ⟨_, a⟩ := I_tup I h; obtain ⟨t, rfl⟩ := rx; cases ry; exact SeqAt.RcNeAt.str_tuple z t a hu
def rKNe (K : PySem.W.Frag) (b : Bool) : R2 := fun x y H Q => KNe K H x y ∧ Q (.bl b) H
theorem op_eqK (hu : X.A.units < cLine) : OpR X (compareOp .Eq) (rKNe X.K false) := by
  intro pins s σ H x y v u Q I rx ry ⟨h, q⟩
  exact kne_eq I h rx ry hu _ _ _ _ ⟨.bl false, H, I, rfl, q⟩
theorem op_neK (hu : X.A.units < cLine) : OpR X (compareOp .NotEq) (rKNe X.K true) := by
  intro pins s σ H x y v u Q I rx ry ⟨h, q⟩
  exact kne_ne I h rx ry hu _ _ _ _ ⟨.bl true, H, I, rfl, q⟩
end
def kneD : Dt → Dt → Bool
  | .lst _, .tup _ => true
  | .tup _, .lst _ => true
  | .lst l, .lst m => decide (l.length ≠ m.length)
  | .dK _ _, .lst _ => true
  | .lst _, .non => true
  | .non, .lst _ => true
  | .tup _, .non => true
  | .non, .tup _ => true
  | .lst _, .bl _ => true
  | .bl _, .lst _ => true
  | .tup _, .bl _ => true
  | .bl _, .tup _ => true
  | .lst _, .int _ => true
  | .int _, .lst _ => true
  | .tup _, .int _ => true
  | .int _, .tup _ => true
  | .lst _, .str _ => true
  | .str _, .lst _ => true
  | .tup _, .str _ => true
  | .str _, .tup _ => true
  | _, _ => false
def eqG (neg : Bool) (a b : Dt) : M R := match a, b with
  | .str x, .str y => M.ret (.val (.bl (neg ^^ decide (x = y))))
  | a, b => if kneD a b = true then M.ret (.val (.bl neg)) else eqD neg a b
theorem eqG_def (neg : Bool) (a b : Dt) (h : ∀ x, a ≠ .str x) : eqG neg a b = if kneD a b = true then M.ret (.val (.bl neg)) else eqD neg a b := by
  cases a <;> first | rfl | exact absurd rfl (h _)
theorem eqG_def2 (neg : Bool) (x : Str) (b : Dt) (h : ∀ y, b ≠ .str y) : eqG neg (.str x) b = if kneD (.str x) b = true then M.ret (.val (.bl neg)) else eqD neg (.str x) b := by
  cases b <;> first | rfl | exact absurd rfl (h _)
theorem kne_of {K : PySem.W.Frag} {i : Ix} {F H : Hp} (fh : Same F H) {a b : Dt} {x y : V} (h : kneD a b = true) (va : View K i F H a x) (vb : View K i F H b y) : KNe K H x y := by
  have L : ∀ {l : List Dt} {z : V}, View K i F H (.lst l) z → ∃ p vs, z = .ref p ∧ SqL K H p vs ∧ vs.length = l.length := fun h => by
    obtain ⟨p, vs, e, h1, h2⟩ := h.lst fh
    exact ⟨p, vs, e, SqL.of h1, h2.len⟩
  have T : ∀ {l : List Dt} {z : V}, View K i F H (.tup l) z → ∃ p vs, z = .ref p ∧ SqT K H p vs := fun h => by
    obtain ⟨p, vs, e, h1, h2⟩ := h.tup
    exact ⟨p, vs, e, sqT_same fh h1⟩
  cases a with
  | lst l =>
    obtain ⟨p, vs, rfl, h1, hl⟩ := L va
    cases b with
    | lst m =>
      obtain ⟨q, us, rfl, h2, hm⟩ := L vb
      exact .ll h1 h2 (by rw [hl, hm]; exact of_decide_eq_true h)
    | tup m => obtain ⟨q, us, rfl, h2⟩ := T vb; exact .lt h1 h2
    | non => rw [vb.non]; exact .ln h1
    | bl z => rw [vb.bl]; exact .lb h1 z
    | int z => rw [vb.int]; exact .li h1 z
    | str z => rw [vb.str]; exact .ls h1 z
    | _ => cases h
  | tup l =>
    obtain ⟨p, vs, rfl, h1⟩ := T va
    cases b with
    | lst m => obtain ⟨q, us, rfl, h2, _⟩ := L vb; exact .tl h1 h2
    | non => rw [vb.non]; exact .tn h1
    | bl z => rw [vb.bl]; exact .tb h1 z
    | int z => rw [vb.int]; exact .ti h1 z
    | str z => rw [vb.str]; exact .ts h1 z
    | _ => cases h
  | dK ks l =>
    obtain ⟨p, kvs, rfl, h1, _⟩ := va.rep fun _ e => nomatch e
    cases b with
    | lst m => obtain ⟨q, us, rfl, h2, _⟩ := L vb; exact .dl (fh _ _ h1) h2
    | _ => cases h
  | non =>
    rw [va.non]
    cases b with
    | lst m => obtain ⟨q, us, rfl, h2, _⟩ := L vb; exact .nl h2
    | tup m => obtain ⟨q, us, rfl, h2⟩ := T vb; exact .nt h2
    | _ => cases h
  | bl z =>
    rw [va.bl]
    cases b with
    | lst m => obtain ⟨q, us, rfl, h2, _⟩ := L vb; exact .bl h2 z
    | tup m => obtain ⟨q, us, rfl, h2⟩ := T vb; exact .bt h2 z
    | _ => cases h
  | int z =>
    rw [va.int]
    cases b with
    | lst m => obtain ⟨q, us, rfl, h2, _⟩ := L vb; exact .il h2 z
    | tup m => obtain ⟨q, us, rfl, h2⟩ := T vb; exact .it h2 z
    | _ => cases h
  | str z =>
    rw [va.str]
    cases b with
    | lst m => obtain ⟨q, us, rfl, h2, _⟩ := L vb; exact .sl h2 z
    | tup m => obtain ⟨q, us, rfl, h2⟩ := T vb; exact .st h2 z
    | _ => cases h
  | _ => cases h
section
variable {X : Cx} {E : XK} {a b c e : Expr} {es : List Expr} {pos : Pos}
theorem str_dec (x y : Str) : decide (V.str x = V.str y) = decide (x = y) := by
  rw [Bool.eq_iff_iff, decide_eq_true_eq, decide_eq_true_eq]
  exact ⟨fun h => V.str.inj h, fun h => by rw [h]⟩
theorem op_eqG (hu : X.A.units + 64 < cLine) : OpD X E (compareOp .Eq) (eqG false) := by
  obtain ⟨r, pr, jr⟩ := op_eqDD (E := E) hu
  refine ⟨_, (op_eq (X := X)).or ((op_eqK (X := X) (by omega)).or pr), fun i s F H x y a b Q W va vb q => ?_⟩
  have rest : Ok X.K (kR X.K i) i E F H Q ((if kneD a b = true then M.ret (.val (.bl false)) else eqD false a b) s) → rKNe X.K false x y H Q ∨ r x y H Q := fun q => by
    by_cases h : kneD a b = true
    · rw [if_pos h] at q
      exact .inl ⟨kne_of W.fh h va vb, q _ F H (.refl W.fh) W.mr rfl⟩
    · rw [if_neg h] at q
      exact .inr (jr i s F H x y a b Q W va vb q)
  by_cases ha : ∃ z, a = .str z
  · obtain ⟨z, rfl⟩ := ha
    by_cases hb : ∃ z, b = .str z
    · obtain ⟨z', rfl⟩ := hb
      rw [va.str, vb.str]
      refine .inl ⟨rfl, ?_⟩
      rw [str_dec]
      have := q (.bl (false ^^ decide (z = z'))) F H (.refl W.fh) W.mr rfl
      rw [Bool.false_xor] at this
      exact this
    · rw [eqG_def2 _ _ _ fun y e => hb ⟨y, e⟩] at q
      exact .inr (rest q)
  · rw [eqG_def _ _ _ fun y e => ha ⟨y, e⟩] at q
    exact .inr (rest q)
theorem op_neG (hu : X.A.units + 64 < cLine) : OpD X E (compareOp .NotEq) (eqG true) := by
  obtain ⟨r, pr, jr⟩ := op_neDD (E := E) hu
  refine ⟨_, (op_ne (X := X)).or ((op_neK (X := X) (by omega)).or pr), fun i s F H x y a b Q W va vb q => ?_⟩
  have rest : Ok X.K (kR X.K i) i E F H Q ((if kneD a b = true then M.ret (.val (.bl true)) else eqD true a b) s) → rKNe X.K true x y H Q ∨ r x y H Q := fun q => by
    by_cases h : kneD a b = true
    · rw [if_pos h] at q
      exact .inl ⟨kne_of W.fh h va vb, q _ F H (.refl W.fh) W.mr rfl⟩
    · rw [if_neg h] at q
      exact .inr (jr i s F H x y a b Q W va vb q)
  by_cases ha : ∃ z, a = .str z
  · obtain ⟨z, rfl⟩ := ha
    by_cases hb : ∃ z, b = .str z
    · obtain ⟨z', rfl⟩ := hb
      rw [va.str, vb.str]
      refine .inl ⟨rfl, ?_⟩
      rw [str_dec]
      have := q (.bl (true ^^ decide (z = z'))) F H (.refl W.fh) W.mr rfl
      rw [Bool.true_xor] at this
      exact this
    · rw [eqG_def2 _ _ _ fun y e => hb ⟨y, e⟩] at q
      exact .inr (rest q)
  · rw [eqG_def _ _ _ fun y e => ha ⟨y, e⟩] at q
    exact .inr (rest q)
def chain (fa fb : List Sl → M Dt) (op : Dt → Dt → M R) (fc : List Sl → M Dt) (op' : Dt → Dt → M R) : List Sl → M R := fun δ => M.bnd (fa δ) fun x => M.bnd (fb δ) fun y => M.bnd (op x y) fun
  | .val (.bl k) => if k = true then M.bnd (fc δ) fun z => op' y z else M.ret (.val (.bl false))
  | _ => M.no
theorem de_chain {fa fb fc : List Sl → M Dt} {o o' : CmpOp} {op op' : Dt → Dt → M R} (ho : OpD X E (compareOp o) op) (ho' : OpD X E (compareOp o') op') (ha : DV X E a fa) (hb : DV X E b fb) (hc : DV X E c fc)
    (hm : lastMarks [o, o'] [b, c] = false := by with_unfolding_all rfl) : DE X E (.Compare a [o, o'] [b, c] pos) (chain fa fb op fc op') := by
  obtain ⟨ta, pa, ja⟩ := ha
  obtain ⟨tb, pb, jb⟩ := hb
  obtain ⟨tc, pc, jc⟩ := hc
  obtain ⟨r, pr, jr⟩ := ho
  obtain ⟨r', pr', jr'⟩ := ho'
  refine ⟨_, pe_chain pr pr' pa pb pc hm, fun i F0 H0 F H σ δ s Q S q => ja.use S q fun x s1 v F1 H1 e0 x1 S1 r1 q1 => jb.use S1 q1 fun y s2 u F2 H2 e1 x2 S2 r2 q2 => ?_⟩
  clear e0 e1
  have r1 : View X.K i F1 H1 x v := r1
  have r2 : View X.K i F2 H2 y u := r2
  refine jr i s2 F2 H2 v u x y _ S2.wf (r1.ext x2) r2 ?_
  unfold DL.M.bnd at q2
  cases e3 : op x y s2 with
  | no => rw [e3] at q2; exact q2.elim
  | ex a b => rw [e3] at q2; exact q2
  | ok z s3 =>
    rw [e3] at q2
    intro w F3 H3 x3 m3 r3
    cases z with
    | new l => exact q2.elim
    | val d =>
      cases d <;> first | exact q2.elim | skip
      rename_i k
      refine ⟨k, r3, ?_⟩
      have S3 := S2.ext x3 m3
      cases k with
      | false =>
        refine iteF ?_
        exact q2 _ F3 H3 x3 m3 rfl
      | true =>
        refine iteT ?_
        replace q2 : Ok X.K (kR X.K i) i E F2 H2 Q (DL.M.bnd (fc δ) (fun z => op' y z) s3) := q2
        refine jc.use S3 (q2.later x3) fun z s4 w' F4 H4 e4 x4 S4 r4 q4 => ?_
        clear e4
        exact jr' i s4 F4 H4 u w' y z Q S4.wf ((r2.ext x3).ext x4) r4 q4
def Call2D (X : Cx) (E : XK) (f : Value) (op : Dt → Dt → M R) : Prop := ∃ r, CallR X f r ∧ ∀ i s F H x y a b Q, Wf i s F H → View X.K i F H a x → View X.K i F H b y → Ok X.K (kR X.K i) i E F H Q (op a b s) → r [x, y] H Q
theorem de_b2 {id : String} {x : Str} {p : Pos} {f g : List Sl → M Dt} {op : Dt → Dt → M R} (hc : Call2D X E (.builtin id) op) (ha : DV X E a f) (hb : DV X E b g) (hm : X.mg x = none) (hv : bootBuiltins x = some (.builtin id) := by decide +kernel) (hg : Gl X x := by rfl) (hn : x ≠ "__name__" := by decide) (hdb : (x == ("__debug__" : Str)) = false := by decide)
    (he : starEach [a, b] X.env = (false, eval a X.env) :: starEach [b] X.env := by rfl) (he2 : starEach [b] X.env = (false, eval b X.env) :: starEach [] X.env := by rfl) (hpl : (backTo pos (starEach [b] X.env)).any (·.1) = false := by rfl) : DE X E (.Call (.Name x p) [a, b] [] pos) (bin f g op) := by
  obtain ⟨t, pt, jt⟩ := ha
  obtain ⟨u, pu, ju⟩ := hb
  obtain ⟨r, pr, jr⟩ := hc
  refine ⟨_, pe_callB pr hg hm hv (pa_cons pt (pa_cons pu pa_nil he2) he) hn hdb he hpl, fun i F0 H0 F H σ δ s Q S q => jt.use S q fun x s1 v F1 H1 e0 x1 S1 r1 q1 => ju.use S1 q1 fun y s2 u F2 H2 e1 x2 S2 r2 q2 => ?_⟩
  have r1 : View X.K i F1 H1 x v := r1
  exact jr i s2 F2 H2 v u x y Q S2.wf (r1.ext x2) r2 q2
def minD : Dt → Dt → M R
  | .int i, .int j => M.ret (.val (.int (if j < i then j else i)))
  | _, _ => M.no
theorem cd_min2 (hc : X.calm = true) : Call2D X E (.builtin "min") minD := by
  refine ⟨_, call_min2 hc, fun i s F H x y a b Q W va vb q => ?_⟩
  cases a <;> cases b <;> first | exact q.elim | skip
  exact ⟨_, _, by rw [va.int, vb.int], q _ F H (.refl W.fh) W.mr rfl⟩
end
end DL
namespace DL
open PySem PySem.Spec PyProof.Rows L2 LwE
theorem ok_bnd {α β α2 β2 : Type} {K : PySem.W.Frag} {k : Kind α β} {k2 : Kind α2 β2} {i : Ix} {E : XK} {F H : Hp} {s : MS} {x : M α} {g : α → M α2} {Q : β2 → Hp → Prop} {Q1 : β → Hp → Prop} (q : Ok K k2 i E F H Q (DL.M.bnd x g s))
    (c : ∀ a s' v F' H', Ext i F H F' H' → MR i s' H' → k.rel H F' H' a v → Ok K k2 i E F' H' Q (g a s') → Q1 v H') : Ok K k i E F H Q1 (x s) := by
  unfold DL.M.bnd at q
  cases e : x s with
  | no => rw [e] at q; exact q.elim
  | ex a b => rw [e] at q; exact q
  | ok a s' => rw [e] at q; exact fun v F' H' x m r => c a s' v F' H' x m r (q.later x)
section
variable {X : Cx} {pins : List (Addr × Obj)} {σ : L2.St} {H : Hp} {s : Shared} {CX : CXT} {k : Nat} {f C : Addr} {fd : FuncData} {ps : List Str} {sp : Sp} {E : XK}
theorem run_belowX {A : Around} {Q : VK} {us : List Value} {vs : List V} (F : FnX X.prog X.w X.K X.mg X.base CX k f fd ps sp) (hg : A.guards = some []) (hr : Room k A) (e0 : Env0 X.prog X.w X.K X.mg X.base A X.stack s H) (hb : Binds X.K fd ps []) (hx : Passes CX X E)
    (I : Inv X pins σ H s) (r : Vals vs us) (h : sp vs H Q E) : wpAny (model X.prog X.w) A (call (.ref f) us) (EP X pins σ Q) X.xe s := by
  have hl : (us ++ []).length = ps.length := by
    rw [List.append_nil, ← r.length]
    exact F.len _ _ _ _ h
  have b0 := hb s us I.kIn hl
  rw [List.append_nil] at b0
  refine wpAny_call (codeAny_mono (F.run A X.stack s H ⟨us, []⟩ us vs Q E hg hr e0 b0 r h) fun r s' hq => ?_)
  cases r with
  | error e => exact hx pins σ H s e s' I hq
  | ok fl =>
    cases fl with
    | ret u => exact I.after hq
    | next => exact False.elim hq
    | brk => exact False.elim hq
    | cont => exact False.elim hq
def rTwoX (C : Addr) (sp : Sp) (E : XK) : R2 := fun x y H Q => ∃ a dx fs b dy gs, x = .ref a ∧ y = .ref b ∧ H a = some (.ins C dx fs) ∧ H b = some (.ins C dy gs) ∧ sp [x, y] H Q E
theorem op_addX (hs : PySem.W.findIn X.K (.ref C) "__add__" = some (some (.ref f))) (hf : PySem.W.isFn X.K (.ref f) = true) (hc : PySem.W.selfFirst X.K C = true) (F : FnX X.prog X.w X.K X.mg X.base CX k f fd ps sp) (hgu : X.A.guards = some []) (hb : Binds X.K fd ps [])
    (hr : Room k X.A) (hx : Passes CX X E) : OpR X (binaryOp .Add) (rTwoX C sp E) := by
  intro pins s σ H x y v u Q I rx ry h
  obtain ⟨a, dx, fs, b, dy, gs, rfl, rfl, ea, eb, q⟩ := h
  obtain rfl : v = Value.ref a := rx
  obtain rfl : u = Value.ref b := ry
  obtain ⟨ox, od, J⟩ := inst_of I ea
  obtain ⟨oy, oe, J'⟩ := inst_of I eb
  obtain ⟨m, hF⟩ := I.fr
  refine PySem.W.binop_K hF I.ok.mod.kin J J'.type hc hs hf (wpAny_mono (run_belowX (vs := [.ref a, .ref b]) F hgu hr I.env0 hb hx I (.cons rfl (.cons rfl .nil)) q) (fun w s' z => ?_) fun _ _ x => x)
  obtain ⟨z', H', I', rz, qz⟩ := z
  exact SlX.cmpback rz ⟨z', H', I', rz, qz⟩
def rLenX (C : Addr) (sp : Sp) (E : XK) : List V → Hp → VK → Prop := fun xs H Q => ∃ a dx fs, xs = [V.ref a] ∧ H a = some (.ins C dx fs) ∧ sp [.ref a] H (fun z H' => ∃ i : Int, z = .int i ∧ (0 ≤ i ∧ i < 2 ^ 63) ∧ Q (.int i) H') E
theorem call_lenX (hs : PySem.W.findIn X.K (.ref C) "__len__" = some (some (.ref f))) (hf : PySem.W.isFn X.K (.ref f) = true) (F : FnX X.prog X.w X.K X.mg X.base CX k f fd ps sp) (hgu : X.A.guards = some []) (hb : Binds X.K fd ps []) (hr : Room (k + 1) X.A) (hx : Passes CX X E) :
    CallR X (.builtin "len") (rLenX C sp E) := by
  intro pins s σ H xs us Q I r h
  obtain ⟨a, dx, fs, rfl, e, q⟩ := h
  obtain ⟨u, rfl, ru⟩ := vals1 r
  obtain rfl : u = Value.ref a := ru
  obtain ⟨ox, od, J⟩ := inst_of I e
  obtain ⟨m, hF⟩ := I.fr
  refine PySem.W.len_K hF I.ok.mod.kin J hs hf (wpAny_mono (run_belowX (vs := [.ref a]) F (by exact hgu) hr.in1 I.env0.in1 hb hx I (.cons rfl .nil) q) (fun v s' z => ?_) fun _ _ x => x)
  obtain ⟨z', H', I', rz, i, rfl, hi, q'⟩ := z
  obtain ⟨t, rfl⟩ := (show ∃ t, v = Value.int i t from rz)
  exact ⟨hi, .int i, H', I'.tok _, ⟨_, rfl⟩, q'⟩
end
def isObj (C : Addr) : Dt → Bool
  | .obj C' _ _ => decide (C' = C)
  | _ => false
theorem isObj_of {K : PySem.W.Frag} {i : Ix} {F H : Hp} {C : Addr} {d : Dt} {v : V} (fh : Same F H) (h : isObj C d = true) (r : View K i F H d v) : ∃ a dx fs, v = .ref a ∧ H a = some (.ins C dx fs) ∧ Rep K i F d v := by
  cases d <;> first | (cases h; done) | skip
  rename_i C' ns l
  have h : C' = C := of_decide_eq_true h
  subst h
  have r' := r.rep fun _ e => nomatch e
  obtain ⟨a, dx, gs, h0, h1, h2, h3⟩ := r'
  exact ⟨a, dx, gs, h0, fh _ _ h1, a, dx, gs, h0, h1, h2, h3⟩
def orOp (p : Dt → Dt → Bool) (op1 op2 : Dt → Dt → M R) : Dt → Dt → M R := fun a b => if p a b = true then op1 a b else op2 a b
def orC (p : Dt → Bool) (op1 op2 : Dt → M R) : Dt → M R := fun a => if p a = true then op1 a else op2 a
def both (C : Addr) (a b : Dt) : Bool := isObj C a && isObj C b
def twoOw (C : Addr) (sem : List Dt → M R) (a b : Dt) : M R := if both C a b = true then sem [a, b] else M.no
def lenOw (C : Addr) (sem : List Dt → M R) (a : Dt) : M R := if isObj C a = true then DL.M.bnd (sem [a]) fun
    | .val (.int z) => if 0 ≤ z ∧ z < 2 ^ 63 then M.ret (.val (.int z)) else M.no
    | _ => M.no
  else M.no
section
variable {X : Cx} {E : XK} {k : Nat} {f C : Addr} {fd : FuncData} {ps : List Str} {sem : List Dt → M R}
theorem OpD.or {g : Value → Value → Sem Value} {p : Dt → Dt → Bool} {op1 op2 : Dt → Dt → M R} (h1 : OpD X E g op1) (h2 : OpD X E g op2) : OpD X E g (orOp p op1 op2) := by
  obtain ⟨r1, p1, j1⟩ := h1
  obtain ⟨r2, p2, j2⟩ := h2
  refine ⟨_, p1.or p2, fun i s F H x y a b Q W va vb q => ?_⟩
  unfold orOp at q
  by_cases h : p a b = true
  · rw [if_pos h] at q
    exact .inl (j1 i s F H x y a b Q W va vb q)
  · rw [if_neg h] at q
    exact .inr (j2 i s F H x y a b Q W va vb q)
theorem CallD.or {g : Value} {p : Dt → Bool} {op1 op2 : Dt → M R} (h1 : CallD X E g op1) (h2 : CallD X E g op2) : CallD X E g (orC p op1 op2) := by
  obtain ⟨r1, p1, j1⟩ := h1
  obtain ⟨r2, p2, j2⟩ := h2
  refine ⟨_, p1.or p2, fun i s F H x a Q W va q => ?_⟩
  unfold orC at q
  by_cases h : p a = true
  · rw [if_pos h] at q
    exact .inl (j1 i s F H x a Q W va q)
  · rw [if_neg h] at q
    exact .inr (j2 i s F H x a Q W va q)
theorem two_of {K : PySem.W.Frag} {i : Ix} {F H : Hp} {a b : Dt} {x y : V} (fh : Same F H) (h : both C a b = true) (va : View K i F H a x) (vb : View K i F H b y) : ∃ p dx fs q dy gs, x = .ref p ∧ y = .ref q ∧ H p = some (.ins C dx fs) ∧ H q = some (.ins C dy gs) ∧ Reps K i F [a, b] [x, y] := by
  unfold both at h
  rw [Bool.and_eq_true] at h
  obtain ⟨p, dx, fs, h0, h1, r1⟩ := isObj_of fh h.1 va
  obtain ⟨q, dy, gs, g0, g1, r2⟩ := isObj_of fh h.2 vb
  exact ⟨p, dx, fs, q, dy, gs, h0, g0, h1, g1, .cons r1 (.cons r2 .nil)⟩
theorem od_addX (hs : PySem.W.findIn X.K (.ref C) "__add__" = some (some (.ref f))) (hf : PySem.W.isFn X.K (.ref f) = true) (hc : PySem.W.selfFirst X.K C = true)
    (F : FnD X.prog X.w X.K X.mg X.base k f fd ps sem) (hn : ps.length = 2) (hgu : X.A.guards = some []) (hb : Binds X.K fd ps []) (hr : Room k X.A) (hx : Passes (L2.CX X.prog X.w) X E) : OpD X E (binaryOp .Add) (twoOw C sem) := by
  refine ⟨_, op_addX hs hf hc F hgu hb hr hx, fun i s F H x y a b Q W va vb q => ?_⟩
  obtain ⟨h, q⟩ := ok_if q
  obtain ⟨p, dx, fs, r, dy, gs, h0, h1, h2, h3, rs⟩ := two_of W.fh h va vb
  exact ⟨p, dx, fs, r, dy, gs, h0, h1, h2, h3, i, F, s, [a, b], W, rs, hn.symm, q⟩
theorem cd_lenX (hs : PySem.W.findIn X.K (.ref C) "__len__" = some (some (.ref f))) (hf : PySem.W.isFn X.K (.ref f) = true)
    (F : FnD X.prog X.w X.K X.mg X.base k f fd ps sem) (hn : ps.length = 1) (hgu : X.A.guards = some []) (hb : Binds X.K fd ps []) (hr : Room (k + 1) X.A) (hx : Passes (L2.CX X.prog X.w) X E) : CallD X E (.builtin "len") (lenOw C sem) := by
  refine ⟨_, call_lenX hs hf F hgu hb hr hx, fun i s F H x a Q W va q => ?_⟩
  obtain ⟨h, q⟩ := ok_if q
  obtain ⟨p, dx, fs, rfl, h1, r1⟩ := isObj_of W.fh h va
  refine ⟨p, dx, fs, rfl, h1, i, F, s, [a], W, .cons r1 .nil, hn.symm, ok_bnd q fun a s' v F' H' x m r q' => ?_⟩
  cases a with
  | new l => exact q'.elim
  | val d =>
    cases d <;> first | exact q'.elim | skip
    rename_i z
    obtain ⟨hz, q'⟩ := ok_if q'
    exact ⟨z, r, hz, q' _ F' H' (.refl x.fh) m rfl⟩
end
end DL
namespace DL
open PySem PySem.Spec PyProof.Rows L2 LwE
mutual
def convX : Dt → Option PyData
  | .non => some .none
  | .bl b => some (.bool b)
  | .int i => some (.int i)
  | .str x => some (.str x)
  | .tup l => (convXs l).map .tuple
  | .lst l => (convXs l).map .list
  | .dK [] [] => some (.dict [])
  | _ => none
def convXs : List Dt → Option (List PyData)
  | [] => some []
  | d :: ds => match convX d, convXs ds with
    | some x, some xs => some (x :: xs)
    | _, _ => none
end
section
variable {X : Cx} {pins : List (Addr × Obj)} {σ : L2.St} {F H : Hp} {s : Shared} {i : Ix}
theorem no_sys (I : Inv X pins σ H s) (hs : ∃ o, X.base.get? sysModules = some o) : H sysModules = none := by
  obtain ⟨o, e⟩ := hs
  exact (I.env0.bs _ _ e).2
theorem far_sys (I : Inv X pins σ H s) (hs : ∃ o, X.base.get? sysModules = some o) {as : List Addr} (h : ∀ a ∈ as, H a ≠ none) : sysModules ∉ as := fun m => h _ m (no_sys I hs)
theorem dict0 (I : Inv X pins σ H s) {a : Addr} (e : H a = some (.dK [])) : Reads s.heap (.ref a) (.dict []) [a] := by
  obtain ⟨_, ns, vs, kv, o, es, ep, e1, ex, ed, _, pr, _⟩ := I.hok a _ e
  cases kv
  have z : es.toList = [] := by
    generalize es.toList = l at pr
    cases pr
    rfl
  have := Reads.dict (kvs := []) (as := []) (bs := []) e1 ex.1 ed (by rw [z]; exact .nil) (by rw [z]; exact .nil)
  simpa using this
mutual
theorem rep_reads (I : Inv X pins σ H s) (fh : Same F H) : ∀ (d : Dt) {v : V} {x : PyData} {u : Value}, Rep X.K i F d v → convX d = some x → RelV v u → ∃ as, Reads s.heap u x as ∧ ∀ a ∈ as, H a ≠ none
  | .non, _, _, _, h, e, r => by
    cases e
    rw [show _ = V.non from h] at r
    cases r
    exact ⟨[], .none, fun _ m => nomatch m⟩
  | .bl b, _, _, _, h, e, r => by
    cases e
    rw [show _ = V.bl b from h] at r
    cases r
    exact ⟨[], .bool b, fun _ m => nomatch m⟩
  | .int z, _, _, _, h, e, r => by
    cases e
    rw [show _ = V.int z from h] at r
    obtain ⟨t, rfl⟩ := r
    exact ⟨[], .int z t, fun _ m => nomatch m⟩
  | .str z, _, _, _, h, e, r => by
    cases e
    rw [show _ = V.str z from h] at r
    obtain ⟨t, rfl⟩ := r
    exact ⟨[], .str z t, fun _ m => nomatch m⟩
  | .tup l, _, _, _, ⟨a, vs, h1, h2, h3⟩, e, r => by
    unfold convX at e
    obtain ⟨xs, e1, e2⟩ := Option.map_eq_some_iff.mp e
    subst h1 e2
    cases r
    obtain ⟨its, rv, ⟨o, ho, hc, n, hd⟩, _⟩ := I.tuple (sqT_same fh h2)
    obtain ⟨as, hr, ha⟩ := reps_reads I fh l h3 e1 rv
    exact ⟨as, Reads.tuple ho hc hd hr, ha⟩
  | .lst l, _, _, _, ⟨a, vs, h1, h2, h3⟩, e, r => by
    unfold convX at e
    obtain ⟨xs, e1, e2⟩ := Option.map_eq_some_iff.mp e
    subst h1 e2
    cases r
    obtain ⟨its, rv, ⟨o, n, ho, hc, _, hd⟩, _⟩ := I.list (SqL.of (fh _ _ h2))
    obtain ⟨as, hr, ha⟩ := reps_reads I fh l h3 e1 rv
    refine ⟨a :: as, Reads.list ho hc hd hr, fun b m => ?_⟩
    rcases List.mem_cons.mp m with rfl | m
    · rw [fh _ _ h2]; exact fun z => nomatch z
    · exact ha b m
  | .dK [] [], _, _, _, ⟨a, kvs, h1, h2, h3, h4⟩, e, r => by
    cases e
    subst h1
    cases r
    have : kvs = [] := List.map_eq_nil_iff.mp h3
    subst this
    refine ⟨[a], dict0 I (fh _ _ h2), fun b m => ?_⟩
    rw [List.mem_singleton.mp m, fh _ _ h2]
    exact fun z => nomatch z
  | .dK (_ :: _) _, _, _, _, _, e, _ => by unfold convX at e; cases e
  | .dK [] (_ :: _), _, _, _, _, e, _ => by unfold convX at e; cases e
  | .drw, _, _, _, _, e, _ => by unfold convX at e; cases e
  | .any _, _, _, _, _, e, _ => by unfold convX at e; cases e
  | .opq, _, _, _, _, e, _ => by unfold convX at e; cases e
  | .slc, _, _, _, _, e, _ => by unfold convX at e; cases e
  | .scr _, _, _, _, _, e, _ => by unfold convX at e; cases e
  | .exc _ _ _, _, _, _, _, e, _ => by unfold convX at e; cases e
  | .obj _ _ _, _, _, _, _, e, _ => by unfold convX at e; cases e
  | .dT _ _, _, _, _, _, e, _ => by unfold convX at e; cases e
theorem reps_reads (I : Inv X pins σ H s) (fh : Same F H) : ∀ (l : List Dt) {vs : List V} {xs : List PyData} {us : List Value}, Reps X.K i F l vs → convXs l = some xs → Vals vs us → ∃ as, ReadsAll s.heap us xs as ∧ ∀ a ∈ as, H a ≠ none
  | [], _, _, _, h, e, r => by
    unfold convXs at e
    cases e
    rw [show _ = [] from h] at r
    cases r
    exact ⟨[], .nil, fun _ m => nomatch m⟩
  | d :: ds, _, _, _, ⟨v, vr, h1, h2, h3⟩, e, r => by
    unfold convXs at e
    cases e1 : convX d with
    | none => rw [e1] at e; cases e
    | some x =>
      cases e2 : convXs ds with
      | none => rw [e1, e2] at e; cases e
      | some xs =>
        rw [e1, e2] at e
        cases e
        subst h1
        cases r with
        | cons r1 r2 =>
          obtain ⟨as, q1, a1⟩ := rep_reads I fh d h2 e1 r1
          obtain ⟨bs, q2, a2⟩ := reps_reads I fh ds h3 e2 r2
          exact ⟨as ++ bs, .cons q1 q2, fun b m => (List.mem_append.mp m).elim (a1 b) (a2 b)⟩
end
theorem view_reads (I : Inv X pins σ H s) (fh : Same F H) {d : Dt} {v : V} {x : PyData} {u : Value} (h : View X.K i F H d v) (e : convX d = some x) (r : RelV v u) : ∃ as, Reads s.heap u x as ∧ ∀ a ∈ as, H a ≠ none := by
  rcases h with h | ⟨p, vs, l, rfl, rfl, h1, _, h3⟩
  · exact rep_reads I fh d h e r
  · unfold convX at e
    obtain ⟨xs, e1, e2⟩ := Option.map_eq_some_iff.mp e
    subst e2
    cases r
    obtain ⟨its, rv, ⟨o, n, ho, hc, _, hd⟩, _⟩ := I.list (SqL.of h1)
    obtain ⟨as, hr, ha⟩ := reps_reads I fh l h3 e1 rv
    refine ⟨p :: as, Reads.list ho hc hd hr, fun b m => ?_⟩
    rcases List.mem_cons.mp m with rfl | m
    · rw [h1]; exact fun z => nomatch z
    · exact ha b m
def rReprX (K : PySem.W.Frag) : List V → Hp → VK → Prop := fun xs H Q => ∃ i F v d x, xs = [v] ∧ Same F H ∧ View K i F H d v ∧ convX d = some x ∧ x.showable = true ∧ x.depth ≤ 8 ∧ x.shown.length ≤ sizeLine ∧ Q (.str x.shown) H
theorem call_reprX (hs : ∃ o, X.base.get? sysModules = some o) (hg : X.A.guards = some []) (hu : X.A.units + 64 < cLine) : CallR X (.builtin "repr") (rReprX X.K) := by
  intro pins s σ H xs us Q I r h
  obtain ⟨i, F, v, d, x, rfl, fh, vw, ex, h1, h3, h4, q⟩ := h
  obtain ⟨u, rfl, ru⟩ := vals1 r
  obtain ⟨as, rd, ha⟩ := view_reads I fh vw ex ru
  have fin : ∀ h' t tk, (∀ b o, s.heap.get? b = some o → h'.get? b = some o) → EP X pins σ Q (.str x.shown t) { s with heap := h', toks := tk } := fun h' t tk kp => ⟨.str x.shown, H, I.kept kp, ⟨t, rfl⟩, q⟩
  cases u with
  | ref a => exact repr_of_reads' rd h1 (fun _ => far_sys I hs ha) hg (by omega) (fun b o e => e) (fun h' t tk kp => fin h' t tk kp) h4
  | none =>
    cases rd
    exact PySem.P.repr_of_none (fin s.heap s.toks (s.toks + 1) fun b o e => e)
  | bool b =>
    cases rd
    have := fin s.heap s.toks (s.toks + 1) fun b o e => e
    exact PySem.P.repr_of_bool (by simpa only [PyData.shown] using this)
  | int z t =>
    cases rd
    have h1 : z.natAbs.log2 < 1920 := by
      simp only [PyData.showable, decide_eq_true_eq] at h1
      omega
    exact PySem.P.repr_of_int h1 (by simpa only [PyData.shown] using fin s.heap s.toks (s.toks + 1) fun b o e => e)
  | str z t =>
    cases rd
    exact PySem.P.repr_of_str (by simpa only [PyData.shown] using fin s.heap s.toks (s.toks + 1) fun b o e => e) h4
  | _ => cases rd
end
def reprD (d : Dt) : M R := match convX d with
  | some x => if x.showable = true ∧ x.depth ≤ 8 ∧ x.shown.length ≤ 100000 then M.ret (.val (.str x.shown)) else M.no
  | none => M.no
theorem cd_repr {X : Cx} {E : XK} (hs : ∃ o, X.base.get? sysModules = some o) (hg : X.A.guards = some []) (hu : X.A.units + 64 < cLine) : CallD X E (.builtin "repr") reprD := by
  refine ⟨_, call_reprX hs hg hu, fun i s F H x a Q W va q => ?_⟩
  unfold reprD at q
  cases e : convX a with
  | none => rw [e] at q; exact q.elim
  | some d =>
    rw [e] at q
    obtain ⟨⟨h1, h2, h3⟩, q⟩ := ok_if q
    exact ⟨i, F, x, a, d, rfl, W.fh, va, e, h1, h2, le_line h3, q _ F H (.refl W.fh) W.mr rfl⟩
end DL
namespace Lw
open PySem L2
abbrev nums (l : List Int) : List V := l.map V.int
theorem nums_get {l : List Int} {i : Nat} {x : V} (h : (nums l)[i]? = some x) : ∃ z, x = .int z ∧ l[i]? = some z ∧ z ∈ l := by
  rw [List.getElem?_map] at h
  cases e : l[i]? with
  | none =>
    rw [e] at h
    cases h
  | some z =>
    rw [e] at h
    exact ⟨z, (Option.some.inj h).symm, rfl, List.mem_of_getElem? e⟩
section
variable {P : Program} {w : World} {K : PySem.W.Frag} {mg : Str → Option Value} {base : Heap}
theorem same_new {H : Hp} {p : Addr} {o : HO} (h : H p = none) : Same H (upd H p o) := fun b u e => by
  rw [upd_ne (ne_of_none e h)]
  exact e
end
end Lw
namespace LwE
open PySem PySem.Spec PyProof.Rows L2
def dnV (a b : Int) : List Int := (List.range (a - b).toNat).map fun i => a - (i : Nat)
theorem dnV_length (a b : Int) : (dnV a b).length = (a - b).toNat := by
  unfold dnV
  rw [List.length_map, List.length_range]
theorem vals_dn {a b : Int} {acc : Array Value} (h : ItemsOf (fun i v => ∃ t, v = .int (a + i * (-1)) t) acc (a - b).toNat) : Vals ((dnV a b).map V.int) acc.toList := by
  have e : acc.toList.length = (a - b).toNat := by
    rw [Array.length_toList]
    exact h.1
  have e2 : (dnV a b).map V.int = (List.range acc.toList.length).map fun i => V.int (a - (i : Nat)) := by
    unfold dnV
    rw [e, List.map_map]
    rfl
  rw [e2]
  refine vals_of_get acc.toList _ fun j u hj => ?_
  obtain ⟨t, rfl⟩ := h.2 j u (by rw [← hj, Array.getElem?_toList])
  exact ⟨t, by rw [Int.mul_neg, Int.mul_one, Int.sub_eq_add_neg]⟩
section
variable {X : Cx} {a b : Expr} {ta : TA}
def DnOk (a b : Int) : Prop := -1000 ≤ a ∧ a ≤ 1000 ∧ -1000 ≤ b ∧ b ≤ 1000
def tLstDn (ta : TA) : TE := fun σ H Q => ta σ H fun vs H1 => ∃ a b : Int, vs = [.int a, .int b, .int (-1)] ∧ DnOk a b ∧ ∀ q, H1 q = none → Q (.ref q) (upd H1 q (.lst ((dnV a b).map V.int)))
theorem pe_listDn {c : Expr} {p p' pos pos' : Pos} (hc : X.calm = true) (hg : Gl X "list") (hm : X.mg "list" = none) (hgr : Gl X "range") (hmr : X.mg "range" = none) (ha : PA X [a, b, c] ta)
    (hs : starEach [a, b, c] X.env = (false, eval a X.env) :: starEach [b, c] X.env := by rfl) (hpl : (backTo pos' (starEach [b, c] X.env)).any (·.1) = false := by rfl)
    (na : starEach [.Call (.Name "range" p') [a, b, c] [] pos'] X.env = (false, eval (.Call (.Name "range" p') [a, b, c] [] pos') X.env) :: starEach [] X.env := by rfl) :
    PE X (.Call (.Name "list" p) [.Call (.Name "range" p') [a, b, c] [] pos'] [] pos) (tLstDn ta) := by
  refine ⟨fun pins s σ H Q I h => ?_⟩
  have inner : wpAny (model X.prog X.w) X.A (eval (.Call (.Name "range" p') [a, b, c] [] pos') X.env)
      (fun x s' => ∃ r i j t u v H', x = .ref r ∧ IsRange s'.heap r i j (-1) t u v ∧ Inv X pins σ H' s' ∧ DnOk i j ∧ ∀ q, H' q = none → Q (.ref q) (upd H' q (.lst ((dnV i j).map V.int)))) X.xe s := by
    refine Call_ (ld_blt I hgr hmr boot_range (PyProof.Rows.callWith_type1 (thn (ha.run pos' pins s σ H _ I h) fun us s1 ⟨vs, H1, I1, r1, q1⟩ => ?_) hs hpl))
    obtain ⟨i, j, rfl, ok, q⟩ := q1
    obtain ⟨u1, u2, u3, rfl, ⟨t1, rfl⟩, ⟨t2, rfl⟩, ⟨t3, rfl⟩⟩ : ∃ u1 u2 u3, us = [u1, u2, u3] ∧ RelV (.int i) u1 ∧ RelV (.int j) u2 ∧ RelV (.int (-1)) u3 := by
      cases r1 with
      | cons x1 r1 =>
        cases r1 with
        | cons x2 r1 =>
          cases r1 with
          | cons x3 r1 =>
            cases r1
            exact ⟨_, _, _, rfl, x1, x2, x3⟩
    exact call_range_3 (by decide) ⟨_, i, j, _, _, _, H1, rfl, IsRange.new _ _ _ _ _ _ _, I1.kept (t' := s1.toks) fun b u e => Heap.get?_push_of_some _ e, ok, q⟩
      (Or.inl (PyProof.noPylong_small (by decide)))
  refine Call_ (ld_blt I hg hm boot_list (PyProof.Rows.callWith_type1 (args_cons (thn inner fun x s1 ⟨r, i, j, t, u, v, H1, ex, hr, I1, ok, q⟩ => args_nil ?_) na) na))
  subst ex
  obtain ⟨b1, b2, b3, b4⟩ := ok
  refine call_list_range (n := (i - j).toNat) (I1.ok.hd hc) hr (PySem.W.small_down (by omega) (by omega) (by omega) (by omega)) (PySem.W.rangeSize_downNat i j) (by omega) fun h' tk acc c' hk e' hi => ?_
  refine ⟨.ref s1.heap.objs.size, upd H1 s1.heap.objs.size (.lst ((dnV i j).map V.int)), I1.laid hk (Nat.le_refl _)
    (show ObjOk X.prog X.w _ _ _ (.lst ((dnV i j).map V.int)) from ⟨?_, acc.toList, c', vals_dn hi, ?_⟩), rfl, q _ (I1.hok.fresh (Nat.le_refl _))⟩
  · rw [List.length_map, dnV_length, sizeLine_eq]
    omega
  · rw [Array.toArray_toList]
    exact e'
end
end LwE
namespace Lw
open PySem L2 LwE
structure Cells (cs : List Int) : Prop where
  len : cs.length = 64
  bd : ∀ x ∈ cs, 0 ≤ x ∧ x < 2147483647
theorem Cells.set {cs : List Int} (c : Cells cs) (j : Nat) {z : Int} (h0 : 0 ≤ z) (h1 : z < 2147483647) : Cells (cs.set j z) :=
  ⟨by rw [List.length_set]; exact c.len, fun x hx => by
    rcases List.mem_or_eq_of_mem_set hx with q | q
    · exact c.bd x q
    · rw [q]
      exact ⟨h0, h1⟩⟩
theorem Cells.at {cs : List Int} (c : Cells cs) {j : Nat} (hj : j < 64) : ∃ x, (nums cs)[j]? = some (.int x) ∧ 0 ≤ x ∧ x < 2147483647 := by
  have hl : j < cs.length := by rw [c.len]; exact hj
  refine ⟨cs[j], by simp [hl], c.bd _ (List.getElem_mem hl)⟩
theorem set_nums (cs : List Int) (j : Nat) (z : Int) : (nums cs).set j (.int z) = nums (cs.set j z) := by
  show _ = (cs.set j z).map V.int
  rw [List.map_set]
theorem ixN_lt {n j : Nat} (h : j < n) : ixN n (j : Int) = some j := by
  unfold ixN
  rw [if_pos (by omega), if_pos (by omega)]
  simp
section
variable {P : Program} {w : World} {K : PySem.W.Frag} {mg : Str → Option Value} {base : Heap}
theorem scMixed : FnScope ["cell", "n", "blend"] ["cell", "n"] (defScope sMixed) := ⟨rfl, rfl, rfl, by decide +kernel, rfl, by decide +kernel, by decide +kernel⟩
end
end Lw
namespace Lw
open PySem L2 LwE
section
variable {P : Program} {w : World} {K : PySem.W.Frag} {mg : Str → Option Value} {base : Heap}
structure FAt (H H' : Hp) (D : Addr) : Prop where
  same : Same H H'
  free : H D = none
  cells : ∃ cs, Cells cs ∧ H' D = some (.lst (nums cs))
theorem FAt.pair {H H' : Hp} {D T : Addr} {o : HO} (f : FAt H H' D) (h : H' T = none) : FAt H (upd H' T o) D :=
  ⟨f.same.trans (same_new h), f.free, let ⟨cs, c, e⟩ := f.cells; ⟨cs, c, (same_new h) _ _ e⟩⟩
theorem FAt.put {H H' : Hp} {D : Addr} {cs : List Int} (f : FAt H H' D) (c : Cells cs) : FAt H (upd H' D (.lst (nums cs))) D :=
  ⟨fun b o e => by
    rw [upd_ne (ne_of_none e f.free)]
    exact f.same _ _ e, f.free, cs, c, upd_same⟩
def spFolded (K : PySem.W.Frag) : Sp := fun vs H Q _ => ∃ (a : Addr) (ns : List Int), vs = [.ref a] ∧ SqL K H a (nums ns) ∧ ∀ D H', FAt H H' D → Q (.ref D) H'
theorem scFolded : FnScope ["script", "n", "found", "cell"] ["script"] (defScope sFolded) := ⟨rfl, rfl, rfl, by decide +kernel, rfl, by decide +kernel, by decide +kernel⟩
theorem ok_folded {f : Addr} {fd : FuncData} (B : Bare mg) (F : Df K mg "_law_folded" sFolded f fd) : FnOk P w K mg base CX0 1 f fd ["script"] (spFolded K) := by
  refine F.fn.ok scFolded (fun vs H Q E h => ?_) (fun cdv A outer s H vs Q E hr h => ?_)
  · obtain ⟨a, ns, rfl, _⟩ := h
    rfl
  · obtain ⟨a, ns, rfl, hS, k⟩ := h
    refine ⟨_, pss_cons (ps_setLc (i := 2) (own := [("n", 1)]) (g := gName 1) (tt := tYes) rfl scFolded.nd rfl rfl (sw_true rfl rfl rfl (by decide +kernel)) (pi_range1 (by rfl) B.range (pa_cons pe_int pa_nil))
        (blkOk_by (N := ["script", "n", "found", "cell"]) (sc := defScope sFolded) (by decide +kernel)) (fun _ _ _ _ _ => pg_name (i := 1) scFolded.nd rfl (Or.inl rfl)) (fun _ _ _ _ _ => pts_nil)
        (fun _ _ _ _ _ => pe_op op_add pe_int (pv 1)))
      (pss_cons (ps_for PassesOwn.never rfl (pi_enum (by rfl) B.enumerate (pa_cons (pv 0) pa_nil)) (pg_tup rfl (pgs_cons (pg_name (i := 1) scFolded.nd rfl (Or.inl rfl)) (pgs_cons (pg_name (i := 3) scFolded.nd rfl (Or.inl rfl)) pgs_nil)))
        (pss_one (ps_asg (pe_op op_mod (pe_callTy call_int1 (by rfl) B.int (by decide +kernel) (pa_cons (pe_op op_add (pe_op op_mul (pe_ix ix_list (pv 2)
            (pe_op op_mod (pe_callTy call_int1 (by rfl) B.int (by decide +kernel) (pa_cons (pv 1) pa_nil)) pe_int) (fun _ _ => rfl)) pe_int) (pv 3)) pa_nil)) pe_int)
          (pg_sub (pv 2) (pe_op op_mod (pe_callTy call_int1 (by rfl) B.int (by decide +kernel) (pa_cons (pv 1) pa_nil)) pe_int) set_list))))
      (pss_cons (ps_for PassesOwn.never rfl (pi_range2 (by rfl) B.range (pa_cons pe_int (pa_cons pe_int pa_nil))) (pg_name (i := 1) scFolded.nd rfl (Or.inl rfl))
        (pss_one (ps_asg (pe_op op_mod (pe_callTy call_int1 (by rfl) B.int (by decide +kernel) (pa_cons (pe_op op_add (pe_ix ix_list (pv 2) (pv 1) (fun _ _ => rfl))
            (pe_op op_mul (pe_ix ix_list (pv 2) (pe_op op_sub (pv 1) pe_int) (fun _ _ => rfl)) pe_int)) pa_nil)) pe_int)
          (pg_sub (pv 2) (pv 1) set_list))))
      (pss_one (ps_ret (pv 2))))), ?_⟩
    refine ⟨64, rfl, by decide, by decide, fun D hD => lc_range (lo := 0) (n := 64)
      (fun i H' => Same H H' ∧ ∃ cs : List Int, cs.length = i ∧ (∀ x ∈ cs, 0 ≤ x ∧ x < 2147483647) ∧ H' D = some (.lst (nums cs))) ⟨same_new hD, [], rfl, fun x hx => by simp at hx, upd_same⟩ ?_ ?_⟩
    · intro i H' hi ⟨h1, cs, h2, h3, h4⟩
      refine ⟨rfl, ?_⟩
      unfold tYes
      refine iteT ?_
      refine ⟨_, rfl, _, _, rfl, rfl, nums cs, h4, by rw [List.length_map]; exact small1000 (by omega), ?_, cs ++ [17 + (0 + (i : Int))], by simp [h2], fun x hx => ?_, by rw [upd_same]; simp [nums]⟩
      · intro b o e
        rw [upd_ne (ne_of_none e hD)]
        exact h1 _ _ e
      · rcases List.mem_append.mp hx with q | q
        · exact h3 x q
        · have e := List.mem_singleton.mp q
          omega
    · intro H' ⟨h1, cs, h2, h3, h4⟩
      have F0 : FAt H H' D := ⟨h1, hD, cs, ⟨h2, h3⟩, h4⟩
      refine ⟨_, rfl, a, _, rfl, h1.seq hS, for_enL (K := K) (a := a) (xs := nums ns) (fun i σ H'' => ∃ v1 v3 : Option V, σ = [some (.ref a), v1, some (.ref D), v3] ∧ FAt H H'' D) ⟨_, _, rfl, F0⟩ (fun i σ H'' _ ⟨_, _, _, f⟩ => f.same.seq hS) ?_ ?_⟩
      · rintro i x T σ H'' hx ⟨v1, v3, rfl, f⟩ hT
        obtain ⟨z, rfl, _, _⟩ := nums_get hx
        have f2 : FAt H (upd H'' T (.tup [.int (i : Nat), .int z])) D := f.pair hT
        obtain ⟨cs, cc, eD⟩ := f2.cells
        have hj : i % 64 < 64 := Nat.mod_lt _ (by decide)
        obtain ⟨y, hy, hy0, hy1⟩ := cc.at hj
        have ei : ((i : Nat) : Int) % 64 = ((i % 64 : Nat) : Int) := by omega
        refine ⟨T, _, rfl, SqT.of upd_same, rfl, _, _, rfl, _, _, rfl, rfl, ?_⟩
        refine ⟨_, rfl, _, rfl, .inl ⟨_, rfl, _, _, rfl, rfl, (by show (0 : Int) < 64; decide), D, _, _, _, rfl, rfl, SqL.of eD, at_of ei hy, _, _, rfl, rfl, .inr ⟨by decide, by decide⟩, _, rfl, _, _, rfl, rfl,
          .inl ⟨_, rfl, _, _, rfl, rfl, (by show (0 : Int) < 2147483647; decide), ?_⟩⟩⟩
        refine ⟨_, rfl, _, rfl, .inl ⟨_, rfl, _, _, rfl, rfl, (by show (0 : Int) < 64; decide), D, _, _, i % 64, rfl, rfl, eD, ?_, ?_⟩⟩
        · rw [ei]
          refine ixN_lt ?_
          rw [List.length_map, cc.len]
          exact hj
        · refine ⟨_, _, rfl, ?_⟩
          rw [set_nums]
          exact f2.put (cc.set _ (by omega) (by omega))
      · rintro σ H'' ⟨v1, v3, rfl, f⟩
        refine ⟨1, 64, rfl, ⟨by decide, by decide, by decide, by decide⟩, for_range (lo := 1) (n := 63) (fun i σ H'' => ∃ v1 v3 : Option V, σ = [some (.ref a), v1, some (.ref D), v3] ∧ FAt H H'' D) ⟨_, _, rfl, f⟩ ?_ ?_⟩
        · rintro i σ H3 hi ⟨v1, v3, rfl, f⟩
          obtain ⟨cs, cc, eD⟩ := f.cells
          obtain ⟨y, hy, hy0, hy1⟩ := cc.at (show i + 1 < 64 by omega)
          obtain ⟨z, hz, hz0, hz1⟩ := cc.at (show i < 64 by omega)
          have e1 : (1 + (i : Int)) = ((i + 1 : Nat) : Int) := by omega
          have e0 : (1 + (i : Int)) - 1 = ((i : Nat) : Int) := by omega
          refine ⟨_, rfl, _, rfl, D, _, _, _, rfl, rfl, SqL.of eD, at_of e1 hy, _, rfl, _, rfl, _, _, rfl, rfl, D, _, _, _, rfl, rfl, SqL.of eD, at_of e0 hz, _, _, rfl, rfl, .inr ⟨by decide, by decide⟩, _, _, rfl, rfl,
            .inl ⟨_, rfl, _, _, rfl, rfl, (by show (0 : Int) < 2147483647; decide), ?_⟩⟩
          refine ⟨_, rfl, _, rfl, D, _, _, i + 1, rfl, rfl, eD, ?_, ?_⟩
          · rw [e1]
            refine ixN_lt ?_
            rw [List.length_map, cc.len]
            omega
          · refine ⟨_, _, rfl, ?_⟩
            rw [set_nums]
            exact f.put (cc.set _ (by omega) (by omega))
        · rintro σ H3 ⟨v1, v3, rfl, f⟩
          exact ⟨_, rfl, k D H3 f⟩
end
end Lw
namespace Lw
open PySem L2 LwE
theorem nums_at {l : List Int} {i : Nat} (h : i < l.length) : (nums l)[i]? = some (.int l[i]) := by
  rw [List.getElem?_map, List.getElem?_eq_getElem h]
  rfl
abbrev kC : Key := Sum.inr "cells"
abbrev kG : Key := Sum.inr "great"
abbrev kS : Key := Sum.inr "spot"
theorem kCG : ¬ (("cells" : Str) = "great") := by decide +kernel
theorem kCS : ¬ (("cells" : Str) = "spot") := by decide +kernel
theorem kGS : ¬ (("great" : Str) = "spot") := by decide +kernel
theorem kSG : ¬ (("spot" : Str) = "great") := by decide +kernel
def mkd (c g : Addr) (n : Int) : List (Key × V) := [(kC, .ref c), (kG, .ref g), (kS, .int n)]
theorem mkd_c (c g : Addr) (n : Int) : valV (mkd c g n) kC = some (.ref c) := by
  simp [mkd, valV, List.find?_cons, kC, kG, kS, kCG, kCS, kGS, kSG]
theorem mkd_g (c g : Addr) (n : Int) : valV (mkd c g n) kG = some (.ref g) := by
  simp [mkd, valV, List.find?_cons, kC, kG, kS, kCG, kCS, kGS, kSG]
theorem mkd_s (c g : Addr) (n : Int) : valV (mkd c g n) kS = some (.int n) := by
  simp [mkd, valV, List.find?_cons, kC, kG, kS, kCG, kCS, kGS, kSG]
theorem mkd_ps (c g : Addr) (n z : Int) : putK (mkd c g n) kS (.int z) = mkd c g z := by
  simp [mkd, putK, kC, kG, kS, kCG, kCS, kGS, kSG]
theorem mkd_pg (c g h : Addr) (n : Int) : putK (mkd c g n) kG (.ref h) = mkd c h n := by
  simp [mkd, putK, kC, kG, kS, kCG, kCS, kGS, kSG]
structure Dr (H : Hp) (m g c : Addr) (n : Int) : Prop where
  hm : H m = some (.dK (mkd c g n))
  hc : ∃ cs, Cells cs ∧ H c = some (.lst (nums cs))
  hg : ∃ gs : List Int, gs.length ≤ 63 ∧ H g = some (.lst (nums gs))
  ne : c ≠ g
  n0 : 0 ≤ n
def Keep (m g : Addr) (H H' : Hp) : Prop := ∀ b o, H b = some o → b ≠ m → b ≠ g → H' b = some o
theorem Keep.refl (m g : Addr) (H : Hp) : Keep m g H H := fun _ _ e _ _ => e
theorem Keep.trans {m g : Addr} {H H1 H2 : Hp} (a : Keep m g H H1) (b : Keep m g H1 H2) : Keep m g H H2 := fun x o e h1 h2 => b x o (a x o e h1 h2) h1 h2
theorem Keep.of {m g : Addr} {H H1 : Hp} (a : Same H H1) : Keep m g H H1 := fun x o e _ _ => a x o e
theorem Dr.mg {H : Hp} {m g c : Addr} {n : Int} (d : Dr H m g c n) : m ≠ g := by
  obtain ⟨gs, _, e⟩ := d.hg
  exact ne_of d.hm e (by intro z; cases z)
theorem Dr.mc {H : Hp} {m g c : Addr} {n : Int} (d : Dr H m g c n) : m ≠ c := by
  obtain ⟨cs, _, e⟩ := d.hc
  exact ne_of d.hm e (by intro z; cases z)
theorem Dr.same {H H' : Hp} {m g c : Addr} {n : Int} (d : Dr H m g c n) (s : Same H H') : Dr H' m g c n :=
  ⟨s _ _ d.hm, let ⟨cs, a, b⟩ := d.hc; ⟨cs, a, s _ _ b⟩, let ⟨cs, a, b⟩ := d.hg; ⟨cs, a, s _ _ b⟩, d.ne, d.n0⟩
theorem Dr.next {H : Hp} {m g c : Addr} {n : Int} (d : Dr H m g c n) : Dr (upd H m (.dK (mkd c g (n + 1)))) m g c (n + 1) :=
  ⟨upd_same, let ⟨cs, a, b⟩ := d.hc; ⟨cs, a, by rw [upd_ne d.mc.symm]; exact b⟩, let ⟨cs, a, b⟩ := d.hg; ⟨cs, a, by rw [upd_ne d.mg.symm]; exact b⟩, d.ne, by have := d.n0; omega⟩
theorem Dr.great {H : Hp} {m g c : Addr} {n : Int} (d : Dr H m g c n) {gs : List Int} (h : gs.length ≤ 63) : Dr (upd H g (.lst (nums gs))) m g c n :=
  ⟨by rw [upd_ne d.mg]; exact d.hm, let ⟨cs, a, b⟩ := d.hc; ⟨cs, a, by rw [upd_ne d.ne]; exact b⟩, ⟨gs, h, upd_same⟩, d.ne, d.n0⟩
theorem dp_nums {K : PySem.W.Frag} {H : Hp} : ∀ l : List Int, DpAll K H (nums l) (l.map PyData.int)
  | [] => .nil
  | x :: l => .cons (.int x) (dp_nums l)
theorem lay_nums : ∀ l : List Int, PyData.canLayAll0 (l.map PyData.int) = true ∧ PyData.depthAll (l.map PyData.int) = 0
  | [] => by simp [PyData.canLayAll0, PyData.depthAll]
  | x :: l => by
    have ih := lay_nums l
    simp [PyData.canLayAll0, PyData.depthAll, PyData.canLay0, PyData.depth, ih.1, ih.2]
theorem shaped_nums (l : List Int) : SeqAt.shaped (.list (l.map PyData.int)) = true := by
  have h := lay_nums l
  unfold SeqAt.shaped
  simp [PyData.canLay0, PyData.depth, h.1, h.2]
theorem Dr.getS {H : Hp} {m g c : Addr} {n : Int} (d : Dr H m g c n) : DGet H m (.str "spot") (some (.int n)) := by
  have q := DGet.k (k := kS) d.hm
  rw [mkd_s] at q
  exact q
theorem Dr.getG {H : Hp} {m g c : Addr} {n : Int} (d : Dr H m g c n) : DGet H m (.str "great") (some (.ref g)) := by
  have q := DGet.k (k := kG) d.hm
  rw [mkd_g] at q
  exact q
theorem Dr.getC {H : Hp} {m g c : Addr} {n : Int} (d : Dr H m g c n) : DGet H m (.str "cells") (some (.ref c)) := by
  have q := DGet.k (k := kC) d.hm
  rw [mkd_c] at q
  exact q
section
variable {P : Program} {w : World} {K : PySem.W.Frag} {mg : Str → Option Value} {base : Heap}
theorem scDraw : FnScope ["m", "limit", "n", "lot", "here", "cell"] ["m", "limit"] (defScope sDraw) := ⟨rfl, rfl, rfl, by decide +kernel, rfl, by decide +kernel, by decide +kernel⟩
end
end Lw
namespace Lw
open PySem L2 LwE
section
variable {P : Program} {w : World} {K : PySem.W.Frag} {mg : Str → Option Value} {base : Heap}
theorem merge_mkd (c g : Addr) : mergeK [] [(kC, V.ref c), (kG, V.ref g), (kS, V.int 0)] = mkd c g 0 := by
  simp [mergeK, putK, mkd, kC, kG, kS, kCG, kCS, kGS, kSG]
def spBegun (K : PySem.W.Frag) : Sp := fun vs H Q _ => ∃ (a : Addr) (ns : List Int), vs = [.ref a] ∧ SqL K H a (nums ns) ∧ ns.length ≤ 63 ∧ ∀ m g c H', Same H H' → Dr H' m g c 0 → Q (.ref m) H'
theorem scBegun : FnScope ["script", "m", "cell"] ["script"] (defScope sBegun) := ⟨rfl, rfl, rfl, by decide +kernel, rfl, by decide +kernel, by decide +kernel⟩
theorem ok_begun {f f1 : Addr} {fd fd1 : FuncData} (F : Df K mg "_law_begun" sBegun f fd) (F1 : Df K mg "_law_folded" sFolded f1 fd1) (b1 : Binds K fd1 ["script"] [])
    (G1 : FnOk P w K mg base CX0 1 f1 fd1 ["script"] (spFolded K)) : FnOk P w K mg base CX0 2 f fd ["script"] (spBegun K) := by
  refine F.fn.ok scBegun (fun vs H Q E h => ?_) (fun cdv A outer s H vs Q E hr h => ?_)
  · obtain ⟨a, ns, rfl, _⟩ := h
    rfl
  · obtain ⟨a, ns, rfl, hS, hl, k⟩ := h
    have hu := hu_of hr
    refine ⟨_, pss_cons (ps_set (i := 1) scBegun.nd rfl (Or.inl rfl) (pe_disp (pps_cons pe_str (pe_call G1 hr (by rfl) F1.g F1.fn.kp b1 .nil pass0 (pa_cons (pv 0) pa_nil))
        (pps_cons pe_str (pe_lst pa_nil) (pps_cons pe_str pe_int pps_nil))) (by rfl) (by rfl) (fun z => by cases z) (by decide)))
      (pss_cons (ps_dput hu (pv 1) pe_str (pe_lc (own := [("cell", 2)]) (g := gName 2) (tt := tYes) rfl scBegun.nd (pi_list (pv 0)) (blkOk_by (N := ["script", "m", "cell"]) (sc := defScope sBegun) (by decide +kernel))
          (fun _ _ _ _ _ => pg_name (i := 2) scBegun.nd rfl (Or.inl rfl)) (fun _ _ _ _ _ => pts_nil)
          (fun _ _ _ _ _ => pe_ifExp (pt_cmpR op_ge (pv 2) (pe_op op_pow pe_int pe_int) (nomark _)) (pv 2) pe_int)) rfl)
      (pss_one (ps_ret (pv 1)))), ?_⟩
    intro p hp
    refine ⟨_, rfl, a, ns, rfl, (same_new hp).seq hS, fun D H1 f1 => ?_⟩
    have s1 : Same H H1 := (same_new hp).trans f1.same
    have hp1 : H1 p = some (.dK []) := f1.same _ _ upd_same
    refine ⟨Nat.zero_le _, fun g hg => ?_⟩
    have npg : p ≠ g := ne_of_none hp1 hg
    refine ⟨by rw [upd_ne npg]; exact hp1, [(kC, .ref D), (kG, .ref g), (kS, .int 0)], rfl, (by show 3 ≤ 15; decide), ?_⟩
    rw [merge_mkd]
    obtain ⟨cs, cc, eD⟩ := f1.cells
    have nDp : D ≠ p := ne_of eD hp1 (by intro z; cases z)
    have nDg : D ≠ g := ne_of_none eD hg
    have d0 : Dr (upd (upd H1 g (.lst [])) p (.dK (mkd D g 0))) p g D 0 :=
      ⟨upd_same, ⟨cs, cc, by rw [upd_ne nDp, upd_ne nDg]; exact eD⟩, ⟨[], by decide, by rw [upd_ne npg.symm, upd_same]; rfl⟩, nDg, Int.le_refl 0⟩
    have s2 : Same H (upd (upd H1 g (.lst [])) p (.dK (mkd D g 0))) := fun b o e => by
      rw [upd_ne (ne_of_none e hp), upd_ne (ne_of_none (s1 _ _ e) hg)]
      exact s1 _ _ e
    generalize hH2 : upd (upd H1 g (.lst [])) p (.dK (mkd D g 0)) = H2 at d0 s2 ⊢
    clear hH2
    refine ⟨_, rfl, a, rfl, ⟨_, s2.seq hS⟩, fun q hq => lc_list (K := K) (a := a) (xs := nums ns) (fun i H' => Same H2 H' ∧ ∃ gs : List Int, gs.length = i ∧ H' q = some (.lst (nums gs))) ⟨same_new hq, [], rfl, upd_same⟩
      (fun i H' _ ⟨s3, _⟩ => (s2.trans s3).seq hS) ?_ ?_⟩
    · intro i x H' hx ⟨s3, gs, h2, h3⟩
      obtain ⟨z, rfl, hz, _⟩ := nums_get hx
      have hi : i < ns.length := (List.getElem?_eq_some_iff.mp hz).1
      refine ⟨rfl, ?_⟩
      unfold tYes
      refine iteT ?_
      refine ⟨_, rfl, _, _, rfl, rfl, ⟨by decide, by decide, by decide⟩, _, _, rfl, rfl, _, rfl, ?_⟩
      have put : ∀ y : Int, ∃ acc, H' q = some (.lst acc) ∧ acc.length < sizeLine ∧ Same H2 (upd H' q (.lst (acc ++ [.int y]))) ∧ ∃ gs : List Int, gs.length = i + 1 ∧ (upd H' q (.lst (acc ++ [.int y]))) q = some (.lst (nums gs)) := fun y => by
        refine ⟨nums gs, h3, by rw [List.length_map]; exact small1000 (by omega), fun b o e => ?_, gs ++ [y], by simp [h2], by rw [upd_same]; simp [nums]⟩
        rw [upd_ne (ne_of_none e hq)]
        exact s3 _ _ e
      refine ite2 (fun _ => ?_) (fun _ => ?_)
      · exact ⟨_, rfl, put z⟩
      · exact put 0
    · intro H' ⟨s3, gs, h2, h3⟩
      have d3 := d0.same s3
      refine ⟨_, rfl, p, _, rfl, DPut.k (k := kG) d3.hm (by show 3 < sizeLine; decide), ?_⟩
      rw [mkd_pg]
      have nqp : q ≠ p := ne_of h3 d3.hm (by intro z; cases z)
      obtain ⟨cs', cc', eD'⟩ := d0.hc
      have nDq : D ≠ q := ne_of_none eD' hq
      refine ⟨_, rfl, k p q D _ (fun b o e => ?_) ⟨upd_same, ⟨cs', cc', ?_⟩, ⟨gs, ?_, ?_⟩, nDq, Int.le_refl 0⟩⟩
      · rw [upd_ne (ne_of_none e hp)]
        exact s3 _ _ (s2 _ _ e)
      · rw [upd_ne nDp]
        exact s3 _ _ eD'
      · rw [h2, List.length_map]
        exact hl
      · rw [upd_ne nqp]
        exact h3
end
end Lw
namespace Lw
open PySem L2 LwE
def mixI (c n : Int) : Int := ((c * (1 + 2 * n) * 48271) % 2147483647 + 7919 * n * n + 104729 * n) * 69621 % 2147483629 / 7
theorem mixI_bd (c n : Int) : 0 ≤ mixI c n ∧ mixI c n < 2147483647 := by
  unfold mixI
  generalize ((c * (1 + 2 * n) * 48271) % 2147483647 + 7919 * n * n + 104729 * n) * 69621 = y
  omega
structure DrE (H : Hp) (m g c : Addr) (n : Int) (gs cs : List Int) : Prop where
  hm : H m = some (.dK (mkd c g n))
  hc : H c = some (.lst (nums cs))
  hg : H g = some (.lst (nums gs))
  cc : Cells cs
  gl : gs.length ≤ 63
  ne : c ≠ g
  n0 : 0 ≤ n
theorem DrE.dr {H : Hp} {m g c : Addr} {n : Int} {gs cs : List Int} (d : DrE H m g c n gs cs) : Dr H m g c n := ⟨d.hm, ⟨cs, d.cc, d.hc⟩, ⟨gs, d.gl, d.hg⟩, d.ne, d.n0⟩
theorem DrE.same {H H' : Hp} {m g c : Addr} {n : Int} {gs cs : List Int} (d : DrE H m g c n gs cs) (s : Same H H') : DrE H' m g c n gs cs := ⟨s _ _ d.hm, s _ _ d.hc, s _ _ d.hg, d.cc, d.gl, d.ne, d.n0⟩
theorem DrE.next {H : Hp} {m g c : Addr} {n : Int} {gs cs : List Int} (d : DrE H m g c n gs cs) : DrE (upd H m (.dK (mkd c g (n + 1)))) m g c (n + 1) gs cs :=
  ⟨upd_same, by rw [upd_ne d.dr.mc.symm]; exact d.hc, by rw [upd_ne d.dr.mg.symm]; exact d.hg, d.cc, d.gl, d.ne, by have := d.n0; omega⟩
theorem DrE.great {H : Hp} {m g c : Addr} {n : Int} {gs hs cs : List Int} (d : DrE H m g c n gs cs) (h : hs.length ≤ 63) : DrE (upd H g (.lst (nums hs))) m g c n hs cs :=
  ⟨by rw [upd_ne d.dr.mg]; exact d.hm, by rw [upd_ne d.ne]; exact d.hc, upd_same, d.cc, h, d.ne, d.n0⟩
def mixP (n : Int) (cs : List Int) : Int := mixI (mixI (cs[n.toNat % 64]?.getD 0 + 31 * (n / 64)) n) (n + 7)
def drawP (n : Int) (gs cs : List Int) (lim : Int) : Int × List Int :=
  if gs = [] then (mixP n cs % lim, gs) else
    if 0 < gs[n.toNat % gs.length]?.getD 0 then (gs[n.toNat % gs.length]?.getD 0 % lim, gs.set (n.toNat % gs.length) (gs[n.toNat % gs.length]?.getD 0 / lim)) else (mixP n cs % lim, gs)
theorem drawP_bd (n : Int) (gs cs : List Int) {lim : Int} (h : 1 ≤ lim) : 0 ≤ (drawP n gs cs lim).1 ∧ (drawP n gs cs lim).1 < lim := by
  unfold drawP
  split
  · exact ⟨Int.emod_nonneg _ (by omega), Int.emod_lt_of_pos _ (by omega)⟩
  · split
    · exact ⟨Int.emod_nonneg _ (by omega), Int.emod_lt_of_pos _ (by omega)⟩
    · exact ⟨Int.emod_nonneg _ (by omega), Int.emod_lt_of_pos _ (by omega)⟩
section
variable {P : Program} {w : World} {K : PySem.W.Frag} {mg : Str → Option Value} {base : Heap}
def spMixedE : Sp := fun vs H Q _ => ∃ c n : Int, vs = [.int c, .int n] ∧ 0 ≤ n ∧ n ≤ 1000000 ∧ Q (.int (mixI c n)) H
theorem ok_mixedE {f : Addr} {fd : FuncData} (B : Bare mg) (F : Df K mg "_law_mixed" sMixed f fd) : FnOk P w K mg base CX0 1 f fd ["cell", "n"] spMixedE := by
  refine F.fn.ok scMixed (fun vs H Q E h => ?_) (fun cdv A outer s H vs Q E hr h => ?_)
  · obtain ⟨c, n, rfl, _⟩ := h
    rfl
  · obtain ⟨c, n, rfl, h0, h1, k⟩ := h
    refine ⟨_, pss_cons (ps_set (i := 2) scMixed.nd rfl (Or.inl rfl)
        (pe_op op_add (pe_op op_add (pe_op op_mod (pe_callTy call_int1 (by rfl) B.int (by decide +kernel) (pa_cons (pe_op op_mul (pe_op op_mul (pv 0) (pe_op op_add pe_int (pe_op op_mul pe_int (pv 1)))) pe_int) pa_nil)) pe_int)
          (pe_op op_mul (pe_op op_mul pe_int (pv 1)) (pv 1))) (pe_op op_mul pe_int (pv 1))))
      (pss_one (ps_ret (pe_op op_fdiv (pe_op op_mod (pe_callTy call_int1 (by rfl) B.int (by decide +kernel) (pa_cons (pe_op op_mul (pv 2) pe_int) pa_nil)) pe_int) pe_int))), ?_⟩
    refine ⟨_, rfl, _, rfl, _, _, rfl, rfl, .inl ⟨by decide, by decide⟩, _, _, rfl, rfl, _, _, rfl, rfl, .inr ⟨by omega, by omega⟩, _, _, rfl, rfl, .inr ⟨by decide, by decide⟩,
      .inl ⟨_, rfl, _, _, rfl, rfl, (by show (0 : Int) < 2147483647; decide), _, rfl, _, _, rfl, rfl, .inl ⟨by decide, by decide⟩, _, rfl, _, _, rfl, rfl, .inr ⟨by omega, by omega⟩,
        _, _, rfl, rfl, _, rfl, _, _, rfl, rfl, .inl ⟨by decide, by decide⟩, _, _, rfl, rfl, ?_⟩⟩
    exact ⟨_, rfl, _, _, rfl, rfl, .inr ⟨by decide, by decide⟩, .inl ⟨_, rfl, _, _, rfl, rfl, (by show (0 : Int) < 2147483629; decide), _, _, rfl, rfl, ⟨by decide, by decide⟩, k⟩⟩
def spDrawE : Sp := fun vs H Q _ => ∃ (m g c : Addr) (n lim : Int) (gs cs : List Int), vs = [.ref m, .int lim] ∧ DrE H m g c n gs cs ∧ n ≤ 900000 ∧ 1 ≤ lim ∧ lim < 1073741824 ∧
  ∀ (H' : Hp), DrE H' m g c (n + 1) (drawP n gs cs lim).2 cs → Keep m g H H' → Q (.int (drawP n gs cs lim).1) H'
theorem ok_drawE {f f1 : Addr} {fd fd1 : FuncData} (B : Bare mg) (F : Df K mg "_law_draw" sDraw f fd) (F1 : Df K mg "_law_mixed" sMixed f1 fd1) (b1 : Binds K fd1 ["cell", "n"] [])
    (G1 : FnOk P w K mg base CX0 1 f1 fd1 ["cell", "n"] spMixedE) : FnOk P w K mg base CX0 2 f fd ["m", "limit"] spDrawE := by
  refine F.fn.ok scDraw (fun vs H Q E h => ?_) (fun cdv A outer s H vs Q E hr h => ?_)
  · obtain ⟨m, g, c, n, lim, gs, cs, rfl, _⟩ := h
    rfl
  · obtain ⟨m, g, c, n, lim, gs, cs, rfl, d, hn, hl1, hl2, k⟩ := h
    have hu := hu_of hr
    refine ⟨_, pss_cons (ps_set (i := 2) scDraw.nd rfl (Or.inl rfl) (pe_dget hu (pv 0) pe_str (fun _ _ => rfl)))
      (pss_cons (ps_dput hu (pv 0) pe_str (pe_op op_add (pv 2) pe_int) rfl)
      (pss_cons (ps_if (pt_cmpR (op_neD hr.units) (pe_dget hu (pv 0) pe_str (fun _ _ => rfl)) (pe_lst pa_nil) (nomark _))
        (pss_cons (ps_set (i := 3) scDraw.nd rfl (Or.inl rfl) (pe_dget hu (pv 0) pe_str (fun _ _ => rfl)))
        (pss_cons (ps_set (i := 4) scDraw.nd rfl (Or.inl rfl) (pe_op op_mod (pe_callTy call_int1 (by rfl) B.int (by decide +kernel) (pa_cons (pv 2) pa_nil)) (pe_callB call_len_seq (by rfl) B.len PySem.boot_len (pa_cons (pv 3) pa_nil))))
        (pss_cons (ps_set (i := 5) scDraw.nd rfl (Or.inl rfl) (pe_ix ix_list (pv 3) (pv 4) (fun _ _ => rfl)))
        (pss_one (ps_if (pt_cmpR op_gt (pv 5) pe_int (nomark _))
          (pss_cons (ps_asg (pe_op op_fdiv (pv 5) (pv 1)) (pg_sub (pv 3) (pv 4) set_list))
          (pss_one (ps_ret (pe_op op_mod (pe_callTy call_int1 (by rfl) B.int (by decide +kernel) (pa_cons (pv 5) pa_nil)) (pv 1)))))
          pss_nil))))) pss_nil)
      (pss_cons (ps_set (i := 3) scDraw.nd rfl (Or.inl rfl) (pe_dget hu (pv 0) pe_str (fun _ _ => rfl)))
      (pss_one (ps_ret (pe_op op_mod (pe_callTy call_int1 (by rfl) B.int (by decide +kernel) (pa_cons
        (pe_call G1 hr (by rfl) F1.g F1.fn.kp b1 .nil pass0 (pa_cons (pe_call G1 hr (by rfl) F1.g F1.fn.kp b1 .nil pass0 (pa_cons
            (pe_op op_add (pe_ix ix_list (pv 3) (pe_op op_mod (pe_callTy call_int1 (by rfl) B.int (by decide +kernel) (pa_cons (pv 2) pa_nil)) pe_int) (fun _ _ => rfl)) (pe_op op_mul pe_int (pe_op op_fdiv (pv 2) pe_int)))
            (pa_cons (pv 2) pa_nil)))
          (pa_cons (pe_op op_add (pv 2) pe_int) pa_nil))) pa_nil)) (pv 1))))))), ?_⟩
    have n0 := d.n0
    -- n = m['spot']; m['spot'] = n + 1
    refine ⟨_, rfl, m, _, rfl, d.dr.getS, ?_⟩
    refine ⟨_, rfl, _, _, rfl, rfl, _, rfl, m, _, rfl, DPut.k (k := kS) d.hm (by show 3 < sizeLine; decide), ?_⟩
    rw [mkd_ps]
    have d1 := d.next
    have k1 : Keep m g H (upd H m (.dK (mkd c g (n + 1)))) := fun b o e h1 _ => by
      rw [upd_ne h1]
      exact e
    generalize hH1 : upd H m (.dK (mkd c g (n + 1))) = H1 at d1 k1 ⊢
    clear hH1
    -- if m['great'] != []
    refine ⟨_, rfl, m, _, rfl, d1.dr.getG, Nat.zero_le _, fun e he => ?_⟩
    have d2 : DrE (upd H1 e (.lst [])) m g c (n + 1) gs cs := d1.same (same_new he)
    have k2 : Keep m g H (upd H1 e (.lst [])) := k1.trans (.of (same_new he))
    have hge := d2.hg
    have hgl := d2.gl
    have hle : (upd H1 e (.lst [])) e = some (.lst []) := upd_same
    generalize hH2 : upd H1 e (.lst []) = H2 at d2 k2 hge hle ⊢
    clear hH2
    have hce := d2.hc
    have cc := d2.cc
    have hj : n.toNat % 64 < 64 := Nat.mod_lt _ (by decide)
    have hjc : n.toNat % 64 < cs.length := by rw [cc.len]; exact hj
    have ej : n % 64 = ((n.toNat % 64 : Nat) : Int) := by omega
    have hy : (nums cs)[n.toNat % 64]? = some (.int (cs[n.toNat % 64]?.getD 0)) := by
      rw [nums_at hjc, List.getElem?_eq_getElem hjc]
      rfl
    have el : (1 : Int) ≤ lim := hl1
    have mb := mixI_bd (cs[n.toNat % 64]?.getD 0 + 31 * (n / 64)) n
    refine ⟨.list (gs.map PyData.int), .list [], .lst (SqL.of hge) (dp_nums gs), .lst (SqL.of hle) .nil, shaped_nums gs, by decide, _, rfl, ?_⟩
    cases gs with
    | nil =>
      refine iteF ?_
      refine ⟨_, rfl, m, _, rfl, d2.dr.getC, ?_⟩
      refine ⟨_, rfl, _, rfl, .inl ⟨_, rfl, _, _, rfl, rfl, (by show (0 : Int) < 64; decide), c, _, _, _, rfl, rfl, SqL.of hce, at_of ej hy, _, rfl, _, _, rfl, rfl, ⟨by decide, by decide⟩,
        _, _, rfl, rfl, .inl ⟨by decide, by decide⟩, _, _, rfl, rfl, _, rfl, _, _, rfl, n0, by omega, ⟨_, rfl, _, _, rfl, rfl, _, _, rfl, by omega, by omega,
          .inl ⟨_, rfl, _, rfl, _, _, rfl, rfl, (by show (0 : Int) < lim; omega), k H2 d2 k2⟩⟩⟩⟩
    | cons x gs =>
      refine iteT ?_
      have hlen : (nums (x :: gs)).length = (x :: gs).length := List.length_map ..
      have hpos : 0 < (x :: gs).length := Nat.succ_pos _
      have hi : n.toNat % (x :: gs).length < (x :: gs).length := Nat.mod_lt _ hpos
      have ei : n % (((nums (x :: gs)).length : Nat) : Int) = ((n.toNat % (x :: gs).length : Nat) : Int) := by
        rw [hlen]
        have e9 : ((n.toNat : Nat) : Int) = n := Int.toNat_of_nonneg n0
        have e8 : ((n.toNat % (x :: gs).length : Nat) : Int) = ((n.toNat : Nat) : Int) % (((x :: gs).length : Nat) : Int) := Int.natCast_emod _ _
        rw [e8, e9]
      have kk := k
      unfold drawP at kk
      rw [if_neg (by simp)] at kk
      generalize hi2 : n.toNat % (x :: gs).length = i at hi ei kk
      have hv : (nums (x :: gs))[i]? = some (.int ((x :: gs)[i]?.getD 0)) := by
        rw [nums_at hi, List.getElem?_eq_getElem hi]
        rfl
      refine ⟨_, rfl, m, _, rfl, d2.dr.getG, ?_⟩
      refine ⟨_, rfl, .inl ⟨_, rfl, _, rfl, g, _, rfl, .inl (SqL.of hge), _, _, rfl, rfl, (by rw [hlen]; omega), ?_⟩⟩
      refine ⟨_, rfl, _, rfl, g, _, _, _, rfl, rfl, SqL.of hge, at_of ei hv, ?_⟩
      refine ⟨_, rfl, _, _, rfl, rfl, _, rfl, ?_⟩
      generalize hx2 : (x :: gs)[i]?.getD 0 = y at hv kk ⊢
      refine ite2 (fun hc => ?_) (fun hc => ?_)
      · rw [if_pos (of_decide_eq_true hc)] at kk
        refine ⟨_, rfl, _, rfl, _, _, rfl, rfl, ⟨by omega, by omega⟩, _, rfl, _, rfl, g, _, _, i, rfl, rfl, hge, (by rw [ei]; exact ixN_lt (by rw [hlen]; exact hi)), ?_⟩
        rw [set_nums]
        refine ⟨_, rfl, .inl ⟨_, rfl, _, rfl, _, _, rfl, rfl, (by show (0 : Int) < lim; omega), ?_⟩⟩
        refine kk _ (d2.great (by rw [List.length_set]; exact hgl)) fun b o e1 h1 h2 => ?_
        rw [upd_ne h2]
        exact k2 _ _ e1 h1 h2
      · rw [if_neg (fun z => hc (decide_eq_true z))] at kk
        refine ⟨_, rfl, m, _, rfl, d2.dr.getC, ?_⟩
        refine ⟨_, rfl, _, rfl, .inl ⟨_, rfl, _, _, rfl, rfl, (by show (0 : Int) < 64; decide), c, _, _, _, rfl, rfl, SqL.of hce, at_of ej hy, _, rfl, _, _, rfl, rfl, ⟨by decide, by decide⟩,
          _, _, rfl, rfl, .inl ⟨by decide, by decide⟩, _, _, rfl, rfl, _, rfl, _, _, rfl, n0, by omega, ⟨_, rfl, _, _, rfl, rfl, _, _, rfl, by omega, by omega,
            .inl ⟨_, rfl, _, rfl, _, _, rfl, rfl, (by show (0 : Int) < lim; omega), kk H2 d2 k2⟩⟩⟩⟩
end
end Lw
namespace DL
open PySem PySem.Spec L2 LwE Lw
def drawS : List Dt → M R
  | [.drw, .int lim] => fun s => if 1 ≤ lim ∧ lim < 1073741824 ∧ s.n ≤ 900000 then .ok (.val (.int (drawP s.n s.gs s.cs lim).1)) { s with n := s.n + 1, gs := (drawP s.n s.gs s.cs lim).2 } else .no
  | _ => M.no
theorem mr_draw {i : Ix} {s s' : MS} {H H' : Hp} (m : MR i s H) (d : DrE H' i.m i.g i.c s'.n s'.gs s'.cs) (k : Keep i.m i.g H H') (ht : s'.tabs = s.tabs) : MR i s' H' := by
  refine ⟨d.hm, d.hc, d.hg, ⟨d.cc.len, d.cc.bd⟩, d.gl, d.ne, d.n0, fun q hq => ?_, m.tq.trans ht.symm⟩
  obtain ⟨ps, e1, e2, e3⟩ := m.tb q hq
  refine ⟨ps, k _ _ e1 (fun z => ?_) (fun z => ?_), e2, fun pos cv hc => ?_⟩
  · rw [z, m.hm] at e1; cases e1
  · rw [z, m.hg] at e1; cases e1
  · obtain ⟨c, z1, z2⟩ := e3 pos cv hc
    refine ⟨c, z1, k _ _ z2 (fun z => ?_) (fun z => ?_)⟩
    · rw [z, m.hm] at z2; cases z2
    · rw [z, m.hg] at z2; cases z2
theorem ext_keep {i : Ix} {s : MS} {F H H' : Hp} (W : Wf i s F H) (k : Keep i.m i.g H H') (hm : H' i.m ≠ none) (hg : H' i.g ≠ none) : Ext i F H F H' :=
  ⟨Same.refl _, fun b o e => k _ _ (W.fh _ _ e) (ne_of_none e (W.gf _ (.inl rfl))) (ne_of_none e (W.gf _ (.inr (.inl rfl)))), fun b o e g => k _ _ e (fun z => g (.inl z)) (fun z => g (.inr (.inl z))), fun _ _ n => n, fun b e => by
    by_cases h1 : b = i.m
    · rw [h1]; exact hm
    · by_cases h2 : b = i.g
      · rw [h2]; exact hg
      · cases z : H b with
        | none => exact absurd z e
        | some o => rw [k _ _ z h1 h2]; exact fun z => nomatch z⟩
theorem fnD_draw {P : Program} {w : World} {K : PySem.W.Frag} {mg : Str → Option Value} {base : Heap} {f : Addr} {fd : FuncData} (G : FnOk P w K mg base CX0 2 f fd ["m", "limit"] spDrawE) : FnD P w K mg base 2 f fd ["m", "limit"] drawS := by
  refine FnX.imp (DL.FnOk.x (DL.FnOk.cx G)) fun vs H Q E ⟨i, F, s, ds, W, r, hl, q⟩ => ?_
  match ds, hl, r, q with
  | [d1, d2], hl2, r, q =>
    obtain ⟨v1, r1, e1, h1, v2, r2, e2, h2, e3⟩ := r
    have e3 : r2 = [] := e3
    subst e3 e2 e1
    cases d1 <;> first | exact q.elim | skip
    cases d2 <;> first | exact q.elim | skip
    rename_i lim
    simp only [drawS] at q
    by_cases hb : 1 ≤ lim ∧ lim < 1073741824 ∧ s.n ≤ 900000
    rotate_left
    · rw [if_neg hb] at q
      exact q.elim
    rw [if_pos hb] at q
    obtain ⟨b1, b2, b3⟩ := hb
    have h1 : v1 = .ref i.m := h1
    have h2 : v2 = .int lim := h2
    subst h1 h2
    refine ⟨i.m, i.g, i.c, s.n, lim, s.gs, s.cs, rfl, ⟨W.mr.hm, W.mr.hc, W.mr.hg, ⟨W.mr.cc.1, W.mr.cc.2⟩, W.mr.gl, W.mr.ne, W.mr.n0⟩, b3, b1, b2, fun H' d k => ?_⟩
    exact q _ F H' (ext_keep W k (by rw [d.hm]; exact fun z => nomatch z) (by rw [d.hg]; exact fun z => nomatch z)) (mr_draw W.mr d k rfl) rfl
end DL
namespace DL
open PySem L2
section
variable {X : Cx} {E : XK} {a b c e tgE : Expr} {st : Stmt} {pos : Pos}
theorem PI.or {w1 w2 : TI} (h1 : PI X tgE e w1) (h2 : PI X tgE e w2) : PI X tgE e (fun σ H R => w1 σ H R ∨ w2 σ H R) := ⟨fun pins s σ H R I h => h.elim (h1.run pins s σ H R I) (h2.run pins s σ H R I)⟩
theorem wSeq_or (g : List Sl → M Dt) (δ : List Sl) (s : MS) : wSeq g δ s = wLst g δ s ∨ wSeq g δ s = wTup g δ s := by
  unfold wSeq wLst wTup M.bnd
  cases e : g δ s with
  | no => exact .inl rfl
  | ex a b => exact .inl rfl
  | ok d s' => cases d <;> first | exact .inl rfl | exact .inr rfl
theorem di_or {f f1 f2 : List Sl → M (List Dt)} (h1 : DI X E tgE e f1) (h2 : DI X E tgE e f2) (h : ∀ δ s, f δ s = f1 δ s ∨ f δ s = f2 δ s) : DI X E tgE e f := by
  obtain ⟨w1, p1, j1⟩ := h1
  obtain ⟨w2, p2, j2⟩ := h2
  refine ⟨_, PI.or p1 p2, fun i F0 H0 F H σ δ s Q S q => ?_⟩
  rcases h δ s with e1 | e1
  · rw [e1] at q; exact .inl (j1 i F0 H0 F H σ δ s Q S q)
  · rw [e1] at q; exact .inr (j2 i F0 H0 F H σ δ s Q S q)
theorem walks_eT {K : PySem.W.Frag} {i : Ix} {F1 : Hp} {a : Addr} {vs : List V} {l : List Dt} (h : SqT K F1 a vs) (r : Reps K i F1 l vs) : Walks K i (LwE.Ien K a) F1 (enumD 0 l) := fun n F H s1 s2 => by
  have h' : SqT K H a vs := sqT_same (s1.trans s2) h
  refine ⟨fun d e => ?_, fun hn => ⟨vs, h', by rw [r.len]; rw [enumD_len] at hn; exact hn⟩⟩
  rw [enumD_get] at e
  obtain ⟨d0, e0, rfl⟩ := Option.map_eq_some_iff.mp e
  obtain ⟨v, e1, e2⟩ := r.get e0
  refine ⟨⟨vs, v, h', e1⟩, fun y H' q => ?_⟩
  obtain ⟨T, x', rfl, hT, rfl, q⟩ := q
  have := q vs h'
  rw [e1] at this
  cases this
  obtain ⟨a1, a2, a3, a4⟩ := same_up (o := .tup [.int (n : Int), v]) s2 hT
  refine ⟨_, a1, a2, a3, a4, T, [.int (n : Int), v], rfl, .inl (.inl upd_same), .cons ?_ (.cons (Rep.same (s1.trans a1) d0 e2) .nil)⟩
  rw [Nat.zero_add]
  exact rfl
def wEnL (f : List Sl → M Dt) : List Sl → M (List Dt) := fun δ => M.bnd (wLst f δ) fun l => M.ret (enumD 0 l)
def wEnT (f : List Sl → M Dt) : List Sl → M (List Dt) := fun δ => M.bnd (wTup f δ) fun l => M.ret (enumD 0 l)
def wEn (f : List Sl → M Dt) : List Sl → M (List Dt) := fun δ => M.bnd (wSeq f δ) fun l => M.ret (enumD 0 l)
theorem wEn_or (g : List Sl → M Dt) (δ : List Sl) (s : MS) : wEn g δ s = wEnL g δ s ∨ wEn g δ s = wEnT g δ s := by
  unfold wEn wEnL wEnT
  rcases wSeq_or g δ s with h | h
  · left; unfold M.bnd; rw [h]
  · right; unfold M.bnd; rw [h]
theorem bnd_bnd {α β γ : Type} (x : M α) (f : α → M β) (g : β → M γ) : M.bnd (M.bnd x f) g = M.bnd x fun a => M.bnd (f a) g := by
  funext s
  unfold M.bnd
  cases x s <;> rfl
section
variable {elts : List Expr} {kk : Nat} {tpos p : Pos}
theorem di_enL {f : List Sl → M R} (h : DE X E e f) (hm : X.mg "enumerate" = none) (hg : Gl X "enumerate" := by rfl) (hs : starEach [e] X.env = [(false, eval e X.env)] := by rfl) : DI X E (.Tuple elts kk tpos) (.Call (.Name "enumerate" p) [e] [] pos) (wEnL (toV f)) := by
  obtain ⟨t, pt, jt⟩ := h
  refine ⟨_, pi_enum hg hm (pa_cons pt pa_nil hs) hs, fun i F0 H0 F H σ δ s Q S q => ?_⟩
  have q : Ok X.K (kW X.K i) i E F H Q (M.bnd (f δ) (fun r => match r.d with | .lst l => M.ret (enumD 0 l) | _ => M.no) s) := by
    unfold wEnL wLst toV at q
    unfold M.bnd at q ⊢
    cases e : f δ s with
    | no => rw [e] at q; exact q
    | ex a b => rw [e] at q; exact q
    | ok r s' => rw [e] at q; cases r <;> first | exact q | (rename_i d; cases d <;> exact q)
  refine jt.useR S q fun r s1 v F1 H1 e0 x1 S1 r1 q1 => ?_
  clear e0
  cases e : r.d <;> rw [e] at q1 r1 <;> first | exact q1.elim | skip
  obtain ⟨p, vs, h0, h1, h2⟩ := r1
  exact ⟨p, vs, by rw [h0], SqL.of (S1.wf.fh _ _ h1), q1 _ F1 H1 (.refl S1.wf.fh) S1.wf.mr (walks_e h1 h2)⟩
theorem di_enT {f : List Sl → M R} (h : DE X E e f) (hm : X.mg "enumerate" = none) (hg : Gl X "enumerate" := by rfl) (hs : starEach [e] X.env = [(false, eval e X.env)] := by rfl) : DI X E (.Tuple elts kk tpos) (.Call (.Name "enumerate" p) [e] [] pos) (wEnT (toV f)) := by
  obtain ⟨t, pt, jt⟩ := h
  refine ⟨_, LwE.pi_enT hg hm (pa_cons pt pa_nil hs) hs, fun i F0 H0 F H σ δ s Q S q => ?_⟩
  have q : Ok X.K (kW X.K i) i E F H Q (M.bnd (f δ) (fun r => match r.d with | .tup l => M.ret (enumD 0 l) | _ => M.no) s) := by
    unfold wEnT wTup toV at q
    unfold M.bnd at q ⊢
    cases e : f δ s with
    | no => rw [e] at q; exact q
    | ex a b => rw [e] at q; exact q
    | ok r s' => rw [e] at q; cases r <;> first | exact q | (rename_i d; cases d <;> exact q)
  refine jt.useR S q fun r s1 v F1 H1 e0 x1 S1 r1 q1 => ?_
  clear e0
  cases e : r.d <;> rw [e] at q1 r1 <;> first | exact q1.elim | skip
  obtain ⟨p, vs, h0, h1, h2⟩ := r1
  exact ⟨p, vs, by rw [h0], sqT_same S1.wf.fh h1, q1 _ F1 H1 (.refl S1.wf.fh) S1.wf.mr (walks_eT h1 h2)⟩
theorem di_en {f : List Sl → M R} (h : DE X E e f) (hm : X.mg "enumerate" = none) (hg : Gl X "enumerate" := by rfl) (hs : starEach [e] X.env = [(false, eval e X.env)] := by rfl) : DI X E (.Tuple elts kk tpos) (.Call (.Name "enumerate" p) [e] [] pos) (wEn (toV f)) := di_or (di_enL h hm hg hs) (di_enT h hm hg hs) (wEn_or _)
end
end
end DL
set_option maxHeartbeats 4000000
namespace L2
open PySem PySem.Spec PyProof.Rows
theorem tuple_mul1 (l : Addr) (items : Array Value) (n : Nat) (dd : Option Addr) (sl : Array (Option Value)) (x : Int) (u : Tok) (c0 : (decide (x < -(2 ^ 63)) || decide (x ≥ 2 ^ 63)) = false) (c1 : (items.isEmpty || x == 1) = true) :
    Meets (Builtin.«tuple.__mul__» ⟨[.ref l, .int x u], []⟩) (fun _ R s => s.heap.get? l = some { cls := .type "tuple", dict := dd, data := .seq items n, slots := sl } ∧ R (.ok (.ret (Value.ref l))) s) :=
  .of_wp fun prog w A R s h => by
    obtain ⟨hp, g, d, tk, os⟩ := s
    obtain ⟨hl, h⟩ := h
    have f1 := AutoSeq1.idx_int
    wp_walk using wpAny_loadPart' hl
    repeat (first
      | (refine wpAny_ite_false (decide_eq_false (by rw [c0]; exact Bool.false_ne_true)) ?_; wp_walk using wpAny_loadPart' hl)
      | (refine wpAny_ite_true (decide_eq_true c1) ?_; wp_walk using wpAny_loadPart' hl))
    exact ⟨_, rfl, h⟩
theorem tuple_mul0 (l : Addr) (items : Array Value) (n : Nat) (dd : Option Addr) (sl : Array (Option Value)) (x : Int) (u : Tok) (c0 : (decide (x < -(2 ^ 63)) || decide (x ≥ 2 ^ 63)) = false) (c1 : (items.isEmpty || x == 1) = false) (c2 : (decide (x ≤ 0) || items.isEmpty) = true) :
    Meets (Builtin.«tuple.__mul__» ⟨[.ref l, .int x u], []⟩) (fun _ R s => s.heap.get? l = some { cls := .type "tuple", dict := dd, data := .seq items n, slots := sl } ∧
      R (.ok (.ret (Value.ref s.heap.objs.size))) { s with heap := s.heap.push { cls := Value.type "tuple", data := Data.seq #[] }, toks := s.toks }) :=
  .of_wp fun prog w A R s h => by
    obtain ⟨hp, g, d, tk, os⟩ := s
    obtain ⟨hl, h⟩ := h
    have f1 := AutoSeq1.idx_int
    wp_walk using wpAny_loadPart' hl
    repeat (first
      | (refine wpAny_ite_false (decide_eq_false (by rw [c0]; exact Bool.false_ne_true)) ?_; wp_walk using wpAny_loadPart' hl)
      | (refine wpAny_ite_false (decide_eq_false (by rw [c1]; exact Bool.false_ne_true)) ?_; wp_walk using wpAny_loadPart' hl)
      | (refine wpAny_ite_true (decide_eq_true c2) ?_; wp_walk using wpAny_loadPart' hl))
    exact ⟨_, rfl, h⟩
def rRepT1 (K : PySem.W.Frag) : R2 := fun x y H Q => ∃ l k xs, x = .ref l ∧ y = .int k ∧ SqT K H l xs ∧ -1000 ≤ k ∧ k ≤ 1000 ∧ (xs = [] ∨ k = 1) ∧ Q (.ref l) H
def rRepT0 (K : PySem.W.Frag) : R2 := fun x y H Q => ∃ l k xs, x = .ref l ∧ y = .int k ∧ SqT K H l xs ∧ xs ≠ [] ∧ -1000 ≤ k ∧ k ≤ 0 ∧ ∀ p, H p = none → Q (.ref p) (upd H p (.tup []))
section
variable {X : Cx}
theorem op_repT1 : OpR X (binaryOp .Mult) (rRepT1 X.K) := by
  intro pins s σ H x y v u Q I rx ry h
  obtain ⟨l, k, xs, rfl, rfl, hT, h1, h2, hz, q⟩ := h
  cases rx
  obtain ⟨t, rfl⟩ := ry
  obtain ⟨its, r, ⟨⟨cls, dd, data, sl⟩, ho, hc, n, hd⟩, hs⟩ := I.tuple hT
  simp only at hc hd
  subst hc hd
  have hle : its.length = xs.length := r.length.symm
  have c0 : (decide (k < -(2 ^ 63)) || decide (k ≥ 2 ^ 63)) = false := by
    rw [decide_eq_false (by omega), decide_eq_false (by omega)] <;> rfl
  have c1 : (its.toArray.isEmpty || k == 1) = true := by
    rcases hz with e | e
    · subst e
      have : its = [] := List.eq_nil_of_length_eq_zero (by rw [hle]; rfl)
      subst this
      rfl
    · subst e; simp
  refine wpAny_binaryOp_repeat_ref (T := "tuple") (U := "int") (by decide) ⟨_, ho, rfl⟩ (fun s' => typeIs_int s' k t) noFill_tuple_mul F.fills_int_mul F.slot_int_rmul repeat_tuple F.slot_int_index.lookup
    (call_meets F.slot_int_rmul (typeIs_int s k t) F.entry_int_rmul (F.args_int_rmul_2 _ _) (int_rmul_tuple k t l its.toArray n dd sl)
      ⟨ho, rfl, ⟨_, ho, rfl⟩, call_meets F.slot_tuple_mul ⟨_, ho, rfl⟩ F.entry_tuple_mul (F.args_tuple_mul_2 _ _) (tuple_mul1 l its.toArray n dd sl k t c0 c1) ⟨ho, ?_⟩⟩)
  exact ⟨.ref l, H, I, rfl, q⟩
theorem op_repT0 : OpR X (binaryOp .Mult) (rRepT0 X.K) := by
  intro pins s σ H x y v u Q I rx ry h
  obtain ⟨l, k, xs, rfl, rfl, hT, hne, h1, h2, q⟩ := h
  cases rx
  obtain ⟨t, rfl⟩ := ry
  obtain ⟨its, r, ⟨⟨cls, dd, data, sl⟩, ho, hc, n, hd⟩, hs⟩ := I.tuple hT
  simp only at hc hd
  subst hc hd
  have hle : its.length = xs.length := r.length.symm
  have hn : its ≠ [] := fun e => hne (by
    rw [e] at hle
    exact List.eq_nil_of_length_eq_zero hle.symm)
  have hi : its.toArray.isEmpty = false := by
    cases its with
    | nil => exact absurd rfl hn
    | cons a b => rfl
  have c0 : (decide (k < -(2 ^ 63)) || decide (k ≥ 2 ^ 63)) = false := by
    rw [decide_eq_false (by omega), decide_eq_false (by omega)] <;> rfl
  have c1 : (its.toArray.isEmpty || k == 1) = false := by
    rw [hi, Bool.false_or]
    exact beq_eq_false_iff_ne.mpr (by omega)
  have c2 : (decide (k ≤ 0) || its.toArray.isEmpty) = true := by
    rw [decide_eq_true h2]; rfl
  refine wpAny_binaryOp_repeat_ref (T := "tuple") (U := "int") (by decide) ⟨_, ho, rfl⟩ (fun s' => typeIs_int s' k t) noFill_tuple_mul F.fills_int_mul F.slot_int_rmul repeat_tuple F.slot_int_index.lookup
    (call_meets F.slot_int_rmul (typeIs_int s k t) F.entry_int_rmul (F.args_int_rmul_2 _ _) (int_rmul_tuple k t l its.toArray n dd sl)
      ⟨ho, rfl, ⟨_, ho, rfl⟩, call_meets F.slot_tuple_mul ⟨_, ho, rfl⟩ F.entry_tuple_mul (F.args_tuple_mul_2 _ _) (tuple_mul0 l its.toArray n dd sl k t c0 c1 c2) ⟨ho, ?_⟩⟩)
  refine ⟨.ref s.heap.objs.size, _, I.laid (t' := s.toks) (o := .tup []) (fun b ob q => Heap.get?_push_of_some _ q) (Nat.le_refl _) ?_, rfl, q _ (I.hok.fresh (Nat.le_refl _))⟩
  exact ⟨Nat.zero_le _, [], .nil, IsTup.new _ _⟩
end
end L2
namespace DL
open PySem L2
def repTD (l : List Dt) (k : Int) : M R := if -1000 ≤ k ∧ k ≤ 1000 ∧ l.length ≤ 1000 then M.ret (.val (.tup (List.replicate k.toNat l).flatten)) else M.no
def isTup : Dt → Dt → Bool
  | .tup _, .int _ => true
  | _, _ => false
def mulT : Dt → Dt → M R
  | .tup l, .int k => repTD l k
  | _, _ => M.no
def mulG : Dt → Dt → M R := orOp isTup mulT mulD
theorem flat_nil {α : Type} : ∀ n : Nat, (List.replicate n ([] : List α)).flatten = []
  | 0 => rfl
  | n + 1 => by rw [List.replicate_succ, List.flatten_cons, flat_nil n]; rfl
section
variable {X : Cx} {E : XK}
theorem op_mulT : OpD X E (binaryOp .Mult) mulT := by
  refine ⟨_, op_repT1.or (op_repT0.or op_repT), fun i s F H x y a b Q W va vb q => ?_⟩
  cases a <;> cases b <;> first | exact q.elim | skip
  rename_i l k
  obtain ⟨⟨h1, h2, h3⟩, q⟩ := ok_if (show Ok X.K (kR X.K i) i E F H Q ((if -1000 ≤ k ∧ k ≤ 1000 ∧ l.length ≤ 1000 then M.ret (.val (.tup (List.replicate k.toNat l).flatten)) else M.no) s) from q)
  obtain ⟨p, vs, rfl, e1, e2⟩ := va.tup
  have e1' := sqT_same W.fh e1
  have ey := vb.int
  by_cases hz : vs = [] ∨ k = 1
  · refine .inl ⟨p, k, vs, rfl, ey, e1', h1, h2, hz, q _ F H (.refl W.fh) W.mr ⟨p, vs, rfl, e1, ?_⟩⟩
    rcases hz with e | e
    · subst e
      have : l = [] := List.length_eq_zero_iff.mp e2.len.symm
      subst this
      rw [flat_nil]
      exact .nil
    · subst e
      have : (List.replicate (1 : Int).toNat l).flatten = l := by simp
      rw [this]
      exact e2
  · rw [not_or] at hz
    by_cases hk : k ≤ 0
    · refine .inr (.inl ⟨p, k, vs, rfl, ey, e1', hz.1, h1, hk, fun z hz' => ?_⟩)
      have : k.toNat = 0 := by omega
      rw [this] at q
      exact q _ _ _ (ext_newK W.fh hz') (mr_new W.mr hz') ⟨z, _, rfl, .inl (.inl upd_same), rfl⟩
    · refine .inr (.inr ⟨p, k, vs, rfl, ey, e1', hz.1, by omega, h2, by rw [e2.len]; exact h3, fun z hz' => ?_⟩)
      exact q _ _ _ (ext_newK W.fh hz') (mr_new W.mr hz') ⟨z, _, rfl, .inl (.inl upd_same), Reps.same (same_know (W.fh.free hz')) _ (e2.flatten _)⟩
theorem op_mulG : OpD X E (binaryOp .Mult) mulG := OpD.or op_mulT op_mulD
end
end DL
namespace DL
open PySem PySem.Spec PyProof.Rows L2
def RepRs (K : PySem.W.Frag) (i : Ix) (Hb F' H' : Hp) : List R → List V → Prop
  | [], vs => vs = []
  | r :: rs, vs => ∃ v us, vs = v :: us ∧ RepR K i Hb F' H' r v ∧ (∀ (n : Nat) (l m : List Dt), r = R.new l → rs[n]? = some (R.new m) → us[n]? ≠ some v) ∧ RepRs K i Hb F' H' rs us
theorem RepRs.mono {K : PySem.W.Frag} {i : Ix} {H H' F2 H2 : Hp} (al : ∀ b, H b ≠ none → H' b ≠ none) : ∀ {rs : List R} {vs : List V}, RepRs K i H' F2 H2 rs vs → RepRs K i H F2 H2 rs vs
  | [], _, h => h
  | r :: rs, _, ⟨v, us, h1, h2, h3, h4⟩ => ⟨v, us, h1, (kR K i).mono al h2, h3, RepRs.mono al h4⟩
theorem RepRs.new {K : PySem.W.Frag} {i : Ix} {Hb F2 H2 : Hp} : ∀ {rs : List R} {vs : List V} {n : Nat} {m : List Dt}, RepRs K i Hb F2 H2 rs vs → rs[n]? = some (.new m) → ∃ q, vs[n]? = some (.ref q) ∧ Hb q = none
  | [], _, _, _, _, e => by cases e
  | r :: rs, _, 0, m, ⟨v, us, h1, h2, h3, h4⟩, e => by
    cases e
    obtain ⟨p, vs, rfl, _, _, h5, _⟩ := h2
    exact ⟨p, by rw [h1]; rfl, h5⟩
  | r :: rs, _, n + 1, m, ⟨v, us, h1, h2, h3, h4⟩, e => by
    obtain ⟨q, e1, e2⟩ := RepRs.new (n := n) h4 e
    exact ⟨q, by rw [h1]; exact e1, e2⟩
def kRs (K : PySem.W.Frag) (i : Ix) : Kind (List R) (List V) where
  rel := fun H F' H' rs vs => RepRs K i H F' H' rs vs
  mono := fun al h => RepRs.mono al h
def DR (X : Cx) (E : XK) (es : List Expr) (f : List Sl → M (List R)) : Prop := ∃ t, PA X es t ∧ J kRs X.K E t f
def rNil : List Sl → M (List R) := fun _ => M.ret []
def rCons (f : List Sl → M R) (g : List Sl → M (List R)) : List Sl → M (List R) := fun δ => M.bnd (f δ) fun r => M.bnd (g δ) fun rs => M.ret (r :: rs)
theorem RepR.ext {K : PySem.W.Frag} {i : Ix} {H F1 H1 F2 H2 : Hp} {r : R} {v : V} (h : RepR K i H F1 H1 r v) (g : ∀ b, G i b → H b ≠ none) (x : Ext i F1 H1 F2 H2) : RepR K i H F2 H2 r v := by
  cases r with
  | val d => exact Rep.same x.ff d h
  | new l =>
    obtain ⟨p, vs, e, h1, h2, h3, h4⟩ := h
    exact ⟨p, vs, e, x.sb _ _ h1 (fun z => g _ z h3), x.nw _ (by rw [h1]; exact fun z => nomatch z) h2, h3, Reps.same x.ff l h4⟩
section
variable {X : Cx} {E : XK} {a b c e : Expr} {es : List Expr} {st : Stmt} {pos : Pos}
theorem dr_nil : DR X E [] rNil := ⟨_, pa_nil, fun i F0 H0 F H σ δ s Q S q => q [] F H (.refl S.wf.fh) S.wf.mr rfl⟩
theorem dr_cons {f : List Sl → M R} {g : List Sl → M (List R)} (h : DE X E e f) (hr : DR X E es g) (hs : starEach (e :: es) X.env = (false, eval e X.env) :: starEach es X.env := by rfl) : DR X E (e :: es) (rCons f g) := by
  obtain ⟨t, ht, hj⟩ := h
  obtain ⟨u, hu, hk⟩ := hr
  refine ⟨_, pa_cons ht hu hs, fun i F0 H0 F H σ δ s Q S q => hj.use0 S q fun r s1 v F1 H1 _ x1 m1 r1 q1 => ?_⟩
  have S1 := S.ext x1 m1
  refine hk i F0 H0 F1 H1 σ δ s1 _ S1 ?_
  unfold DL.M.bnd at q1
  cases e2 : g δ s1 with
  | no => rw [e2] at q1; exact q1.elim
  | ex a b => rw [e2] at q1; exact fun F' H' x m => q1 F' H' (x1.trans x) m
  | ok rs s2 =>
    rw [e2] at q1
    intro vs F2 H2 x2 m2 r2
    have r1 : RepR X.K i H F1 H1 r v := r1
    have r2 : RepRs X.K i H1 F2 H2 rs vs := r2
    refine q1 _ F2 H2 (x1.trans x2) m2 ⟨v, vs, rfl, r1.ext (fun b g => S.wf.mr.there g) x2, fun n l m e1 e2 e3 => ?_, r2.mono x1.al⟩
    subst e1
    obtain ⟨p, us, rfl, h1, _⟩ := r1
    obtain ⟨q, g1, g2⟩ := r2.new e2
    rw [g1] at e3
    cases e3
    rw [h1] at g2
    cases g2
theorem Sinv.putN {K : PySem.W.Frag} {i : Ix} {F0 H0 F H Hb : Hp} {σ : L2.St} {δ : List Sl} {s : MS} (S : Sinv K i F0 H0 F H σ δ s) {r : R} {v : V} (k : Nat) (hr : RepR K i Hb F H r v) (hb0 : ∀ b, H0 b ≠ none → Hb b ≠ none) (hbg : ∀ b, G i b → Hb b ≠ none)
    (hd : ∀ (j : Nat) (l m : List Dt), r = .new m → δ[j]? = some (Sl.own l) → σ[j]? ≠ some (some v)) (hns : ∀ b, Foot K i H0 F H σ δ b → Hb b ≠ none) : Sinv K i F0 H0 F H (σ.set k (some v)) (δ.set k r.sl) s := by
  cases r with
  | val d => exact S.putD k hr
  | new m =>
    obtain ⟨p, vs, rfl, h1, h2, h3, h4⟩ := hr
    refine S.put (H1 := fun b => if b = p then none else H b) (r := .new m) (v := .ref p) k ⟨p, vs, rfl, h1, h2, if_pos rfl, h4⟩ (fun b e => ?_) (fun b g => ?_) (fun j l q e1 e2 => ?_) (fun b f => ?_)
    · by_cases hb : b = p
      · subst hb; exact absurd h3 (hb0 _ e)
      · simp only [if_neg hb]; exact S.base.al b e
    · by_cases hb : b = p
      · subst hb; exact absurd h3 (hbg _ g)
      · simp only [if_neg hb]; exact S.wf.mr.there g
    · by_cases hb : q = p
      · subst hb; exact absurd e2 (hd j l m rfl e1)
      · simp only [if_neg hb]
        obtain ⟨p', us, g1, g2, _⟩ := S.own j l e1
        rw [e2] at g1
        cases g1
        rw [g2]
        exact fun z => nomatch z
    · by_cases hb : b = p
      · subst hb; exact absurd h3 (hns _ f)
      · simp only [if_neg hb]
        obtain ⟨us, g⟩ := f.lst
        rw [g]
        exact fun z => nomatch z
def setAll : List Nat → List R → List Sl → Option (List Sl)
  | [], [], δ => some δ
  | k :: ks, r :: rs, δ => setAll ks rs (δ.set k r.sl)
  | _, _, _ => none
def setV : List Nat → List V → L2.St → L2.St
  | k :: ks, v :: vs, σ => setV ks vs (σ.set k (some v))
  | _, _, σ => σ
theorem par_set {K : PySem.W.Frag} {i : Ix} {F0 H0 F H Hb : Hp} {s : MS} (hb0 : ∀ b, H0 b ≠ none → Hb b ≠ none) (hbg : ∀ b, G i b → Hb b ≠ none) : ∀ {ks : List Nat} {rs : List R} {vs : List V} {σ : L2.St} {δ δ' : List Sl}, Sinv K i F0 H0 F H σ δ s → RepRs K i Hb F H rs vs →
    (∀ (j n : Nat) (l m : List Dt) (v : V), rs[n]? = some (.new m) → vs[n]? = some v → δ[j]? = some (Sl.own l) → σ[j]? ≠ some (some v)) → (∀ b, Foot K i H0 F H σ δ b → Hb b ≠ none) → setAll ks rs δ = some δ' → Sinv K i F0 H0 F H (setV ks vs σ) δ' s
  | [], [], _, _, _, _, S, h, _, _, e => by
    cases e
    rw [show _ = [] from h]
    exact S
  | [], _ :: _, _, _, _, _, _, _, _, _, e => by cases e
  | _ :: _, [], _, _, _, _, _, _, _, _, e => by cases e
  | k :: ks, r :: rs, _, σ, δ, δ', S, ⟨v, us, h1, h2, h3, h4⟩, hd, hns, e => by
    subst h1
    have S1 := S.putN k h2 hb0 hbg (fun j l m er ej => hd j 0 l m v (by rw [er]; rfl) rfl ej) hns
    refine par_set (σ := σ.set k (some v)) (δ := δ.set k r.sl) hb0 hbg S1 h4 (fun j n l m w e1 e2 e3 => ?_) (fun b f => hns b (f.sub (nst_set fun ls z => by cases r <;> cases z))) e
    by_cases hj : j = k
    · subst hj
      by_cases hk : j < δ.length
      · rw [List.getElem?_set_self hk] at e3
        rw [List.getElem?_set_self (by rw [S.len]; exact hk)]
        intro z
        cases z
        cases r with
        | val d => cases e3
        | new l' => exact h3 n l' m rfl e1 e2
      · rw [List.getElem?_eq_none (by simpa using hk)] at e3
        cases e3
    · rw [List.getElem?_set_ne (fun z => hj z.symm)] at e3 ⊢
      exact hd j (n + 1) l m w e1 e2 e3
def gPar (ks : List Nat) (f : List Sl → M (List R)) : List Sl → M Fl := fun δ => M.bnd (f δ) fun rs => match setAll ks rs δ with
  | some δ' => M.ret (.nx δ')
  | none => M.no
theorem setAll_len : ∀ {ks : List Nat} {rs : List R} {δ δ' : List Sl}, setAll ks rs δ = some δ' → rs.length = ks.length
  | [], [], _, _, _ => rfl
  | [], _ :: _, _, _, e => by cases e
  | _ :: _, [], _, _, e => by cases e
  | _ :: ks, _ :: rs, _, _, e => by rw [List.length_cons, List.length_cons, setAll_len (show setAll ks rs _ = some _ from e)]
theorem RepRs.len {K : PySem.W.Frag} {i : Ix} {Hb F H : Hp} : ∀ {rs : List R} {vs : List V}, RepRs K i Hb F H rs vs → vs.length = rs.length
  | [], _, h => by rw [show _ = [] from h]; rfl
  | r :: rs, _, ⟨v, us, h1, h2, h3, h4⟩ => by rw [h1, List.length_cons, List.length_cons, RepRs.len h4]
theorem par_j {K : PySem.W.Frag} {E : XK} {t : TA} {f : List Sl → M (List R)} {ks : List Nat} {i : Ix} {F0 H0 F H : Hp} {σ : L2.St} {δ : List Sl} {s : MS} {D : Ends} {Q1 : List V → Hp → Prop} (jt : J kRs K E t f) (S : Sinv K i F0 H0 F H σ δ s) (q : OkS K i E F0 H0 D (gPar ks f δ s))
    (c : ∀ vs F' H' δ' s', vs.length = ks.length → Sinv K i F0 H0 F' H' (setV ks vs σ) δ' s' → OkF K i F0 H0 D s' (.nx δ') → Q1 vs H') : t σ H Q1 := by
  refine jt.useS S q fun rs s1 vs F1 H1 x1 S1 r1 q1 => ?_
  cases e : setAll ks rs δ with
  | none => simp only [e] at q1; exact q1.elim
  | some δ' =>
    simp only [e] at q1
    have r1 : RepRs K i H F1 H1 rs vs := r1
    refine c vs F1 H1 δ' s1 (by rw [r1.len, setAll_len e]) (par_set (fun b z => S.base.al b z) (fun b g => S.wf.mr.there g) S1 r1 (fun j n l m v e1 e2 e3 e4 => ?_) (fun b f => f.back S x1.sb) e) q1
    obtain ⟨p, us, g1, g2, _⟩ := S.own j l e3
    rw [e4] at g1
    cases g1
    obtain ⟨q, k1, k2⟩ := r1.new e1
    rw [e2] at k1
    cases k1
    rw [g2] at k2
    cases k2
theorem ds_par2 (k j : Nat) {x y : Str} {px py pt : Pos} {kt k2 pt2} {f : List Sl → M (List R)} (hc : X.calm = true) (hN : X.N.Nodup) (h : DR X E [a, b] f) (hi : X.N[k]? = some x := by rfl) (hj : X.N[j]? = some y := by rfl) (hkj : k ≠ j := by decide)
    (hx : X.env.scope.names.lookup x = some .local := by rfl) (hy : X.env.scope.names.lookup y = some .local := by rfl) (hw : swappedStores [.Tuple [.Name x px, .Name y py] kt pt] (.Tuple [a, b] k2 pt2) X.env = pure (some [x, y]) := by rfl)
    (hs : swapsWithSole [.Tuple [.Name x px, .Name y py] kt pt] (.Tuple [a, b] k2 pt2) pos.line X.env = pure false := by rfl) :
    DS X E (.Assign [.Tuple [.Name x px, .Name y py] kt pt] (.Tuple [a, b] k2 pt2) pos) (gPar [k, j] f) := by
  obtain ⟨t, pt, jt⟩ := h
  refine ⟨_, ps_par hc hN hi hj hkj hx hy pt hw hs, fun i F0 H0 F H σ δ s D S q => par_j jt S q fun vs F' H' δ' s' hl S' q' => ?_⟩
  match vs, hl, S' with
  | [u, v], _, S' => exact ⟨u, v, rfl, q' _ F' H' S'⟩
theorem ds_par3 (k j l : Nat) {x y z : Str} {px py pz pt : Pos} {kt k2 pt2} {f : List Sl → M (List R)} (hc : X.calm = true) (hN : X.N.Nodup) (h : DR X E [a, b, c] f) (hi : X.N[k]? = some x := by rfl) (hj : X.N[j]? = some y := by rfl) (hl : X.N[l]? = some z := by rfl) (hkj : k ≠ j := by decide) (hkl : k ≠ l := by decide) (hjl : j ≠ l := by decide)
    (hx : X.env.scope.names.lookup x = some .local := by rfl) (hy : X.env.scope.names.lookup y = some .local := by rfl) (hz : X.env.scope.names.lookup z = some .local := by rfl) (hw : swappedStores [.Tuple [.Name x px, .Name y py, .Name z pz] kt pt] (.Tuple [a, b, c] k2 pt2) X.env = pure (some [x, y, z]) := by rfl)
    (hs : swapsWithSole [.Tuple [.Name x px, .Name y py, .Name z pz] kt pt] (.Tuple [a, b, c] k2 pt2) pos.line X.env = pure false := by rfl) :
    DS X E (.Assign [.Tuple [.Name x px, .Name y py, .Name z pz] kt pt] (.Tuple [a, b, c] k2 pt2) pos) (gPar [k, j, l] f) := by
  obtain ⟨t, pt, jt⟩ := h
  refine ⟨_, ps_par3 hc hN hi hj hl hkj hkl hjl hx hy hz pt hw hs, fun i F0 H0 F H σ δ s D S q => par_j jt S q fun vs F' H' δ' s' hl S' q' => ?_⟩
  match vs, hl, S' with
  | [u, v, w], _, S' => exact ⟨u, v, w, rfl, q' _ F' H' S'⟩
def gPop (k : Nat) : List Sl → M Fl := fun δ => match δ[k]? with
  | some (.own l) => if l = [] then M.no else M.ret (.nx (δ.set k (.own l.dropLast)))
  | _ => M.no
def gSetPop (k z : Nat) : List Sl → M Fl := fun δ => match δ[k]? with
  | some (.own l) => (match l.getLast? with
    | some d => M.ret (.nx ((δ.set k (.own l.dropLast)).set z (.val d)))
    | none => M.no)
  | _ => M.no
def gAppPop (k j : Nat) (f : List Sl → M R) : List Sl → M Fl := fun δ => match δ[k]?, δ[j]? with
  | some (.own _), some (.own m) => if k = j then M.no else (match m.getLast? with
    | some d => M.bnd (f (δ.set j (.own m.dropLast))) fun r => (match (δ.set j (.own m.dropLast))[k]? with
      | some (.own l) => if l.length < 100000 then M.ret (.nx ((δ.set j (.own m.dropLast)).set k (.own (l ++ [.tup [d, r.d]])))) else M.no
      | _ => M.no)
    | none => M.no)
  | _, _ => M.no
theorem Reps.dropLast {K : PySem.W.Frag} {i : Ix} {F : Hp} {l : List Dt} {vs : List V} (h : Reps K i F l vs) : Reps K i F l.dropLast vs.dropLast := by
  rw [List.dropLast_eq_take, List.dropLast_eq_take, h.len]
  exact h.take _
def cDict : List Sl → M R := fun _ => M.ret (.val (.dK [] []))
theorem de_dict : DE X E (.Dict [] [] pos) cDict := ⟨_, pe_dnewK, fun i F0 H0 F H σ δ s Q S q => fun p hp => q _ _ _ (ext_newK S.wf.fh hp) (mr_new S.wf.mr hp) ⟨p, [], rfl, upd_same, rfl, rfl⟩⟩
def rgD (a b : Int) : List Dt := (List.range (b - a).toNat).map fun (n : Nat) => .int (a + (n : Int))
def dnD (a b : Int) : List Dt := (List.range (a - b).toNat).map fun (n : Nat) => .int (a - (n : Int))
theorem reps_map {K : PySem.W.Frag} {i : Ix} {F : Hp} (f : Nat → Int) : ∀ l : List Nat, Reps K i F (l.map fun n => .int (f n)) (l.map fun n => V.int (f n))
  | [] => rfl
  | _ :: l => .cons rfl (reps_map f l)
def lrg2 : Dt → Dt → M R
  | .int a, .int b => if -100000 ≤ a ∧ a ≤ 100000 ∧ -100000 ≤ b ∧ b ≤ 100000 then M.ret (.new (rgD a b)) else M.no
  | _, _ => M.no
def ldn : Dt → Dt → M R
  | .int a, .int b => if -1000 ≤ a ∧ a ≤ 1000 ∧ -1000 ≤ b ∧ b ≤ 1000 then M.ret (.new (dnD a b)) else M.no
  | _, _ => M.no
theorem de_lrg2 {p p2 pos2 : Pos} {f g : List Sl → M Dt} (hc : X.calm = true) (h : DV X E a f) (h2 : DV X E b g) (hm : X.mg "list" = none) (hmr : X.mg "range" = none) (hg : Gl X "list" := by rfl) (hgr : Gl X "range" := by rfl) (hs : starEach [a, b] X.env = (false, eval a X.env) :: starEach [b] X.env := by rfl)
    (hs2 : starEach [b] X.env = (false, eval b X.env) :: starEach [] X.env := by rfl) (hp : (backTo pos2 (starEach [b] X.env)).any (·.1) = false := by rfl)
    (na : starEach [.Call (.Name "range" p2) [a, b] [] pos2] X.env = (false, eval (.Call (.Name "range" p2) [a, b] [] pos2) X.env) :: starEach [] X.env := by rfl) : DE X E (.Call (.Name "list" p) [.Call (.Name "range" p2) [a, b] [] pos2] [] pos) (bin f g lrg2) := by
  obtain ⟨t, pt, jt⟩ := h
  obtain ⟨u, pu, ju⟩ := h2
  refine ⟨_, pe_listRg hc hg hm (prg_2 hgr hmr pt pu hs hs2 hp) na, fun i F0 H0 F H σ δ s Q S q => jt.use S q fun d s1 v F1 H1 e0 x1 S1 r1 q1 => ju.use S1 q1 fun d2 s2 v2 F2 H2 e2 x2 S2 r2 q2 => ?_⟩
  clear e0 e2
  replace r1 := View.ext r1 x2
  cases d <;> cases d2 <;> first | exact q2.elim | skip
  obtain ⟨⟨h1, h2, h3, h4⟩, q2⟩ := ok_if q2
  refine ⟨_, _, View.int r1, View.int r2, ⟨by omega, by omega, by omega, by omega, by omega⟩, fun z hz => q2 _ _ _ (ext_new S2.wf.fh hz) (mr_new S2.wf.mr hz) ⟨z, _, rfl, upd_same, S2.wf.fh.free hz, hz, reps_map (fun n => _ + (n : Int)) _⟩⟩
theorem de_ldn {p p2 pos2 : Pos} {tc : TE} {f g : List Sl → M Dt} (hc : X.calm = true) (h : DV X E a f) (h2 : DV X E b g) (hm : X.mg "list" = none) (hmr : X.mg "range" = none) (hg : Gl X "list" := by rfl) (hgr : Gl X "range" := by rfl)
    (hpe : ∀ t u, PE X a t → PE X b u → PE X (.Call (.Name "list" p) [.Call (.Name "range" p2) [a, b, c] [] pos2] [] pos) (LwE.tLstDn (tCons t (tCons u (tCons tc tNil))))) (htc : ∀ σ H (Q : VK), Q (.int (-1)) H → tc σ H Q) : DE X E (.Call (.Name "list" p) [.Call (.Name "range" p2) [a, b, c] [] pos2] [] pos) (bin f g ldn) := by
  obtain ⟨t, pt, jt⟩ := h
  obtain ⟨u, pu, ju⟩ := h2
  refine ⟨_, hpe t u pt pu, fun i F0 H0 F H σ δ s Q S q => jt.use S q fun d s1 v F1 H1 e0 x1 S1 r1 q1 => ju.use S1 q1 fun d2 s2 v2 F2 H2 e2 x2 S2 r2 q2 => ?_⟩
  clear e0 e2
  replace r1 := View.ext r1 x2
  cases d <;> cases d2 <;> first | exact q2.elim | skip
  obtain ⟨h4, q2⟩ := ok_if q2
  refine htc _ _ _ ⟨_, _, by rw [View.int r1, View.int r2], h4, fun z hz => q2 _ _ _ (ext_new S2.wf.fh hz) (mr_new S2.wf.mr hz) ⟨z, _, rfl, upd_same, S2.wf.fh.free hz, hz, ?_⟩⟩
  unfold LwE.dnV
  rw [List.map_map]
  exact reps_map (fun n => _ - (n : Int)) _
end
end DL
namespace DL
open PySem PySem.Spec PyProof.Rows L2 LwE LamX Lw
def tBl (f : List Sl → M R) : List Sl → M Bool := fun δ => DL.M.bnd (f δ) fun
  | .val (.bl k) => M.ret k
  | _ => M.no
theorem j_test {K : PySem.W.Frag} {E : XK} {t : TE} {f : List Sl → M R} (jt : J kR K E t f) : J kB K E (tTest t) (tBl f) := fun i F0 H0 F H σ δ s Q S q => by
  refine jt.use S q fun r s1 v F1 H1 e0 x1 S1 r1 q1 => ?_
  clear e0
  cases r with
  | new l => exact q1.elim
  | val d =>
    cases d <;> first | exact q1.elim | skip
    rename_i k
    exact ⟨k, r1, q1 _ F1 H1 (.refl S1.wf.fh) S1.wf.mr rfl⟩
section
variable {X : Cx} {E : XK} {a b c e : Expr} {es : List Expr} {pos : Pos}
theorem dt_cmp {fa fb : List Sl → M Dt} {o : CmpOp} {op : Dt → Dt → M R} (ho : OpD X E (compareOp o) op) (ha : DV X E a fa) (hb : DV X E b fb) (hm : behindInMarks o b = false := by first | exact nomark _ | rfl) : DT X E (.Compare a [o] [b] pos) (tBl (bin fa fb op)) := by
  obtain ⟨ta, pa, ja⟩ := ha
  obtain ⟨tb, pb, jb⟩ := hb
  obtain ⟨r, pr, jr⟩ := ho
  exact ⟨_, pt_cmpR pr pa pb hm, j_test fun i F0 H0 F H σ δ s Q S q => ja.use S q fun x s1 v F1 H1 _ x1 S1 r1 q1 => jb.use S1 q1 fun y s2 u F2 H2 _ x2 S2 r2 q2 => jr i s2 F2 H2 v u x y Q S2.wf (r1.ext x2) r2 q2⟩
def fldsD (cs : List Addr) (f : Str) : Dt → M R
  | .obj C ns l => if C ∈ cs then (match (ns.zip l).lookup f with
    | some d => M.ret (.val d)
    | none => M.no) else M.no
  | _ => M.no
def FldC (K : PySem.W.Frag) (cs : List Addr) (f : Str) : Prop := ∀ C ∈ cs, Cls K C ∧ NoAttr K C f
theorem de_fldG {fa : List Sl → M Dt} {cs : List Addr} {f : Str} (h : FldC X.K cs f) (ha : DV X E a fa) (hb : attributeBase a f X.env (eval a X.env) = eval a X.env := by rfl) : DE X E (.Attribute a f pos) (una fa (fldsD cs f)) := by
  obtain ⟨ta, pa, ja⟩ := ha
  refine ⟨_, pe_fld pa hb, fun i F0 H0 F H σ δ s Q S q => ja.use S q fun x s1 v F1 H1 e0 x1 S1 r1 q1 => ?_⟩
  clear e0
  cases x <;> first | exact q1.elim | skip
  rename_i C' ns l
  simp only [fldsD] at q1
  by_cases hC : C' ∈ cs
  rotate_left
  · rw [if_neg hC] at q1
    exact q1.elim
  rw [if_pos hC] at q1
  obtain ⟨cl, n⟩ := h _ hC
  obtain ⟨p, dx, gs, h0, h1, h2, h3⟩ := r1.obj
  cases e : (ns.zip l).lookup f with
  | none => rw [e] at q1; exact q1.elim
  | some d =>
    rw [e] at q1
    obtain ⟨w, e1, e2⟩ := lookup_rep h2 h3 e
    exact ⟨p, C', dx, gs, w, h0, S1.wf.fh _ _ h1, cl, n, e1, q1 _ F1 H1 (.refl S1.wf.fh) S1.wf.mr e2⟩
end
def Fd (P : Program) (w : World) (K : PySem.W.Frag) (mg : Str → Option Value) (base : Heap) (x : Str) (k : Nat) (ps : List Str) (sem : List Dt → M R) : Prop :=
  ∃ f fd, FnD P w K mg base k f fd ps sem ∧ mg x = some (.ref f) ∧ PySem.W.keepIn K (.ref f) = true ∧ Binds K fd ps []
def Sd (P : Program) (w : World) (K : PySem.W.Frag) (mg : Str → Option Value) (base : Heap) (C : Addr) (m : Str) (k : Nat) (ps : List Str) (sem : List Dt → M R) : Prop :=
  ∃ f fd, FnD P w K mg base k f fd ps sem ∧ PySem.W.findIn K (.ref C) m = some (some (.ref f)) ∧ PySem.W.isFn K (.ref f) = true ∧ Binds K fd ps []
section
variable {X : Cx} {E : XK} {a b c e : Expr} {es : List Expr} {pos : Pos} {k kb : Nat} {ps : List Str} {sem : List Dt → M R}
theorem de_callF {x : Str} {p : Pos} {n : Nat} {fa : List Sl → M (List Dt)} (T : Fd X.prog X.w X.K X.mg X.base x k ps sem) (hgu : X.A.guards = some []) (hr : Room kb X.A) (px : Passes (L2.CX X.prog X.w) X E) (ha : DA X E (e :: es) fa) (hk : k ≤ kb := by decide) (hnn : ps.length = n := by rfl) (hn : (e :: es).length = ps.length := by rfl)
    (hg : Gl X x := by rfl) (hdb : (x == ("__debug__" : Str)) = false := by decide) (he : starEach (e :: es) X.env = (false, eval e X.env) :: starEach es X.env := by rfl) (hpl : (backTo pos (starEach es X.env)).any (·.1) = false := by rfl) : DE X E (.Call (.Name x p) (e :: es) [] pos) (cCall n fa sem) :=
  let ⟨_, _, F, hm, hkp, hb⟩ := T
  hnn ▸   de_call F hgu (hr.mono hk) hm hkp hb px ha hn hg hdb he hpl
theorem od_addF {C : Addr} (T : Sd X.prog X.w X.K X.mg X.base C "__add__" k ps sem) (hc : PySem.W.selfFirst X.K C = true) (hgu : X.A.guards = some []) (hr : Room kb X.A) (px : Passes (L2.CX X.prog X.w) X E) (hn : ps.length = 2 := by rfl) (hk : k ≤ kb := by decide) : OpD X E (binaryOp .Add) (twoOw C sem) :=
  let ⟨_, _, F, hs, hf, hb⟩ := T
  od_addX hs hf hc F hn hgu hb (hr.mono hk) px
theorem cd_lenF {C : Addr} (T : Sd X.prog X.w X.K X.mg X.base C "__len__" k ps sem) (hgu : X.A.guards = some []) (hr : Room kb X.A) (px : Passes (L2.CX X.prog X.w) X E) (hn : ps.length = 1 := by rfl) (hk : k + 1 ≤ kb := by decide) : CallD X E (.builtin "len") (lenOw C sem) :=
  let ⟨_, _, F, hs, hf, hb⟩ := T
  cd_lenX hs hf F hn hgu hb (hr.mono hk) px
theorem de_makeF {x : Str} {C : Addr} {n : Nat} {p : Pos} {fa : List Sl → M (List Dt)} (T : MkD X.prog X.w X.K X.mg X.base x C ps k sem) (hgu : X.A.guards = some []) (hr : Room kb X.A) (px : Passes (L2.CX X.prog X.w) X E) (ha : DA X E (e :: es) fa) (hk : k + 1 ≤ kb := by decide) (hnn : ps.length = n := by rfl) (hg : Gl X x := by rfl)
    (hdb : (x == ("__debug__" : Str)) = false := by decide) (he : starEach (e :: es) X.env = (false, eval e X.env) :: starEach es X.env := by rfl) (hpl : (backTo pos (starEach es X.env)).any (·.1) = false := by rfl) : DE X E (.Call (.Name x p) (e :: es) [] pos) (cMake n fa sem) :=
  hnn ▸ de_make T hgu (hr.mono hk) px ha hg hdb he hpl
structure HrD (K : PySem.W.Frag) (mg : Str → Option Value) (e : Eca) (U : Kd → Bool) : Prop where
  ec : Ec K mg e
  ek : ∀ k, U k = true → Ek K e k
  fh : ∃ g fd, Fun K "_law_heard" "_law_heard" sHeard g fd ∧ mg "_law_heard" = some (.ref g) ∧ L2.Binds K fd ["call"] []
theorem de_heard {q : Str} {e : Eca} {U : Kd → Bool} {c Pt : Addr} {params : Arguments} {body : Expr} {scope : Scope} {fs : List Sl → M R} {p lpos : Pos} (T : HrD X.K X.mg e U) (TB : TabB X.base X.mg c Pt) (hcode : X.env.code = .ref c) (hr : Room kb X.A) (L : LamS X.env.scope scope) (hdef : defaultsOf params X.env = ([], []))
    (hbind : ∀ (q : Str) (cl : List (Str × Addr)) (pm cv ctv : Value), bindArgs (PySem.W.kla_fn "<lambda>" q params body scope cl pm cv ctv) ⟨[], []⟩ = pure [])
    (hbody : ∀ (A : Around) (outer : List Env) (s : Shared) (H : Hp) (E : XK) (f c' : Addr), A.guards = X.A.guards → Room k (A.deeper (lamEnv X scope s.heap.objs.size f c')) → DE (lamCx X A outer s H E scope f c') E body fs) (hk : k + 2 ≤ kb := by decide) (hg : Gl X "_law_heard" := by rfl) (hq : X.env.qual ++ "<lambda>" = q := by rfl) :
    DE X E (.Call (.Name "_law_heard" p) [.Lambda params body scope lpos] [] pos) (cHeard e U Pt q fs) := by
  subst hq
  obtain ⟨g, fd, F, hm, hb⟩ := T.fh
  exact ⟨_, pe_giveK (k := k) (t := fun E => tOf kR X.K E fs) F hm hb scHeard rfl (Or.inl rfl) (fun cdv => heard_gives T.ec) TB hcode (hr.mono hk) hg L hdef hbind (fun A outer s H E f c' h1 h2 => (hbody A outer s H E f c' h1 h2).pe), heard_j T.ek fun E' => tOf_j⟩
end
structure FunC (K : PySem.W.Frag) (x qual : Str) (st : Stmt) (c f : Addr) (fd : FuncData) : Prop where
  ex : ∃ (oc : Value) (od : Option Addr) (kV doc pm : Value) (an : Option Addr) (ct : Value) (osl : Array (Option Value)),
    fd = PySem.W.fnOf x qual (defArgs st) (defBody st) (defScope st) .none kV doc pm an (.ref c) ct ∧ K.lookup f = some ⟨oc, od, .func fd, osl⟩ ∧ PySem.W.codeIn K (.ref c) qual = true
  kp : PySem.W.keepIn K (.ref f) = true
theorem FunC.fn {K : PySem.W.Frag} {x qual : Str} {st : Stmt} {c f : Addr} {fd : FuncData} (F : FunC K x qual st c f fd) : Fun K x qual st f fd :=
  ⟨let ⟨oc, od, kV, doc, pm, an, ct, osl, h⟩ := F.ex; ⟨oc, od, kV, doc, pm, an, .ref c, ct, osl, h⟩, F.kp⟩
section
variable {P : Program} {w : World} {K : PySem.W.Frag} {mg : Str → Option Value} {base : Heap}
theorem okXC {CX : CXT} {x qual : Str} {st : Stmt} {c f : Addr} {fd : FuncData} {N ps : List Str} {k : Nat} {sp : Sp} (F : FunC K x qual st c f fd) (S : FnScope N ps (defScope st)) (len : ∀ vs H Q E, sp vs H Q E → vs.length = ps.length)
    (hbody : ∀ (A : Around) (outer : List Env) (s : Shared) (H : Hp) (vs : List V) (Q : VK) (E : XK), A.guards = some [] → Room k (A.deeper (PyProof.Rows.envOfC qual (defScope st) s.heap.objs.size f (.ref c))) → sp vs H Q E →
      ∃ t, PSs (cxOf CX P w K mg base N qual (defScope st) f (.ref c) A outer s H E) (defBody st) t ∧ t { nx := fun _ H' => Q .non H', rt := Q } (L2.start N vs) H) : FnX P w K mg base CX (k + 1) f fd ps sp := by
  obtain ⟨oc, od, kV, doc, pm, an, ct, osl, rfl, lk, hcd⟩ := F.ex
  refine ⟨len, fun A outer s H args us vs Q E hg hr e0 hb r h => ?_⟩
  have old : ∀ b o, base.get? b = some o → s.heap.get? b = some o := fun b o e => (e0.bs b o e).1
  have Ks : K.In s.heap := e0.mod.kin.keeps old
  have free : s.heap.NoLimit := e0.mod.nolimit.keeps old
  have kinds : ∀ y ∈ ps.zip us, (defScope st).names.lookup y.1 = some .local ∨
      ((defScope st).names.lookup y.1 = some .cell ∧ ((cellsFrom (s.heap.objs.size + 1) (defScope st).names []).lookup y.1).isSome = true) := by
    rintro ⟨n, v⟩ hy
    rcases S.par n (List.of_mem_zip hy).1 with z | z
    · exact .inl z
    · exact .inr ⟨z, PySem.W.cellsFrom_some _ _ _ (.inl z)⟩
  refine codeAny_call_function hr.depth (Ks _ _ lk) rfl S.co S.gen rfl (PySem.W.codeRec_of Ks hcd) (hb _ _ _ _ ?_)
  refine wpAny_newFunctionEnv_cells S.kind kinds fun env eq s1 entry => ?_
  subst eq
  refine ⟨free.keeps entry.toInCall.keep, codeAny_func ?_⟩
  obtain ⟨t, ht, q⟩ := hbody A outer s H vs Q E hg (hr.deeper _) h
  have I := inv_start (CX := CX) (E := E) S hr.hd e0 (len _ _ _ _ h) r entry
  refine wpAny_mono (ht.run [] s1 (L2.start N vs) H _ I q) (fun fl s' z => ?_) fun _ _ z => z
  cases fl with
  | brk =>
    obtain ⟨_, _, _, z⟩ := z
    exact z.elim
  | cont =>
    obtain ⟨_, _, _, z⟩ := z
    exact z.elim
  | next =>
    obtain ⟨σ', H', J, z⟩ := z
    exact ⟨.non, H', J.os, J.bare, J.base, J.hok, rfl, z⟩
  | ret u =>
    obtain ⟨v, σ', H', J, rv, z⟩ := z
    exact ⟨v, H', J.os, J.bare, J.base, J.hok, rv, z⟩
theorem fnD_ofC {x qual : Str} {st : Stmt} {c f : Addr} {fd : FuncData} {N ps : List Str} {k : Nat} {g : List Sl → M Fl} (F : FunC K x qual st c f fd) (S : FnScope N ps (defScope st))
    (hbody : ∀ (A : Around) (outer : List Env) (s : Shared) (H : Hp) (E : XK), A.guards = some [] → Room k (A.deeper (PyProof.Rows.envOfC qual (defScope st) s.heap.objs.size f (.ref c))) → DSs (cxOf (L2.CX P w) P w K mg base N qual (defScope st) f (.ref c) A outer s H E) E (defBody st) g) :
    FnD P w K mg base (k + 1) f fd ps (semOf N.length g) := by
  refine okXC F S (fun vs H Q E ⟨i, F, s, ds, W, r, hl, q⟩ => by rw [r.len]; exact hl) (fun A outer s H vs Q E hg hr ⟨i, F, s', ds, W, r, hl, q⟩ => ?_)
  obtain ⟨t, pt, jt⟩ := hbody A outer s H E hg hr
  refine ⟨t, pt, jt i F H F H _ _ s' _ (sinv_start W r N) ?_⟩
  unfold semOf DL.M.bnd at q
  cases e : g (ds.map Sl.val ++ List.replicate (N.length - ds.length) .non) s' with
  | no => rw [e] at q; exact q.elim
  | ex a b => rw [e] at q; exact q
  | ok fl s2 =>
    rw [e] at q
    cases fl with
    | nx δ => exact fun σ' F' H' S' => q .non F' H' S'.base S'.wf.mr rfl
    | ret r => exact q
    | bk δ => exact q.elim
    | ct δ => exact q.elim
end
end DL
namespace DL
open PySem PySem.Spec PyProof.Rows L2 LwE LamX Lw
section
variable {X : Cx} {E : XK} {a b c e : Expr} {es : List Expr} {pos : Pos}
theorem de_globIE {x : Str} {z : Int} (h : ∃ t, X.mg x = some (.int z t)) (hg : Gl X x := by rfl) (hd : (x == ("__debug__" : Str)) = false := by decide) : DE X E (.Name x pos) (cC (.int z)) := let ⟨_, h⟩ := h; de_globI hg h hd
theorem PG.or {tg : Expr} {t1 t2 : TG} (h1 : PG X tg t1) (h2 : PG X tg t2) : PG X tg (fun v σ H Q => t1 v σ H Q ∨ t2 v σ H Q) := ⟨fun pins s σ H v u Q I r h => h.elim (h1.run pins s σ H v u Q I r) (h2.run pins s σ H v u Q I r)⟩
def tgS (gs : List (Dt → List Sl → Option (List Sl))) : Dt → List Sl → Option (List Sl) := fun d δ => match d with
  | .tup l => tgs gs l δ
  | .lst l => tgs gs l δ
  | _ => none
theorem dg_seq {gs : List (Dt → List Sl → Option (List Sl))} {ts : List Expr} {k : Nat} (hc : X.calm = true) (h : DGs X ts gs) (hn : (assignEach ts X.env).length = gs.length := by rfl) (hst : (assignEach ts X.env).findIdx? (·.1) = none := by rfl) : DG X (.Tuple ts k pos) (tgS gs) := by
  obtain ⟨t, pt, jt⟩ := h
  refine ⟨_, PG.or (pg_tup hc pt hn hst) (pg_unl hc pt hn hst), fun i F0 H0 F H σ δ s d v δ' Q S r e q => ?_⟩
  cases d <;> first | (cases e; done) | skip
  · rename_i l
    obtain ⟨p, vs, h0, h1, h2⟩ := r
    exact .inl ⟨p, vs, h0, sqT_same S.wf.fh h1, by rw [h2.len, tgs_len (show tgs gs l δ = some δ' from e)], jt i F0 H0 F H σ δ s l vs δ' Q S h2 e q⟩
  · rename_i l
    obtain ⟨p, vs, h0, h1, h2⟩ := r
    exact .inr ⟨p, vs, h0, SqL.of (S.wf.fh _ _ h1), by rw [h2.len, tgs_len (show tgs gs l δ = some δ' from e)], jt i F0 H0 F H σ δ s l vs δ' Q S h2 e q⟩
end
def pairD (p : Int × Int) : Dt := .tup [.int p.1, .int p.2]
end DL
namespace LwE
open PySem PySem.Spec PyProof.Rows L2
structure FnG (P : Program) (w : World) (K : PySem.W.Frag) (mg : Str → Option Value) (base : Heap) (k : Nat) (f : Addr) (fd : FuncData) (ps : List Str) (sp : Sp) : Prop where
  len : ∀ vs H Q E, sp vs H Q E → vs.length = ps.length
  run : ∀ (A : Around) (outer : List Env) (s : Shared) (H : Hp) (args : Args) (us : List Value) (vs : List V) (Q : VK) (E : XK), A.guards = some [] → Room k A →
    Env0 P w K mg base A outer s H → BindsTo s fd args (ps.zip us) → Vals vs us → sp vs H Q E → codeAny (model P w) A (.call (.ref f) args) (CR CX0 outer P w H s Q E) s
end LwE
namespace LwE
open PySem PySem.Spec PyProof.Rows L2 LamX
def ScrL (K : PySem.W.Frag) (H : Hp) (a : Addr) (ns : List Int) : Prop := (∃ o, H a = some (.frz o (.lst (ns.map V.int)))) ∨ SqL K (fun _ => none) a (ns.map V.int)
theorem ScrL.sq {K : PySem.W.Frag} {H : Hp} {a : Addr} {ns : List Int} (h : ScrL K H a ns) : SqL K H a (ns.map V.int) := by
  rcases h with h | (h | ⟨_, h⟩) | h
  · exact .inl (.inr h)
  · cases h
  · cases h
  · exact .inr h
theorem call_lawS {P : Program} {w : World} {K : PySem.W.Frag} {mg mb : Str → Option Value} {k : Nat} {fa a : Addr} {cs : List (Addr × Addr)} {fd : FuncData} {x : Str} {sp : Sp} {s₁ : Shared} {vs : List Value} {ns : List Int}
    (KX : K.In s₁.heap) (hns : s₁.heap.Ns mainGlobals mg) (hb : s₁.heap.Ns builtinsNs mb) (hbb : ∀ x : Str, x ≠ "__name__" → mb x = bootBuiltins x) (hlim : s₁.heap.NoLimit) (hgen : s₁.gens = #[])
    (hT : ∀ p ∈ cs, s₁.heap.get? p.2 = some { cls := .none, data := .fields #[] }) (nT : ∀ p ∈ cs, K.lookup p.2 = none) (hC : ∀ p ∈ cs, PySem.W.CodeHd s₁.heap p.1 p.2)
    (hbm : ∃ (bm : Addr) (ob : Obj), mg "__builtins__" = some (.ref bm) ∧ bm ≠ builtinsNs ∧ s₁.heap.get? bm = some ob ∧ ob.cls = .type "module" ∧ ob.dict = some builtinsNs ∧ ob.data = .plain)
    (ha : s₁.heap.get? a = some { cls := .type "list", data := .seq vs.toArray }) (hi : IntsAre vs ns) (hl : ns.length ≤ sizeLine) (hr : Room k callerA)
    (hsy : ∃ mm, s₁.heap.Ns sysModules mm)
    (F : ∀ base : Heap, K.In base → base.Ns mainGlobals mg → (∃ o, base.get? sysModules = some o) → (∀ p ∈ cs, TabB base mg p.1 p.2) → FnG P w K mg base k fa fd [x] sp) (hbind : ∀ (s : Shared) (u : Value), BindsTo s fd ⟨[u], []⟩ [(x, u)])
    (hsp : ∀ H : Hp, (∀ p ∈ cs, H p.2 = some (.tbl #[])) → ScrL K H a ns → sp [.ref a] H (fun v _ => v = .bl true) fun _ _ _ => False) :
    codeAny (model P w) callerA (.call (.ref fa) ⟨[.ref a], []⟩) (fun r s' => r = .ok (.ret (.bool true)) ∧ OldK s₁.heap s'.heap ∧ s'.os = s₁.os ∧ AllBare s'.gens) s₁ := by
  have rv := vals_ints hi
  have nlen := hi.length
  have tOf : ∀ {b : Addr}, b ∈ cs.map (·.2) → ∃ p ∈ cs, p.2 = b := fun hb => List.mem_map.mp hb
  have tAt : ∀ {b : Addr}, b ∈ cs.map (·.2) → s₁.heap.get? b = some { cls := .none, data := .fields #[] } := fun hb => by
    obtain ⟨p, hp, rfl⟩ := tOf hb
    exact hT p hp
  have aT : a ∉ cs.map (·.2) := fun z => by
    have q := tAt z
    rw [ha] at q
    cases q
  have core : ∀ H : Hp, (∀ b ∈ cs.map (·.2), H b = some (.tbl #[])) → (∀ b, H b = none ∨ b ∈ cs.map (·.2) ∨ ∃ o xs, H b = some (.frz o (.lst xs))) → SqL K H a (ns.map V.int) → HOk P w H s₁.heap → (∀ b, H b ≠ none → b = a ∨ b ∈ cs.map (·.2)) → (H a ≠ none → K.lookup a = none) →
      codeAny (model P w) callerA (.call (.ref fa) ⟨[.ref a], []⟩) (fun r s' => r = .ok (.ret (.bool true)) ∧ OldK s₁.heap s'.heap ∧ s'.os = s₁.os ∧ AllBare s'.gens) s₁ := by
    intro H hHT hO hS hok only unk
    have hz : ScrL K H a ns := by
      rcases hS with (h | h) | h
      · rcases hO a with z | z | ⟨o, xs, z⟩
        · rw [z] at h
          cases h
        · exact absurd z aT
        · rw [z] at h
          cases h
      · exact .inl h
      · exact .inr (.inr h)
    -- what is neither a list nor the table is not tracked
    have off : ∀ {b : Addr} {o : Obj}, s₁.heap.get? b = some o → (∀ us n, o.data ≠ .seq us n) → o.data ≠ .fields #[] → H b = none := by
      intro b o e h1 h2
      cases q : H b with
      | none => rfl
      | some u =>
        exfalso
        rcases only b (by rw [q]; simp) with z | z
        · rw [z, ha] at e
          cases e
          exact h1 _ _ rfl
        · rw [tAt z] at e
          cases e
          exact h2 rfl
    have offD : ∀ {b : Addr} {o : Obj} {es : Array DictEntry} {ep : Nat}, s₁.heap.get? b = some o → o.data = .dict es ep → H b = none := fun e d => off e (fun us n z => by rw [d] at z; cases z) fun z => by rw [d] at z; cases z
    have offP : ∀ {b : Addr} {o : Obj}, s₁.heap.get? b = some o → o.data = .plain → H b = none := fun e d => off e (fun us n z => by rw [d] at z; cases z) fun z => by rw [d] at z; cases z
    have keepsNs : ∀ {b : Addr} {m : Str → Option Value}, s₁.heap.Ns b m → (hidT s₁.heap H).Ns b m := by
      rintro b m ⟨o, es, ep, e, d, r⟩
      exact ⟨o, es, ep, hidT_get e (offD e d), d, r⟩
    have inK : K.In (hidT s₁.heap H) := by
      intro b o e
      refine hidT_get (KX b o e) ?_
      cases q : H b with
      | none => rfl
      | some u =>
        rcases only b (by rw [q]; simp) with z | z
        · subst z
          rw [unk (by rw [q]; simp)] at e
          cases e
        · obtain ⟨p, hp, rfl⟩ := tOf z
          rw [nT p hp] at e
          cases e
    have M : Mod K mg (hidT s₁.heap H) := ⟨inK, keepsNs hns, ⟨mb, keepsNs hb, hbb⟩, by
      obtain ⟨mc, z1, z2⟩ := hlim
      exact ⟨mc, keepsNs z1, z2⟩⟩
    have TB : ∀ p ∈ cs, TabB (hidT s₁.heap H) mg p.1 p.2 := fun p hp => by
      refine ⟨?_, ?_, fun z => ?_⟩
      · obtain ⟨o, us, file, tf, flags, tg, inF, text, tt, e1, r1, r2, r3, r4⟩ := hC p hp
        refine ⟨o, us, file, tf, flags, tg, inF, text, tt, hidT_get e1 (off e1 (fun ws n z => ?_) fun z => ?_), r1, r2, r3, r4⟩
        · rw [r2] at z
          cases z
        · rw [r2] at z
          cases z
          simp at r3
      · obtain ⟨bm, ob, b1, b2, b3, b4, b5, b6⟩ := hbm
        refine ⟨bm, ob, b1, b2, fun z => ?_, fun z => ?_, hidT_get b3 (offP b3 b6), b4, b5, b6⟩
        · obtain ⟨o, es, ep, e, d, _⟩ := hns
          rw [z, e] at b3
          cases b3
          rw [d] at b6
          cases b6
        · rw [z, hT p hp] at b3
          cases b3
          cases b6
      · obtain ⟨o, es, ep, e, d, _⟩ := hns
        rw [z, hT p hp] at e
        cases e
        cases d
    have e0 : Env0 P w K mg (hidT s₁.heap H) callerA [] s₁ H := by
      refine ⟨rfl, M, fun b o e => of_hidT e, Nat.le_of_eq (hidT_size _ _), trivial, fun b hb => ?_, hok, .of_eq hgen⟩
      exact absurd (show b ∈ ([] : List Addr) from hb) (by simp)
    refine codeAny_mono ((F _ inK (keepsNs hns) (let ⟨_, o, _, _, e, d, _⟩ := hsy; ⟨o, hidT_get e (offD e d)⟩) TB).run callerA [] s₁ H ⟨[.ref a], []⟩ [.ref a] [.ref a] _ _ rfl hr e0 (hbind s₁ (.ref a)) (.cons rfl .nil) (hsp H (fun p hp => hHT _ (List.mem_map_of_mem hp)) hz)) fun r s' z => ?_
    cases r with
    | error e => exact (show False from z).elim
    | ok fl =>
      cases fl with
      | ret u =>
        obtain ⟨v, H', os, bare, un, hok', r', q⟩ := z
        obtain rfl : v = .bl true := q
        obtain rfl : u = Value.bool true := r'
        have same : ∀ b o, b ∉ cs.map (·.2) → s₁.heap.get? b = some o → s'.heap.get? b = some o := fun b o nb e => by
          cases q : H b with
          | none => exact un.keep b o e q (fun z => absurd (show b ∈ ([] : List Addr) from z) (by simp)) (by simp)
          | some u =>
            rcases hO b with z | z | ⟨ob, xs, z⟩
            · rw [q] at z
              cases z
            · exact absurd z nb
            · obtain ⟨z1, _⟩ := hok b _ z
              obtain ⟨z2, _⟩ := hok' b _ (un.frzs b ob _ z)
              rw [e] at z1
              cases z1
              exact z2
        have grown : ∀ b ∈ cs.map (·.2), ∃ more : Array Value, s'.heap.get? b = some { cls := .none, data := .fields (#[] ++ more) } := fun b hb => by
          obtain ⟨more, hm⟩ := un.tbls b #[] (hHT b hb)
          exact ⟨more, hok' b _ hm⟩
        refine ⟨rfl, ⟨fun b o e => ?_, fun b o e => ?_⟩, os, bare⟩
        · by_cases nb : b ∈ cs.map (·.2)
          · obtain ⟨more, hm⟩ := grown b nb
            obtain ⟨p, hp, rfl⟩ := tOf nb
            rw [hT p hp] at e
            cases e
            exact .inr (.inl ⟨((hC p hp).tab (hT p hp)).isCodeTable, rfl, #[], more, rfl, hm⟩)
          · exact .inl (same b o nb e)
        · by_cases nb : b ∈ cs.map (·.2)
          · obtain ⟨more, hm⟩ := grown b nb
            exact ⟨_, hm⟩
          · exact ⟨o, same b o nb e⟩
      | next => exact False.elim z
      | brk => exact False.elim z
      | cont => exact False.elim z
  cases hk : K.lookup a with
  | some o =>
    have e := KX a o hk
    rw [ha] at e
    cases e
    refine core (fun b => if b ∈ cs.map (·.2) then some (.tbl #[]) else none) (fun b hb => if_pos hb) (fun b => ?_) ?_ (fun b u z => ?_) (fun b z => ?_) fun z => absurd (if_neg aT) z
    · by_cases h : b ∈ cs.map (·.2)
      · exact .inr (.inl h)
      · exact .inl (if_neg h)
    · exact .inr ⟨_, vs.toArray, _, hk, rfl, rfl, rfl, by rw [List.size_toArray, nlen]; exact hl, by simpa using rv⟩
    · by_cases h : b ∈ cs.map (·.2)
      · cases (if_pos h).symm.trans z
        exact tAt h
      · cases (if_neg h).symm.trans z
    · by_cases h : b ∈ cs.map (·.2)
      · exact .inr h
      · exact absurd (if_neg h) z
  | none =>
    refine core (fun b => if b = a then some (.frz { cls := .type "list", data := .seq vs.toArray } (.lst (ns.map V.int))) else if b ∈ cs.map (·.2) then some (.tbl #[]) else none) (fun b hb => ?_) (fun b => ?_) ?_ (fun b u z => ?_) (fun b z => ?_) fun _ => hk
    · rw [if_neg (fun z => aT (by rw [← z]; exact hb)), if_pos hb]
    · by_cases h1 : b = a
      · exact .inr (.inr ⟨_, _, if_pos h1⟩)
      · by_cases h2 : b ∈ cs.map (·.2)
        · exact .inr (.inl h2)
        · exact .inl (by rw [if_neg h1, if_neg h2])
    · exact .inl (.inr ⟨_, if_pos rfl⟩)
    · by_cases h1 : b = a
      · cases (if_pos h1).symm.trans z
        subst h1
        exact ⟨ha, by rw [List.length_map]; exact hl, vs, _, rv, ha⟩
      · by_cases h2 : b ∈ cs.map (·.2)
        · cases ((if_neg h1).trans (if_pos h2)).symm.trans z
          exact tAt h2
        · cases ((if_neg h1).trans (if_neg h2)).symm.trans z
    · by_cases h1 : b = a
      · exact .inl h1
      · by_cases h2 : b ∈ cs.map (·.2)
        · exact .inr h2
        · exact absurd ((if_neg h1).trans (if_neg h2)) z
def TellsS (l : PySem.W.OpenLaw) (w : World) (K : PySem.W.Frag) (k : Nat) (x : Str) (sp : List (Addr × Addr) → Sp) (mg : Str → Option Value) (fa : Addr) (h : Heap) : Prop :=
  ∃ (fd : FuncData) (cs : List (Addr × Addr)), (∀ p ∈ cs, h.get? p.2 = some { cls := .none, data := .fields #[] }) ∧ (∀ p ∈ cs, K.lookup p.2 = none) ∧ (∀ p ∈ cs, PySem.W.CodeHd h p.1 p.2) ∧ (∀ (s : Shared) (u : Value), BindsTo s fd ⟨[u], []⟩ [(x, u)]) ∧
    ∀ base : Heap, K.In base → base.Ns mainGlobals mg → (∃ o, base.get? sysModules = some o) → (∀ p ∈ cs, TabB base mg p.1 p.2) → FnG l.prog w K mg base k fa fd [x] (sp cs)
theorem walkGS {l : PySem.W.OpenLaw} {n k : Nat} {q : Program} {loose : List Str} {XP : (Str → Option Value) → Heap → Prop} {YP : World → Heap → Prop} {d : DefRec} {K : Params → PySem.W.Frag} {sp : World → List (Addr × Addr) → Sp} {x : Str}
    (hn : l.most = some n) (hn2 : n ≤ sizeLine) (hdf : d.params.defaults = []) (hr : Room k callerA) (hi : importsNone q = true) (hY : ∀ (w : World) (h : Heap), YP w h → (K w.params).In h)
    (F : ∀ (w : World) (mg : Str → Option Value) (fa : Addr) (h : Heap), YP w h → (K w.params).In h → h.Ns mainGlobals mg → mg d.name = some (.ref fa) → TellsS l w (K w.params) k x (sp w) mg fa h)
    (hsp : ∀ (w : World) (H : Hp) (a : Addr) (cs : List (Addr × Addr)) (ns : List Int), ns.length ≤ n → (∀ p ∈ cs, H p.2 = some (.tbl #[])) → ScrL (K w.params) H a ns → sp w cs [.ref a] H (fun v _ => v = .bl true) fun _ _ _ => False) :
    PySem.W.WalkO q loose XP YP l.row.toRowW d [] (fun f vs => PySem.call f vs) := by
  refine Att.attach_call hn hdf fun w s₀ s₁ mg mb fa o pm cd doc a vs ns G Y ho hd hcd hmg hobj hints hlen hg => ?_
  have KX := hY w _ Y
  obtain ⟨fd, cs, hT, nT, hC, hb, hF⟩ := F w mg fa _ Y KX G.T.g hmg
  exact call_lawS KX G.T.g G.T.b G.T.builtins G.T.nolimit hg hT nT hC G.T.bmain hobj hints (Nat.le_trans hlen hn2) hr (let ⟨mm, z, _⟩ := (G.T.seer hi).mods; ⟨mm, z⟩) hF hb fun H hH hS => hsp w H a cs ns hlen hH hS
end LwE
namespace DL
open PySem PySem.Spec PyProof.Rows L2 LwE LamX Lw
def spLawD (K : PySem.W.Frag) (T : List (Addr × Str)) : Sp := fun vs H Q _ => ∃ (a : Addr) (ns : List Int), vs = [.ref a] ∧ SqL K H a (nums ns) ∧ ns.length ≤ 63 ∧ Tabs T H ∧ ∀ H', Q (.bl true) H'
def δ0 (N : List Str) : List Sl := .non :: .val .drw :: List.replicate (N.length - 2) .non
def Pass (T : List (Addr × Str)) (N : List Str) (g : List Sl → DL.M Fl) : Prop := ∀ s : MS, s.n = 0 → s.tabs = T → s.cs.length = 64 → (∀ x ∈ s.cs, 0 ≤ x ∧ x < 2147483647) → s.gs.length ≤ 63 → ∃ s', g (δ0 N) s = .ok (.ret (.val (.bl true))) s'
theorem law_body {N : List Str} {T : List (Addr × Str)} {X : Cx} {E : XK} {first : Stmt} {rest : List Stmt} {g : List Sl → DL.M Fl} {tf : TS} (hN : 2 ≤ N.length) (hf : PS X first tf)
    (htf : ∀ D σ H a ns, σ[0]? = some (some (.ref a)) → SqL X.K H a (nums ns) → ns.length ≤ 63 → (∀ m g c H', Same H H' → Dr H' m g c 0 → D.nx (σ.set 1 (some (.ref m))) H') → tf D σ H) (hr : DSs X E rest g) (hp : Pass T N g)
    {a : Addr} {ns : List Int} {H : Hp} {Q : VK} (h1 : SqL X.K H a (nums ns)) (h2 : ns.length ≤ 63) (h3 : Tabs T H) (q : ∀ H', Q (.bl true) H') :
    ∃ t, PSs X (first :: rest) t ∧ t { nx := fun _ H' => Q .non H', rt := Q } (L2.start N [.ref a]) H := by
  obtain ⟨t, pt, jt⟩ := hr
  have es : L2.start N [.ref a] = some (.ref a) :: List.replicate (N.length - 1) none := rfl
  refine ⟨_, pss_cons hf pt, htf _ _ H a ns (by rw [es]; rfl) h1 h2 fun m g' c H' sm d => ?_⟩
  obtain ⟨cs, cc, hc⟩ := d.hc
  obtain ⟨gs, gl, hg⟩ := d.hg
  have mr : MR ⟨m, g', c, T, 0⟩ ⟨0, gs, cs, T⟩ H' := ⟨d.hm, hc, hg, ⟨cc.len, cc.bd⟩, gl, d.ne, d.n0, h3.ext sm, rfl⟩
  have W : Wf ⟨m, g', c, T, 0⟩ ⟨0, gs, cs, T⟩ (fun _ => none) H' := ⟨fun b o e => (by cases e), fun b _ => rfl, mr⟩
  obtain ⟨n, hn⟩ : ∃ n, N.length = n + 2 := ⟨N.length - 2, by omega⟩
  have eσ : (L2.start N [.ref a]).set 1 (some (.ref m)) = some (.ref a) :: some (.ref m) :: List.replicate n none := by
    rw [es, hn]
    rfl
  have eδ : δ0 N = Sl.non :: Sl.val .drw :: List.replicate n Sl.non := by
    unfold δ0
    rw [hn]
    rfl
  have look : ∀ {j : Nat} {x : Sl}, (δ0 N)[j]? = some x → (j = 1 ∧ x = .val .drw) ∨ x = .non := by
    intro j x e
    rw [eδ] at e
    match j, e with
    | 0, e => cases e; exact .inr rfl
    | 1, e => cases e; exact .inl ⟨rfl, rfl⟩
    | j + 2, e =>
      rw [List.getElem?_cons_succ, List.getElem?_cons_succ, List.getElem?_replicate] at e
      split at e
      · exact .inr (Option.some.inj e).symm
      · cases e
  have S : Sinv X.K ⟨m, g', c, T, 0⟩ (fun _ => none) H' (fun _ => none) H' ((L2.start N [.ref a]).set 1 (some (.ref m))) (δ0 N) ⟨0, gs, cs, T⟩ := by
    refine ⟨.refl W.fh, W, ?_, fun j d e => ?_, fun j l e => ?_, fun j C ns l e => ?_, fun j j' l m p hne e => ?_, .none fun j ls e => by rcases look e with ⟨_, e1⟩ | e1 <;> cases e1⟩
    · rw [eσ, eδ]
      simp
    · rcases look e with ⟨rfl, e1⟩ | e1
      · cases e1
        exact ⟨.ref m, by rw [eσ]; rfl, rfl⟩
      · cases e1
    · rcases look e with ⟨rfl, e1⟩ | e1 <;> cases e1
    · rcases look e with ⟨rfl, e1⟩ | e1 <;> cases e1
    · rcases look e with ⟨rfl, e1⟩ | e1 <;> cases e1
  refine jt _ _ _ _ _ _ _ _ _ S ?_
  obtain ⟨s', e⟩ := hp ⟨0, gs, cs, T⟩ rfl rfl cc.len cc.bd gl
  rw [e]
  intro v F' H'' x m r
  have r : v = .bl true := r
  rw [r]
  exact q H''
section
variable {P : Program} {w : World} {K : PySem.W.Frag} {mg : Str → Option Value} {base : Heap}
theorem FnX.g {k : Nat} {f : Addr} {fd : FuncData} {ps : List Str} {sp : Sp} (F : FnX P w K mg base (L2.CX P w) k f fd ps sp) (hE : ∀ vs H Q E, sp vs H Q E → sp vs H Q E0) : FnG P w K mg base k f fd ps sp :=
  ⟨F.len, fun A outer s H args us vs Q E hg hr e0 hb hv hs => codeAny_mono (F.run A outer s H args us vs Q E0 hg hr e0 hb hv (hE _ _ _ _ hs)) fun r s' q => by
    cases r with
    | error e =>
      obtain ⟨_, _, _, _, _, _, _, _, _, _, _, _, z⟩ := (show L2.CX P w outer H s E0 e s' from q)
      exact z.elim
    | ok fl => cases fl <;> exact q⟩
theorem begun_read {Kr : PySem.W.Frag} {ta : TA} {D : Ends} {σ : L2.St} {H : Hp} (hs : ∀ (Q : List V → Hp → Prop) (a : Addr), σ[0]? = some (some (.ref a)) → Q [.ref a] H → ta σ H Q) {a : Addr} {ns : List Int} (h0 : σ[0]? = some (some (.ref a))) (h1 : SqL Kr H a (nums ns)) (h2 : ns.length ≤ 63)
    (h : ∀ m g c H', Same H H' → Dr H' m g c 0 → D.nx (σ.set 1 (some (.ref m))) H') : tAsg (tCall (spBegun Kr) [] E0 ta) (gName 1) D σ H := by
  refine hs _ a h0 ?_
  exact ⟨a, ns, rfl, h1, h2, fun m g c H' s d => h m g c H' s d⟩
theorem lawF {x qual : Str} {st : Stmt} {f : Addr} {fd : FuncData} {N : List Str} {k : Nat} {g : List Sl → DL.M Fl} {first : Stmt} {rest : List Stmt} {T : List (Addr × Str)} (F : Fun K x qual st f fd) (S : FnScope N ["script"] (defScope st)) (hN : 2 ≤ N.length) (hb : defBody st = first :: rest)
    (hf : ∀ (cdv : Value) (A : Around) (outer : List Env) (s : Shared) (H : Hp) (E : XK), Room k (A.deeper (PyProof.Rows.envOfC qual (defScope st) s.heap.objs.size f cdv)) → PS (cxOf (L2.CX P w) P w K mg base N qual (defScope st) f cdv A outer s H E) first (tAsg (tCall (spBegun K) [] E0 (tCons (tVar 0) tNil)) (gName 1)))
    (hr : ∀ (cdv : Value) (A : Around) (outer : List Env) (s : Shared) (H : Hp) (E : XK), A.guards = some [] → Room k (A.deeper (PyProof.Rows.envOfC qual (defScope st) s.heap.objs.size f cdv)) → DSs (cxOf (L2.CX P w) P w K mg base N qual (defScope st) f cdv A outer s H E) E rest g) (hp : Pass T N g) :
    FnG P w K mg base (k + 1) f fd ["script"] (spLawD K T) := by
  refine FnX.g (okX F S (fun vs H Q E ⟨a, ns, e, _⟩ => by rw [e]; rfl) (fun cdv A outer s H vs Q E _ hg hro ⟨a, ns, e, h1, h2, h3, q⟩ => ?_)) fun vs H Q E h => h
  subst e
  rw [hb]
  exact law_body hN (hf cdv A outer s H E hro) (fun D σ H a ns e h1 h2 h => begun_read (fun Q b eb q => ⟨_, eb, q⟩) e h1 h2 h) (hr cdv A outer s H E hg hro) hp h1 h2 h3 q
end
end DL
namespace DL
open PySem
theorem tabOk_of : ∀ {Tl : List (Addr × Str)} {P : Addr} {q : Str}, (Tl.map Prod.fst).Nodup → (P, q) ∈ Tl → tabOk P q Tl
  | [], _, _, _, h => by cases h
  | (p, r) :: l, P, q, nd, h => by
    rw [List.map_cons, List.nodup_cons] at nd
    refine ⟨h, fun x hx e => ?_⟩
    rcases List.mem_cons.mp h with h | h
    · cases h
      rcases List.mem_cons.mp hx with hx | hx
      · rw [hx]
      · exact absurd (List.mem_map.mpr ⟨x, hx, e⟩) nd.1
    · rcases List.mem_cons.mp hx with hx | hx
      · rw [hx] at e
        have e : p = P := e
        exact absurd (List.mem_map.mpr ⟨(P, q), h, e.symm⟩) nd.1
      · exact (tabOk_of nd.2 h).2 x hx e
end DL
namespace LwE
open PySem PySem.Spec PyProof.Rows L2 HT
end LwE
namespace DL
open PySem PySem.Spec PyProof.Rows L2 LwE LamX Lw
section
variable {X : Cx} {E : XK} {a b c e tgE : Expr} {es : List Expr} {st : Stmt} {sts : List Stmt} {pos : Pos}
def gNo : List Sl → DL.M Fl := fun _ => M.no
theorem ds_no : DS X E st gNo := ⟨fun _ _ _ => False, ⟨fun _ _ _ _ _ _ h => h.elim⟩, fun _ _ _ _ _ _ _ _ _ _ q => q.elim⟩
theorem PE.or {t1 t2 : TE} (h1 : PE X e t1) (h2 : PE X e t2) : PE X e (fun σ H Q => t1 σ H Q ∨ t2 σ H Q) := ⟨fun pins s σ H Q I h => h.elim (h1.run pins s σ H Q I) (h2.run pins s σ H Q I)⟩
end
end DL
namespace DL
open PySem PySem.Spec PyProof.Rows L2 LwE LamX Lw
end DL
namespace DL
open PySem PySem.Spec PyProof.Rows L2 LwE LamX Lw
end DL
namespace DL
open PySem PySem.Spec PyProof.Rows L2 LwE LamX Lw
end DL
namespace DL
open PySem PySem.Spec PyProof.Rows L2 LwE LamX Lw
end DL
namespace DL
open PySem PySem.Spec PyProof.Rows L2 LwE LamX Lw
end DL
namespace DL
open PySem PySem.Spec PyProof.Rows L2 LwE LamX Lw
end DL
namespace DL
open PySem PySem.Spec PyProof.Rows L2 LwE LamX Lw
end DL
set_option pp.maxSteps 600
namespace DL
open PySem PySem.Spec PyProof.Rows L2 LwE LamX Lw
end DL
namespace Lw
open PySem L2 LwE
theorem Dr.upd_at {H : Hp} {m g c q : Addr} {n : Int} {o : HO} (d : Dr H m g c n) (h1 : q ≠ m) (h2 : q ≠ g) (h3 : q ≠ c) : Dr (upd H q o) m g c n :=
  ⟨by rw [upd_ne h1.symm]; exact d.hm, let ⟨cs, a, b⟩ := d.hc; ⟨cs, a, by rw [upd_ne h3.symm]; exact b⟩, let ⟨cs, a, b⟩ := d.hg; ⟨cs, a, by rw [upd_ne h2.symm]; exact b⟩, d.ne, d.n0⟩
structure Off (q m g c : Addr) : Prop where
  m : q ≠ m
  g : q ≠ g
  c : q ≠ c
theorem Dr.off {H : Hp} {m g c q : Addr} {n : Int} (d : Dr H m g c n) (h : H q = none) : Off q m g c :=
  ⟨(ne_of_none d.hm h).symm, let ⟨_, _, e⟩ := d.hg; (ne_of_none e h).symm, let ⟨_, _, e⟩ := d.hc; (ne_of_none e h).symm⟩
theorem Keep.free {m g c q : Addr} {n : Int} {H H' : Hp} (k : Keep m g H H') (d : Dr H' m g c n) (h : H' q = none) : H q = none := by
  have z := d.off h
  cases e : H q with
  | none => rfl
  | some o =>
    rw [k q o e z.m z.g] at h
    cases h
theorem Keep.put {m g q : Addr} {H H' : Hp} {o : HO} (k : Keep m g H H') (h : H q = none) : Keep m g H (upd H' q o) := fun b u e h1 h2 => by
  rw [upd_ne (ne_of_none e h)]
  exact k b u e h1 h2
section
variable {P : Program} {w : World} {K : PySem.W.Frag} {mg : Str → Option Value} {base : Heap}
structure LW (H H' : Hp) (m g c : Addr) (n size : Int) (q : Addr) (fs : List Int) : Prop where
  dr : ∃ n', Dr H' m g c n' ∧ n ≤ n' ∧ n' ≤ n + 3 + 2 * fs.length
  kp : Keep m g H H'
  fr : H q = none
  at_ : H' q = some (.lst (nums fs))
  len : fs.length ≤ 46
  bd : ∀ x ∈ fs, 1 ≤ x ∧ x ≤ size
theorem LW.push {H H' H5 : Hp} {m g c : Addr} {n n1 size x : Int} {q : Addr} {fs : List Int} (W : LW H H' m g c n size q fs) (o : Off q m g c) (hl : fs.length ≤ 39) (k5 : Keep m g H' H5) (d5 : Dr H5 m g c n1) (h1 : n ≤ n1)
    (h2 : n1 ≤ n + 5 + 2 * fs.length) (x0 : 1 ≤ x) (x1 : x ≤ size) : LW H (upd H5 q (.lst (nums fs ++ [.int x]))) m g c n size q (fs ++ [x]) where
  dr := ⟨n1, d5.upd_at o.m o.g o.c, h1, by rw [List.length_append, List.length_singleton]; omega⟩
  kp := (W.kp.trans k5).put W.fr
  fr := W.fr
  at_ := by
    rw [upd_same]
    simp [nums]
  len := by
    rw [List.length_append, List.length_singleton]
    omega
  bd := fun y hy => by
    rcases List.mem_append.mp hy with z | z
    · exact W.bd y z
    · have e := List.mem_singleton.mp z
      omega
end
end Lw
namespace LwM
def stp (i : Int) (s : List Int × List Int) (p x : Int) : List Int × List Int :=
  if x = i + 1 then (s.1, s.2 ++ [p]) else if x = i then (if s.2 = [] then (s.1 ++ [p], s.2) else (s.1, s.2.dropLast)) else s
def go (i : Int) : List Int × List Int → Int → List Int → List Int × List Int
  | s, _, [] => s
  | s, k, x :: l => go i (stp i s k x) (k + 1) l
def br (i : Int) (l : List Int) : List Int × List Int := go i ([], []) 0 l
def lows (i : Int) (l : List Int) : List Int := (br i l).1
def highs (i : Int) (l : List Int) : List Int := (br i l).2
theorem go_app (i : Int) : ∀ (l r : List Int) (s : List Int × List Int) (k : Int), go i s k (l ++ r) = go i (go i s k l) (k + l.length) r
  | [], r, s, k => by simp [go]
  | x :: l, r, s, k => by
    show go i (stp i s k x) (k + 1) (l ++ r) = go i (go i (stp i s k x) (k + 1) l) (k + ((x :: l).length : Nat)) r
    rw [go_app i l r, List.length_cons]
    congr 1
    omega
theorem br_snoc (i : Int) (l : List Int) (x : Int) : br i (l ++ [x]) = stp i (br i l) l.length x := by
  unfold br
  rw [go_app]
  show stp i _ (0 + (l.length : Int)) x = _
  rw [Int.zero_add]
theorem go_from (i : Int) : ∀ (l : List Int) (L W : List Int) (k : Int) (A B : List Int),
    go i (L ++ A.drop W.length, W.take (W.length - A.length) ++ B) k l =
      (L ++ (go i (A, B) k l).1.drop W.length, W.take (W.length - (go i (A, B) k l).1.length) ++ (go i (A, B) k l).2)
  | [], L, W, k, A, B => rfl
  | x :: l, L, W, k, A, B => by
    have step : stp i (L ++ A.drop W.length, W.take (W.length - A.length) ++ B) k x =
        (L ++ (stp i (A, B) k x).1.drop W.length, W.take (W.length - (stp i (A, B) k x).1.length) ++ (stp i (A, B) k x).2) := by
      unfold stp
      by_cases h1 : x = i + 1
      · simp only [h1, if_true]
        simp [List.append_assoc]
      · rw [if_neg h1, if_neg h1]
        by_cases h2 : x = i
        · rw [if_pos h2, if_pos h2]
          by_cases hB : B = []
          · subst hB
            simp only [List.append_nil, if_true]
            by_cases hW : W.take (W.length - A.length) = []
            · have hl : W.length ≤ A.length := by
                have := congrArg List.length hW
                rw [List.length_take] at this
                simp at this
                omega
              rw [if_pos hW]
              have e1 : (A ++ [k]).drop W.length = A.drop W.length ++ [k] := List.drop_append_of_le_length hl
              have e2 : W.length - (A ++ [k]).length = 0 := by
                rw [List.length_append, List.length_singleton]
                omega
              have e3 : W.length - A.length = 0 := by omega
              simp only [e1, e2, e3, List.take_zero, List.append_assoc]
            · have hl : A.length < W.length := by
                rcases Nat.lt_or_ge A.length W.length with z | z
                · exact z
                · exact absurd (by rw [Nat.sub_eq_zero_of_le z, List.take_zero]) hW
              rw [if_neg hW]
              have e1 : (A ++ [k]).drop W.length = A.drop W.length := by
                rw [List.drop_of_length_le (by rw [List.length_append, List.length_singleton]; omega), List.drop_of_length_le (by omega)]
              have e2 : (W.take (W.length - A.length)).dropLast = W.take (W.length - (A ++ [k]).length) := by
                rw [List.dropLast_eq_take, List.take_take, List.length_take, List.length_append, List.length_singleton]
                congr 1
                omega
              rw [e1, e2]
          · rw [if_neg (by simp [hB]), if_neg hB, List.dropLast_append_of_ne_nil hB]
        · rw [if_neg h2, if_neg h2]
    show go i (stp i _ k x) (k + 1) l = _
    rw [step]
    exact go_from i l L W (k + 1) _ _
theorem go_shift (i d : Int) : ∀ (l : List Int) (A B : List Int) (k : Int), go i (A.map (· + d), B.map (· + d)) (k + d) l = ((go i (A, B) k l).1.map (· + d), (go i (A, B) k l).2.map (· + d))
  | [], A, B, k => rfl
  | x :: l, A, B, k => by
    have step : stp i (A.map (· + d), B.map (· + d)) (k + d) x = ((stp i (A, B) k x).1.map (· + d), (stp i (A, B) k x).2.map (· + d)) := by
      unfold stp
      split
      · simp
      · split
        · by_cases hB : B = []
          · subst hB
            simp
          · rw [if_neg (by simp [hB]), if_neg hB]
            simp [List.map_dropLast]
        · rfl
    show go i (stp i _ (k + d) x) (k + d + 1) l = _
    rw [step]
    have e : k + d + 1 = k + 1 + d := by omega
    rw [e]
    exact go_shift i d l _ _ (k + 1)
theorem br_app (i : Int) (l r : List Int) :
    br i (l ++ r) = (lows i l ++ ((lows i r).map (· + (l.length : Int))).drop (highs i l).length, (highs i l).take ((highs i l).length - (lows i r).length) ++ (highs i r).map (· + (l.length : Int))) := by
  have h1 := go_from i r (lows i l) (highs i l) (0 + (l.length : Int)) [] []
  have h2 := go_shift i (l.length : Int) r [] [] 0
  unfold br
  rw [go_app]
  have e0 : go i ([], []) 0 l = (lows i l ++ ([] : List Int).drop (highs i l).length, (highs i l).take ((highs i l).length - ([] : List Int).length) ++ []) := by
    simp [lows, highs, br]
  rw [e0, h1]
  have e1 : go i (([] : List Int), ([] : List Int)) (0 + (l.length : Int)) r = ((lows i r).map (· + (l.length : Int)), (highs i r).map (· + (l.length : Int))) := h2
  rw [e1, List.length_map]
theorem lows_app (i : Int) (l r : List Int) : lows i (l ++ r) = lows i l ++ ((lows i r).map (· + (l.length : Int))).drop (highs i l).length := by
  show (br i (l ++ r)).1 = _
  rw [br_app]
theorem highs_app (i : Int) (l r : List Int) : highs i (l ++ r) = (highs i l).take ((highs i l).length - (lows i r).length) ++ (highs i r).map (· + (l.length : Int)) := by
  show (br i (l ++ r)).2 = _
  rw [br_app]
def up (i : Int) (l : List Int) : Nat := (lows i l).length
def dn (i : Int) (l : List Int) : Nat := (highs i l).length
theorem up_app (i : Int) (l r : List Int) : up i (l ++ r) = up i l + (up i r - dn i l) := by
  unfold up dn
  rw [lows_app, List.length_append, List.length_drop, List.length_map]
theorem dn_app (i : Int) (l r : List Int) : dn i (l ++ r) = (dn i l - up i r) + dn i r := by
  unfold up dn
  rw [highs_app, List.length_append, List.length_take, List.length_map]
  omega
end LwM
namespace Lw
open PySem L2 LwE LwM
section
variable {P : Program} {w : World} {K : PySem.W.Frag} {mg : Str → Option Value} {base : Heap}
structure Ls (size : Int) (ls : List Int) : Prop where
  s0 : 2 ≤ size
  s1 : size ≤ 6
  len : ls.length ≤ 40
  bd : ∀ x ∈ ls, 1 ≤ x ∧ x ≤ size
def Seq (H : Hp) (a : Addr) (ls : List Int) : Prop := H a = some (.lst (nums ls)) ∨ H a = some (.tup (nums ls))
theorem Seq.same {H H' : Hp} {a : Addr} {ls : List Int} (h : Seq H a ls) (s : Same H H') : Seq H' a ls := h.elim (fun e => .inl (s _ _ e)) fun e => .inr (s _ _ e)
theorem Seq.is {H : Hp} {a : Addr} {ls : List Int} (h : Seq H a ls) : (∃ xs, H a = some (.lst xs)) ∨ ∃ xs, H a = some (.tup xs) := h.elim (fun e => .inl ⟨_, e⟩) fun e => .inr ⟨_, e⟩
theorem Seq.sq {H : Hp} {a : Addr} {ls : List Int} (h : Seq H a ls) : SqL K H a (nums ls) ∨ SqT K H a (nums ls) := h.elim (fun e => .inl (SqL.of e)) fun e => .inr (SqT.of e)
structure BW (H H' : Hp) (pr lo wa : Addr) (i : Int) (ls : List Int) : Prop where
  same : Same H H'
  fp : H pr = none
  fl : H lo = none
  fw : H wa = none
  npl : pr ≠ lo
  npw : pr ≠ wa
  nlw : lo ≠ wa
  hp : ∃ ps, H' pr = some (.lst ps) ∧ ps.length ≤ ls.length ∧ ∀ x ∈ ps, ∃ t i j, x = V.ref t ∧ H' t = some (.tup [.int i, .int j])
  hl : H' lo = some (.lst (nums (lows i ls)))
  hw : H' wa = some (.lst (nums (highs i ls)))
theorem BW.new {H H' : Hp} {pr lo wa T : Addr} {i : Int} {ls : List Int} {o : HO} (W : BW H H' pr lo wa i ls) (hT : H' T = none) : BW H (upd H' T o) pr lo wa i ls :=
  ⟨W.same.trans (same_new hT), W.fp, W.fl, W.fw, W.npl, W.npw, W.nlw, let ⟨ps, h1, h2, h3⟩ := W.hp; ⟨ps, same_new hT _ _ h1, h2, fun x hx => let ⟨t, a, b, e1, e2⟩ := h3 x hx; ⟨t, a, b, e1, same_new hT _ _ e2⟩⟩,
    same_new hT _ _ W.hl, same_new hT _ _ W.hw⟩
theorem brk (i : Int) (l : List Int) (x : Int) : lows i (l ++ [x]) = (stp i (lows i l, highs i l) l.length x).1 ∧ highs i (l ++ [x]) = (stp i (lows i l, highs i l) l.length x).2 := by
  unfold lows highs
  rw [br_snoc]
  exact ⟨rfl, rfl⟩
theorem BW.low {H H' : Hp} {pr lo wa : Addr} {i : Int} {l : List Int} (W : BW H H' pr lo wa i l) {x : Int} (h1 : ¬ x = i + 1) (hx : x = i) (he : highs i l = []) :
    BW H (upd H' lo (.lst (nums (lows i l) ++ [.int (l.length : Nat)]))) pr lo wa i (l ++ [x]) := by
  have e := brk i l x
  unfold stp at e
  rw [if_neg h1, if_pos hx, if_pos he] at e
  refine ⟨fun b o z => ?_, W.fp, W.fl, W.fw, W.npl, W.npw, W.nlw, ?_, ?_, ?_⟩
  · rw [upd_ne (ne_of_none z W.fl)]
    exact W.same _ _ z
  · obtain ⟨ps, h1, h2, h3⟩ := W.hp
    refine ⟨ps, by rw [upd_ne W.npl]; exact h1, by rw [List.length_append]; omega, fun y hy => ?_⟩
    obtain ⟨t, a, b, e1, e2⟩ := h3 y hy
    exact ⟨t, a, b, e1, by rw [upd_ne (ne_of e2 W.hl (by intro z; cases z))]; exact e2⟩
  · rw [upd_same, e.1]
    simp [nums]
  · rw [upd_ne W.nlw.symm, e.2]
    exact W.hw
end
end Lw
namespace Lw
open PySem L2 LwE LwM
def wf (t : Addr) (z : Int) : List (Str × V) := putF "letters" (.ref t) (putF "size" (.int z) [])
structure WAt (C : Addr) (H : Hp) (p : Addr) (size : Int) (ls : List Int) : Prop where
  ob : ∃ dx t, H p = some (.ins C dx (wf t size)) ∧ H t = some (.tup (nums ls))
  ls : Ls size ls
theorem WAt.same {C : Addr} {H H' : Hp} {p : Addr} {size : Int} {ls : List Int} (W : WAt C H p size ls) (s : Same H H') : WAt C H' p size ls :=
  ⟨let ⟨dx, t, a, b⟩ := W.ob; ⟨dx, t, s _ _ a, s _ _ b⟩, W.ls⟩
theorem WAt.keep {C : Addr} {H H' : Hp} {p m g c : Addr} {n size : Int} {ls : List Int} (W : WAt C H p size ls) (d : Dr H m g c n) (k : Keep m g H H') : WAt C H' p size ls := by
  obtain ⟨dx, t, a, b⟩ := W.ob
  obtain ⟨gs, _, e⟩ := d.hg
  exact ⟨⟨dx, t, k _ _ a (ne_of a d.hm (by intro z; cases z)) (ne_of a e (by intro z; cases z)), k _ _ b (ne_of b d.hm (by intro z; cases z)) (ne_of b e (by intro z; cases z))⟩, W.ls⟩
theorem Ls.set {size : Int} {ls : List Int} (L : Ls size ls) (p : Nat) {x : Int} (h0 : 1 ≤ x) (h1 : x ≤ size) : Ls size (ls.set p x) :=
  ⟨L.s0, L.s1, by rw [List.length_set]; exact L.len, fun y hy => by
    rcases List.mem_or_eq_of_mem_set hy with q | q
    · exact L.bd y q
    · rw [q]
      exact ⟨h0, h1⟩⟩
section
variable {P : Program} {w : World} {K : PySem.W.Frag} {mg : Str → Option Value} {base : Heap}
def spInit (C : Addr) : Sp := fun vs H Q _ => ∃ (p dx : Addr) (size : Int) (a : Addr) (ls : List Int), vs = [.ref p, .int size, .ref a] ∧ H p = some (.ins C dx []) ∧ Seq H a ls ∧ Ls size ls ∧
  ∀ H', (∀ b o, H b = some o → b ≠ p → H' b = some o) → WAt C H' p size ls → Q .non H'
theorem made {C : Addr} {H : Hp} {Q : VK} {size : Int} {a : Addr} {ls : List Int} (hq : Seq H a ls) (L : Ls size ls) (k : ∀ x H', Same H H' → H x = none → WAt C H' x size ls → Q (.ref x) H') :
    ∀ x dx, H x = none → H dx = none → dx ≠ x → spInit C (.ref x :: ([.int size, .ref a] ++ [])) (upd (upd H dx (.own x)) x (.ins C dx [])) (fun v H2 => v = .non ∧ Q (.ref x) H2) E0 := fun x dx nx ndx ne => by
  have s2 : Same H (upd (upd H dx (.own x)) x (.ins C dx [])) := fun b o e => by
    rw [upd_ne (ne_of_none e nx), upd_ne (ne_of_none e ndx)]
    exact e
  exact ⟨x, dx, size, a, ls, rfl, upd_same, hq.same s2, L, fun H' kp W => ⟨rfl, k x H' (Same.made nx ndx kp) nx W⟩⟩
end
end Lw
namespace Lw
open PySem L2 LwE LwM
section
variable {P : Program} {w : World} {K : PySem.W.Frag} {mg : Str → Option Value} {base : Heap}
theorem eqv_nums : ∀ l r : List Int, PyData.eqvAll (l.map PyData.int) (r.map PyData.int) = decide (l = r)
  | [], [] => by simp [PyData.eqvAll]
  | [], _ :: _ => by simp [PyData.eqvAll]
  | _ :: _, [] => by simp [PyData.eqvAll]
  | x :: l, y :: r => by
    have ih := eqv_nums l r
    simp only [List.map_cons, PyData.eqvAll, PyData.eqv, ih]
    by_cases h1 : x = y
    · subst h1
      simp
    · simp [h1]
theorem shaped_tup (l : List Int) : SeqAt.shaped (.tuple (l.map PyData.int)) = true := by
  have h := lay_nums l
  unfold SeqAt.shaped
  simp [PyData.canLay0, PyData.depth, h.1, h.2]
end
end Lw
namespace LwM
def lst (l : List Int) : Int := l.getLast?.getD 0
def fst (l : List Int) : Int := l.head?.getD 0
def upL (i : Int) (l : List Int) : List Int := l.set (lst (lows i l)).toNat (i + 1)
def dnL (i : Int) (l : List Int) : List Int := l.set (fst (highs i l)).toNat i
theorem lst_app (l r : List Int) (h : r ≠ []) : lst (l ++ r) = lst r := by
  unfold lst
  rw [List.getLast?_append]
  cases r with
  | nil => exact absurd rfl h
  | cons a r =>
    rw [List.getLast?_eq_some_getLast (List.cons_ne_nil a r)]
    rfl
end LwM
namespace Lw
open PySem L2 LwE LwM
end Lw
namespace LwM
def val (ls : List Int) (p : Int) : Int := ls[p.toNat]?.getD 0
def gp (i : Int) (f : Int → Int) : List Int × List Int → List Int → List Int × List Int
  | s, [] => s
  | s, p :: r => gp i f (stp i s p (f p)) r
theorem gp_app (i : Int) (f : Int → Int) : ∀ (A B : List Int) (s : List Int × List Int), gp i f s (A ++ B) = gp i f (gp i f s A) B
  | [], B, s => rfl
  | p :: A, B, s => gp_app i f A B _
theorem go_gp (i : Int) (f : Int → Int) : ∀ (l : List Int) (s : List Int × List Int) (k : Int), (∀ (j : Nat) x, l[j]? = some x → f (k + j) = x) → go i s k l = gp i f s ((List.range l.length).map fun j => k + (j : Nat))
  | [], s, k, h => rfl
  | x :: l, s, k, h => by
    have h0 : f k = x := by
      have := h 0 x rfl
      simpa using this
    have ih := go_gp i f l (stp i s k x) (k + 1) fun j y hy => by
      have := h (j + 1) y (by simpa using hy)
      rw [← this]
      congr 1
      omega
    show go i (stp i s k x) (k + 1) l = _
    rw [ih, List.length_cons, List.range_succ_eq_map, List.map_cons, List.map_map]
    show _ = gp i f (stp i s (k + ((0 : Nat) : Int)) (f (k + ((0 : Nat) : Int)))) _
    have e0 : k + ((0 : Nat) : Int) = k := by omega
    rw [e0, h0]
    congr 1
    apply List.map_congr_left
    intro j _
    show k + 1 + (j : Int) = k + ((Nat.succ j : Nat) : Int)
    omega
theorem gp_filter (i : Int) (f : Int → Int) : ∀ (A : List Int) (s : List Int × List Int), gp i f s (A.filter fun p => decide (f p = i ∨ f p = i + 1)) = gp i f s A
  | [], s => rfl
  | p :: A, s => by
    rw [List.filter_cons]
    by_cases h : f p = i ∨ f p = i + 1
    · rw [if_pos (by simpa using h)]
      exact gp_filter i f A _
    · rw [if_neg (by simpa using h)]
      show gp i f s _ = gp i f (stp i s p (f p)) A
      have e : stp i s p (f p) = s := by
        unfold stp
        rw [if_neg (fun z => h (.inr z)), if_neg (fun z => h (.inl z))]
      rw [e]
      exact gp_filter i f A s
theorem gp_pair (i : Int) (f : Int → Int) (A B : List Int) (s : List Int × List Int) {p q : Int} (hp : f p = i + 1) (hq : f q = i) : gp i f s (A ++ p :: q :: B) = gp i f s (A ++ B) := by
  rw [gp_app, gp_app]
  show gp i f (stp i (stp i _ p (f p)) q (f q)) B = _
  generalize gp i f s A = t
  congr 1
  rw [hp, hq]
  unfold stp
  rw [if_pos rfl, if_neg (by omega), if_pos rfl]
  simp
theorem gp_ups (i : Int) (f : Int → Int) : ∀ (B : List Int) (L W : List Int), (∀ p ∈ B, f p = i + 1) → gp i f (L, W) B = (L, W ++ B)
  | [], L, W, _ => by simp [gp]
  | p :: B, L, W, h => by
    show gp i f (stp i (L, W) p (f p)) B = _
    have e : stp i (L, W) p (f p) = (L, W ++ [p]) := by
      unfold stp
      rw [if_pos (h p (List.mem_cons_self ..))]
    rw [e, gp_ups i f B L _ fun q hq => h q (List.mem_cons_of_mem _ hq)]
    simp
def NoAdj (i : Int) (f : Int → Int) (A : List Int) : Prop := ∀ (j : Nat) a b, A[j]? = some a → A[j + 1]? = some b → ¬ (f a = i + 1 ∧ f b = i)
theorem NoAdj.tail {i : Int} {f : Int → Int} {p : Int} {A : List Int} (h : NoAdj i f (p :: A)) : NoAdj i f A := fun j a b ha hb => h (j + 1) a b (by simpa using ha) (by simpa using hb)
theorem NoAdj.all {i : Int} {f : Int → Int} : ∀ {A : List Int} {p : Int}, NoAdj i f (p :: A) → f p = i + 1 → (∀ q ∈ A, f q = i ∨ f q = i + 1) → ∀ q ∈ A, f q = i + 1
  | [], _, _, _, _, q, hq => by simp at hq
  | a :: A, p, h, hp, hA, q, hq => by
    have ha : f a = i + 1 := by
      rcases hA a (List.mem_cons_self ..) with z | z
      · exact absurd ⟨hp, z⟩ (h 0 p a rfl rfl)
      · exact z
    rcases List.mem_cons.mp hq with z | z
    · rw [z]
      exact ha
    · exact NoAdj.all h.tail ha (fun q hq => hA q (List.mem_cons_of_mem _ hq)) q z
theorem gp_end (i : Int) (f : Int → Int) : ∀ (A L : List Int), (∀ p ∈ A, f p = i ∨ f p = i + 1) → NoAdj i f A →
    gp i f (L, []) A = (L ++ A.filter (fun p => decide (f p = i)), A.filter fun p => decide (f p = i + 1))
  | [], L, _, _ => by simp [gp]
  | p :: A, L, h, hn => by
    have hA : ∀ q ∈ A, f q = i ∨ f q = i + 1 := fun q hq => h q (List.mem_cons_of_mem _ hq)
    rcases h p (List.mem_cons_self ..) with z | z
    · show gp i f (stp i (L, []) p (f p)) A = _
      have e : stp i (L, []) p (f p) = (L ++ [p], []) := by
        unfold stp
        rw [if_neg (by omega), if_pos z]
        simp
      rw [e, gp_end i f A _ hA hn.tail, List.filter_cons, List.filter_cons, if_pos (by simpa using z), if_neg (by simp; omega)]
      simp
    · have hall := NoAdj.all hn z hA
      have e1 := gp_ups i f (p :: A) L [] (fun q hq => by
        rcases List.mem_cons.mp hq with y | y
        · rw [y]
          exact z
        · exact hall q y)
      rw [e1]
      have e2 : (p :: A).filter (fun q => decide (f q = i)) = [] := by
        rw [List.filter_eq_nil_iff]
        intro q hq
        rcases List.mem_cons.mp hq with y | y
        · rw [y]
          simp
          omega
        · have := hall q y
          simp
          omega
      have e3 : (p :: A).filter (fun q => decide (f q = i + 1)) = p :: A := by
        rw [List.filter_eq_self]
        intro q hq
        rcases List.mem_cons.mp hq with y | y
        · rw [y]
          simpa using z
        · simpa using hall q y
      rw [e2, e3]
      simp
def plc (i : Int) (ls : List Int) (n : Nat) : List Int := ((List.range n).map fun j => ((j : Nat) : Int)).filter fun p => decide (val ls p = i ∨ val ls p = i + 1)
theorem br_plc (i : Int) (ls : List Int) : br i ls = gp i (val ls) ([], []) (plc i ls ls.length) := by
  unfold plc
  rw [gp_filter]
  have h := go_gp i (val ls) ls ([], []) 0 fun j x hx => by
    unfold val
    have e : (0 + (j : Int)).toNat = j := by omega
    rw [e, hx]
    rfl
  unfold br
  rw [h]
  congr 1
  apply List.map_congr_left
  intro j _
  omega
structure Out (i : Int) (ls rest : List Int) (at_ : Nat) : Prop where
  br : gp i (val ls) ([], []) rest = br i ls
  two : ∀ p ∈ rest, val ls p = i ∨ val ls p = i + 1
  bd : ∀ p ∈ rest, 0 ≤ p ∧ p < ls.length
  far : ∀ (j : Nat) a b, j < at_ → rest[j]? = some a → rest[j + 1]? = some b → ¬ (val ls a = i + 1 ∧ val ls b = i)
  len : rest.length ≤ ls.length
theorem Out.start (i : Int) (ls : List Int) : Out i ls (plc i ls ls.length) 0 where
  br := (br_plc i ls).symm
  two := fun p hp => by
    have := (List.mem_filter.mp hp).2
    simpa using this
  bd := fun p hp => by
    obtain ⟨j, hj, rfl⟩ := List.mem_map.mp (List.mem_filter.mp hp).1
    have := List.mem_range.mp hj
    omega
  far := fun j a b h => absurd h (Nat.not_lt_zero j)
  len := by
    unfold plc
    refine Nat.le_trans (List.length_filter_le _ _) ?_
    rw [List.length_map, List.length_range]
    exact Nat.le_refl _
theorem split_at {rest : List Int} {n : Nat} {a b : Int} (ha : rest[n]? = some a) (hb : rest[n + 1]? = some b) : rest = rest.take n ++ a :: b :: rest.drop (n + 2) := by
  obtain ⟨h1, e1⟩ := List.getElem?_eq_some_iff.mp ha
  obtain ⟨h2, e2⟩ := List.getElem?_eq_some_iff.mp hb
  have := List.take_append_drop n rest
  rw [List.drop_eq_getElem_cons h1, List.drop_eq_getElem_cons h2, e1, e2] at this
  exact this.symm
theorem Out.take {i : Int} {ls rest : List Int} {n : Nat} (o : Out i ls rest n) {a b : Int} (ha : rest[n]? = some a) (hb : rest[n + 1]? = some b) (h1 : val ls a = i + 1) (h2 : val ls b = i) :
    Out i ls (rest.take n ++ rest.drop (n + 2)) (n - 1) := by
  have e := split_at ha hb
  have hlen : (rest.take n ++ rest.drop (n + 2)).length + 2 = rest.length := by
    have := congrArg List.length e
    rw [List.length_append, List.length_cons, List.length_cons] at this
    rw [List.length_append]
    omega
  have sub : ∀ p, p ∈ rest.take n ++ rest.drop (n + 2) → p ∈ rest := fun p hp => by
    rcases List.mem_append.mp hp with z | z
    · exact List.mem_of_mem_take z
    · exact List.mem_of_mem_drop z
  refine ⟨?_, fun p hp => o.two p (sub p hp), fun p hp => o.bd p (sub p hp), fun j x y hj hx hy => ?_, by have := o.len; omega⟩
  · rw [← o.br]
    conv => rhs; rw [e]
    exact (gp_pair i (val ls) _ _ _ h1 h2).symm
  · have hn : n < rest.length := (List.getElem?_eq_some_iff.mp ha).1
    have lt1 : j < (rest.take n).length := by
      rw [List.length_take]
      omega
    have lt2 : j + 1 < (rest.take n).length := by
      rw [List.length_take]
      omega
    rw [List.getElem?_append_left lt1, List.getElem?_take_of_lt (by omega)] at hx
    rw [List.getElem?_append_left lt2, List.getElem?_take_of_lt (by omega)] at hy
    exact o.far j x y (by omega) hx hy
theorem Out.done {i : Int} {ls rest : List Int} {n : Nat} (o : Out i ls rest n) (h : rest.length ≤ n + 1) : lows i ls = rest.filter (fun p => decide (val ls p = i)) ∧ highs i ls = rest.filter (fun p => decide (val ls p = i + 1)) := by
  have hn : NoAdj i (val ls) rest := fun j a b ha hb => by
    have := (List.getElem?_eq_some_iff.mp hb).1
    exact o.far j a b (by omega) ha hb
  have e := gp_end i (val ls) rest [] o.two hn
  rw [o.br] at e
  unfold lows highs
  rw [e]
  exact ⟨List.nil_append _, rfl⟩
end LwM
namespace LwE
open PySem PySem.Spec PyProof.Rows L2
end LwE
namespace Lw
open PySem L2 LwE LwM
section
variable {P : Program} {w : World} {K : PySem.W.Frag} {mg : Str → Option Value} {base : Heap}
def PairL (H : Hp) (p : Addr) (n : Nat) : Prop := ∃ ps, H p = some (.lst ps) ∧ ps.length ≤ n ∧ ∀ x ∈ ps, ∃ t i j, x = V.ref t ∧ H t = some (.tup [.int i, .int j])
theorem PairL.same {H H' : Hp} {p : Addr} {n : Nat} (h : PairL H p n) (s : Same H H') : PairL H' p n := by
  obtain ⟨ps, h1, h2, h3⟩ := h
  exact ⟨ps, s _ _ h1, h2, fun x hx => let ⟨t, i, j, e1, e2⟩ := h3 x hx; ⟨t, i, j, e1, s _ _ e2⟩⟩
end
end Lw
namespace LwM
theorem one_up (i x : Int) : up i [x] = if x = i then 1 else 0 := by
  unfold up lows br go go stp
  by_cases h : x = i
  · rw [if_neg (by omega), if_pos h, if_pos h]
    rfl
  · by_cases h2 : x = i + 1
    · rw [if_pos h2, if_neg h]
      rfl
    · rw [if_neg h2, if_neg h, if_neg h]
      rfl
theorem one_dn (i x : Int) : dn i [x] = if x = i + 1 then 1 else 0 := by
  unfold dn highs br go go stp
  by_cases h2 : x = i + 1
  · rw [if_pos h2, if_pos h2]
    rfl
  · rw [if_neg h2, if_neg h2]
    by_cases h : x = i
    · rw [if_pos h]
      rfl
    · rw [if_neg h]
      rfl
theorem more (i : Int) : ∀ l : List Int, (up i l : Int) - dn i l = (l.count i : Int) - l.count (i + 1)
  | [] => by simp [up, dn, lows, highs, br, go]
  | x :: l => by
    have ih := more i l
    have e1 := up_app i [x] l
    have e2 := dn_app i [x] l
    rw [one_up, one_dn] at *
    show (up i ([x] ++ l) : Int) - dn i ([x] ++ l) = _
    rw [e1, e2, List.count_cons, List.count_cons]
    by_cases h : x = i
    · subst h
      have hn : ¬ x = x + 1 := by omega
      simp only [if_pos rfl, if_neg hn, beq_self_eq_true, if_true]
      rw [if_neg (by simpa using hn)]
      omega
    · by_cases h2 : x = i + 1
      · subst h2
        simp only [if_neg h, if_pos rfl, beq_self_eq_true, if_true]
        rw [if_neg (by simpa using h)]
        omega
      · simp only [if_neg h, if_neg h2]
        rw [if_neg (by simpa using h), if_neg (by simpa using h2)]
        omega
end LwM
namespace Lw
open PySem L2 LwE LwM
end Lw
namespace LwM
def Fst (x : Int) (R : List Int) (i : Nat) (ps : List Int) : Prop := ps.length ≤ i ∧ (ps = [] → ∀ (q : Nat) z, q < i → R[q]? = some z → ¬ x < z) ∧
  ∀ p rest, ps = p :: rest → ∃ (j : Nat) (y : Int), p = (j : Int) ∧ j < i ∧ R[j]? = some y ∧ x < y ∧ ∀ (q : Nat) z, q < j → R[q]? = some z → ¬ x < z
theorem Fst.zero (x : Int) (R : List Int) : Fst x R 0 [] := ⟨Nat.le_refl _, fun _ q z h => absurd h (Nat.not_lt_zero _), fun p rest h => by cases h⟩
theorem Fst.yes {x y : Int} {R : List Int} {i : Nat} {ps : List Int} (h : Fst x R i ps) (e : R[i]? = some y) (l : x < y) : Fst x R (i + 1) (ps ++ [(i : Int)]) := by
  obtain ⟨h1, h2, h3⟩ := h
  refine ⟨by rw [List.length_append, List.length_singleton]; omega, fun z => by simp at z, fun p rest hp => ?_⟩
  cases ps with
  | nil =>
    have e1 : ((i : Int)) = p := (List.cons.inj hp).1
    exact ⟨i, y, e1.symm, Nat.lt_succ_self i, e, l, h2 rfl⟩
  | cons a ps =>
    have e1 : a = p := (List.cons.inj hp).1
    obtain ⟨j, y2, f1, f2, f3, f4, f5⟩ := h3 a ps rfl
    exact ⟨j, y2, by rw [← e1]; exact f1, by omega, f3, f4, f5⟩
theorem Fst.no {x y : Int} {R : List Int} {i : Nat} {ps : List Int} (h : Fst x R i ps) (e : R[i]? = some y) (l : ¬ x < y) : Fst x R (i + 1) ps := by
  obtain ⟨h1, h2, h3⟩ := h
  refine ⟨by omega, fun z q u hq hu => ?_, fun p rest hp => ?_⟩
  · rcases Nat.lt_or_ge q i with c | c
    · exact h2 z q u c hu
    · have : q = i := by omega
      subst this
      rw [e] at hu
      cases hu
      exact l
  · obtain ⟨j, y2, f1, f2, f3⟩ := h3 p rest hp
    exact ⟨j, y2, f1, by omega, f3⟩
end LwM
namespace Lw
open PySem L2 LwE LwM
structure RA (H0 H : Hp) (R : Addr) (T : List (List Int)) (as : List Addr) : Prop where
  s : Same H0 H
  hR : H R = some (.lst (as.map V.ref))
  fR : H0 R = none
  ln : as.length = T.length
  nd : ∀ (i j : Nat) b, as[i]? = some b → as[j]? = some b → i = j
  at_ : ∀ (q : Nat) b l, as[q]? = some b → T[q]? = some l → H b = some (.lst (nums l))
  fr : ∀ b ∈ as, H0 b = none ∧ b ≠ R
theorem RA.same {H0 H H2 : Hp} {R : Addr} {T : List (List Int)} {as : List Addr} (A : RA H0 H R T as) (s : Same H H2) : RA H0 H2 R T as :=
  ⟨A.s.trans s, s _ _ A.hR, A.fR, A.ln, A.nd, fun q b l h1 h2 => s _ _ (A.at_ q b l h1 h2), A.fr⟩
theorem RA.push {H0 H : Hp} {R e : Addr} {T : List (List Int)} {as : List Addr} (A : RA H0 H R T as) (he : H e = none) : RA H0 (upd (upd H e (.lst [])) R (.lst (as.map V.ref ++ [.ref e]))) R (T ++ [[]]) (as ++ [e]) := by
  have eR : R ≠ e := ne_of_none A.hR he
  have fe : H0 e = none := A.s.free he
  have ne : e ∉ as := fun h => by
    obtain ⟨q, hq⟩ := List.mem_iff_getElem?.mp h
    have hl : q < T.length := by
      have := (List.getElem?_eq_some_iff.mp hq).1
      rw [A.ln] at this
      exact this
    have := A.at_ q e _ hq (List.getElem?_eq_getElem hl)
    rw [he] at this
    cases this
  refine ⟨fun b o h => ?_, ?_, A.fR, by simp [A.ln], fun i j b h1 h2 => ?_, fun q b l h1 h2 => ?_, fun b hb => ?_⟩
  · rw [upd_ne (ne_of_none h A.fR), upd_ne (ne_of_none h fe)]
    exact A.s _ _ h
  · rw [upd_same, List.map_append]
    rfl
  · have key : ∀ (i : Nat), (as ++ [e])[i]? = some b → (i < as.length ∧ as[i]? = some b) ∨ (i = as.length ∧ b = e) := fun i h => by
      rcases Nat.lt_or_ge i as.length with c | c
      · rw [List.getElem?_append_left c] at h
        exact .inl ⟨c, h⟩
      · have c2 : i = as.length := by
          have := (List.getElem?_eq_some_iff.mp h).1
          rw [List.length_append, List.length_singleton] at this
          omega
        subst c2
        rw [List.getElem?_append_right (Nat.le_refl _), Nat.sub_self] at h
        exact .inr ⟨rfl, by simpa using h.symm⟩
    rcases key i h1 with ⟨c1, d1⟩ | ⟨c1, d1⟩ <;> rcases key j h2 with ⟨c2, d2⟩ | ⟨c2, d2⟩
    · exact A.nd i j b d1 d2
    · subst d2
      exact absurd (List.mem_of_getElem? d1) ne
    · subst d1
      exact absurd (List.mem_of_getElem? d2) ne
    · omega
  · rcases Nat.lt_or_ge q as.length with c | c
    · rw [List.getElem?_append_left c] at h1
      rw [List.getElem?_append_left (by rw [← A.ln]; exact c)] at h2
      have z := A.at_ q b l h1 h2
      rw [upd_ne (A.fr b (List.mem_of_getElem? h1)).2, upd_ne (ne_of_none z he)]
      exact z
    · have c2 : q = as.length := by
        have := (List.getElem?_eq_some_iff.mp h1).1
        rw [List.length_append, List.length_singleton] at this
        omega
      rw [c2, List.getElem?_append_right (Nat.le_refl _), Nat.sub_self] at h1
      rw [c2, A.ln, List.getElem?_append_right (Nat.le_refl _), Nat.sub_self] at h2
      cases h1
      cases h2
      rw [upd_ne eR.symm, upd_same]
      rfl
  · rcases List.mem_append.mp hb with c | c
    · exact A.fr b c
    · rw [List.mem_singleton.mp c]
      exact ⟨fe, eR.symm⟩
theorem RA.put {H0 H : Hp} {R b : Addr} {T : List (List Int)} {as : List Addr} {j : Nat} {l' : List Int} (A : RA H0 H R T as) (hb : as[j]? = some b) : RA H0 (upd H b (.lst (nums l'))) R (T.set j l') as := by
  obtain ⟨f1, f2⟩ := A.fr b (List.mem_of_getElem? hb)
  refine ⟨fun b2 o h => ?_, ?_, A.fR, by rw [List.length_set]; exact A.ln, A.nd, fun q b2 l h1 h2 => ?_, A.fr⟩
  · rw [upd_ne (ne_of_none h f1)]
    exact A.s _ _ h
  · rw [upd_ne f2.symm]
    exact A.hR
  · by_cases c : q = j
    · subst c
      rw [hb] at h1
      cases h1
      have hl : q < T.length := by
        have := (List.getElem?_eq_some_iff.mp hb).1
        rw [A.ln] at this
        exact this
      rw [List.getElem?_set_self hl] at h2
      cases h2
      exact upd_same
    · rw [List.getElem?_set_ne (Ne.symm c)] at h2
      have nb : b2 ≠ b := fun z => by
        subst z
        exact c (A.nd q j _ h1 hb)
      rw [upd_ne nb]
      exact A.at_ q b2 l h1 h2
end Lw
namespace DL
open PySem PySem.Spec PyProof.Rows L2 LwE LamX Lw LwM
end DL
namespace DL
open PySem PySem.Spec PyProof.Rows L2 LwE LamX Lw
open Classical in
noncomputable def orE (f g : List Sl → DL.M R) : List Sl → DL.M R := fun δ s => if f δ s = .no then g δ s else f δ s
theorem orE_or (f g : List Sl → DL.M R) (δ : List Sl) (s : MS) : orE f g δ s = f δ s ∨ orE f g δ s = g δ s := by
  unfold orE
  by_cases h : f δ s = .no
  · rw [if_pos h]; exact .inr rfl
  · rw [if_neg h]; exact .inl rfl
theorem orE_ret {f g : List Sl → DL.M R} {δ : List Sl} {r : R} (h : f δ = M.ret r) : orE f g δ = M.ret r := by
  funext s
  unfold orE
  rw [h, if_neg (fun z => nomatch z)]
section
variable {X : Cx} {E : XK} {e : Expr}
theorem pe_or {t1 t2 : TE} (h1 : PE X e t1) (h2 : PE X e t2) : PE X e (fun σ H Q => t1 σ H Q ∨ t2 σ H Q) := ⟨fun pins s σ H Q I h => h.elim (h1.run pins s σ H Q I) (h2.run pins s σ H Q I)⟩
theorem de_orE {f g : List Sl → DL.M R} (h1 : DE X E e f) (h2 : DE X E e g) : DE X E e (orE f g) := by
  obtain ⟨t1, p1, j1⟩ := h1
  obtain ⟨t2, p2, j2⟩ := h2
  refine ⟨_, pe_or p1 p2, fun i F0 H0 F H σ δ s Q S q => ?_⟩
  rcases orE_or f g δ s with h | h <;> rw [h] at q
  · exact .inl (j1 i F0 H0 F H σ δ s Q S q)
  · exact .inr (j2 i F0 H0 F H σ δ s Q S q)
end
end DL
namespace DL
open PySem PySem.Spec PyProof.Rows L2 LwE LamX Lw
end DL
namespace DL
open PySem PySem.Spec PyProof.Rows L2 LwE LamX Lw
section
variable {X : Cx} {pins : List (Addr × Obj)} {σ : L2.St} {H : Hp} {s : Shared}
theorem typ_at {M : Model} {h : Heap} {y : Addr} {o : Obj} {T : Value} (ho : h.get? y = some o) (hc : o.cls = T) : PySem.W.Looks M h (typeOf (.ref y)) T := by
  subst hc
  exact (PySem.W.Looks.ld ho).andThen .now
theorem typ_of {x : V} {u t : Value} (I : Inv X pins σ H s) (rx : RelV x u) (ty : TyX X.K H x t) (M : Model) : PySem.W.Looks M s.heap (typeOf u) t := by
  cases ty with
  | base b =>
    cases b with
    | non => cases (show u = Value.none from rx); exact .of_pure rfl
    | bl y => cases (show u = Value.bool y from rx); exact .of_pure rfl
    | int i => obtain ⟨t, q⟩ := (show ∃ t, u = Value.int i t from rx); cases q; exact .of_pure rfl
    | str y => obtain ⟨t, q⟩ := (show ∃ t, u = Value.str y t from rx); cases q; exact .of_pure rfl
    | flt y => obtain ⟨t, q⟩ := (show ∃ t, u = Value.float y t from rx); cases q; exact .of_pure rfl
    | @lst a xs ea =>
      cases (show u = Value.ref a from rx)
      obtain ⟨_, _, n, _, h1⟩ := (show ObjOk X.prog X.w H s.heap a (.lst xs) from I.hok a _ ea)
      exact typ_at h1 rfl
    | @frz a ob xs ea =>
      cases (show u = Value.ref a from rx)
      obtain ⟨_, _, _, n, _, h1⟩ := (show ObjOk X.prog X.w H s.heap a (.frz ob (.lst xs)) from I.hok a _ ea)
      exact typ_at h1 rfl
    | @tup a xs ea =>
      cases (show u = Value.ref a from rx)
      obtain ⟨_, _, _, o, h1, h2, _⟩ := (show ObjOk X.prog X.w H s.heap a (.tup xs) from I.hok a _ ea)
      exact typ_at h1 h2
    | @dK a kvs ea =>
      cases (show u = Value.ref a from rx)
      obtain ⟨_, _, vs, _, o, es, ep, h1, h2, _⟩ := (show ObjOk X.prog X.w H s.heap a (.dK kvs) from I.hok a _ ea)
      exact typ_at h1 h2.1
    | @dT a kvs ea =>
      cases (show u = Value.ref a from rx)
      obtain ⟨_, _, xs, _, o, es, ep, h1, h2, _⟩ := (show ObjOk X.prog X.w H s.heap a (.dT kvs) from I.hok a _ ea)
      exact typ_at h1 h2.1
    | @ins a C dx fs ea cl ha hn htk hm =>
      cases (show u = Value.ref a from rx)
      obtain ⟨mA, O, _⟩ := ins_get I.hok ea
      obtain ⟨od, J, _⟩ := O.look
      exact J.type
  | byt y => obtain ⟨t, q⟩ := (show ∃ t, u = Value.bytes y t from rx); cases q; exact .of_pure rfl
  | @set a S n ea =>
    cases (show u = Value.ref a from rx)
    obtain ⟨o, _, _, _, e, ex, _⟩ := I.hok a _ ea
    exact typ_at e ex.1
  | @kList a o e c =>
    cases (show u = Value.ref a from rx)
    exact typ_at (I.kIn a o e) c
  | @kTuple a o e c =>
    cases (show u = Value.ref a from rx)
    exact typ_at (I.kIn a o e) c
  | @kDict a o e c =>
    cases (show u = Value.ref a from rx)
    exact typ_at (I.kIn a o e) c
  | @fTuple a ob xs ea =>
    cases (show u = Value.ref a from rx)
    obtain ⟨_, _, _, _, o, h1, h2, _⟩ := (show ObjOk X.prog X.w H s.heap a (.frz ob (.tup xs)) from I.hok a _ ea)
    exact typ_at h1 h2
  | @fDict a ob kvs ea =>
    cases (show u = Value.ref a from rx)
    obtain ⟨_, _, _, vs, _, o, es, ep, h1, h2, _⟩ := (show ObjOk X.prog X.w H s.heap a (.frz ob (.dK kvs)) from I.hok a _ ea)
    exact typ_at h1 h2.1
end
section
variable {X : Cx} {pins : List (Addr × Obj)} {σ : L2.St} {H : Hp} {s : Shared} {CX : CXT} {k : Nat} {f C : Addr} {fd : FuncData} {ps : List Str} {sp : Sp} {E : XK}
def rEqY (K : PySem.W.Frag) (C : Addr) (sp : Sp) (E : XK) : R2 := fun x y H Q => ∃ a dx fs t, x = .ref a ∧ H a = some (.ins C dx fs) ∧ TyX K H y t ∧ PySem.W.notFirst K C t = true ∧ sp [x, y] H (fun z H' => ∃ c : Bool, z = .bl c ∧ Q (.bl c) H') E
theorem op_eqY (hs : PySem.W.findIn X.K (.ref C) "__eq__" = some (some (.ref f))) (hf : PySem.W.isFn X.K (.ref f) = true)
    (F : FnX X.prog X.w X.K X.mg X.base CX k f fd ps sp) (hgu : X.A.guards = some []) (hb : Binds X.K fd ps []) (hr : Room k X.A) (hx : Passes CX X E) : OpR X (compareOp .Eq) (rEqY X.K C sp E) := by
  intro pins s σ H x y v u Q I rx ry h
  obtain ⟨a, dx, fs, t, rfl, ea, ty, hn, q⟩ := h
  obtain rfl : v = Value.ref a := rx
  obtain ⟨ox, od, J⟩ := inst_of I ea
  obtain ⟨m, hF⟩ := I.fr
  refine PySem.W.cmp_ofEq (PySem.W.cmp_K (op := .Eq) (tb := t) hr.units0 hF I.ok.mod.kin J (typ_of I ry ty _) hn hs hf (wpAny_mono (run_belowX (vs := [.ref a, y]) F hgu hr I.env0 hb hx I (.cons rfl (.cons ry .nil)) q) (fun w s' z => ?_) fun _ _ x => x))
  obtain ⟨z', H', I', rz, c, rfl, qz⟩ := z
  exact SlX.cmpback rz ⟨.bl c, H', I', rz, qz⟩
def rNeY (K : PySem.W.Frag) (C : Addr) (sp : Sp) (E : XK) : R2 := fun x y H Q => ∃ a dx fs t, x = .ref a ∧ H a = some (.ins C dx fs) ∧ TyX K H y t ∧ PySem.W.notFirst K C t = true ∧ sp [x, y] H (fun z H' => ∃ c : Bool, z = .bl c ∧ Q (.bl (!c)) H') E
theorem op_neY (hs : PySem.W.findIn X.K (.ref C) "__eq__" = some (some (.ref f))) (hf : PySem.W.isFn X.K (.ref f) = true) (hn : PySem.W.findIn X.K (.ref C) "__ne__" = some (some (.builtin "object.__ne__"))) (hm : PySem.W.mroIn X.K C (.type "object") = some true)
    (F : FnX X.prog X.w X.K X.mg X.base CX k f fd ps sp) (hgu : X.A.guards = some []) (hb : Binds X.K fd ps []) (hr : Room (k + 1) X.A) (hx : Passes CX X E) : OpR X (compareOp .NotEq) (rNeY X.K C sp E) := by
  intro pins s σ H x y v u Q I rx ry h
  obtain ⟨a, dx, fs, t, rfl, ea, ty, hnf, q⟩ := h
  obtain rfl : v = Value.ref a := rx
  obtain ⟨ox, od, J⟩ := inst_of I ea
  have Xk := I.kIn
  have hcall : wpAny (model X.prog X.w) X.A.in1 (call (.ref f) [.ref a, u]) (fun w s' => ∃ c, w = .bool c ∧ EP X pins σ Q (.bool (!c)) s') X.xe s :=
    wpAny_mono (run_belowX (vs := [.ref a, y]) F (by exact hgu) hr.in1 I.env0.in1 hb hx I (.cons rfl (.cons ry .nil)) q) (fun w s' z => by
      obtain ⟨z', H', I', rz, c, rfl, qz⟩ := z
      obtain rfl : w = Value.bool c := rz
      exact ⟨c, rfl, .bl (!c), H', I', rfl, qz⟩) fun _ _ x => x
  have h1 : X.A.units < cLine := hr.units0
  have h2 : X.A.in1.units < cLine := by
    have := hr.units
    show X.A.units + 1 < cLine
    omega
  have sub : PySem.W.Looks (model X.prog X.w) s.heap (isInstance (.ref a) (.type "object")) true := J.type.andThen (PySem.W.looks_mroIn Xk hm)
  have body : wpAny (model X.prog X.w) X.A.in1 (Builtin.«object.__ne__» ⟨[.ref a, u], []⟩) (fun fin s' => ∃ c, fin = .done (.ret (.bool (!c))) ∧ EP X pins σ Q (.bool (!c)) s') X.xe s := by
    unfold Builtin.«object.__ne__»
    repeat (first
      | with_reducible refine wpAny_cRoomFor h2 ?_
      | (refine wpAny_bind (m := callSpecialIfBound? (.ref a) (Str.ofString "__eq__") [u]) (PySem.W.ifBound_K Xk J hs hf (wpAny_mono hcall (fun r s' hq => by
          obtain ⟨c, rfl, qz⟩ := hq
          repeat (first | exact ⟨c, rfl, qz⟩ | exact wpAny_pure ⟨c, rfl, qz⟩ | exact wpAny_truthy_bool ⟨c, rfl, qz⟩ | (refine wpAny_bind (m := truthy (.bool _)) (wpAny_truthy_bool ?_)) | wp_step)) fun _ _ e => e)))
      | wp_step)
  have one : wpAny (model X.prog X.w) X.A (tryCompare (.ref a) "__ne__" u) (fun r s' => ∃ c : Bool, r = some (.bool (!c)) ∧ EP X pins σ Q (.bool (!c)) s') X.xe s := by
    simp only [tryCompare]
    refine wpAny_bind (bound_slot (B := "object") Xk J hn PySem.F.cmp_object.ne (wpAny_call (codeAny_call_builtin PySem.F.cmp_object.ne.plain PySem.F.cmpEntry_ne
      (@PySem.W.check_slot (model X.prog X.w) _ _ s "object.__ne__" "object" "__ne__" (.ref a) [u] [] _ PySem.F.cmpKind_ne PySem.F.cmpSplit_ne sub (PySem.F.cmpArgs_ne _ _) ?_))))
    refine wpAny_mono body (fun fin s' z => ?_) fun _ _ e => e
    obtain ⟨c, rfl, qz⟩ := z
    first | exact ⟨c, rfl, qz⟩ | exact wpAny_pure ⟨c, rfl, qz⟩
  show wpAny _ _ (richCompare .NotEq (.ref a) u) _ _ _
  unfold richCompare
  simp only [oneThing_ref]
  refine wpAny_holding (wpAny_bind (wpAny_cRoomFor h1 ?_))
  rw [cmpInfo_NotEq]
  dsimp only
  refine wpAny_bind (J.type.here (wpAny_bind ((typ_of I ry ty _).here ?_)))
  split
  · rename_i qq
    have e : PySem.W.subIn X.K t (.ref C) = some false := by
      rcases Bool.or_eq_true_iff.mp hnf with e | e
      · rw [beq_iff_eq.mp e] at qq; simp at qq
      · exact beq_iff_eq.mp e
    refine wpAny_bind ((PySem.W.looks_subIn Xk e).here ?_)
    simp only [Bool.false_eq_true, if_false]
    refine wpAny_bind (wpAny_mono one (fun r s' z => ?_) fun _ _ e => e)
    obtain ⟨c, rfl, qz⟩ := z
    first | exact wpAny_pure qz | exact wpAny_pure (wpAny_pure qz)
  · refine wpAny_bind (wpAny_pure ?_)
    simp only [Bool.false_eq_true, if_false]
    refine wpAny_bind (wpAny_mono one (fun r s' z => ?_) fun _ _ e => e)
    obtain ⟨c, rfl, qz⟩ := z
    first | exact wpAny_pure qz | exact wpAny_pure (wpAny_pure qz)
end
def objL (C : Addr) (a _b : Dt) : Bool := isObj C a
def isLst : Dt → Bool
  | .lst _ => true
  | _ => false
def anyR (cs : List Addr) (C : Addr) (b : Dt) : Bool := isObj C b || (!isLst b && decide (tst1 cs (.own C) b = some false))
def eqAn (cs : List Addr) (C : Addr) (neg : Bool) (sem : List Dt → M R) (a b : Dt) : M R := if (isObj C a && anyR cs C b) = true then DL.M.bnd (sem [a, b]) fun
    | .val (.bl c) => M.ret (.val (.bl (neg ^^ c)))
    | _ => M.no
  else M.no
section
variable {X : Cx} {E : XK} {k : Nat} {f C : Addr} {fd : FuncData} {ps : List Str} {sem : List Dt → M R} {a b : Expr} {pos : Pos}
theorem nf_of {K : PySem.W.Frag} {i : Ix} {F H : Hp} {cs : List Addr} (O : Ocs K cs) (hC : C ∈ cs) (fh : Same F H) {d : Dt} {v : V} (h : View K i F H d v) (e : anyR cs C d = true) : ∃ t, TyX K H v t ∧ PySem.W.notFirst K C t = true ∧ Rep K i F d v := by
  have o := O.one C hC
  rcases Bool.or_eq_true_iff.mp e with e | e
  · obtain ⟨q, dy, gs, rfl, h1, h2⟩ := isObj_of fh e h
    exact ⟨_, .base (.ins h1 o.cl o.ca o.cn o.ct o.cm), by unfold PySem.W.notFirst; simp, h2⟩
  · obtain ⟨e1, e2⟩ := Bool.and_eq_true_iff.mp e
    have e2 := of_decide_eq_true e2
    obtain ⟨t, h1, h2⟩ := tyx_of O fh h e2
    refine ⟨t, h1, ?_, h.rep fun l z => by subst z; cases e1⟩
    have h3 := h2 _ _ e2
    unfold PySem.W.kitOne at h3
    split at h3
    · cases h3
    · have c : ((PySem.W.clsIn K C).isSome && PySem.W.typeIn K (.ref C) == some (.type "type")) = true := by
        rw [show (PySem.W.clsIn K C).isSome = true from o.ic, o.ty]
        rfl
      have h4 : PySem.W.kitCls K t (.ref C) = some false := h3
      have h5 : PySem.W.subIn K t (.ref C) = some false := by
        rw [← h4]
        show _ = (if ((PySem.W.clsIn K C).isSome && PySem.W.typeIn K (.ref C) == some (.type "type")) = true then PySem.W.subIn K t (.ref C) else none)
        rw [if_pos c]
      unfold PySem.W.notFirst
      rw [h5]
      simp
theorem od_eqY {cs : List Addr} (O : Ocs X.K cs) (hC : C ∈ cs) (hs : PySem.W.findIn X.K (.ref C) "__eq__" = some (some (.ref f))) (hf : PySem.W.isFn X.K (.ref f) = true)
    (F : FnD X.prog X.w X.K X.mg X.base k f fd ps sem) (hn : ps.length = 2) (hgu : X.A.guards = some []) (hb : Binds X.K fd ps []) (hr : Room k X.A) (hx : Passes (L2.CX X.prog X.w) X E) : OpD X E (compareOp .Eq) (eqAn cs C false sem) := by
  refine ⟨_, op_eqY hs hf F hgu hb hr hx, fun i s F H x y a b Q W va vb q => ?_⟩
  obtain ⟨h, q⟩ := ok_if q
  obtain ⟨e1, e2⟩ := Bool.and_eq_true_iff.mp h
  obtain ⟨p, dx, fs, rfl, h1, r1⟩ := isObj_of W.fh e1 va
  obtain ⟨t, h2, h3, r2⟩ := nf_of O hC W.fh vb e2
  refine ⟨p, dx, fs, t, rfl, h1, h2, h3, i, F, s, [a, b], W, .cons r1 (.cons r2 .nil), hn.symm, ok_bnd q fun a s' v F' H' x m r q' => ?_⟩
  cases a with
  | new l => exact q'.elim
  | val d =>
    cases d <;> first | exact q'.elim | skip
    rename_i c
    exact ⟨c, r, q' _ F' H' (.refl x.fh) m (by rw [Bool.false_xor]; rfl)⟩
theorem od_neY {cs : List Addr} (O : Ocs X.K cs) (hC : C ∈ cs) (hs : PySem.W.findIn X.K (.ref C) "__eq__" = some (some (.ref f))) (hf : PySem.W.isFn X.K (.ref f) = true) (hne : PySem.W.findIn X.K (.ref C) "__ne__" = some (some (.builtin "object.__ne__"))) (hm : PySem.W.mroIn X.K C (.type "object") = some true)
    (F : FnD X.prog X.w X.K X.mg X.base k f fd ps sem) (hn : ps.length = 2) (hgu : X.A.guards = some []) (hb : Binds X.K fd ps []) (hr : Room (k + 1) X.A) (hx : Passes (L2.CX X.prog X.w) X E) : OpD X E (compareOp .NotEq) (eqAn cs C true sem) := by
  refine ⟨_, op_neY hs hf hne hm F hgu hb hr hx, fun i s F H x y a b Q W va vb q => ?_⟩
  obtain ⟨h, q⟩ := ok_if q
  obtain ⟨e1, e2⟩ := Bool.and_eq_true_iff.mp h
  obtain ⟨p, dx, fs, rfl, h1, r1⟩ := isObj_of W.fh e1 va
  obtain ⟨t, h2, h3, r2⟩ := nf_of O hC W.fh vb e2
  refine ⟨p, dx, fs, t, rfl, h1, h2, h3, i, F, s, [a, b], W, .cons r1 (.cons r2 .nil), hn.symm, ok_bnd q fun a s' v F' H' x m r q' => ?_⟩
  cases a with
  | new l => exact q'.elim
  | val d =>
    cases d <;> first | exact q'.elim | skip
    rename_i c
    exact ⟨c, r, q' _ F' H' (.refl x.fh) m (by rw [Bool.true_xor]; rfl)⟩
theorem od_eqFY {kb : Nat} {cs : List Addr} (O : Ocs X.K cs) (T : Sd X.prog X.w X.K X.mg X.base C "__eq__" k ps sem) (hgu : X.A.guards = some []) (hr : Room kb X.A) (px : Passes (L2.CX X.prog X.w) X E) (hC : C ∈ cs) (hn : ps.length = 2 := by rfl) (hk : k ≤ kb := by decide) : OpD X E (compareOp .Eq) (eqAn cs C false sem) :=
  let ⟨_, _, F, hs, hf, hb⟩ := T
  od_eqY O hC hs hf F hn hgu hb (hr.mono hk) px
theorem od_neFY {kb : Nat} {cs : List Addr} (O : Ocs X.K cs) (T : Sd X.prog X.w X.K X.mg X.base C "__eq__" k ps sem) (hne : PySem.W.findIn X.K (.ref C) "__ne__" = some (some (.builtin "object.__ne__"))) (hm : PySem.W.mroIn X.K C (.type "object") = some true) (hgu : X.A.guards = some []) (hr : Room kb X.A) (px : Passes (L2.CX X.prog X.w) X E)
    (hC : C ∈ cs) (hn : ps.length = 2 := by rfl) (hk : k + 1 ≤ kb := by decide) : OpD X E (compareOp .NotEq) (eqAn cs C true sem) :=
  let ⟨_, _, F, hs, hf, hb⟩ := T
  od_neY O hC hs hf hne hm F hn hgu hb (hr.mono hk) px
def anyL (cs : List Addr) (C : Addr) (b : Dt) : Bool := isObj C b || decide (tst1 cs (.own C) b = some false)
def eqAL (cs : List Addr) (C : Addr) (neg : Bool) (sem : List Dt → M R) (a b : Dt) : M R := if (isObj C a && anyL cs C b) = true then DL.M.bnd (sem [a, b]) fun
    | .val (.bl c) => M.ret (.val (.bl (neg ^^ c)))
    | _ => M.no
  else M.no
def binF (fa : List Sl → M Dt) (fb : List Sl → M R) (op : Dt → Dt → M R) : List Sl → M R := fun δ => M.bnd (fa δ) fun a => M.bnd (fb δ) fun b => op a b.d
theorem nl_of {K : PySem.W.Frag} {i : Ix} {F H : Hp} {cs : List Addr} (O : Ocs K cs) (hC : C ∈ cs) (fh : Same F H) {d : Dt} {v : V} (h : Rep K i F d v) (e : anyL cs C d = true) : ∃ t, TyX K H v t ∧ PySem.W.notFirst K C t = true := by
  have o := O.one C hC
  rcases Bool.or_eq_true_iff.mp e with e | e
  · obtain ⟨q, dy, gs, rfl, h1, h2⟩ := isObj_of fh e (.inl h)
    exact ⟨_, .base (.ins h1 o.cl o.ca o.cn o.ct o.cm), by unfold PySem.W.notFirst; simp⟩
  · have e2 := of_decide_eq_true e
    obtain ⟨t, h1, h2⟩ := tyx_of O fh (.inl h) e2
    refine ⟨t, h1, ?_⟩
    have h3 := h2 _ _ e2
    unfold PySem.W.kitOne at h3
    split at h3
    · cases h3
    · have c : ((PySem.W.clsIn K C).isSome && PySem.W.typeIn K (.ref C) == some (.type "type")) = true := by
        rw [show (PySem.W.clsIn K C).isSome = true from o.ic, o.ty]
        rfl
      have h4 : PySem.W.kitCls K t (.ref C) = some false := h3
      have h5 : PySem.W.subIn K t (.ref C) = some false := by
        rw [← h4]
        show _ = (if ((PySem.W.clsIn K C).isSome && PySem.W.typeIn K (.ref C) == some (.type "type")) = true then PySem.W.subIn K t (.ref C) else none)
        rw [if_pos c]
      unfold PySem.W.notFirst
      rw [h5]
      simp
theorem j_eqL {cs : List Addr} {ta tb : TE} {fa : List Sl → M Dt} {fb : List Sl → M R} (O : Ocs X.K cs) (hC : C ∈ cs) (hn : ps.length = 2) (ja : J kV X.K E ta fa) (jb : J kR X.K E tb fb) : J kR X.K E (tOp (rEqY X.K C (spD X.K ps.length sem) E) ta tb) (binF fa fb (eqAL cs C false sem)) := by
  refine fun i F0 H0 F H σ δ s Q S q => ja.use S q fun x s1 v F1 H1 _ x1 S1 r1 q1 => jb.useR S1 q1 fun y s2 u F2 H2 _ x2 S2 r2 q2 => ?_
  obtain ⟨h, q⟩ := ok_if q2
  obtain ⟨e1, e2⟩ := Bool.and_eq_true_iff.mp h
  obtain ⟨p, dx, fs, rfl, h1, r3⟩ := isObj_of S2.wf.fh e1 (r1.ext x2)
  obtain ⟨t, h2, h3⟩ := nl_of O hC S2.wf.fh r2 e2
  refine ⟨p, dx, fs, t, rfl, h1, h2, h3, i, F2, s2, [x, y.d], S2.wf, .cons r3 (.cons r2 .nil), hn.symm, ok_bnd q fun a s' v F' H' x m r q' => ?_⟩
  cases a with
  | new l => exact q'.elim
  | val d =>
    cases d <;> first | exact q'.elim | skip
    rename_i c
    exact ⟨c, r, q' _ F' H' (.refl x.fh) m (by rw [Bool.false_xor]; rfl)⟩
theorem de_eqL {kb : Nat} {cs : List Addr} {fa : List Sl → M Dt} {fb : List Sl → M R} (O : Ocs X.K cs) (T : Sd X.prog X.w X.K X.mg X.base C "__eq__" k ps sem) (hgu : X.A.guards = some []) (hr : Room kb X.A) (px : Passes (L2.CX X.prog X.w) X E) (ha : DV X E a fa) (hb : DE X E b fb) (hC : C ∈ cs) (hn : ps.length = 2 := by rfl) (hk : k ≤ kb := by decide) (hm : behindInMarks .Eq b = false := by first | exact nomark _ | rfl) : DE X E (.Compare a [.Eq] [b] pos) (binF fa fb (eqAL cs C false sem)) := by
  obtain ⟨_, _, F, hs, hf, hb2⟩ := T
  obtain ⟨ta, pa, ja⟩ := ha
  obtain ⟨tb, pb, jb⟩ := hb
  exact ⟨_, pe_cmpR (op_eqY hs hf F hgu hb2 (hr.mono hk) px) pa pb hm, j_eqL O hC hn ja jb⟩
end
end DL
namespace DL
open PySem PySem.Spec PyProof.Rows L2 LwE LamX Lw
end DL
namespace DL
open PySem PySem.Spec PyProof.Rows L2 LwE LamX Lw
section
variable {K : PySem.W.Frag} {i : Ix} {F0 H0 F H H' : Hp} {σ : L2.St} {δ : List Sl} {s : MS}
theorem MR.off {p : Addr} {as : List Addr} (m : MR i s H) (hs : ∀ b o, H b = some o → b ∉ p :: as → H' b = some o) (hg : ∀ b ∈ p :: as, ¬ G i b ∧ ∃ vs, H b = some (.lst vs)) : MR i s H' := by
  have n1 : ∀ {b}, G i b → b ∉ p :: as := fun gb h => (hg _ h).1 gb
  refine ⟨hs _ _ m.hm (n1 (.inl rfl)), hs _ _ m.hc (n1 (.inr (.inr (.inl rfl)))), hs _ _ m.hg (n1 (.inr (.inl rfl))), m.cc, m.gl, m.ne, m.n0, fun q hq => ?_, m.tq⟩
  obtain ⟨ps, z1, z2, z3⟩ := m.tb q hq
  refine ⟨ps, hs _ _ z1 (n1 (.inr (.inr (.inr ⟨q, hq, rfl⟩)))), z2, fun pos cv hc => ?_⟩
  obtain ⟨c, y1, y2⟩ := z3 pos cv hc
  refine ⟨c, y1, hs _ _ y2 fun h => ?_⟩
  obtain ⟨vs, w⟩ := (hg _ h).2
  rw [w] at y2
  cases y2
theorem NestAt.app {p q : Addr} {as : List Addr} {ls : List (List Dt)} {l : List Dt} {vs : List V} (A : NestAt K i H0 F H p as ls) (hq : q ∉ p :: as) (h1 : H q = some (.lst vs)) (h2 : F q = none) (h3 : H0 q = none) (h4 : ¬ G i q) (h5 : Reps K i F l vs) : NestAt K i H0 F (upd H p (.lst (as.map V.ref ++ [V.ref q]))) p (as ++ [q]) (ls ++ [l]) := by
  have np : q ≠ p := fun z => hq (by rw [z]; exact List.mem_cons_self ..)
  have na : q ∉ as := fun z => hq (List.mem_cons_of_mem _ z)
  have pa : p ∉ as := (List.nodup_cons.mp A.nd).1
  refine ⟨by rw [upd_same, List.map_append]; rfl, List.nodup_cons.mpr ⟨fun h => ?_, ?_⟩, by rw [List.length_append, List.length_append, A.len]; rfl, fun b hb => ?_, fun j b m e1 e2 => ?_⟩
  · rcases List.mem_append.mp h with h | h
    · exact pa h
    · exact np (List.mem_singleton.mp h).symm
  · refine List.nodup_append.mpr ⟨(List.nodup_cons.mp A.nd).2, by simp, fun x hx y hy => ?_⟩
    rw [List.mem_singleton.mp hy]
    exact fun z => na (z ▸ hx)
  · rcases List.mem_cons.mp hb with rfl | hb
    · exact A.fr b (List.mem_cons_self ..)
    · rcases List.mem_append.mp hb with hb | hb
      · exact A.fr b (List.mem_cons_of_mem _ hb)
      · rw [List.mem_singleton.mp hb]; exact ⟨h2, h3, h4⟩
  · by_cases hj : j < as.length
    · rw [List.getElem?_append_left hj] at e1
      rw [List.getElem?_append_left (by rw [← A.len]; exact hj)] at e2
      obtain ⟨us, g1, g2⟩ := A.at_ j b m e1 e2
      exact ⟨us, by rw [upd_ne fun (z : b = p) => pa (z ▸ List.mem_of_getElem? e1)]; exact g1, g2⟩
    · have hl := (List.getElem?_eq_some_iff.mp e1).1
      rw [List.length_append, List.length_singleton] at hl
      have ej : j = as.length := by omega
      subst ej
      rw [List.getElem?_append_right (Nat.le_refl _), Nat.sub_self] at e1
      rw [List.getElem?_append_right (by rw [A.len]; exact Nat.le_refl _), A.len, Nat.sub_self] at e2
      cases e1
      cases e2
      exact ⟨vs, by rw [upd_ne np]; exact h1, h5⟩
theorem NestAt.put {p q : Addr} {as : List Addr} {ls : List (List Dt)} {n : Nat} {l' : List Dt} {vs' : List V} (A : NestAt K i H0 F H p as ls) (hq : as[n]? = some q) (h5 : Reps K i F l' vs') : NestAt K i H0 F (upd H q (.lst vs')) p as (ls.set n l') := by
  have qa : q ∈ as := List.mem_of_getElem? hq
  have pa : p ∉ as := (List.nodup_cons.mp A.nd).1
  have nl : n < ls.length := by rw [← A.len]; exact (List.getElem?_eq_some_iff.mp hq).1
  refine ⟨by rw [upd_ne fun (z : p = q) => pa (z ▸ qa)]; exact A.hp, A.nd, by rw [List.length_set]; exact A.len, A.fr, fun j b m e1 e2 => ?_⟩
  by_cases hj : j = n
  · subst hj
    rw [hq] at e1
    cases e1
    rw [List.getElem?_set_self nl] at e2
    cases e2
    exact ⟨vs', upd_same, h5⟩
  · rw [List.getElem?_set_ne (fun z => hj z.symm)] at e2
    obtain ⟨us, g1, g2⟩ := A.at_ j b m e1 e2
    refine ⟨us, ?_, g2⟩
    rw [upd_ne fun (z : b = q) => ?_]
    · exact g1
    · subst z
      obtain ⟨l1, w1⟩ := List.getElem?_eq_some_iff.mp e1
      obtain ⟨l2, w2⟩ := List.getElem?_eq_some_iff.mp hq
      have pw := List.pairwise_iff_getElem.mp (List.nodup_cons.mp A.nd).2
      rcases Nat.lt_or_gt_of_ne hj with z | z
      · exact pw j n l1 l2 z (by rw [w1, w2])
      · exact pw n j l2 l1 z (by rw [w1, w2])
end
end DL
namespace GQ
open PySem PySem.SeqAt
open AutoSeq1 (wpAny_loadPart')
open MeetsSeq MeetsSeq2 MeetsSeq3 SeqRoads2
end GQ
namespace DL
open PySem PySem.Spec PyProof.Rows L2 LwE LamX Lw GQ
end DL
namespace DL
open PySem PySem.Spec PyProof.Rows L2 LwE
structure RsN (K : PySem.W.Frag) (mg : Str → Option Value) (x : Str) (C : Addr) : Prop where
  ex : ∃ B newId initId bm, ExcBaseFacts B newId initId bm ∧ PySem.W.excIn K C bm newId = true
  g : mg x = some (.ref C)
  kp : PySem.W.keepIn K (.ref C) = true
  sb : PySem.W.subIn K (.ref C) (.type "BaseException") = some true
  ty : PySem.W.typeIn K (.ref C) = some (.type "type")
theorem pmk_own0 {X : Cx} {C : Addr} {bmB : List Value} {B newId initId : String} {x : Str} {p pos : Pos} (F : ExcBaseFacts B newId initId bmB) (q : PySem.W.excIn X.K C bmB newId = true) (gC : X.mg x = some (.ref C)) (kC : PySem.W.keepIn X.K (.ref C) = true) (r : Raises X (.ref C)) (hg : Gl X x)
    (hdb : (x == ("__debug__" : Str)) = false := by decide) : PMk X (.Call (.Name x p) [] [] pos) (fun _ H Q => Q (.ref C) none H) := by
  intro pins s σ H Q I h
  refine wpAny_Call_Name_kw (ld_glob I hg gC ?_ hdb)
  refine PySem.W.callWith_K0 I.kIn kC ?_
  show wpAny _ _ (call (.ref C) []) _ _ _
  obtain ⟨bm, N, nm, qn, bs, hdct, sn, sub, ab, col, dd, k0, k1, k2, k3, k5, mN, hC, hN, hni, T⟩ := exc_obj I.kIn q
  refine wpAny_call_exc_subT F T hC hN hni (fun h' e hm => ?_) (by show 0 ≤ sizeLine; exact Nat.zero_le _)
  exact mk_of I hm r h (I.hok.gone hm.new)
def gRaise0 (tag : Nat) (C : Addr) : List Sl → M Fl := fun _ => M.rse ⟨tag, C, none⟩
theorem ds_raise0 {X : Cx} {E : XK} (tag : Nat) {x : Str} {C : Addr} {p p2 pos : Pos} (hc : X.calm = true) (T : RsN X.K X.mg x C) (tk : Takes X fun cls d _ H => E cls d H) (hg : Gl X x := by rfl) (hdb : (x == ("__debug__" : Str)) = false := by decide) :
    DS X E (.Raise (some (.Call (.Name x p) [] [] p2)) none pos) (gRaise0 tag C) := by
  obtain ⟨B, newId, initId, bm, F, q⟩ := T.ex
  exact ⟨_, ps_raise hc tk (pmk_own0 F q T.g T.kp (raises_own T.sb T.ty) hg hdb), fun i F0 H0 F H σ δ s D S q => q F H S.base S.wf.mr⟩
end DL
namespace DL
open PySem PySem.Spec PyProof.Rows L2 LwE LamX Lw
structure MulT (t : Value) (K : PySem.W.Frag) (C : Addr) : Prop where
  ex : ∃ (n : String) (fo ro : Option Value), t = .type n ∧ PySem.W.findIn K (.type n) (PySem.dunder Operator.Mult.info.2) = some fo ∧ PySem.W.findIn K (.type n) (dunderR Operator.Mult.info.2) = some ro ∧ PySem.W.subIn K (.type n) (.ref C) = some false
section
open PySem.W
variable {prog : Program} {w : World} {A : Around} {E : Value → Shared → Prop} {s : Shared} {K : Frag} {x C L f : Addr} {h₀ : Heap} {m : Str → Option Value} {ox : Obj} {od : Option Obj}
theorem binL {op : Operator} {T : String} {b : Value} {fo ro : Option Value} {Q : Value → Shared → Prop} (F : Fr h₀ L s.heap m) (X₀ : K.In h₀) (I : InstAt s.heap x ox C od) (hb : Looks (model prog w) s.heap (typeOf b) (.type T)) (hc : selfFirst K C = true)
    (hs : findIn K (.ref C) (PySem.dunder op.info.2) = some (some (.ref f))) (hf : isFn K (.ref f) = true) (hr : findIn K (.ref C) (dunderR op.info.2) = some none)
    (h1 : findIn K (.type T) (PySem.dunder op.info.2) = some fo) (h2 : findIn K (.type T) (dunderR op.info.2) = some ro) (hsub : subIn K (.type T) (.ref C) = some false)
    (h : wpAny (model prog w) A (call (.ref f) [.ref x, b]) (PySem.W.CmpBack Q) E s) : wpAny (model prog w) A (binaryOp op (.ref x) b) Q E s := by
  have Xh := X₀.keeps F.keep
  obtain ⟨cd, rest, hcd, hm⟩ := ksp_first hc
  have one := ksp_try Xh I hs hf h
  rcases hi : op.info with ⟨sym, nm⟩
  rw [hi] at hs hr h1 h2 one
  obtain ⟨hh, g, d, tt, os⟩ := s
  have K1 : Looks (model prog w) hh (typeOf (.ref x)) (.ref C) := I.type
  have K2 : Looks (model prog w) hh (typeOf b) (.type T) := hb
  have K3 : Looks (model prog w) hh (fillsNumberSlot (.ref C) nm) true := fills_K Xh hcd hm hs
  have K4 := ksp_fillsT (M := model prog w) Xh h1 h2
  have K5 : Looks (model prog w) hh (isSubtype (.type T) (.ref C)) false := looks_subIn Xh hsub
  have K6 : Looks (model prog w) hh (numberSlotInPython (.ref C) nm) true := ksp_inPy Xh hs hr (.inl rfl)
  have K7 : Looks (model prog w) hh (numberSlotInPython (.type T) nm) false := Looks.of_pure rfl
  have K8 : Looks (model prog w) hh (typeLookup (.type T) (dunderR nm)) ro := looks_findIn Xh h2
  generalize ((fo.isSome && !isSeqSlot fo) || (ro.isSome && !isSeqSlot ro)) = right at K4
  have hne : (Value.ref C == Value.type T) = false := Bool.eq_false_iff.mpr fun q => by cases beq_iff_eq.mp q
  simp only [binaryOp, hi]
  refine wpAny_holding (wpAny_bind ?_)
  unfold binaryOp1
  refine wpAny_bind (K1.at (wpAny_bind (K2.at (wpAny_bind (K3.at ?_)))))
  simp only [hne, Bool.false_eq_true, if_false]
  cases right <;>
  · ksp_lk
    refine wpAny_mono one (fun r s' hr' => ?_) fun _ _ e => e
    obtain ⟨v, rfl, hq⟩ := hr'
    ksp_lk
    exact hq
end
def SdB (P : Program) (w : World) (K : PySem.W.Frag) (mg : Str → Option Value) (base : Heap) (C : Addr) (m mr : Str) (k : Nat) (ps : List Str) (sem : List Dt → M R) : Prop :=
  Sd P w K mg base C m k ps sem ∧ PySem.W.selfFirst K C = true ∧ PySem.W.findIn K (.ref C) mr = some none
section
variable {X : Cx} {pins : List (Addr × Obj)} {σ : L2.St} {H : Hp} {s : Shared} {CX : CXT} {k : Nat} {f C : Addr} {fd : FuncData} {ps : List Str} {sp : Sp} {E : XK}
def rMulX (K : PySem.W.Frag) (C : Addr) (sp : Sp) (E : XK) : R2 := fun x y H Q => ∃ a dx fs t, x = .ref a ∧ H a = some (.ins C dx fs) ∧ TyX K H y t ∧ MulT t K C ∧ sp [x, y] H Q E
theorem op_mulX (hs : PySem.W.findIn X.K (.ref C) "__mul__" = some (some (.ref f))) (hf : PySem.W.isFn X.K (.ref f) = true) (hc : PySem.W.selfFirst X.K C = true) (hrm : PySem.W.findIn X.K (.ref C) "__rmul__" = some none)
    (F : FnX X.prog X.w X.K X.mg X.base CX k f fd ps sp) (hgu : X.A.guards = some []) (hb : Binds X.K fd ps []) (hr : Room k X.A) (hx : Passes CX X E) : OpR X (binaryOp .Mult) (rMulX X.K C sp E) := by
  intro pins s σ H x y v u Q I rx ry h
  obtain ⟨a, dx, fs, t, rfl, ea, ty, ⟨n, fo, ro, rfl, h1, h2, h3⟩, q⟩ := h
  obtain rfl : v = Value.ref a := rx
  obtain ⟨ox, od, J⟩ := inst_of I ea
  obtain ⟨m, hF⟩ := I.fr
  refine binL (op := .Mult) hF I.ok.mod.kin J (typ_of I ry ty _) hc hs hf hrm h1 h2 h3 (wpAny_mono (run_belowX (vs := [.ref a, y]) F hgu hr I.env0 hb hx I (.cons rfl (.cons ry .nil)) q) (fun w s' z => ?_) fun _ _ x => x)
  obtain ⟨z', H', I', rz, qz⟩ := z
  exact SlX.cmpback rz ⟨z', H', I', rz, qz⟩
end
def mulK : Dt → Bool
  | .non | .bl _ | .int _ | .str _ | .tup _ | .lst _ | .dK _ _ | .dT _ _ => true
  | _ => false
theorem mt_NoneType {K : PySem.W.Frag} {C : Addr} : MulT (.type "NoneType") K C := ⟨"NoneType", none, none, rfl, by kernel_rfl, by kernel_rfl, by show (fastBuiltinMro "NoneType").map (·.contains (.ref C)) = _; kernel_rfl⟩
theorem mt_bool {K : PySem.W.Frag} {C : Addr} : MulT (.type "bool") K C := ⟨"bool", (some (.builtin "int.__mul__")), (some (.builtin "int.__rmul__")), rfl, by kernel_rfl, by kernel_rfl, by show (fastBuiltinMro "bool").map (·.contains (.ref C)) = _; kernel_rfl⟩
theorem mt_int {K : PySem.W.Frag} {C : Addr} : MulT (.type "int") K C := ⟨"int", (some (.builtin "int.__mul__")), (some (.builtin "int.__rmul__")), rfl, by kernel_rfl, by kernel_rfl, by show (fastBuiltinMro "int").map (·.contains (.ref C)) = _; kernel_rfl⟩
theorem mt_str {K : PySem.W.Frag} {C : Addr} : MulT (.type "str") K C := ⟨"str", (some (.builtin "str.__mul__")), (some (.builtin "str.__rmul__")), rfl, by kernel_rfl, by kernel_rfl, by show (fastBuiltinMro "str").map (·.contains (.ref C)) = _; kernel_rfl⟩
theorem mt_tuple {K : PySem.W.Frag} {C : Addr} : MulT (.type "tuple") K C := ⟨"tuple", (some (.builtin "tuple.__mul__")), (some (.builtin "tuple.__rmul__")), rfl, by kernel_rfl, by kernel_rfl, by show (fastBuiltinMro "tuple").map (·.contains (.ref C)) = _; kernel_rfl⟩
theorem mt_list {K : PySem.W.Frag} {C : Addr} : MulT (.type "list") K C := ⟨"list", (some (.builtin "list.__mul__")), (some (.builtin "list.__rmul__")), rfl, by kernel_rfl, by kernel_rfl, by show (fastBuiltinMro "list").map (·.contains (.ref C)) = _; kernel_rfl⟩
theorem mt_dict {K : PySem.W.Frag} {C : Addr} : MulT (.type "dict") K C := ⟨"dict", none, none, rfl, by kernel_rfl, by kernel_rfl, by show (fastBuiltinMro "dict").map (·.contains (.ref C)) = _; kernel_rfl⟩
theorem mt_of {K : PySem.W.Frag} {i : Ix} {F H : Hp} {C : Addr} (fh : Same F H) {d : Dt} {v : V} (h : Rep K i F d v) (e : mulK d = true) : ∃ t, TyX K H v t ∧ MulT t K C := by
  cases d with
  | non => rw [show v = V.non from h]; exact ⟨_, .base .non, mt_NoneType⟩
  | bl z => rw [show v = V.bl z from h]; exact ⟨_, .base (.bl _), mt_bool⟩
  | int z => rw [show v = V.int z from h]; exact ⟨_, .base (.int _), mt_int⟩
  | str z => rw [show v = V.str z from h]; exact ⟨_, .base (.str _), mt_str⟩
  | tup l =>
    obtain ⟨p, vs, rfl, h1, _⟩ := h
    rcases h1 with (h1 | ⟨o, h1⟩) | ⟨o, its, n, k1, k2, _⟩
    · exact ⟨_, .base (.tup (fh _ _ h1)), mt_tuple⟩
    · exact ⟨_, .fTuple (fh _ _ h1), mt_tuple⟩
    · exact ⟨_, .kTuple k1 k2, mt_tuple⟩
  | lst l =>
    obtain ⟨p, vs, rfl, h1, _⟩ := h
    exact ⟨_, .base (.lst (fh _ _ h1)), mt_list⟩
  | dK ks l =>
    obtain ⟨p, vs, rfl, h1, _⟩ := h
    exact ⟨_, .base (.dK (fh _ _ h1)), mt_dict⟩
  | dT ks l =>
    obtain ⟨p, vs, rfl, h1, _⟩ := h
    exact ⟨_, .base (.dT (fh _ _ h1)), mt_dict⟩
  | _ => cases e
def mulOw (C : Addr) (sem : List Dt → M R) (a b : Dt) : M R := if (isObj C a && mulK b) = true then sem [a, b] else M.no
section
variable {X : Cx} {E : XK} {k kb : Nat} {f C : Addr} {fd : FuncData} {ps : List Str} {sem : List Dt → M R} {a b : Expr} {pos : Pos}
theorem de_mulO {fa : List Sl → M Dt} {fb : List Sl → M R} (T : SdB X.prog X.w X.K X.mg X.base C "__mul__" "__rmul__" k ps sem) (hgu : X.A.guards = some []) (hr : Room kb X.A) (px : Passes (L2.CX X.prog X.w) X E) (ha : DV X E a fa) (hb : DE X E b fb) (hn : ps.length = 2 := by rfl) (hk : k ≤ kb := by decide) :
    DE X E (.BinOp a .Mult b pos) (binF fa fb (mulOw C sem)) := by
  obtain ⟨⟨_, _, F, hs, hf, hb2⟩, hc, hrm⟩ := T
  obtain ⟨ta, pa, ja⟩ := ha
  obtain ⟨tb, pb, jb⟩ := hb
  refine ⟨_, pe_op (op_mulX hs hf hc hrm F hgu hb2 (hr.mono hk) px) pa pb, fun i F0 H0 F H σ δ s Q S q => ja.use S q fun x s1 v F1 H1 _ x1 S1 r1 q1 => jb.useR S1 q1 fun y s2 u F2 H2 _ x2 S2 r2 q2 => ?_⟩
  obtain ⟨h, q⟩ := ok_if q2
  obtain ⟨e1, e2⟩ := Bool.and_eq_true_iff.mp h
  obtain ⟨p, dx, fs, rfl, h1, r3⟩ := isObj_of S2.wf.fh e1 (r1.ext x2)
  obtain ⟨t, h2, h3⟩ := mt_of S2.wf.fh r2 e2
  exact ⟨p, dx, fs, t, rfl, h1, h2, h3, i, F2, s2, [x, y.d], S2.wf, .cons r3 (.cons r2 .nil), hn.symm, q⟩
theorem od_addB (T : SdB X.prog X.w X.K X.mg X.base C "__add__" "__radd__" k ps sem) (hgu : X.A.guards = some []) (hr : Room kb X.A) (px : Passes (L2.CX X.prog X.w) X E) (hn : ps.length = 2 := by rfl) (hk : k ≤ kb := by decide) : OpD X E (binaryOp .Add) (twoOw C sem) :=
  od_addF T.1 T.2.1 hgu hr px hn hk
end
def SdG (P : Program) (w : World) (K : PySem.W.Frag) (mg : Str → Option Value) (base : Heap) (C : Addr) (k : Nat) (ps : List Str) (sem : List Dt → M R) : Prop :=
  ∃ f fd, FnD P w K mg base k f fd ps sem ∧ PySem.W.findIn K (.ref C) "__getitem__" = some (some (.ref f)) ∧ PySem.W.isFn K (.ref f) = true ∧ PySem.W.fnIn K f = true ∧ PySem.W.noSeq K C = true ∧ Binds K fd ps []
theorem fnIn_fun {K : PySem.W.Frag} {x qual : Str} {st : Stmt} {f : Addr} {fd : FuncData} (F : Fun K x qual st f fd) : PySem.W.fnIn K f = true := by
  obtain ⟨oc, od, kV, doc, pm, an, cdv, ct, osl, _, lk, _⟩ := F.ex
  unfold PySem.W.fnIn
  rw [lk]
def PlainIy (b : Expr) : Prop := ∀ o i, subscripted b true o i = runValue (.builtin "lifetime.subscript" ⟨[o, i], []⟩)
section
variable {X : Cx} {E : XK} {k kb : Nat} {f C : Addr} {fd : FuncData} {ps : List Str} {sp : Sp} {CX : CXT} {sem : List Dt → M R} {a b : Expr} {pos : Pos} {ta tb : TE}
def rGetX (C : Addr) (sp : Sp) (E : XK) : R2 := fun x y H Q => ∃ a dx fs, x = .ref a ∧ H a = some (.ins C dx fs) ∧ sp [x, y] H Q E
theorem pe_getX (hs : PySem.W.findIn X.K (.ref C) "__getitem__" = some (some (.ref f))) (hf : PySem.W.isFn X.K (.ref f) = true) (hfn : PySem.W.fnIn X.K f = true) (F : FnX X.prog X.w X.K X.mg X.base CX k f fd ps sp) (hgu : X.A.guards = some []) (hb : Binds X.K fd ps []) (hr : Room (k + 1) X.A) (hx : Passes CX X E)
    (ha : PE X a ta) (hb' : PE X b tb) (hsl : PlainIy b) : PE X (.Subscript a b pos) (tOp (rGetX C sp E) ta tb) := by
  refine ⟨fun pins s σ H Q I h => ?_⟩
  refine Subscript_ (binT ha hb' I h fun v u s2 x y H2 I2 rx ry q => ?_)
  obtain ⟨p, dx, fs, rfl, ea, q⟩ := q
  obtain rfl : v = Value.ref p := rx
  obtain ⟨ox, od, J⟩ := inst_of I2 ea
  obtain ⟨m, hF⟩ := I2.fr
  exact PySem.W.sub_K hF I2.ok.mod.kin J hs hfn hf (run_belowX (vs := [.ref p, y]) F (by first | exact hgu | simpa [Around.in1] using hgu) hr.in1 I2.env0.in1 hb hx I2 (.cons rfl (.cons ry .nil)) q) (hsl _ _)
def getOw (C : Addr) (sem : List Dt → M R) (a b : Dt) : M R := if isObj C a = true then sem [a, b] else M.no
theorem de_getO {fa : List Sl → M Dt} {fb : List Sl → M R} (T : SdG X.prog X.w X.K X.mg X.base C k ps sem) (hgu : X.A.guards = some []) (hr : Room kb X.A) (px : Passes (L2.CX X.prog X.w) X E) (ha : DV X E a fa) (hb : DE X E b fb) (hn : ps.length = 2 := by rfl) (hk : k + 1 ≤ kb := by decide) (hsl : PlainIy b := by exact fun _ _ => rfl) :
    DE X E (.Subscript a b pos) (binF fa fb (getOw C sem)) := by
  obtain ⟨_, _, F, hs, hf, hfn, _, hb2⟩ := T
  obtain ⟨ta, pa, ja⟩ := ha
  obtain ⟨tb, pb, jb⟩ := hb
  refine ⟨_, pe_getX hs hf hfn F hgu hb2 (hr.mono hk) px pa pb hsl, fun i F0 H0 F H σ δ s Q S q => ja.use S q fun x s1 v F1 H1 _ x1 S1 r1 q1 => jb.useR S1 q1 fun y s2 u F2 H2 _ x2 S2 r2 q2 => ?_⟩
  obtain ⟨e1, q⟩ := ok_if q2
  obtain ⟨p, dx, fs, rfl, h1, r3⟩ := isObj_of S2.wf.fh e1 (r1.ext x2)
  exact ⟨p, dx, fs, rfl, h1, i, F2, s2, [x, y.d], S2.wf, .cons r3 (.cons r2 .nil), hn.symm, q⟩
end
end DL
namespace DL
open PySem PySem.Spec PyProof.Rows L2 LwE
def minI : List Int → Int
  | [] => 0
  | x :: r => r.foldl min x
theorem foldl_min (r : List Int) : ∀ x : Int, (r.foldl min x ∈ x :: r) ∧ ∀ a ∈ x :: r, r.foldl min x ≤ a := by
  induction r with
  | nil => exact fun x => ⟨List.mem_cons_self .., fun a h => by rw [List.mem_singleton.mp h]; exact Int.le_refl _⟩
  | cons y r ih =>
    intro x
    obtain ⟨h1, h2⟩ := ih (min x y)
    rw [List.foldl_cons]
    refine ⟨?_, fun a h => ?_⟩
    · rcases List.mem_cons.mp h1 with e | e
      · rw [e]
        rcases Int.le_total x y with l | l
        · rw [Int.min_eq_left l]; simp
        · rw [Int.min_eq_right l]; simp
      · simp [e]
    · have h3 := h2 (min x y) (List.mem_cons_self ..)
      rcases List.mem_cons.mp h with e | h
      · rw [e]; exact Int.le_trans h3 (Int.min_le_left ..)
      · rcases List.mem_cons.mp h with e | h
        · rw [e]; exact Int.le_trans h3 (Int.min_le_right ..)
        · exact h2 a (List.mem_cons_of_mem _ h)
theorem minI_of {ns : List Int} {m : Int} (h1 : m ∈ ns) (h2 : ∀ a ∈ ns, m ≤ a) : minI ns = m := by
  cases ns with
  | nil => cases h1
  | cons x r =>
    obtain ⟨g1, g2⟩ := foldl_min r x
    exact Int.le_antisymm (g2 _ h1) (h2 _ g1)
section
variable {X : Cx} {E : XK}
def tBest (K : PySem.W.Frag) (f : List Int → Int) : List V → Hp → VK → Prop := fun vs H Q => ∃ (p : Addr) (ns : List Int), vs = [V.ref p] ∧ SqL K H p (ns.map V.int) ∧ ns ≠ [] ∧ Q (.int (f ns)) H
theorem call_minL (hc : X.calm = true) : CallR X (.builtin "min") (tBest X.K minI) := by
  intro pins s σ H vs us Q I r h
  obtain ⟨p, ns, rfl, hs, hne, q⟩ := h
  obtain ⟨its, rv, pl, _⟩ := I.list hs
  rw [Vals.ref1 r]
  have ia := rv.ints
  obtain ⟨xs, e⟩ := ia.allInts.items
  have hns : ns = xs.toList.map (·.1) := by
    rw [← ia.numsOf, ← nums_intItems, ← e]
  have hlen : ns.length = xs.size := by rw [hns, List.length_map, Array.length_toList]
  have hpos : 0 < xs.size := by
    rw [← hlen]
    exact List.length_pos_iff.mpr hne
  have hl := pl.isList
  rw [e] at hl
  refine min_intList (I.ok.hd hc) hl hpos fun v h' tk hv hk => ?_
  obtain ⟨t, rfl⟩ := intItems_at hv
  obtain ⟨h1, h2⟩ := argBest_lt (numAt xs) (xs.size - 1)
  refine ⟨.int (minI ns), H, I.kept hk, ⟨t, ?_⟩, q⟩
  rw [minI_of (ns := ns) ?_ fun a ha => ?_]
  · rw [hns, numAt_eq]; exact getD_mem (by rw [List.length_map, Array.length_toList]; omega)
  · rw [hns] at ha
    obtain ⟨j, hj, rfl⟩ := mem_getD ha
    rw [List.length_map, Array.length_toList] at hj
    rw [← numAt_eq]; exact h2 j (by omega)
def minLD : Dt → M R
  | .lst l => (match intsD l with
    | some ns => if ns ≠ [] then M.ret (.val (.int (minI ns))) else M.no
    | none => M.no)
  | _ => M.no
theorem cd_minL (hc : X.calm = true) : CallD X E (.builtin "min") minLD := by
  refine ⟨_, call_minL hc, fun i s F H x a Q W v q => ?_⟩
  cases a <;> first | exact q.elim | skip
  rename_i l
  obtain ⟨p, vs, h0, h1, h2⟩ := v.lst W.fh
  cases e : intsD l with
  | none => simp only [minLD, e] at q; exact q.elim
  | some ns =>
    simp only [minLD, e] at q
    obtain ⟨hne, q⟩ := ok_if q
    rw [intsD_eq e] at h2
    rw [h2.of_ints] at h1
    exact ⟨p, ns, by rw [h0], SqL.of h1, hne, q _ F H (.refl W.fh) W.mr rfl⟩
end
end DL
namespace DL
open PySem PySem.Spec PyProof.Rows L2 LwE LamX Lw
section
open PySem.W
variable {prog : Program} {w : World} {A : Around} {E : Value → Shared → Prop} {s : Shared} {K : Frag} {x C L f : Addr} {h₀ : Heap} {m : Str → Option Value} {ox : Obj} {od : Option Obj}
theorem sub_KS {value : Expr} {lo hi : Option Expr} {p2 : Pos} {i : Value} {Q : Value → Shared → Prop} (F : Fr h₀ L s.heap m) (X₀ : K.In h₀) (I : InstAt s.heap x ox C od) (hq : noSeq K C = true) (hs : findIn K (.ref C) "__getitem__" = some (some (.ref f))) (hf : fnIn K f = true) (hfn : isFn K (.ref f) = true)
    (h : wpAny (model prog w) A (call (.ref f) [.ref x, i]) Q E s) : wpAny (model prog w) A (subscriptTail value (.Slice lo hi none p2) (.ref x) i) Q E s := by
  have Xh := X₀.keeps F.keep
  have g := getItem_K (M := model prog w) (A := A) (E := E) F X₀ I hq hs hfn h
  unfold fnIn at hf
  split at hf
  · rename_i e
    unfold subscriptTail getitemInPython
    refine wpAny_bind (wpAny_bind (wpAny_bind (I.type.here ((looks_findIn Xh hs).here ?_))))
    dsimp only
    refine wpAny_bind (wpAny_load (Xh _ _ e) (wpAny_pure ?_))
    dsimp only
    rw [show subscripted (.Slice lo hi none p2) true (.ref x) i = operate [i, .ref x] (getItem (.ref x) i) by with_unfolding_all rfl]
    refine wpAny_bind (wpAny_operating (wpAny_mono g (fun v s' z => ?_) fun _ _ z => z))
    exact wpAny_bind (wpAny_letTemporaryGo (wpAny_pure z))
  · cases hf
end
section
variable {X : Cx} {E : XK} {k kb : Nat} {f C : Addr} {fd : FuncData} {ps : List Str} {sp : Sp} {CX : CXT} {sem : List Dt → M R} {a b : Expr} {pos p2 : Pos} {ta : TE} {tl th : TO} {lo hi : Option Expr}
def tGetS (C : Addr) (sp : Sp) (E : XK) (ta : TE) (tl th : TO) : TE := fun σ H Q => ta σ H fun x H1 => tl σ H1 fun _ H2 => th σ H2 fun _ H3 => ∃ a dx fs, x = .ref a ∧ H3 a = some (.ins C dx fs) ∧ ∀ p, H3 p = none → sp [x, .ref p] (upd H3 p (SlcO p)) Q E
theorem pe_getS (hs : PySem.W.findIn X.K (.ref C) "__getitem__" = some (some (.ref f))) (hf : PySem.W.isFn X.K (.ref f) = true) (hfn : PySem.W.fnIn X.K f = true) (hq : PySem.W.noSeq X.K C = true) (F : FnX X.prog X.w X.K X.mg X.base CX k f fd ps sp) (hgu : X.A.guards = some []) (hb : Binds X.K fd ps []) (hr : Room (k + 1) X.A) (hx : Passes CX X E)
    (ha : PE X a ta) (hl : PO X lo tl) (hu : PO X hi th) : PE X (.Subscript a (.Slice lo hi none p2) pos) (tGetS C sp E ta tl th) := by
  refine ⟨fun pins s σ H Q I h => ?_⟩
  refine Subscript_ (thn (ha.run pins s σ H _ I h) fun v s1 ⟨x, H1, I1, r1, q1⟩ => ?_)
  refine wpAny_Slice (thn (hl.run pins s1 σ H1 _ I1 q1) fun vl s2 ⟨l, H2, I2, pl, q2⟩ => thn (hu.run pins s2 σ H2 _ I2 q2) fun vu s3 ⟨u, H3, I3, pu, q3⟩ => ?_)
  rw [evalPart_none]
  refine wpAny_pure ?_
  obtain ⟨p, dx, fs, rfl, ea, q⟩ := q3
  obtain rfl : v = Value.ref p := r1
  have I4 := I3.laid (t' := s3.toks) (o := SlcO s3.heap.objs.size) (h' := s3.heap.push { cls := .type "slice", data := .fields #[vl, vu, .none] }) (fun b ob q => Heap.get?_push_of_some _ q) (Nat.le_refl _) (slcO_ok (Heap.get?_push_size _ rfl) rfl rfl)
  have hn : H3 s3.heap.objs.size = none := I3.hok.fresh (Nat.le_refl _)
  obtain ⟨ox, od, J⟩ := inst_of (C := C) I4 (by rw [upd_ne (ne_of_none ea hn)]; exact ea)
  obtain ⟨m, hF⟩ := I4.fr
  exact sub_KS hF I4.ok.mod.kin J hq hs hfn hf (run_belowX (vs := [.ref p, .ref s3.heap.objs.size]) F hgu (hr.mono (Nat.le_succ _)) I4.env0 hb hx I4 (.cons rfl (.cons rfl .nil)) (q _ hn))
def getSl (C : Addr) (sem : List Dt → M R) (a : Dt) : M R := if isObj C a = true then sem [a, .slc] else M.no
theorem de_getS {fa : List Sl → M Dt} {z y : Int} {j j2 : Nat} {q1 q2 : Pos} (T : SdG X.prog X.w X.K X.mg X.base C k ps sem) (hgu : X.A.guards = some []) (hr : Room kb X.A) (px : Passes (L2.CX X.prog X.w) X E) (ha : DV X E a fa) (hn : ps.length = 2 := by rfl) (hk : k + 1 ≤ kb := by decide) :
    DE X E (.Subscript a (.Slice (some (.Constant (.int z) j q1)) (some (.Constant (.int y) j2 q2)) none p2) pos) (una fa (getSl C sem)) := by
  obtain ⟨_, _, F, hs, hf, hfn, hq, hb2⟩ := T
  obtain ⟨ta, pa, ja⟩ := ha
  refine ⟨_, pe_getS hs hf hfn hq F hgu hb2 (hr.mono hk) px pa (po_some pe_int) (po_some pe_int), fun i F0 H0 F H σ δ s Q S q => ja.use S q fun x s1 v F1 H1 _ x1 S1 r1 q1 => ?_⟩
  obtain ⟨e1, q⟩ := ok_if q1
  obtain ⟨p, dx, fs, rfl, h1, r3⟩ := isObj_of S1.wf.fh e1 r1
  refine ⟨_, rfl, _, rfl, p, dx, fs, rfl, h1, fun p3 hp => ?_⟩
  have f3 : F1 p3 = none := S1.wf.fh.free hp
  have x3 : Ext i F1 H1 (upd F1 p3 (SlcO p3)) (upd H1 p3 (SlcO p3)) := (ext_new S1.wf.fh hp).know hp upd_same f3
  have m3 := mr_new (o := SlcO p3) S1.wf.mr hp
  exact ⟨i, _, s1, [x, .slc], (S1.ext x3 m3).wf, .cons (Rep.same x3.ff _ r3) (.cons ⟨p3, rfl, upd_same⟩ .nil), hn.symm, q.later x3⟩
def isiS (cs : List Addr) (t : Tst) (d : Dt) : M R := match d with
  | .slc => (match t with
    | .ty T => (match kitB "slice" T with
      | some b => M.ret (.val (.bl b))
      | none => M.no)
    | .own _ => M.no)
  | d => isiD cs [t] d
theorem isiS_eq {cs : List Addr} {t : Tst} {d : Dt} (h : d ≠ .slc) : isiS cs t d = isiD cs [t] d := by
  cases d <;> first | rfl | exact absurd rfl h
theorem de_isiS {c : Expr} {cs : List Addr} {t : Tst} {f : List Sl → M Dt} {p : Pos} (O : Ocs X.K cs) (ha : DV X E a f) (hc : DC X c t) (hm : X.mg "isinstance" = none) (hg : Gl X "isinstance" := by rfl)
    (hs : starEach [a, c] X.env = (false, eval a X.env) :: starEach [c] X.env := by rfl) (hs2 : starEach [c] X.env = (false, eval c X.env) :: starEach [] X.env := by rfl) (hpl : (backTo pos (starEach [c] X.env)).any (·.1) = false := by rfl) :
    DE X E (.Call (.Name "isinstance" p) [a, c] [] pos) (una f (isiS cs t)) := by
  obtain ⟨u, pu, ju⟩ := ha
  refine ⟨_, pe_callB (CallR.or call_isi call_isSlc) hg hm (by decide +kernel) (pa_cons pu (pa_cons hc pa_nil hs2) hs) (by decide) (by decide) hs hpl, fun i F0 H0 F H σ δ s Q S q => ju.use S q fun d s1 v F1 H1 e0 x1 S1 r1 q1 => ?_⟩
  clear e0
  have r1 : View X.K i F1 H1 d v := r1
  by_cases hd : d = .slc
  · subst hd
    obtain ⟨a1, rfl, h2⟩ : ∃ a, v = .ref a ∧ F1 a = some (SlcO a) := r1.rep fun _ e => nomatch e
    unfold isiS at q1
    cases t with
    | own D => exact q1.elim
    | ty T =>
      dsimp only at q1
      cases e : kitB "slice" T with
      | none => rw [e] at q1; exact q1.elim
      | some b =>
        rw [e] at q1
        exact .inr ⟨a1, _, _, b, rfl, S1.wf.fh _ _ h2, tyC _, kit_ty e, q1 _ F1 H1 (.refl S1.wf.fh) S1.wf.mr rfl⟩
  · rw [isiS_eq hd] at q1
    unfold isiD at q1
    cases e1 : tstA cs [t] d with
    | none => rw [e1] at q1; exact q1.elim
    | some b =>
      rw [e1] at q1
      have e2 : tst1 cs t d = some b := by
        unfold tstA at e1
        cases z : tst1 cs t d with
        | none => rw [z] at e1; cases e1
        | some w => cases w <;> rw [z] at e1 <;> exact e1
      obtain ⟨w, h1, h2⟩ := tyx_of O S1.wf.fh r1 e2
      exact .inl ⟨v, tyV t, w, tyU t, b, rfl, tyC t, h1, h2 _ _ e2, q1 _ F1 H1 (.refl S1.wf.fh) S1.wf.mr rfl⟩
theorem de_neL {b : Expr} {cs : List Addr} {fa : List Sl → M Dt} {fb : List Sl → M R} (O : Ocs X.K cs) (T : Sd X.prog X.w X.K X.mg X.base C "__eq__" k ps sem) (hne : PySem.W.findIn X.K (.ref C) "__ne__" = some (some (.builtin "object.__ne__"))) (hmo : PySem.W.mroIn X.K C (.type "object") = some true)
    (hgu : X.A.guards = some []) (hr : Room kb X.A) (px : Passes (L2.CX X.prog X.w) X E) (ha : DV X E a fa) (hb : DE X E b fb) (hC : C ∈ cs) (hn : ps.length = 2 := by rfl) (hk : k + 1 ≤ kb := by decide) (hm : behindInMarks .NotEq b = false := by first | exact nomark _ | rfl) : DE X E (.Compare a [.NotEq] [b] pos) (binF fa fb (eqAL cs C true sem)) := by
  obtain ⟨_, _, F, hs, hf, hb2⟩ := T
  obtain ⟨ta, pa, ja⟩ := ha
  obtain ⟨tb, pb, jb⟩ := hb
  refine ⟨_, pe_cmpR (op_neY hs hf hne hmo F hgu hb2 (hr.mono hk) px) pa pb hm, fun i F0 H0 F H σ δ s Q S q => ja.use S q fun x s1 v F1 H1 _ x1 S1 r1 q1 => jb.useR S1 q1 fun y s2 u F2 H2 _ x2 S2 r2 q2 => ?_⟩
  obtain ⟨h, q⟩ := ok_if q2
  obtain ⟨e1, e2⟩ := Bool.and_eq_true_iff.mp h
  obtain ⟨p, dx, fs, rfl, h1, r3⟩ := isObj_of S2.wf.fh e1 (r1.ext x2)
  obtain ⟨t, h2, h3⟩ := nl_of O hC S2.wf.fh r2 e2
  refine ⟨p, dx, fs, t, rfl, h1, h2, h3, i, F2, s2, [x, y.d], S2.wf, .cons r3 (.cons r2 .nil), hn.symm, ok_bnd q fun a s' v F' H' x m r q' => ?_⟩
  cases a with
  | new l => exact q'.elim
  | val d =>
    cases d <;> first | exact q'.elim | skip
    rename_i c
    exact ⟨c, r, q' _ F' H' (.refl x.fh) m (by rw [Bool.true_xor]; rfl)⟩
end
end DL
namespace DL
open PySem PySem.Spec PyProof.Rows L2 LwE
end DL
namespace DL
open PySem PySem.Spec PyProof.Rows L2 LwE
theorem Sinv.frz {K : PySem.W.Frag} {i : Ix} {F0 H0 F H : Hp} {σ : L2.St} {δ : List Sl} {s : MS} (S : Sinv K i F0 H0 F H σ δ s) (k : Nat) : ∃ F', Sinv K i F0 H0 F' H σ (DL.frz k δ) s := by
  unfold DL.frz
  cases h : δ[k]? with
  | none => exact ⟨F, S⟩
  | some z =>
    cases z with
    | val d => exact ⟨F, S⟩
    | non => exact ⟨F, S⟩
    | ins C ns l => exact ⟨F, S⟩
    | nst ls => exact S.freezeN h
    | own l => exact S.freeze h
end DL
namespace DL
open PySem PySem.Spec PyProof.Rows L2 LwE
end DL
namespace Dg
open PySem PySem.Spec PyProof.Rows L2 LwE LamX Lw DL
abbrev s_Word_eq : Stmt := inClass (top 26) 4
abbrev s__law_size : Stmt := top 32
abbrev s__law_letters : Stmt := top 33
abbrev s_is_between : Stmt := top 18
abbrev s_check_size : Stmt := top 24
abbrev s_is_listing : Stmt := top 19
abbrev s_check_letters : Stmt := top 25
abbrev s_Word_init : Stmt := inClass (top 26) 0
abbrev s__law_is_word : Stmt := top 34
abbrev s_Word_add : Stmt := inClass (top 26) 5
abbrev s__law_both_right : Stmt := top 39
abbrev s__law_like : Stmt := top 36
abbrev s_is_whole : Stmt := top 17
abbrev s_Word_mul : Stmt := inClass (top 26) 6
abbrev s_Word_len : Stmt := inClass (top 26) 1
abbrev s_Word_getitem : Stmt := inClass (top 26) 2
abbrev s__law_places_right : Stmt := top 37
abbrev s__law_times_right : Stmt := top 38
abbrev s_law : Stmt := top 40
theorem sc_Word_eq : FnScope ["self", "other"] ["self", "other"] (defScope s_Word_eq) := ⟨rfl, rfl, rfl, by decide +kernel, rfl, by decide +kernel, by decide +kernel⟩
theorem sc__law_size : FnScope ["m"] ["m"] (defScope s__law_size) := ⟨rfl, rfl, rfl, by decide +kernel, rfl, by decide +kernel, by decide +kernel⟩
theorem sc__law_letters : FnScope ["m", "size", "most", "low", "kind", "many", "found"] ["m", "size", "most"] (defScope s__law_letters) := ⟨rfl, rfl, rfl, by decide +kernel, rfl, by decide +kernel, by decide +kernel⟩
theorem sc_is_between : FnScope ["value", "least", "most"] ["value", "least", "most"] (defScope s_is_between) := ⟨rfl, rfl, rfl, by decide +kernel, rfl, by decide +kernel, by decide +kernel⟩
theorem sc_check_size : FnScope ["size"] ["size"] (defScope s_check_size) := ⟨rfl, rfl, rfl, by decide +kernel, rfl, by decide +kernel, by decide +kernel⟩
theorem sc_is_listing : FnScope ["value"] ["value"] (defScope s_is_listing) := ⟨rfl, rfl, rfl, by decide +kernel, rfl, by decide +kernel, by decide +kernel⟩
theorem sc_check_letters : FnScope ["size", "letters", "place", "letter"] ["size", "letters"] (defScope s_check_letters) := ⟨rfl, rfl, rfl, by decide +kernel, rfl, by decide +kernel, by decide +kernel⟩
theorem sc_Word_init : FnScope ["self", "size", "letters"] ["self", "size", "letters"] (defScope s_Word_init) := ⟨rfl, rfl, rfl, by decide +kernel, rfl, by decide +kernel, by decide +kernel⟩
theorem sc__law_is_word : FnScope ["told", "size", "letters"] ["told", "size", "letters"] (defScope s__law_is_word) := ⟨rfl, rfl, rfl, by decide +kernel, rfl, by decide +kernel, by decide +kernel⟩
theorem sc_Word_add : FnScope ["self", "other"] ["self", "other"] (defScope s_Word_add) := ⟨rfl, rfl, rfl, by decide +kernel, rfl, by decide +kernel, by decide +kernel⟩
theorem sc__law_both_right : FnScope ["one", "other", "sizes", "rows", "told"] ["one", "other", "sizes", "rows"] (defScope s__law_both_right) := ⟨rfl, rfl, rfl, by decide +kernel, rfl, by decide +kernel, by decide +kernel⟩
theorem sc__law_like : FnScope ["told", "due"] ["told", "due"] (defScope s__law_like) := ⟨rfl, rfl, rfl, by decide +kernel, rfl, by decide +kernel, by decide +kernel⟩
theorem sc_is_whole : FnScope ["value"] ["value"] (defScope s_is_whole) := ⟨rfl, rfl, rfl, by decide +kernel, rfl, by decide +kernel, by decide +kernel⟩
theorem sc_Word_mul : FnScope ["self", "other"] ["self", "other"] (defScope s_Word_mul) := ⟨rfl, rfl, rfl, by decide +kernel, rfl, by decide +kernel, by decide +kernel⟩
theorem sc_Word_len : FnScope ["self"] ["self"] (defScope s_Word_len) := ⟨rfl, rfl, rfl, by decide +kernel, rfl, by decide +kernel, by decide +kernel⟩
theorem sc_Word_getitem : FnScope ["self", "at"] ["self", "at"] (defScope s_Word_getitem) := ⟨rfl, rfl, rfl, by decide +kernel, rfl, by decide +kernel, by decide +kernel⟩
theorem sc__law_places_right : FnScope ["m", "word", "letters", "odd", "part", "k"] ["m", "word", "letters"] (defScope s__law_places_right) := ⟨rfl, rfl, rfl, by decide +kernel, rfl, by decide +kernel, by decide +kernel⟩
theorem sc__law_times_right : FnScope ["m", "word", "size", "letters", "times", "told", "odd"] ["m", "word", "size", "letters"] (defScope s__law_times_right) := ⟨rfl, rfl, rfl, by decide +kernel, rfl, by decide +kernel, by decide +kernel⟩
theorem sc_law : FnScope ["script", "m", "turn", "sizes", "rows", "due", "strange", "one", "other", "k"] ["script"] (defScope s_law) := ⟨rfl, rfl, rfl, by decide +kernel, rfl, by decide +kernel, by decide +kernel⟩
def usd : Kd → Bool
  | .letters => true
  | .number => true
  | .size => true
  | .osize => true
  | .great => true
  | _ => false
structure Adr where
  ec : Eca
  w_Word : Addr
  P__law_both_right : Addr
  P__law_times_right : Addr
  P__law_places_right : Addr
abbrev ocs (a : Adr) : List Addr := [a.w_Word]
structure Tp (K : PySem.W.Frag) (mg : Str → Option Value) (base : Heap) (a : Adr) : Prop where
  B : Bare mg
  sys : ∃ o, base.get? sysModules = some o
  f_letters : FldC K [a.w_Word] "letters"
  f_size : FldC K [a.w_Word] "size"
  n_LEAST_SIZE : ∃ t, mg "LEAST_SIZE" = some (.int 2 t)
  n_MOST_LETTERS : ∃ t, mg "MOST_LETTERS" = some (.int 40 t)
  n_MOST_SIZE : ∃ t, mg "MOST_SIZE" = some (.int 6 t)
  g_Word : mg "Word" = some (.ref a.w_Word)
  cl_Word : Cls K a.w_Word
  ne_Word : PySem.W.findIn K (.ref a.w_Word) "__ne__" = some (some (.builtin "object.__ne__"))
  mro_Word : PySem.W.mroIn K a.w_Word (.type "object") = some true
  oc : Ocs K (ocs a)
  hr : HrD K mg a.ec usd
end Dg
set_option maxHeartbeats 0
namespace Dg
open PySem PySem.Spec PyProof.Rows L2 LwE LamX Lw DL
def lq__law_both_right : Str := (PyProof.Rows.envOfC "_law_both_right" (defScope s__law_both_right) 0 0 .none).qual ++ "<lambda>"
def lq__law_times_right : Str := (PyProof.Rows.envOfC "_law_times_right" (defScope s__law_times_right) 0 0 .none).qual ++ "<lambda>"
def lq__law_places_right : Str := (PyProof.Rows.envOfC "_law_places_right" (defScope s__law_places_right) 0 0 .none).qual ++ "<lambda>"
def S__law_draw (_ : Adr) : List Dt → DL.M R := drawS
noncomputable def S_Word_eq (a : Adr) : List Dt → DL.M R := semOf 2
  (gRet (andV (toV (una (vVar 1) (isiD (ocs a) [(.own a.w_Word)]))) (andV (toV (bin (toV (una (vVar 0) (fldsD [a.w_Word] "size"))) (toV (una (vVar 1) (fldsD [a.w_Word] "size"))) (eqG false))) (bin (toV (una (vVar 0) (fldsD [a.w_Word] "letters"))) (toV (una (vVar 1) (fldsD [a.w_Word] "letters"))) (eqG false)))))
noncomputable def S__law_size (a : Adr) : List Dt → DL.M R := semOf 1
  (gRet (bin (toV (cC (.int 2))) (toV (cCall 2 (aCons (cVar 0) (aCons (cC (.int 5)) aNil)) (S__law_draw a))) addD))
noncomputable def S__law_letters (a : Adr) : List Dt → DL.M R := semOf 7
  (gSeq (gPar [4, 5, 6] (rCons (cCall 2 (aCons (cVar 0) (aCons (cC (.int 5)) aNil)) (S__law_draw a)) (rCons (cCall 2 (aCons (cVar 0) (aCons (bin (vVar 2) (toV (cC (.int 1))) addD) aNil)) (S__law_draw a)) (rCons (cLst aNil) rNil))))
  (gSeq (gSet 3 (bin (toV (cC (.int 1))) (toV (cCall 2 (aCons (cVar 0) (aCons (bin (vVar 1) (toV (cC (.int 1))) subD) aNil)) (S__law_draw a))) addD))
  (gSeq (gWhile (tBl (bin (toV (una (vVar 6) lenD)) (vVar 5) (cmpD fun x y => decide (x < y)))) (gIf (tBl (bin (vVar 4) (toV (cC (.int 0))) (eqG false))) (gApp 6 (bin (toV (cC (.int 1))) (toV (cCall 2 (aCons (cVar 0) (aCons (cVar 1) aNil)) (S__law_draw a))) addD)) (gIf (tBl (bin (vVar 4) (toV (cC (.int 1))) (eqG false))) (gApp 6 (bin (vVar 3) (toV (cCall 2 (aCons (cVar 0) (aCons (cC (.int 2)) aNil)) (S__law_draw a))) addD)) (gIf (tBl (bin (vVar 4) (toV (cC (.int 2))) (eqG false))) (gApp 6 (bin (toV (cLst (aCons (cVar 3) (aCons (cVar 3) (aCons (bin (toV (cC (.int 1))) (toV (cCall 2 (aCons (cVar 0) (aCons (cVar 1) aNil)) (S__law_draw a))) addD) aNil))))) (toV (cCall 2 (aCons (cVar 0) (aCons (cC (.int 3)) aNil)) (S__law_draw a))) ixD)) (gIf (tBl (bin (vVar 4) (toV (cC (.int 3))) (eqG false))) (gSet 6 (bin (vVar 6) (toV (bin (vVar 1) (toV (cCall 2 (aCons (cVar 0) (aCons (cVar 1) aNil)) (S__law_draw a))) ldn)) addD)) (gSet 6 (bin (vVar 6) (toV (bin (toV (bin (toV (cC (.int 1))) (toV (cCall 2 (aCons (cVar 0) (aCons (cVar 1) aNil)) (S__law_draw a))) addD)) (toV (bin (vVar 1) (toV (cC (.int 1))) addD)) lrg2)) addD)))))))
  (gRet (cSl (vVar 6) oNone (oSome (vVar 5)))))))
noncomputable def S_is_between (a : Adr) : List Dt → DL.M R := semOf 3
  (gRet (andV (toV (una (vVar 0) (isiS (ocs a) (.ty "int")))) (andV (toV (una (toV (una (vVar 0) (isiS (ocs a) (.ty "bool")))) notD)) (chain (vVar 1) (vVar 0) (cmpD fun x y => decide (x ≤ y)) (vVar 2) (cmpD fun x y => decide (x ≤ y))))))
noncomputable def S_check_size (a : Adr) : List Dt → DL.M R := semOf 1
  (gIf (tNotD (tV (toV (cCall 3 (aCons (cVar 0) (aCons (cC (.int 2)) (aCons (cC (.int 6)) aNil))) (S_is_between a))))) (gRaise 0 (a.ec.of .size) "value" (cVar 0)) gNx)
noncomputable def S_is_listing (a : Adr) : List Dt → DL.M R := semOf 1
  (gRet (una (vVar 0) (isiD (ocs a) [(.ty "list"), (.ty "tuple")])))
noncomputable def S_check_letters (a : Adr) : List Dt → DL.M R := semOf 4
  (gSeq (gIf (tNotD (tV (toV (cCall 1 (aCons (cVar 1) aNil) (S_is_listing a))))) (gRaise 1 (a.ec.of .letters) "place" (cC .non)) gNx)
  (gSeq (gIf (tBl (bin (toV (una (vVar 1) lenD)) (toV (cC (.int 40))) (cmpD fun x y => decide (y < x)))) (gRaise 9 (a.ec.of .great) "most" (cC (.int 40))) gNx)
  (gFor (wEn (toV (cVar 1))) (tgS [(tgN 2), (tgN 3)]) (gIf (tNotD (tV (toV (cCall 3 (aCons (cVar 3) (aCons (cC (.int 1)) (aCons (cVar 0) aNil))) (S_is_between a))))) (gRaise 1 (a.ec.of .letters) "place" (cVar 2)) gNx))))
noncomputable def S_Word_init (a : Adr) : List Dt → DL.M R := semI a.w_Word 3
  (gSeq (gDrop (cCall 1 (aCons (cVar 1) aNil) (S_check_size a)))
  (gSeq (gDrop (cCall 2 (aCons (cVar 1) (aCons (cVar 2) aNil)) (S_check_letters a)))
  (gSeq (gFld 0 a.w_Word "size" (cVar 1))
  (gFld 0 a.w_Word "letters" (una (vVar 2) tupleD)))))
noncomputable def S__law_is_word (a : Adr) : List Dt → DL.M R := semOf 3
  (gRet (andV (toV (una (vVar 0) (isiD (ocs a) [(.own a.w_Word)]))) (bin (toV (una (toV (cTup (aCons (una (vVar 0) (fldsD [a.w_Word] "size")) (aCons (una (vVar 0) (fldsD [a.w_Word] "letters")) aNil)))) reprD)) (toV (una (toV (cTup (aCons (cVar 1) (aCons (una (vVar 2) tupleD) aNil)))) reprD)) (eqG false))))
noncomputable def S_Word_add (a : Adr) : List Dt → DL.M R := semOf 2
  (gSeq (gIf (tNotD (tV (toV (una (vVar 1) (isiD (ocs a) [(.own a.w_Word)]))))) gNo gNx)
  (gSeq (gIf (tBl (bin (toV (una (vVar 0) (fldsD [a.w_Word] "size"))) (toV (una (vVar 1) (fldsD [a.w_Word] "size"))) (eqG true))) (gRaise0 11 (a.ec.of .osize)) gNx)
  (gSeq (gIf (tBl (bin (toV (bin (toV (una (toV (una (vVar 0) (fldsD [a.w_Word] "letters"))) lenD)) (toV (una (toV (una (vVar 1) (fldsD [a.w_Word] "letters"))) lenD)) addD)) (toV (cC (.int 40))) (cmpD fun x y => decide (y < x)))) (gRaise 9 (a.ec.of .great) "most" (cC (.int 40))) gNx)
  (gRet (cMake 3 (aCons (una (vVar 0) (fldsD [a.w_Word] "size")) (aCons (bin (toV (una (vVar 0) (fldsD [a.w_Word] "letters"))) (toV (una (vVar 1) (fldsD [a.w_Word] "letters"))) addD) aNil)) (S_Word_init a))))))
noncomputable def S__law_both_right (a : Adr) : List Dt → DL.M R := semOf 5
  (gSeq (gSet 4 (cHeard a.ec usd a.P__law_both_right lq__law_both_right (bin (vVar 0) (vVar 1) (twoOw a.w_Word (S_Word_add a)))))
  (gSeq (gIf (tBl (bin (toV (bin (vVar 2) (toV (cC (.int 0))) ixD)) (toV (bin (vVar 2) (toV (cC (.int 1))) ixD)) (eqG true))) (gRet (bin (vVar 4) (toV (cC (.str "othersize"))) (eqG false))) gNx)
  (gSeq (gIf (tBl (bin (toV (bin (toV (una (toV (bin (vVar 3) (toV (cC (.int 0))) ixD)) lenD)) (toV (una (toV (bin (vVar 3) (toV (cC (.int 1))) ixD)) lenD)) addD)) (toV (cC (.int 40))) (cmpD fun x y => decide (y < x)))) (gRet (bin (vVar 4) (toV (cTup (aCons (cC (.str "great")) (aCons (cC (.int 40)) aNil)))) (eqG false))) gNx)
  (gRet (andV (toV (una (vVar 4) (isiD (ocs a) [(.ty "list")]))) (cCall 3 (aCons (bin (vVar 4) (toV (cC (.int 0))) ixD) (aCons (bin (vVar 2) (toV (cC (.int 0))) ixD) (aCons (bin (toV (bin (vVar 3) (toV (cC (.int 0))) ixD)) (toV (bin (vVar 3) (toV (cC (.int 1))) ixD)) addD) aNil))) (S__law_is_word a)))))))
noncomputable def S__law_like (a : Adr) : List Dt → DL.M R := semOf 2
  (gRet (bin (toV (una (vVar 0) reprD)) (toV (una (vVar 1) reprD)) (eqG false)))
noncomputable def S_is_whole (a : Adr) : List Dt → DL.M R := semOf 1
  (gRet (andV (toV (una (vVar 0) (isiD (ocs a) [(.ty "int")]))) (una (toV (una (vVar 0) (isiD (ocs a) [(.ty "bool")]))) notD)))
noncomputable def S_Word_mul (a : Adr) : List Dt → DL.M R := semOf 2
  (gSeq (gIf (tOrD (tNotD (tV (toV (cCall 1 (aCons (cVar 1) aNil) (S_is_whole a))))) (tBl (bin (vVar 1) (toV (cC (.int 0))) (cmpD fun x y => decide (x < y))))) (gRaise 3 (a.ec.of .number) "value" (cVar 1)) gNx)
  (gSeq (gIf (tBl (bin (toV (bin (toV (una (toV (una (vVar 0) (fldsD [a.w_Word] "letters"))) lenD)) (vVar 1) mulG)) (toV (cC (.int 40))) (cmpD fun x y => decide (y < x)))) (gRaise 9 (a.ec.of .great) "most" (cC (.int 40))) gNx)
  (gRet (cMake 3 (aCons (una (vVar 0) (fldsD [a.w_Word] "size")) (aCons (bin (toV (una (vVar 0) (fldsD [a.w_Word] "letters"))) (toV (bin (vVar 1) (toV (cC (.int 40))) minD)) mulG) aNil)) (S_Word_init a)))))
noncomputable def S_Word_len (a : Adr) : List Dt → DL.M R := semOf 1
  (gRet (una (toV (una (vVar 0) (fldsD [a.w_Word] "letters"))) lenD))
noncomputable def S_Word_getitem (a : Adr) : List Dt → DL.M R := semOf 2
  (gSeq (gIf (tNotD (tV (toV (cCall 3 (aCons (cVar 1) (aCons (cC (.int 0)) (aCons (bin (toV (una (toV (una (vVar 0) (fldsD [a.w_Word] "letters"))) lenD)) (toV (cC (.int 1))) subD) aNil))) (S_is_between a))))) (gRaise 3 (a.ec.of .number) "value" (cVar 1)) gNx)
  (gRet (bin (toV (una (vVar 0) (fldsD [a.w_Word] "letters"))) (vVar 1) ixD)))
noncomputable def S__law_places_right (a : Adr) : List Dt → DL.M R := semOf 6
  (gSeq (gIf (tOrD (tBl (bin (toV (una (toV (cLc (wRng1 (toV (una (vVar 2) (orC (isObj a.w_Word) (lenOw a.w_Word (S_Word_len a)) lenD)))) (tgN 5) tYesD (binF (vVar 1) (cVar 5) (getOw a.w_Word (S_Word_getitem a))) [5])) reprD)) (toV (una (vVar 2) reprD)) (eqG true))) (tNotD (tV (toV (cCall 2 (aCons (una (vVar 1) (orC (isObj a.w_Word) (lenOw a.w_Word (S_Word_len a)) lenD)) (aCons (una (vVar 2) (orC (isObj a.w_Word) (lenOw a.w_Word (S_Word_len a)) lenD)) aNil)) (S__law_like a)))))) (gRet (cC (.bl false))) gNx)
  (gSeq (gSet 3 (bin (toV (cLst (aCons (una (vVar 2) (orC (isObj a.w_Word) (lenOw a.w_Word (S_Word_len a)) lenD)) (aCons (una (toV (cC (.int 1))) negD) (aCons (cC .non) (aCons (cC (.str "0")) (aCons (cC (.bl true)) (aCons (cC (.bl false)) (aCons (cTup (aCons (cC (.int 0)) aNil)) (aCons (cLst (aCons (cC (.int 0)) aNil)) (aCons (bin (toV (cC (.int 10))) (toV (cC (.int 30))) powD) (aCons (una (toV (bin (toV (cC (.int 10))) (toV (cC (.int 30))) powD)) negD) (aCons cDict aNil))))))))))))) (toV (cCall 2 (aCons (cVar 0) (aCons (cC (.int 11)) aNil)) (S__law_draw a))) ixD))
  (gSeq (gSet 4 (cHeard a.ec usd a.P__law_places_right lq__law_places_right (una (vVar 1) (getSl a.w_Word (S_Word_getitem a)))))
  (gSeq (gIf (tOrD (tNotD (tV (toV (una (vVar 4) (isiD (ocs a) [(.ty "tuple")]))))) (tBl (bin (toV (bin (vVar 4) (toV (cC (.int 0))) ixD)) (toV (cC (.str "number"))) (eqG true)))) (gRet (cC (.bl false))) gNx)
  (gRet (cCall 2 (aCons (cHeard a.ec usd a.P__law_places_right lq__law_places_right (binF (vVar 1) (cVar 3) (getOw a.w_Word (S_Word_getitem a)))) (aCons (cTup (aCons (cC (.str "number")) (aCons (cVar 3) aNil))) aNil)) (S__law_like a)))))))
noncomputable def S__law_times_right (a : Adr) : List Dt → DL.M R := semOf 7
  (gSeq (gSet 4 (bin (toV (cLst (aCons (cC (.int 0)) (aCons (cC (.int 1)) (aCons (cC (.int 2)) (aCons (cC (.int 3)) (aCons (cC (.int 20)) (aCons (cC (.int 41)) (aCons (bin (toV (cC (.int 10))) (toV (cC (.int 40))) powD) aNil))))))))) (toV (cCall 2 (aCons (cVar 0) (aCons (cC (.int 7)) aNil)) (S__law_draw a))) ixD))
  (gSeq (gSet 5 (cHeard a.ec usd a.P__law_times_right lq__law_times_right (binF (vVar 1) (cVar 4) (mulOw a.w_Word (S_Word_mul a)))))
  (gSeq (gIf (tBl (bin (toV (bin (toV (una (vVar 3) (orC (isObj a.w_Word) (lenOw a.w_Word (S_Word_len a)) lenD))) (vVar 4) mulG)) (toV (cC (.int 40))) (cmpD fun x y => decide (y < x)))) (gIf (tBl (bin (vVar 5) (toV (cTup (aCons (cC (.str "great")) (aCons (cC (.int 40)) aNil)))) (eqG true))) (gRet (cC (.bl false))) gNx) (gIf (tOrD (tNotD (tV (toV (una (vVar 5) (isiD (ocs a) [(.ty "list")]))))) (tBl (bin (toV (una (toV (bin (vVar 5) (toV (cC (.int 0))) ixD)) (orC (isObj a.w_Word) (lenOw a.w_Word (S_Word_len a)) lenD))) (toV (bin (toV (una (vVar 3) (orC (isObj a.w_Word) (lenOw a.w_Word (S_Word_len a)) lenD))) (vVar 4) mulG)) (eqG true)))) (gRet (cC (.bl false))) (gIf (tAndD (tBl (bin (vVar 3) (toV (cLst aNil)) (eqG true))) (tNotD (tV (toV (cCall 3 (aCons (bin (vVar 5) (toV (cC (.int 0))) ixD) (aCons (cVar 2) (aCons (bin (vVar 3) (vVar 4) mulG) aNil))) (S__law_is_word a)))))) (gRet (cC (.bl false))) gNx)))
  (gSeq (gSet 6 (bin (toV (cLst (aCons (una (toV (cC (.int 1))) negD) (aCons (cC .non) (aCons (cC (.str "2")) (aCons (cC (.bl true)) (aCons (cC (.bl false)) (aCons (cTup (aCons (cC (.int 2)) aNil)) (aCons (cLst (aCons (cC (.int 2)) aNil)) (aCons cDict (aCons (una (toV (bin (toV (cC (.int 10))) (toV (cC (.int 30))) powD)) negD) aNil))))))))))) (toV (cCall 2 (aCons (cVar 0) (aCons (cC (.int 9)) aNil)) (S__law_draw a))) ixD))
  (gRet (cCall 2 (aCons (cHeard a.ec usd a.P__law_times_right lq__law_times_right (binF (vVar 1) (cVar 6) (mulOw a.w_Word (S_Word_mul a)))) (aCons (cTup (aCons (cC (.str "number")) (aCons (cVar 6) aNil))) aNil)) (S__law_like a)))))))
noncomputable def g_law (a : Adr) : List Sl → DL.M Fl :=
  (gSeq (gFor (wRng1 (toV (cC (.int 5)))) (tgN 2) (gSeq (gSet 3 (cLst (aCons (cCall 1 (aCons (cVar 1) aNil) (S__law_size a)) (aCons (cCall 1 (aCons (cVar 1) aNil) (S__law_size a)) aNil))))
  (gSeq (gSetI 3 (bin (vVar 3) (toV (cCall 2 (aCons (cVar 1) (aCons (cC (.int 2)) aNil)) (S__law_draw a))) ixD) (toV (cC (.int 1))))
  (gSeq (gSet 4 (cLc (wRng1 (toV (cC (.int 2)))) (tgN 9) tYesD (cCall 3 (aCons (cVar 1) (aCons (una (vVar 3) minLD) (aCons (bin (toV (cLst (aCons (cC (.int 8)) (aCons (cC (.int 30)) aNil)))) (toV (cCall 2 (aCons (cVar 1) (aCons (cC (.int 2)) aNil)) (S__law_draw a))) ixD) aNil))) (S__law_letters a)) [9]))
  (gSeq (gSetI 4 (una (toV (bin (vVar 4) (toV (cCall 2 (aCons (cVar 1) (aCons (cC (.int 2)) aNil)) (S__law_draw a))) ixD)) listD) (toV (cC (.int 1))))
  (gSeq (gPar [7, 8] (rCons (cMake 3 (aCons (bin (vVar 3) (toV (cC (.int 0))) ixD) (aCons (bin (vVar 4) (toV (cC (.int 0))) ixD) aNil)) (S_Word_init a)) (rCons (cMake 3 (aCons (bin (vVar 3) (toV (cC (.int 1))) ixD) (aCons (bin (vVar 4) (toV (cC (.int 1))) ixD) aNil)) (S_Word_init a)) rNil)))
  (gSeq (gIf (tOrD (tNotD (tV (toV (cCall 3 (aCons (cVar 1) (aCons (cVar 7) (aCons (bin (vVar 4) (toV (cC (.int 0))) ixD) aNil))) (S__law_places_right a))))) (tNotD (tV (toV (cCall 4 (aCons (cVar 1) (aCons (cVar 7) (aCons (bin (vVar 3) (toV (cC (.int 0))) ixD) (aCons (bin (vVar 4) (toV (cC (.int 0))) ixD) aNil)))) (S__law_times_right a)))))) (gRet (cC (.bl false))) gNx)
  (gSeq (gFrz 4 (gFrz 3 (gIf (tNotD (tV (toV (cCall 4 (aCons (cVar 7) (aCons (cVar 8) (aCons (cVar 3) (aCons (cVar 4) aNil)))) (S__law_both_right a))))) (gRet (cC (.bl false))) gNx)))
  (gSeq (gSet 5 (andV (toV (bin (toV (bin (vVar 3) (toV (cC (.int 0))) ixD)) (toV (bin (vVar 3) (toV (cC (.int 1))) ixD)) (orOp (objL a.w_Word) (eqAn (ocs a) a.w_Word false (S_Word_eq a)) (eqG false)))) (bin (toV (bin (vVar 4) (toV (cC (.int 0))) ixD)) (toV (bin (vVar 4) (toV (cC (.int 1))) ixD)) (orOp (objL a.w_Word) (eqAn (ocs a) a.w_Word false (S_Word_eq a)) (eqG false)))))
  (gSeq (gIf (tNotD (tV (toV (cCall 2 (aCons (cLst (aCons (bin (vVar 7) (vVar 8) (orOp (objL a.w_Word) (eqAn (ocs a) a.w_Word false (S_Word_eq a)) (eqG false))) (aCons (bin (vVar 7) (vVar 8) (orOp (objL a.w_Word) (eqAn (ocs a) a.w_Word true (S_Word_eq a)) (eqG true))) aNil))) (aCons (cLst (aCons (cVar 5) (aCons (una (vVar 5) notD) aNil))) aNil)) (S__law_like a))))) (gRet (cC (.bl false))) gNx)
  (gSeq (gSet 6 (bin (toV (cLst (aCons (cC .non) (aCons (bin (vVar 4) (toV (cC (.int 0))) ixD) (aCons (una (toV (bin (vVar 4) (toV (cC (.int 0))) ixD)) tupleD) (aCons (bin (vVar 3) (toV (cC (.int 0))) ixD) (aCons (cC (.str "")) (aCons (cTup (aCons (bin (vVar 3) (toV (cC (.int 0))) ixD) (aCons (una (toV (bin (vVar 4) (toV (cC (.int 0))) ixD)) tupleD) aNil))) aNil)))))))) (toV (cCall 2 (aCons (cVar 1) (aCons (cC (.int 6)) aNil)) (S__law_draw a))) ixD))
  (gSeq (gIf (tNotD (tV (toV (cCall 2 (aCons (cLst (aCons (orE (binF (vVar 7) (cVar 6) (eqAL (ocs a) a.w_Word false (S_Word_eq a))) (bin (vVar 7) (vVar 6) (orOp (objL a.w_Word) (eqAn (ocs a) a.w_Word false (S_Word_eq a)) (eqG false)))) (aCons (orE (binF (vVar 7) (cVar 6) (eqAL (ocs a) a.w_Word true (S_Word_eq a))) (bin (vVar 7) (vVar 6) (orOp (objL a.w_Word) (eqAn (ocs a) a.w_Word true (S_Word_eq a)) (eqG true)))) (aCons (bin (vVar 7) (toV (cMake 3 (aCons (bin (vVar 3) (toV (cC (.int 0))) ixD) (aCons (bin (vVar 4) (toV (cC (.int 0))) ixD) aNil)) (S_Word_init a))) (orOp (objL a.w_Word) (eqAn (ocs a) a.w_Word false (S_Word_eq a)) (eqG false))) aNil)))) (aCons (cLst (aCons (cC (.bl false)) (aCons (cC (.bl true)) (aCons (cC (.bl true)) aNil)))) aNil)) (S__law_like a))))) (gRet (cC (.bl false))) gNx)
  (gIf (tOrD (tNotD (tV (toV (cCall 3 (aCons (cVar 7) (aCons (bin (vVar 3) (toV (cC (.int 0))) ixD) (aCons (bin (vVar 4) (toV (cC (.int 0))) ixD) aNil))) (S__law_is_word a))))) (tNotD (tV (toV (cCall 3 (aCons (cVar 8) (aCons (bin (vVar 3) (toV (cC (.int 1))) ixD) (aCons (bin (vVar 4) (toV (cC (.int 1))) ixD) aNil))) (S__law_is_word a)))))) (gRet (cC (.bl false))) gNx)))))))))))))
  (gRet (andV (toV (bin (toV (bin (toV (cMake 3 (aCons (cC (.int 3)) (aCons (cLst (aCons (cC (.int 1)) (aCons (cC (.int 2)) aNil))) aNil)) (S_Word_init a))) (toV (cMake 3 (aCons (cC (.int 3)) (aCons (cLst (aCons (cC (.int 3)) aNil)) aNil)) (S_Word_init a))) (twoOw a.w_Word (S_Word_add a)))) (toV (cMake 3 (aCons (cC (.int 3)) (aCons (cLst (aCons (cC (.int 1)) (aCons (cC (.int 2)) (aCons (cC (.int 3)) aNil)))) aNil)) (S_Word_init a))) (orOp (objL a.w_Word) (eqAn (ocs a) a.w_Word false (S_Word_eq a)) (eqG false)))) (bin (toV (binF (toV (cMake 3 (aCons (cC (.int 2)) (aCons (cTup aNil) aNil)) (S_Word_init a))) (bin (toV (cC (.int 10))) (toV (cC (.int 60))) powD) (mulOw a.w_Word (S_Word_mul a)))) (toV (cMake 3 (aCons (cC (.int 2)) (aCons (cLst aNil) aNil)) (S_Word_init a))) (orOp (objL a.w_Word) (eqAn (ocs a) a.w_Word false (S_Word_eq a)) (eqG false))))))
section
variable {P : Program} {w : World} {K : PySem.W.Frag} {mg : Str → Option Value} {base : Heap} {a : Adr} {f : Addr} {fd : FuncData}
theorem d_Word_eq (T : Tp K mg base a) (F : Fun K "__eq__" "Word.__eq__" s_Word_eq f fd) (i : PySem.W.findIn K (.ref a.w_Word) "__eq__" = some (some (.ref f))) (ff : PySem.W.isFn K (.ref f) = true) (b : Binds K fd ["self", "other"] []) :
    Sd P w K mg base a.w_Word "__eq__" 2 ["self", "other"] (S_Word_eq a) :=
  ⟨f, fd, fnD_of F sc_Word_eq (k := 1) (fun cdv A outer s H E hcd hg hr => (dss_one (ds_ret (de_and (dv_e (de_isi T.oc (dv_var 1) (dc_o T.g_Word) T.B.isinstance)) (de_and (dv_e (de_cmp (op_eqG hr.units) (dv_e (de_fldG T.f_size (dv_var 0))) (dv_e (de_fldG T.f_size (dv_var 1))))) (de_one (de_cmp (op_eqG hr.units) (dv_e (de_fldG T.f_letters (dv_var 0))) (dv_e (de_fldG T.f_letters (dv_var 1)))))))))), i, ff, b⟩
theorem d__law_size (T : Tp K mg base a) (F : Fun K "_law_size" "_law_size" s__law_size f fd) (g : mg "_law_size" = some (.ref f)) (b : Binds K fd ["m"] []) (D__law_draw : Fd P w K mg base "_law_draw" 2 ["m", "limit"] (S__law_draw a)) :
    Fd P w K mg base "_law_size" 3 ["m"] (S__law_size a) :=
  ⟨f, fd, fnD_of F sc__law_size (k := 2) (fun cdv A outer s H E hcd hg hr => (dss_one (ds_ret (de_op op_addD (dv_e de_int) (dv_e (de_callF D__law_draw (by exact hg) hr (passes_call (takes_of rfl rfl rfl rfl) (fun _ _ _ _ z => z)) (da_cons (de_var 0) (da_cons de_int da_nil)))))))), g, F.kp, b⟩
theorem d__law_letters (T : Tp K mg base a) (F : Fun K "_law_letters" "_law_letters" s__law_letters f fd) (g : mg "_law_letters" = some (.ref f)) (b : Binds K fd ["m", "size", "most"] []) (D__law_draw : Fd P w K mg base "_law_draw" 2 ["m", "limit"] (S__law_draw a)) :
    Fd P w K mg base "_law_letters" 3 ["m", "size", "most"] (S__law_letters a) :=
  ⟨f, fd, fnD_of F sc__law_letters (k := 2) (fun cdv A outer s H E hcd hg hr => (dss_cons (ds_par3 4 5 6 rfl sc__law_letters.nd (dr_cons (de_callF D__law_draw (by exact hg) hr (passes_call (takes_of rfl rfl rfl rfl) (fun _ _ _ _ z => z)) (da_cons (de_var 0) (da_cons de_int da_nil))) (dr_cons (de_callF D__law_draw (by exact hg) hr (passes_call (takes_of rfl rfl rfl rfl) (fun _ _ _ _ z => z)) (da_cons (de_var 0) (da_cons (de_op op_addD (dv_var 2) (dv_e de_int)) da_nil))) (dr_cons (de_lst da_nil) dr_nil))))
    (dss_cons (ds_set 3 sc__law_letters.nd (de_op op_addD (dv_e de_int) (dv_e (de_callF D__law_draw (by exact hg) hr (passes_call (takes_of rfl rfl rfl rfl) (fun _ _ _ _ z => z)) (da_cons (de_var 0) (da_cons (de_op op_subD (dv_var 1) (dv_e de_int)) da_nil))))))
    (dss_cons (ds_while PassesOwn.leaving (dt_cmp op_ltD (dv_e (de_b1 cd_len (dv_var 6) T.B.len)) (dv_var 5)) (dss_one (ds_if (dt_cmp (op_eqG hr.units) (dv_var 4) (dv_e de_int)) (dss_one (ds_app 6 (fun t ht => ps_expr (pe_bm PySem.F.plainAttrs_list PySem.F.slot_list_append PySem.F.type_list_append mt_append (pv 6) (pa_cons ht pa_nil))) (de_op op_addD (dv_e de_int) (dv_e (de_callF D__law_draw (by exact hg) hr (passes_call (takes_of rfl rfl rfl rfl) (fun _ _ _ _ z => z)) (da_cons (de_var 0) (da_cons (de_var 1) da_nil))))))) (dss_one (ds_if (dt_cmp (op_eqG hr.units) (dv_var 4) (dv_e de_int)) (dss_one (ds_app 6 (fun t ht => ps_expr (pe_bm PySem.F.plainAttrs_list PySem.F.slot_list_append PySem.F.type_list_append mt_append (pv 6) (pa_cons ht pa_nil))) (de_op op_addD (dv_var 3) (dv_e (de_callF D__law_draw (by exact hg) hr (passes_call (takes_of rfl rfl rfl rfl) (fun _ _ _ _ z => z)) (da_cons (de_var 0) (da_cons de_int da_nil))))))) (dss_one (ds_if (dt_cmp (op_eqG hr.units) (dv_var 4) (dv_e de_int)) (dss_one (ds_app 6 (fun t ht => ps_expr (pe_bm PySem.F.plainAttrs_list PySem.F.slot_list_append PySem.F.type_list_append mt_append (pv 6) (pa_cons ht pa_nil))) (de_ix (dv_e (de_lst (da_cons (de_var 3) (da_cons (de_var 3) (da_cons (de_op op_addD (dv_e de_int) (dv_e (de_callF D__law_draw (by exact hg) hr (passes_call (takes_of rfl rfl rfl rfl) (fun _ _ _ _ z => z)) (da_cons (de_var 0) (da_cons (de_var 1) da_nil))))) da_nil))))) (dv_e (de_callF D__law_draw (by exact hg) hr (passes_call (takes_of rfl rfl rfl rfl) (fun _ _ _ _ z => z)) (da_cons (de_var 0) (da_cons de_int da_nil))))))) (dss_one (ds_if (dt_cmp (op_eqG hr.units) (dv_var 4) (dv_e de_int)) (dss_one (ds_set 6 sc__law_letters.nd (de_op op_addD (dv_var 6) (dv_e (de_ldn rfl (dv_var 1) (dv_e (de_callF D__law_draw (by exact hg) hr (passes_call (takes_of rfl rfl rfl rfl) (fun _ _ _ _ z => z)) (da_cons (de_var 0) (da_cons (de_var 1) da_nil)))) T.B.list T.B.range (by rfl) (by rfl) (fun t u pt pu => pe_listDn rfl (by rfl) T.B.list (by rfl) T.B.range (pa_cons pt (pa_cons pu (pa_cons (pe_un un_neg pe_int) pa_nil)))) (fun _ _ _ q => ⟨1, rfl, q⟩)))))) (dss_one (ds_set 6 sc__law_letters.nd (de_op op_addD (dv_var 6) (dv_e (de_lrg2 rfl (dv_e (de_op op_addD (dv_e de_int) (dv_e (de_callF D__law_draw (by exact hg) hr (passes_call (takes_of rfl rfl rfl rfl) (fun _ _ _ _ z => z)) (da_cons (de_var 0) (da_cons (de_var 1) da_nil)))))) (dv_e (de_op op_addD (dv_var 1) (dv_e de_int))) T.B.list T.B.range))))))))))))))
    (dss_one (ds_ret (de_sl (dv_var 6) do_none (do_some (dv_var 5))))))))), g, F.kp, b⟩
theorem d_is_between (T : Tp K mg base a) (F : Fun K "is_between" "is_between" s_is_between f fd) (g : mg "is_between" = some (.ref f)) (b : Binds K fd ["value", "least", "most"] []) :
    Fd P w K mg base "is_between" 2 ["value", "least", "most"] (S_is_between a) :=
  ⟨f, fd, fnD_of F sc_is_between (k := 1) (fun cdv A outer s H E hcd hg hr => (dss_one (ds_ret (de_and (dv_e (de_isiS T.oc (dv_var 0) (dc_b T.B.int) T.B.isinstance)) (de_and (dv_e (de_not (dv_e (de_isiS T.oc (dv_var 0) (dc_b T.B.bool) T.B.isinstance)))) (de_one (de_chain op_leD op_leD (dv_var 1) (dv_var 0) (dv_var 2)))))))), g, F.kp, b⟩
theorem d_check_size (T : Tp K mg base a) (F : Fun K "check_size" "check_size" s_check_size f fd) (g : mg "check_size" = some (.ref f)) (b : Binds K fd ["size"] []) (R_BadSize : RsD P w K mg base "BadSize" (a.ec.of .size) "value") (D_is_between : Fd P w K mg base "is_between" 2 ["value", "least", "most"] (S_is_between a)) :
    Fd P w K mg base "check_size" 3 ["size"] (S_check_size a) :=
  ⟨f, fd, fnD_of F sc_check_size (k := 2) (fun cdv A outer s H E hcd hg hr => (dss_one (ds_if (dt_not (dt_v (dv_e (de_callF D_is_between (by exact hg) hr (passes_call (takes_of rfl rfl rfl rfl) (fun _ _ _ _ z => z)) (da_cons (de_var 0) (da_cons (de_globIE T.n_LEAST_SIZE) (da_cons (de_globIE T.n_MOST_SIZE) da_nil))))))) (dss_one (ds_raise 0 rfl R_BadSize (takes_of rfl rfl rfl rfl) (hr.mono (by decide)) (de_var 0))) dss_nil))), g, F.kp, b⟩
theorem d_is_listing (T : Tp K mg base a) (F : Fun K "is_listing" "is_listing" s_is_listing f fd) (g : mg "is_listing" = some (.ref f)) (b : Binds K fd ["value"] []) :
    Fd P w K mg base "is_listing" 2 ["value"] (S_is_listing a) :=
  ⟨f, fd, fnD_of F sc_is_listing (k := 1) (fun cdv A outer s H E hcd hg hr => (dss_one (ds_ret (de_isiT T.oc (dv_var 0) (dcs_cons (dc_b T.B.list) (dcs_cons (dc_b T.B.tuple) dcs_nil)) (by decide) T.B.isinstance)))), g, F.kp, b⟩
theorem d_check_letters (T : Tp K mg base a) (F : Fun K "check_letters" "check_letters" s_check_letters f fd) (g : mg "check_letters" = some (.ref f)) (b : Binds K fd ["size", "letters"] []) (R_BadLetters : RsD P w K mg base "BadLetters" (a.ec.of .letters) "place") (R_TooGreat : RsD P w K mg base "TooGreat" (a.ec.of .great) "most") (D_is_between : Fd P w K mg base "is_between" 2 ["value", "least", "most"] (S_is_between a)) (D_is_listing : Fd P w K mg base "is_listing" 2 ["value"] (S_is_listing a)) :
    Fd P w K mg base "check_letters" 3 ["size", "letters"] (S_check_letters a) :=
  ⟨f, fd, fnD_of F sc_check_letters (k := 2) (fun cdv A outer s H E hcd hg hr => (dss_cons (ds_if (dt_not (dt_v (dv_e (de_callF D_is_listing (by exact hg) hr (passes_call (takes_of rfl rfl rfl rfl) (fun _ _ _ _ z => z)) (da_cons (de_var 1) da_nil))))) (dss_one (ds_raise 1 rfl R_BadLetters (takes_of rfl rfl rfl rfl) (hr.mono (by decide)) de_non)) dss_nil)
    (dss_cons (ds_if (dt_cmp op_gtD (dv_e (de_b1 cd_len (dv_var 1) T.B.len)) (dv_e (de_globIE T.n_MOST_LETTERS))) (dss_one (ds_raise 9 rfl R_TooGreat (takes_of rfl rfl rfl rfl) (hr.mono (by decide)) (de_globIE T.n_MOST_LETTERS))) dss_nil)
    (dss_one (ds_for PassesOwn.leaving rfl (di_en (de_var 1) T.B.enumerate) (dg_seq rfl (dgs_cons (dg_name 2 sc_check_letters.nd) (dgs_cons (dg_name 3 sc_check_letters.nd) dgs_nil))) (dss_one (ds_if (dt_not (dt_v (dv_e (de_callF D_is_between (by exact hg) hr (passes_call (takes_of rfl rfl rfl rfl) (fun _ _ _ _ z => z)) (da_cons (de_var 3) (da_cons de_int (da_cons (de_var 0) da_nil))))))) (dss_one (ds_raise 1 rfl R_BadLetters (takes_of rfl rfl rfl rfl) (hr.mono (by decide)) (de_var 2))) dss_nil))))))), g, F.kp, b⟩
theorem d_Word_init (T : Tp K mg base a) (F : Fun K "__init__" "Word.__init__" s_Word_init f fd) (mk : Mk K a.w_Word f) (b : Binds K fd ["self", "size", "letters"] []) (D_check_letters : Fd P w K mg base "check_letters" 3 ["size", "letters"] (S_check_letters a)) (D_check_size : Fd P w K mg base "check_size" 3 ["size"] (S_check_size a)) :
    MkD P w K mg base "Word" a.w_Word ["self", "size", "letters"] 4 (S_Word_init a) :=
  ⟨T.g_Word, f, fd, mk, b, fnI_of F sc_Word_init (k := 3) (fun cdv A outer s H E hcd hg hr => (dss_cons (ds_expr (de_callF D_check_size (by exact hg) hr (passes_call (takes_of rfl rfl rfl rfl) (fun _ _ _ _ z => z)) (da_cons (de_var 1) da_nil)))
    (dss_cons (ds_expr (de_callF D_check_letters (by exact hg) hr (passes_call (takes_of rfl rfl rfl rfl) (fun _ _ _ _ z => z)) (da_cons (de_var 1) (da_cons (de_var 2) da_nil))))
    (dss_cons (ds_fld 0 (fun t ht => ps_fld (pv 0) ht rfl) T.cl_Word (T.f_size _ (by simp)).2 (de_var 1))
    (dss_one (ds_fld 0 (fun t ht => ps_fld (pv 0) ht rfl) T.cl_Word (T.f_letters _ (by simp)).2 (de_t1 cd_tuple (dv_var 2) T.B.tuple)))))))⟩
theorem d__law_is_word (T : Tp K mg base a) (F : Fun K "_law_is_word" "_law_is_word" s__law_is_word f fd) (g : mg "_law_is_word" = some (.ref f)) (b : Binds K fd ["told", "size", "letters"] []) :
    Fd P w K mg base "_law_is_word" 2 ["told", "size", "letters"] (S__law_is_word a) :=
  ⟨f, fd, fnD_of F sc__law_is_word (k := 1) (fun cdv A outer s H E hcd hg hr => (dss_one (ds_ret (de_and (dv_e (de_isi T.oc (dv_var 0) (dc_o T.g_Word) T.B.isinstance)) (de_one (de_cmp (op_eqG hr.units) (dv_e (de_b1 (cd_repr T.sys (by exact hg) hr.units) (dv_e (de_tup (da_cons (de_fldG T.f_size (dv_var 0)) (da_cons (de_fldG T.f_letters (dv_var 0)) da_nil)))) T.B.repr)) (dv_e (de_b1 (cd_repr T.sys (by exact hg) hr.units) (dv_e (de_tup (da_cons (de_var 1) (da_cons (de_t1 cd_tuple (dv_var 2) T.B.tuple) da_nil)))) T.B.repr)))))))), g, F.kp, b⟩
theorem d_Word_add (T : Tp K mg base a) (F : Fun K "__add__" "Word.__add__" s_Word_add f fd) (i : PySem.W.findIn K (.ref a.w_Word) "__add__" = some (some (.ref f))) (ff : PySem.W.isFn K (.ref f) = true) (sf : PySem.W.selfFirst K a.w_Word = true) (rr : PySem.W.findIn K (.ref a.w_Word) "__radd__" = some none) (b : Binds K fd ["self", "other"] []) (D_Word_init : MkD P w K mg base "Word" a.w_Word ["self", "size", "letters"] 4 (S_Word_init a)) (R_OtherSize : RsN K mg "OtherSize" (a.ec.of .osize)) (R_TooGreat : RsD P w K mg base "TooGreat" (a.ec.of .great) "most") :
    SdB P w K mg base a.w_Word "__add__" "__radd__" 6 ["self", "other"] (S_Word_add a) :=
  ⟨⟨f, fd, fnD_of F sc_Word_add (k := 5) (fun cdv A outer s H E hcd hg hr => (dss_cons (ds_if (dt_not (dt_v (dv_e (de_isi T.oc (dv_var 1) (dc_o T.g_Word) T.B.isinstance)))) (dss_one ds_no) dss_nil)
    (dss_cons (ds_if (dt_cmp (op_neG hr.units) (dv_e (de_fldG T.f_size (dv_var 0))) (dv_e (de_fldG T.f_size (dv_var 1)))) (dss_one (ds_raise0 11 rfl R_OtherSize (takes_of rfl rfl rfl rfl))) dss_nil)
    (dss_cons (ds_if (dt_cmp op_gtD (dv_e (de_op op_addD (dv_e (de_b1 cd_len (dv_e (de_fldG T.f_letters (dv_var 0))) T.B.len)) (dv_e (de_b1 cd_len (dv_e (de_fldG T.f_letters (dv_var 1))) T.B.len)))) (dv_e (de_globIE T.n_MOST_LETTERS))) (dss_one (ds_raise 9 rfl R_TooGreat (takes_of rfl rfl rfl rfl) (hr.mono (by decide)) (de_globIE T.n_MOST_LETTERS))) dss_nil)
    (dss_one (ds_ret (de_makeF D_Word_init (by exact hg) hr (passes_call (takes_of rfl rfl rfl rfl) (fun _ _ _ _ z => z)) (da_cons (de_fldG T.f_size (dv_var 0)) (da_cons (de_op op_addD (dv_e (de_fldG T.f_letters (dv_var 0))) (dv_e (de_fldG T.f_letters (dv_var 1)))) da_nil))))))))), i, ff, b⟩, sf, rr⟩
theorem d__law_both_right (T : Tp K mg base a) {c : Addr} (TB : TabB base mg c a.P__law_both_right) (F : FunC K "_law_both_right" "_law_both_right" s__law_both_right c f fd) (g : mg "_law_both_right" = some (.ref f)) (b : Binds K fd ["one", "other", "sizes", "rows"] []) (D_Word_add : SdB P w K mg base a.w_Word "__add__" "__radd__" 6 ["self", "other"] (S_Word_add a)) (D__law_is_word : Fd P w K mg base "_law_is_word" 2 ["told", "size", "letters"] (S__law_is_word a)) :
    Fd P w K mg base "_law_both_right" 9 ["one", "other", "sizes", "rows"] (S__law_both_right a) :=
  ⟨f, fd, fnD_ofC F sc__law_both_right (k := 8) (fun A outer s H E hg hr => (dss_cons (ds_set 4 sc__law_both_right.nd (de_heard (X := (cxOf (L2.CX P w) P w K mg base ["one", "other", "sizes", "rows", "told"] "_law_both_right" (defScope s__law_both_right) f (.ref c) A outer s H E)) (k := 6) T.hr TB rfl hr (lamS_by (sc := defScope s__law_both_right) (by decide +kernel)) rfl (fun _ _ _ _ _ => rfl) (fun A' outer' s' H' E' f' c' hgL hrL => (de_op (od_addB D_Word_add (hgL.trans hg) hrL (passes_call (takes_of rfl rfl rfl rfl) (fun _ _ _ _ z => z))) (dv_var 0) (dv_var 1)))))
    (dss_cons (ds_if (dt_cmp (op_neG hr.units) (dv_e (de_ix (dv_var 2) (dv_e de_int))) (dv_e (de_ix (dv_var 2) (dv_e de_int)))) (dss_one (ds_ret (de_cmp (op_eqG hr.units) (dv_var 4) (dv_e de_str)))) dss_nil)
    (dss_cons (ds_if (dt_cmp op_gtD (dv_e (de_op op_addD (dv_e (de_b1 cd_len (dv_e (de_ix (dv_var 3) (dv_e de_int))) T.B.len)) (dv_e (de_b1 cd_len (dv_e (de_ix (dv_var 3) (dv_e de_int))) T.B.len)))) (dv_e de_int)) (dss_one (ds_ret (de_cmp (op_eqG hr.units) (dv_var 4) (dv_e (de_tup (da_cons de_str (da_cons de_int da_nil))))))) dss_nil)
    (dss_one (ds_ret (de_and (dv_e (de_isi T.oc (dv_var 4) (dc_b T.B.list) T.B.isinstance)) (de_one (de_callF D__law_is_word (by exact hg) hr (passes_call (takes_of rfl rfl rfl rfl) (fun _ _ _ _ z => z)) (da_cons (de_ix (dv_var 4) (dv_e de_int)) (da_cons (de_ix (dv_var 2) (dv_e de_int)) (da_cons (de_op op_addD (dv_e (de_ix (dv_var 3) (dv_e de_int))) (dv_e (de_ix (dv_var 3) (dv_e de_int)))) da_nil)))))))))))), g, F.fn.kp, b⟩
theorem d__law_like (T : Tp K mg base a) (F : Fun K "_law_like" "_law_like" s__law_like f fd) (g : mg "_law_like" = some (.ref f)) (b : Binds K fd ["told", "due"] []) :
    Fd P w K mg base "_law_like" 2 ["told", "due"] (S__law_like a) :=
  ⟨f, fd, fnD_of F sc__law_like (k := 1) (fun cdv A outer s H E hcd hg hr => (dss_one (ds_ret (de_cmp (op_eqG hr.units) (dv_e (de_b1 (cd_repr T.sys (by exact hg) hr.units) (dv_var 0) T.B.repr)) (dv_e (de_b1 (cd_repr T.sys (by exact hg) hr.units) (dv_var 1) T.B.repr)))))), g, F.kp, b⟩
theorem d_is_whole (T : Tp K mg base a) (F : Fun K "is_whole" "is_whole" s_is_whole f fd) (g : mg "is_whole" = some (.ref f)) (b : Binds K fd ["value"] []) :
    Fd P w K mg base "is_whole" 2 ["value"] (S_is_whole a) :=
  ⟨f, fd, fnD_of F sc_is_whole (k := 1) (fun cdv A outer s H E hcd hg hr => (dss_one (ds_ret (de_and (dv_e (de_isi T.oc (dv_var 0) (dc_b T.B.int) T.B.isinstance)) (de_one (de_not (dv_e (de_isi T.oc (dv_var 0) (dc_b T.B.bool) T.B.isinstance)))))))), g, F.kp, b⟩
theorem d_Word_mul (T : Tp K mg base a) (F : Fun K "__mul__" "Word.__mul__" s_Word_mul f fd) (i : PySem.W.findIn K (.ref a.w_Word) "__mul__" = some (some (.ref f))) (ff : PySem.W.isFn K (.ref f) = true) (sf : PySem.W.selfFirst K a.w_Word = true) (rr : PySem.W.findIn K (.ref a.w_Word) "__rmul__" = some none) (b : Binds K fd ["self", "other"] []) (D_Word_init : MkD P w K mg base "Word" a.w_Word ["self", "size", "letters"] 4 (S_Word_init a)) (R_BadNumber : RsD P w K mg base "BadNumber" (a.ec.of .number) "value") (R_TooGreat : RsD P w K mg base "TooGreat" (a.ec.of .great) "most") (D_is_whole : Fd P w K mg base "is_whole" 2 ["value"] (S_is_whole a)) :
    SdB P w K mg base a.w_Word "__mul__" "__rmul__" 6 ["self", "other"] (S_Word_mul a) :=
  ⟨⟨f, fd, fnD_of F sc_Word_mul (k := 5) (fun cdv A outer s H E hcd hg hr => (dss_cons (ds_if (dt_w (dw_or (dt_not (dt_v (dv_e (de_callF D_is_whole (by exact hg) hr (passes_call (takes_of rfl rfl rfl rfl) (fun _ _ _ _ z => z)) (da_cons (de_var 1) da_nil))))) (dw_or1 (dt_cmp op_ltD (dv_var 1) (dv_e de_int))))) (dss_one (ds_raise 3 rfl R_BadNumber (takes_of rfl rfl rfl rfl) (hr.mono (by decide)) (de_var 1))) dss_nil)
    (dss_cons (ds_if (dt_cmp op_gtD (dv_e (de_op op_mulG (dv_e (de_b1 cd_len (dv_e (de_fldG T.f_letters (dv_var 0))) T.B.len)) (dv_var 1))) (dv_e (de_globIE T.n_MOST_LETTERS))) (dss_one (ds_raise 9 rfl R_TooGreat (takes_of rfl rfl rfl rfl) (hr.mono (by decide)) (de_globIE T.n_MOST_LETTERS))) dss_nil)
    (dss_one (ds_ret (de_makeF D_Word_init (by exact hg) hr (passes_call (takes_of rfl rfl rfl rfl) (fun _ _ _ _ z => z)) (da_cons (de_fldG T.f_size (dv_var 0)) (da_cons (de_op op_mulG (dv_e (de_fldG T.f_letters (dv_var 0))) (dv_e (de_b2 (cd_min2 rfl) (dv_var 1) (dv_e (de_globIE T.n_MOST_LETTERS)) T.B.min))) da_nil)))))))), i, ff, b⟩, sf, rr⟩
theorem d_Word_len (T : Tp K mg base a) (F : Fun K "__len__" "Word.__len__" s_Word_len f fd) (i : PySem.W.findIn K (.ref a.w_Word) "__len__" = some (some (.ref f))) (ff : PySem.W.isFn K (.ref f) = true) (b : Binds K fd ["self"] []) :
    Sd P w K mg base a.w_Word "__len__" 2 ["self"] (S_Word_len a) :=
  ⟨f, fd, fnD_of F sc_Word_len (k := 1) (fun cdv A outer s H E hcd hg hr => (dss_one (ds_ret (de_b1 cd_len (dv_e (de_fldG T.f_letters (dv_var 0))) T.B.len)))), i, ff, b⟩
theorem d_Word_getitem (T : Tp K mg base a) (F : Fun K "__getitem__" "Word.__getitem__" s_Word_getitem f fd) (i : PySem.W.findIn K (.ref a.w_Word) "__getitem__" = some (some (.ref f))) (ff : PySem.W.isFn K (.ref f) = true) (nq : PySem.W.noSeq K a.w_Word = true) (b : Binds K fd ["self", "at"] []) (R_BadNumber : RsD P w K mg base "BadNumber" (a.ec.of .number) "value") (D_is_between : Fd P w K mg base "is_between" 2 ["value", "least", "most"] (S_is_between a)) :
    SdG P w K mg base a.w_Word 3 ["self", "at"] (S_Word_getitem a) :=
  ⟨f, fd, fnD_of F sc_Word_getitem (k := 2) (fun cdv A outer s H E hcd hg hr => (dss_cons (ds_if (dt_not (dt_v (dv_e (de_callF D_is_between (by exact hg) hr (passes_call (takes_of rfl rfl rfl rfl) (fun _ _ _ _ z => z)) (da_cons (de_var 1) (da_cons de_int (da_cons (de_op op_subD (dv_e (de_b1 cd_len (dv_e (de_fldG T.f_letters (dv_var 0))) T.B.len)) (dv_e de_int)) da_nil))))))) (dss_one (ds_raise 3 rfl R_BadNumber (takes_of rfl rfl rfl rfl) (hr.mono (by decide)) (de_var 1))) dss_nil)
    (dss_one (ds_ret (de_ix (dv_e (de_fldG T.f_letters (dv_var 0))) (dv_var 1)))))), i, ff, fnIn_fun F, nq, b⟩
theorem d__law_places_right (T : Tp K mg base a) {c : Addr} (TB : TabB base mg c a.P__law_places_right) (F : FunC K "_law_places_right" "_law_places_right" s__law_places_right c f fd) (g : mg "_law_places_right" = some (.ref f)) (b : Binds K fd ["m", "word", "letters"] []) (D_Word_getitem : SdG P w K mg base a.w_Word 3 ["self", "at"] (S_Word_getitem a)) (D_Word_len : Sd P w K mg base a.w_Word "__len__" 2 ["self"] (S_Word_len a)) (D__law_draw : Fd P w K mg base "_law_draw" 2 ["m", "limit"] (S__law_draw a)) (D__law_like : Fd P w K mg base "_law_like" 2 ["told", "due"] (S__law_like a)) :
    Fd P w K mg base "_law_places_right" 7 ["m", "word", "letters"] (S__law_places_right a) :=
  ⟨f, fd, fnD_ofC F sc__law_places_right (k := 6) (fun A outer s H E hg hr => (dss_cons (ds_if (dt_w (dw_or (dt_cmp (op_neG hr.units) (dv_e (de_b1 (cd_repr T.sys (by exact hg) hr.units) (dv_e (de_lc rfl sc__law_places_right.nd (DI.v (di_range1 (dv_e (de_b1 (CallD.or (p := isObj a.w_Word) (cd_lenF D_Word_len (by exact hg) hr (passes_call (takes_of rfl rfl rfl rfl) (fun _ _ _ _ z => z))) cd_len) (dv_var 2) T.B.len)) (by rfl) T.B.range)) (blkOk_by (N := ["m", "word", "letters", "odd", "part", "k"]) (sc := defScope s__law_places_right) (own := [("k", 5)]) (by decide +kernel)) (jgw_name _ 5) (fun _ _ _ _ _ => (pg_name (i := 5) sc__law_places_right.nd rfl (Or.inl rfl))) (fun _ _ _ _ _ => dts_nil) (fun _ _ _ _ _ => (de_getO D_Word_getitem (by exact hg) hr passL (dv_var 1) (de_var 5))))) T.B.repr)) (dv_e (de_b1 (cd_repr T.sys (by exact hg) hr.units) (dv_var 2) T.B.repr))) (dw_or1 (dt_not (dt_v (dv_e (de_callF D__law_like (by exact hg) hr (passes_call (takes_of rfl rfl rfl rfl) (fun _ _ _ _ z => z)) (da_cons (de_b1 (CallD.or (p := isObj a.w_Word) (cd_lenF D_Word_len (by exact hg) hr (passes_call (takes_of rfl rfl rfl rfl) (fun _ _ _ _ z => z))) cd_len) (dv_var 1) T.B.len) (da_cons (de_b1 (CallD.or (p := isObj a.w_Word) (cd_lenF D_Word_len (by exact hg) hr (passes_call (takes_of rfl rfl rfl rfl) (fun _ _ _ _ z => z))) cd_len) (dv_var 2) T.B.len) da_nil))))))))) (dss_one (ds_ret de_bl)) dss_nil)
    (dss_cons (ds_set 3 sc__law_places_right.nd (de_ix (dv_e (de_lst (da_cons (de_b1 (CallD.or (p := isObj a.w_Word) (cd_lenF D_Word_len (by exact hg) hr (passes_call (takes_of rfl rfl rfl rfl) (fun _ _ _ _ z => z))) cd_len) (dv_var 2) T.B.len) (da_cons (de_neg (dv_e de_int)) (da_cons de_non (da_cons de_str (da_cons de_bl (da_cons de_bl (da_cons (de_tup (da_cons de_int da_nil)) (da_cons (de_lst (da_cons de_int da_nil)) (da_cons (de_op op_powD (dv_e de_int) (dv_e de_int)) (da_cons (de_neg (dv_e (de_op op_powD (dv_e de_int) (dv_e de_int)))) (da_cons de_dict da_nil))))))))))))) (dv_e (de_callF D__law_draw (by exact hg) hr (passes_call (takes_of rfl rfl rfl rfl) (fun _ _ _ _ z => z)) (da_cons (de_var 0) (da_cons de_int da_nil))))))
    (dss_cons (ds_set 4 sc__law_places_right.nd (de_heard (X := (cxOf (L2.CX P w) P w K mg base ["m", "word", "letters", "odd", "part", "k"] "_law_places_right" (defScope s__law_places_right) f (.ref c) A outer s H E)) (k := 4) T.hr TB rfl hr (lamS_by (sc := defScope s__law_places_right) (by decide +kernel)) rfl (fun _ _ _ _ _ => rfl) (fun A' outer' s' H' E' f' c' hgL hrL => (de_getS D_Word_getitem (hgL.trans hg) hrL (passes_call (takes_of rfl rfl rfl rfl) (fun _ _ _ _ z => z)) (dv_var 1)))))
    (dss_cons (ds_if (dt_w (dw_or (dt_not (dt_v (dv_e (de_isi T.oc (dv_var 4) (dc_b T.B.tuple) T.B.isinstance)))) (dw_or1 (dt_cmp (op_neG hr.units) (dv_e (de_ix (dv_var 4) (dv_e de_int))) (dv_e de_str))))) (dss_one (ds_ret de_bl)) dss_nil)
    (dss_one (ds_ret (de_callF D__law_like (by exact hg) hr (passes_call (takes_of rfl rfl rfl rfl) (fun _ _ _ _ z => z)) (da_cons (de_heard (X := (cxOf (L2.CX P w) P w K mg base ["m", "word", "letters", "odd", "part", "k"] "_law_places_right" (defScope s__law_places_right) f (.ref c) A outer s H E)) (k := 4) T.hr TB rfl hr (lamS_by (sc := defScope s__law_places_right) (by decide +kernel)) rfl (fun _ _ _ _ _ => rfl) (fun A' outer' s' H' E' f' c' hgL hrL => (de_getO D_Word_getitem (hgL.trans hg) hrL (passes_call (takes_of rfl rfl rfl rfl) (fun _ _ _ _ z => z)) (dv_var 1) (de_var 3)))) (da_cons (de_tup (da_cons de_str (da_cons (de_var 3) da_nil))) da_nil)))))))))), g, F.fn.kp, b⟩
theorem d__law_times_right (T : Tp K mg base a) {c : Addr} (TB : TabB base mg c a.P__law_times_right) (F : FunC K "_law_times_right" "_law_times_right" s__law_times_right c f fd) (g : mg "_law_times_right" = some (.ref f)) (b : Binds K fd ["m", "word", "size", "letters"] []) (D_Word_len : Sd P w K mg base a.w_Word "__len__" 2 ["self"] (S_Word_len a)) (D_Word_mul : SdB P w K mg base a.w_Word "__mul__" "__rmul__" 6 ["self", "other"] (S_Word_mul a)) (D__law_draw : Fd P w K mg base "_law_draw" 2 ["m", "limit"] (S__law_draw a)) (D__law_is_word : Fd P w K mg base "_law_is_word" 2 ["told", "size", "letters"] (S__law_is_word a)) (D__law_like : Fd P w K mg base "_law_like" 2 ["told", "due"] (S__law_like a)) :
    Fd P w K mg base "_law_times_right" 9 ["m", "word", "size", "letters"] (S__law_times_right a) :=
  ⟨f, fd, fnD_ofC F sc__law_times_right (k := 8) (fun A outer s H E hg hr => (dss_cons (ds_set 4 sc__law_times_right.nd (de_ix (dv_e (de_lst (da_cons de_int (da_cons de_int (da_cons de_int (da_cons de_int (da_cons de_int (da_cons de_int (da_cons (de_op op_powD (dv_e de_int) (dv_e de_int)) da_nil))))))))) (dv_e (de_callF D__law_draw (by exact hg) hr (passes_call (takes_of rfl rfl rfl rfl) (fun _ _ _ _ z => z)) (da_cons (de_var 0) (da_cons de_int da_nil))))))
    (dss_cons (ds_set 5 sc__law_times_right.nd (de_heard (X := (cxOf (L2.CX P w) P w K mg base ["m", "word", "size", "letters", "times", "told", "odd"] "_law_times_right" (defScope s__law_times_right) f (.ref c) A outer s H E)) (k := 6) T.hr TB rfl hr (lamS_by (sc := defScope s__law_times_right) (by decide +kernel)) rfl (fun _ _ _ _ _ => rfl) (fun A' outer' s' H' E' f' c' hgL hrL => (de_mulO D_Word_mul (hgL.trans hg) hrL (passes_call (takes_of rfl rfl rfl rfl) (fun _ _ _ _ z => z)) (dv_var 1) (de_var 4)))))
    (dss_cons (ds_if (dt_cmp op_gtD (dv_e (de_op op_mulG (dv_e (de_b1 (CallD.or (p := isObj a.w_Word) (cd_lenF D_Word_len (by exact hg) hr (passes_call (takes_of rfl rfl rfl rfl) (fun _ _ _ _ z => z))) cd_len) (dv_var 3) T.B.len)) (dv_var 4))) (dv_e de_int)) (dss_one (ds_if (dt_cmp (op_neG hr.units) (dv_var 5) (dv_e (de_tup (da_cons de_str (da_cons de_int da_nil))))) (dss_one (ds_ret de_bl)) dss_nil)) (dss_one (ds_if (dt_w (dw_or (dt_not (dt_v (dv_e (de_isi T.oc (dv_var 5) (dc_b T.B.list) T.B.isinstance)))) (dw_or1 (dt_cmp (op_neG hr.units) (dv_e (de_b1 (CallD.or (p := isObj a.w_Word) (cd_lenF D_Word_len (by exact hg) hr (passes_call (takes_of rfl rfl rfl rfl) (fun _ _ _ _ z => z))) cd_len) (dv_e (de_ix (dv_var 5) (dv_e de_int))) T.B.len)) (dv_e (de_op op_mulG (dv_e (de_b1 (CallD.or (p := isObj a.w_Word) (cd_lenF D_Word_len (by exact hg) hr (passes_call (takes_of rfl rfl rfl rfl) (fun _ _ _ _ z => z))) cd_len) (dv_var 3) T.B.len)) (dv_var 4))))))) (dss_one (ds_ret de_bl)) (dss_one (ds_if (dt_w (dw_and (dt_cmp (op_neG hr.units) (dv_var 3) (dv_e (de_lst da_nil))) (dw_and1 (dt_not (dt_v (dv_e (de_callF D__law_is_word (by exact hg) hr (passes_call (takes_of rfl rfl rfl rfl) (fun _ _ _ _ z => z)) (da_cons (de_ix (dv_var 5) (dv_e de_int)) (da_cons (de_var 2) (da_cons (de_op op_mulG (dv_var 3) (dv_var 4)) da_nil)))))))))) (dss_one (ds_ret de_bl)) dss_nil)))))
    (dss_cons (ds_set 6 sc__law_times_right.nd (de_ix (dv_e (de_lst (da_cons (de_neg (dv_e de_int)) (da_cons de_non (da_cons de_str (da_cons de_bl (da_cons de_bl (da_cons (de_tup (da_cons de_int da_nil)) (da_cons (de_lst (da_cons de_int da_nil)) (da_cons de_dict (da_cons (de_neg (dv_e (de_op op_powD (dv_e de_int) (dv_e de_int)))) da_nil))))))))))) (dv_e (de_callF D__law_draw (by exact hg) hr (passes_call (takes_of rfl rfl rfl rfl) (fun _ _ _ _ z => z)) (da_cons (de_var 0) (da_cons de_int da_nil))))))
    (dss_one (ds_ret (de_callF D__law_like (by exact hg) hr (passes_call (takes_of rfl rfl rfl rfl) (fun _ _ _ _ z => z)) (da_cons (de_heard (X := (cxOf (L2.CX P w) P w K mg base ["m", "word", "size", "letters", "times", "told", "odd"] "_law_times_right" (defScope s__law_times_right) f (.ref c) A outer s H E)) (k := 6) T.hr TB rfl hr (lamS_by (sc := defScope s__law_times_right) (by decide +kernel)) rfl (fun _ _ _ _ _ => rfl) (fun A' outer' s' H' E' f' c' hgL hrL => (de_mulO D_Word_mul (hgL.trans hg) hrL (passes_call (takes_of rfl rfl rfl rfl) (fun _ _ _ _ z => z)) (dv_var 1) (de_var 6)))) (da_cons (de_tup (da_cons de_str (da_cons (de_var 6) da_nil))) da_nil)))))))))), g, F.fn.kp, b⟩
theorem d_law (T : Tp K mg base a) (F : Fun K "law" "law" s_law f fd) (b : Binds K fd ["script"] []) (D_Word_add : SdB P w K mg base a.w_Word "__add__" "__radd__" 6 ["self", "other"] (S_Word_add a)) (D_Word_eq : Sd P w K mg base a.w_Word "__eq__" 2 ["self", "other"] (S_Word_eq a)) (D_Word_init : MkD P w K mg base "Word" a.w_Word ["self", "size", "letters"] 4 (S_Word_init a)) (D_Word_mul : SdB P w K mg base a.w_Word "__mul__" "__rmul__" 6 ["self", "other"] (S_Word_mul a)) (D__law_both_right : Fd P w K mg base "_law_both_right" 9 ["one", "other", "sizes", "rows"] (S__law_both_right a)) (D__law_draw : Fd P w K mg base "_law_draw" 2 ["m", "limit"] (S__law_draw a)) (D__law_is_word : Fd P w K mg base "_law_is_word" 2 ["told", "size", "letters"] (S__law_is_word a)) (D__law_letters : Fd P w K mg base "_law_letters" 3 ["m", "size", "most"] (S__law_letters a)) (D__law_like : Fd P w K mg base "_law_like" 2 ["told", "due"] (S__law_like a)) (D__law_places_right : Fd P w K mg base "_law_places_right" 7 ["m", "word", "letters"] (S__law_places_right a)) (D__law_size : Fd P w K mg base "_law_size" 3 ["m"] (S__law_size a)) (D__law_times_right : Fd P w K mg base "_law_times_right" 9 ["m", "word", "size", "letters"] (S__law_times_right a)) {fB : Addr} {dB : FuncData} (FB : Df K mg "_law_begun" sBegun fB dB) (bB : Binds K dB ["script"] []) (GB : FnOk P w K mg base CX0 2 fB dB ["script"] (spBegun K)) {Tl : List (Addr × Str)} (hp : Pass Tl ["script", "m", "turn", "sizes", "rows", "due", "strange", "one", "other", "k"] (g_law a)) :
    FnG P w K mg base 10 f fd ["script"] (spLawD K Tl) :=
  lawF F sc_law (k := 9) (by decide) rfl (fun cdv A outer s H E hro => ps_set (i := 1) sc_law.nd rfl (Or.inr rfl) (pe_call GB (hro.mono (by decide)) (by rfl) FB.g FB.fn.kp bB .nil pass0 (pa_cons (pv 0) pa_nil))) (fun cdv A outer s H E hg hr => (dss_cons (ds_for PassesOwn.leaving rfl (di_range1 (dv_e de_int) (by rfl) T.B.range) (dg_name 2 sc_law.nd) (dss_cons (ds_set 3 sc_law.nd (de_lst (da_cons (de_callF D__law_size (by exact hg) hr (passes_call (takes_of rfl rfl rfl rfl) (fun _ _ _ _ z => z)) (da_cons (de_var 1) da_nil)) (da_cons (de_callF D__law_size (by exact hg) hr (passes_call (takes_of rfl rfl rfl rfl) (fun _ _ _ _ z => z)) (da_cons (de_var 1) da_nil)) da_nil))))
    (dss_cons (ds_setI 3 (fun t u ht hu => ps_asg ht (pg_sub (pv 3) hu set_list)) (de_ix (dv_var 3) (dv_e (de_callF D__law_draw (by exact hg) hr (passes_call (takes_of rfl rfl rfl rfl) (fun _ _ _ _ z => z)) (da_cons (de_var 1) (da_cons de_int da_nil))))) (dv_e de_int))
    (dss_cons (ds_setLc 4 rfl sc_law.nd (DI.v (di_range1 (dv_e de_int) (by rfl) T.B.range)) (blkOk_by (N := ["script", "m", "turn", "sizes", "rows", "due", "strange", "one", "other", "k"]) (sc := defScope s_law) (own := [("k", 9)]) (by decide +kernel)) (jgw_name _ 9) (fun _ _ _ _ _ => (pg_name (i := 9) sc_law.nd rfl (Or.inl rfl))) (fun _ _ _ _ _ => dts_nil) (fun _ _ _ _ _ => (de_callF D__law_letters (by exact hg) hr passL (da_cons (de_var 1) (da_cons (de_b1 (cd_minL rfl) (dv_var 3) T.B.min) (da_cons (de_ix (dv_e (de_lst (da_cons de_int (da_cons de_int da_nil)))) (dv_e (de_callF D__law_draw (by exact hg) hr passL (da_cons (de_var 1) (da_cons de_int da_nil))))) da_nil))))))
    (dss_cons (ds_setI 4 (fun t u ht hu => ps_asg ht (pg_sub (pv 4) hu set_list)) (de_t1 cd_list (dv_e (de_ix (dv_var 4) (dv_e (de_callF D__law_draw (by exact hg) hr (passes_call (takes_of rfl rfl rfl rfl) (fun _ _ _ _ z => z)) (da_cons (de_var 1) (da_cons de_int da_nil)))))) T.B.list) (dv_e de_int))
    (dss_cons (ds_par2 7 8 rfl sc_law.nd (dr_cons (de_makeF D_Word_init (by exact hg) hr (passes_call (takes_of rfl rfl rfl rfl) (fun _ _ _ _ z => z)) (da_cons (de_ix (dv_var 3) (dv_e de_int)) (da_cons (de_ix (dv_var 4) (dv_e de_int)) da_nil))) (dr_cons (de_makeF D_Word_init (by exact hg) hr (passes_call (takes_of rfl rfl rfl rfl) (fun _ _ _ _ z => z)) (da_cons (de_ix (dv_var 3) (dv_e de_int)) (da_cons (de_ix (dv_var 4) (dv_e de_int)) da_nil))) dr_nil)))
    (dss_cons (ds_if (dt_w (dw_or (dt_not (dt_v (dv_e (de_callF D__law_places_right (by exact hg) hr (passes_call (takes_of rfl rfl rfl rfl) (fun _ _ _ _ z => z)) (da_cons (de_var 1) (da_cons (de_var 7) (da_cons (de_ix (dv_var 4) (dv_e de_int)) da_nil))))))) (dw_or1 (dt_not (dt_v (dv_e (de_callF D__law_times_right (by exact hg) hr (passes_call (takes_of rfl rfl rfl rfl) (fun _ _ _ _ z => z)) (da_cons (de_var 1) (da_cons (de_var 7) (da_cons (de_ix (dv_var 3) (dv_e de_int)) (da_cons (de_ix (dv_var 4) (dv_e de_int)) da_nil))))))))))) (dss_one (ds_ret de_bl)) dss_nil)
    (dss_cons (ds_frz 4 (ds_frz 3 (ds_if (dt_not (dt_v (dv_e (de_callF D__law_both_right (by exact hg) hr (passes_call (takes_of rfl rfl rfl rfl) (fun _ _ _ _ z => z)) (da_cons (de_var 7) (da_cons (de_var 8) (da_cons (de_var 3) (da_cons (de_var 4) da_nil)))))))) (dss_one (ds_ret de_bl)) dss_nil)))
    (dss_cons (ds_set 5 sc_law.nd (de_and (dv_e (de_cmp (OpD.or (p := objL a.w_Word) (od_eqFY T.oc D_Word_eq (by exact hg) hr (passes_call (takes_of rfl rfl rfl rfl) (fun _ _ _ _ z => z)) (by simp [ocs])) (op_eqG hr.units)) (dv_e (de_ix (dv_var 3) (dv_e de_int))) (dv_e (de_ix (dv_var 3) (dv_e de_int))))) (de_one (de_cmp (OpD.or (p := objL a.w_Word) (od_eqFY T.oc D_Word_eq (by exact hg) hr (passes_call (takes_of rfl rfl rfl rfl) (fun _ _ _ _ z => z)) (by simp [ocs])) (op_eqG hr.units)) (dv_e (de_ix (dv_var 4) (dv_e de_int))) (dv_e (de_ix (dv_var 4) (dv_e de_int)))))))
    (dss_cons (ds_if (dt_not (dt_v (dv_e (de_callF D__law_like (by exact hg) hr (passes_call (takes_of rfl rfl rfl rfl) (fun _ _ _ _ z => z)) (da_cons (de_lst (da_cons (de_cmp (OpD.or (p := objL a.w_Word) (od_eqFY T.oc D_Word_eq (by exact hg) hr (passes_call (takes_of rfl rfl rfl rfl) (fun _ _ _ _ z => z)) (by simp [ocs])) (op_eqG hr.units)) (dv_var 7) (dv_var 8)) (da_cons (de_cmp (OpD.or (p := objL a.w_Word) (od_neFY T.oc D_Word_eq T.ne_Word T.mro_Word (by exact hg) hr (passes_call (takes_of rfl rfl rfl rfl) (fun _ _ _ _ z => z)) (by simp [ocs])) (op_neG hr.units)) (dv_var 7) (dv_var 8)) da_nil))) (da_cons (de_lst (da_cons (de_var 5) (da_cons (de_not (dv_var 5)) da_nil))) da_nil)))))) (dss_one (ds_ret de_bl)) dss_nil)
    (dss_cons (ds_set 6 sc_law.nd (de_ix (dv_e (de_lst (da_cons de_non (da_cons (de_ix (dv_var 4) (dv_e de_int)) (da_cons (de_t1 cd_tuple (dv_e (de_ix (dv_var 4) (dv_e de_int))) T.B.tuple) (da_cons (de_ix (dv_var 3) (dv_e de_int)) (da_cons de_str (da_cons (de_tup (da_cons (de_ix (dv_var 3) (dv_e de_int)) (da_cons (de_t1 cd_tuple (dv_e (de_ix (dv_var 4) (dv_e de_int))) T.B.tuple) da_nil))) da_nil)))))))) (dv_e (de_callF D__law_draw (by exact hg) hr (passes_call (takes_of rfl rfl rfl rfl) (fun _ _ _ _ z => z)) (da_cons (de_var 1) (da_cons de_int da_nil))))))
    (dss_cons (ds_if (dt_not (dt_v (dv_e (de_callF D__law_like (by exact hg) hr (passes_call (takes_of rfl rfl rfl rfl) (fun _ _ _ _ z => z)) (da_cons (de_lst (da_cons (de_orE (de_eqL T.oc D_Word_eq (by exact hg) hr (passes_call (takes_of rfl rfl rfl rfl) (fun _ _ _ _ z => z)) (dv_var 7) (de_var 6) (by simp [ocs])) (de_cmp (OpD.or (p := objL a.w_Word) (od_eqFY T.oc D_Word_eq (by exact hg) hr (passes_call (takes_of rfl rfl rfl rfl) (fun _ _ _ _ z => z)) (by simp [ocs])) (op_eqG hr.units)) (dv_var 7) (dv_var 6))) (da_cons (de_orE (de_neL T.oc D_Word_eq T.ne_Word T.mro_Word (by exact hg) hr (passes_call (takes_of rfl rfl rfl rfl) (fun _ _ _ _ z => z)) (dv_var 7) (de_var 6) (by simp [ocs])) (de_cmp (OpD.or (p := objL a.w_Word) (od_neFY T.oc D_Word_eq T.ne_Word T.mro_Word (by exact hg) hr (passes_call (takes_of rfl rfl rfl rfl) (fun _ _ _ _ z => z)) (by simp [ocs])) (op_neG hr.units)) (dv_var 7) (dv_var 6))) (da_cons (de_cmp (OpD.or (p := objL a.w_Word) (od_eqFY T.oc D_Word_eq (by exact hg) hr (passes_call (takes_of rfl rfl rfl rfl) (fun _ _ _ _ z => z)) (by simp [ocs])) (op_eqG hr.units)) (dv_var 7) (dv_e (de_makeF D_Word_init (by exact hg) hr (passes_call (takes_of rfl rfl rfl rfl) (fun _ _ _ _ z => z)) (da_cons (de_ix (dv_var 3) (dv_e de_int)) (da_cons (de_ix (dv_var 4) (dv_e de_int)) da_nil))))) da_nil)))) (da_cons (de_lst (da_cons de_bl (da_cons de_bl (da_cons de_bl da_nil)))) da_nil)))))) (dss_one (ds_ret de_bl)) dss_nil)
    (dss_one (ds_if (dt_w (dw_or (dt_not (dt_v (dv_e (de_callF D__law_is_word (by exact hg) hr (passes_call (takes_of rfl rfl rfl rfl) (fun _ _ _ _ z => z)) (da_cons (de_var 7) (da_cons (de_ix (dv_var 3) (dv_e de_int)) (da_cons (de_ix (dv_var 4) (dv_e de_int)) da_nil))))))) (dw_or1 (dt_not (dt_v (dv_e (de_callF D__law_is_word (by exact hg) hr (passes_call (takes_of rfl rfl rfl rfl) (fun _ _ _ _ z => z)) (da_cons (de_var 8) (da_cons (de_ix (dv_var 3) (dv_e de_int)) (da_cons (de_ix (dv_var 4) (dv_e de_int)) da_nil)))))))))) (dss_one (ds_ret de_bl)) dss_nil))))))))))))))
    (dss_one (ds_ret (de_and (dv_e (de_cmp (OpD.or (p := objL a.w_Word) (od_eqFY T.oc D_Word_eq (by exact hg) hr (passes_call (takes_of rfl rfl rfl rfl) (fun _ _ _ _ z => z)) (by simp [ocs])) (op_eqG hr.units)) (dv_e (de_op (od_addB D_Word_add (by exact hg) hr (passes_call (takes_of rfl rfl rfl rfl) (fun _ _ _ _ z => z))) (dv_e (de_makeF D_Word_init (by exact hg) hr (passes_call (takes_of rfl rfl rfl rfl) (fun _ _ _ _ z => z)) (da_cons de_int (da_cons (de_lst (da_cons de_int (da_cons de_int da_nil))) da_nil)))) (dv_e (de_makeF D_Word_init (by exact hg) hr (passes_call (takes_of rfl rfl rfl rfl) (fun _ _ _ _ z => z)) (da_cons de_int (da_cons (de_lst (da_cons de_int da_nil)) da_nil)))))) (dv_e (de_makeF D_Word_init (by exact hg) hr (passes_call (takes_of rfl rfl rfl rfl) (fun _ _ _ _ z => z)) (da_cons de_int (da_cons (de_lst (da_cons de_int (da_cons de_int (da_cons de_int da_nil)))) da_nil)))))) (de_one (de_cmp (OpD.or (p := objL a.w_Word) (od_eqFY T.oc D_Word_eq (by exact hg) hr (passes_call (takes_of rfl rfl rfl rfl) (fun _ _ _ _ z => z)) (by simp [ocs])) (op_eqG hr.units)) (dv_e (de_mulO D_Word_mul (by exact hg) hr (passes_call (takes_of rfl rfl rfl rfl) (fun _ _ _ _ z => z)) (dv_e (de_makeF D_Word_init (by exact hg) hr (passes_call (takes_of rfl rfl rfl rfl) (fun _ _ _ _ z => z)) (da_cons de_int (da_cons (de_tup da_nil) da_nil)))) (de_op op_powD (dv_e de_int) (dv_e de_int)))) (dv_e (de_makeF D_Word_init (by exact hg) hr (passes_call (takes_of rfl rfl rfl rfl) (fun _ _ _ _ z => z)) (da_cons de_int (da_cons (de_lst da_nil) da_nil))))))))))) hp
end
end Dg
namespace DL
open PySem L2
theorem bnd_ret {α β : Type} (a : α) (f : α → M β) : M.bnd (M.ret a) f = f a := rfl
theorem bnd_nn {β α : Type} (f : α → M β) : M.bnd (M.no : M α) f = M.no := rfl
theorem bnd_rse {α β : Type} (e : Exn) (f : α → M β) : M.bnd (M.rse e : M α) f = M.rse e := rfl
theorem bnd_ite {α β : Type} (c : Prop) [Decidable c] (x y : M α) (f : α → M β) : M.bnd (if c then x else y) f = if c then M.bnd x f else M.bnd y f := by split <;> rfl
theorem nx_ret {α : Type} (a : α) : M.nx (M.ret a) = M.ret a := rfl
theorem gWhile_eq1 (t : List Sl → M Bool) (body : List Sl → M Fl) (δ : List Sl) : gWhile t body δ = M.bnd (t δ) fun b => if b = true then M.bnd (body δ) fun
      | .nx δ2 => gWhile t body δ2
      | .ct δ2 => gWhile t body δ2
      | .bk δ2 => M.ret (.nx δ2)
      | .ret r => M.ret (.ret r)
    else M.ret (.nx δ) := by
  funext s
  have A : ∀ n r, whileN t body (n + 1) δ s = r → r ≠ .no → gWhile t body δ s = r := fun n r h hr => gWhile_of h hr
  have B : ∀ δ2 s2, gWhile t body δ2 s2 ≠ .no → ∃ n, whileN t body n δ2 s2 = gWhile t body δ2 s2 ∧ whileN t body n δ2 s2 ≠ .no := fun δ2 s2 h => by
    have hx : ∃ n, whileN t body n δ2 s2 ≠ .no := Classical.byContradiction fun hn => h (by unfold gWhile; rw [dif_neg hn])
    obtain ⟨n, hn⟩ := hx
    exact ⟨n, (gWhile_eq hn).symm, hn⟩
  have C : ∀ {r : Rs Fl}, r = .no → (∀ n, whileN t body (n + 1) δ s = .no) → gWhile t body δ s = r := fun e h => by
    rw [e]
    unfold gWhile
    rw [dif_neg]
    rintro ⟨n, hn⟩
    cases n with
    | zero => exact hn rfl
    | succ n => exact hn (h n)
  unfold M.bnd
  cases et : t δ s with
  | no => exact C rfl fun n => by unfold whileN M.bnd; rw [et]
  | ex a b =>
    refine A 0 _ ?_ (by intro z; cases z)
    unfold whileN M.bnd
    rw [et]
  | ok b s1 =>
    cases b with
    | false =>
      refine A 0 _ ?_ (by intro z; cases z)
      unfold whileN M.bnd
      rw [et]
      rfl
    | true =>
      simp only [if_true]
      cases eb : body δ s1 with
      | no => exact C rfl fun n => by unfold whileN M.bnd; rw [et]; simp only [if_true]; rw [eb]
      | ex a b =>
        refine A 0 _ ?_ (by intro z; cases z)
        unfold whileN M.bnd
        rw [et]
        simp only [if_true]
        rw [eb]
      | ok f s2 =>
        cases f with
        | ret r =>
          refine A 0 _ ?_ (by intro z; cases z)
          unfold whileN M.bnd
          rw [et]
          simp only [if_true]
          rw [eb]
        | bk δ2 =>
          refine A 0 _ ?_ (by intro z; cases z)
          unfold whileN M.bnd
          rw [et]
          simp only [if_true]
          rw [eb]
        | nx δ2 =>
          by_cases h : gWhile t body δ2 s2 = .no
          · refine C h fun n => ?_
            unfold whileN M.bnd
            rw [et]
            simp only [if_true]
            rw [eb]
            show whileN t body n δ2 s2 = .no
            refine Classical.byContradiction fun z => ?_
            exact z ((gWhile_eq z).symm.trans h)
          · obtain ⟨n, e1, e2⟩ := B δ2 s2 h
            refine A n _ ?_ h
            unfold whileN M.bnd
            rw [et]
            simp only [if_true]
            rw [eb]
            exact e1
        | ct δ2 =>
          by_cases h : gWhile t body δ2 s2 = .no
          · refine C h fun n => ?_
            unfold whileN M.bnd
            rw [et]
            simp only [if_true]
            rw [eb]
            show whileN t body n δ2 s2 = .no
            refine Classical.byContradiction fun z => ?_
            exact z ((gWhile_eq z).symm.trans h)
          · obtain ⟨n, e1, e2⟩ := B δ2 s2 h
            refine A n _ ?_ h
            unfold whileN M.bnd
            rw [et]
            simp only [if_true]
            rw [eb]
            exact e1
theorem gForL_step {tg : Dt → List Sl → Option (List Sl)} {body : List Sl → M Fl} {d : Dt} {ds : List Dt} {δ δ1 : List Sl} (h : tg d δ = some δ1) : gForL tg body (d :: ds) δ = M.bnd (body δ1) fun
      | .nx δ2 => gForL tg body ds δ2
      | .ct δ2 => gForL tg body ds δ2
      | .bk δ2 => M.ret (.nx δ2)
      | .ret r => M.ret (.ret r) := by
  show (match tg d δ with | some δ1 => _ | none => _) = _
  rw [h]
  try rfl
theorem for_ret {tg : Dt → List Sl → Option (List Sl)} {body : List Sl → M Fl} {l : List Dt} (P : Nat → List Sl → Prop) (h : ∀ k d δ, l[k]? = some d → P k δ → ∃ δ1 δ2, tg d δ = some δ1 ∧ body δ1 = M.ret (.nx δ2) ∧ P (k + 1) δ2) :
    ∀ (j n : Nat) (δ : List Sl), l.length = n + j → P n δ → ∃ δ', gForL tg body (l.drop n) δ = M.ret (.nx δ') ∧ P l.length δ'
  | 0, n, δ, hn, p => ⟨δ, by rw [List.drop_of_length_le (by omega)]; rfl, by rw [hn]; exact p⟩
  | j + 1, n, δ, hn, p => by
    have hlt : n < l.length := by omega
    obtain ⟨δ1, δ2, e1, e2, p2⟩ := h n l[n] δ (List.getElem?_eq_getElem hlt) p
    obtain ⟨δ', e, q⟩ := for_ret P h j (n + 1) δ2 (by omega) p2
    refine ⟨δ', ?_, q⟩
    rw [List.drop_eq_getElem_cons hlt, gForL_step e1, e2, bnd_ret]
    exact e
theorem for_ret0 {tg : Dt → List Sl → Option (List Sl)} {body : List Sl → M Fl} {l : List Dt} (P : Nat → List Sl → Prop) (h : ∀ k d δ, l[k]? = some d → P k δ → ∃ δ1 δ2, tg d δ = some δ1 ∧ body δ1 = M.ret (.nx δ2) ∧ P (k + 1) δ2) {δ : List Sl} (p : P 0 δ) :
    ∃ δ', gForL tg body l δ = M.ret (.nx δ') ∧ P l.length δ' := by
  obtain ⟨δ', e, q⟩ := for_ret P h l.length 0 δ (by omega) p
  exact ⟨δ', e, q⟩
theorem tst1_ty {cs : List Addr} {T : String} {d : Dt} {x : String} (h : tyN d = some x) : tst1 cs (.ty T) d = kitB x T := by
  cases d <;> first | (cases h; rfl) | cases h
theorem tst1_obj {cs : List Addr} {C D : Addr} {ns : List Str} {l : List Dt} (hC : C ∈ cs) (hD : D ∈ cs) : tst1 cs (.own C) (.obj D ns l) = some (decide (D = C)) := if_pos ⟨hC, hD⟩
theorem isi_one {cs : List Addr} {t : Tst} {d : Dt} {b : Bool} (h : tst1 cs t d = some b) : isiD cs [t] d = M.ret (.val (.bl b)) := by
  unfold isiD tstA
  rw [h]
  cases b <;> rfl
theorem isi_ty (cs : List Addr) (T : String) (d : Dt) {x : String} (h : tyN d = some x) {b : Bool} (hb : kitB x T = some b) : isiD cs [.ty T] d = M.ret (.val (.bl b)) := isi_one (by rw [tst1_ty h, hb])
theorem isi_obj (cs : List Addr) (C D : Addr) (ns : List Str) (l : List Dt) (hC : C ∈ cs) (hD : D ∈ cs) : isiD cs [.own C] (.obj D ns l) = M.ret (.val (.bl (decide (D = C)))) := isi_one (tst1_obj hC hD)
theorem isi_lt (cs : List Addr) (d : Dt) {x : String} (h : tyN d = some x) {b c : Bool} (hb : kitB x "list" = some b) (hc : kitB x "tuple" = some c) : isiD cs [.ty "list", .ty "tuple"] d = M.ret (.val (.bl (b || c))) := by
  unfold isiD tstA
  rw [tst1_ty h, hb]
  cases b with
  | true => rfl
  | false =>
    simp only [tstA]
    rw [tst1_ty h, hc]
    cases c <;> rfl
def btw : Dt → Int → Int → Bool
  | .int z, lo, hi => decide (lo ≤ z) && decide (z ≤ hi)
  | _, _, _ => false
def plainD (d : Dt) : Bool := (tyN d).isSome
def Dw {α : Type} (T : List (Addr × Str)) (k : Int) (x : M α) (P : α → Prop) : Prop := ∀ s : MS, 0 ≤ s.n → s.n + k ≤ 900000 → s.tabs = T → ∃ a s', x s = .ok a s' ∧ P a ∧ s.n ≤ s'.n ∧ s'.n ≤ s.n + k ∧ s'.tabs = T
section
variable {α β : Type} {T : List (Addr × Str)}
theorem Dw.ret {k : Int} {a : α} {P : α → Prop} (hk : 0 ≤ k) (h : P a) : Dw T k (M.ret a) P := fun s _ _ ht => ⟨a, s, rfl, h, Int.le_refl _, by omega, ht⟩
theorem Dw.bnd {k j : Int} {x : M α} {f : α → M β} {P : α → Prop} {Q : β → Prop} (hk : 0 ≤ k) (hj : 0 ≤ j) (h : Dw T k x P) (hf : ∀ a, P a → Dw T j (f a) Q) : Dw T (k + j) (M.bnd x f) Q := fun s h0 h1 ht => by
  obtain ⟨a, s1, e1, p, n1, n2, t1⟩ := h s h0 (by omega) ht
  obtain ⟨b, s2, e2, q, m1, m2, t2⟩ := hf a p s1 (by omega) (by omega) t1
  exact ⟨b, s2, by rw [M.bnd_ok e1, e2], q, by omega, by omega, t2⟩
theorem Dw.le {k j : Int} {x : M α} {P : α → Prop} (h : Dw T k x P) (hk : k ≤ j) : Dw T j x P := fun s h0 h1 ht => by
  obtain ⟨a, s1, e1, p, n1, n2, t1⟩ := h s h0 (by omega) ht
  exact ⟨a, s1, e1, p, n1, by omega, t1⟩
theorem Dw.imp {k : Int} {x : M α} {P Q : α → Prop} (h : Dw T k x P) (i : ∀ a, P a → Q a) : Dw T k x Q := fun s h0 h1 ht => by
  obtain ⟨a, s1, e1, p, n⟩ := h s h0 h1 ht
  exact ⟨a, s1, e1, i a p, n⟩
theorem Dw.of_eq {k : Int} {x y : M α} {P : α → Prop} (h : Dw T k y P) (e : x = y) : Dw T k x P := e ▸ h
theorem for_dw {tg : Dt → List Sl → Option (List Sl)} {body : List Sl → M Fl} {l : List Dt} {c : Int} (hc : 0 ≤ c) (P : Nat → List Sl → Prop) (h : ∀ k d δ, l[k]? = some d → P k δ → ∃ δ1, tg d δ = some δ1 ∧ Dw T c (body δ1) (fun f => ∃ δ2, f = .nx δ2 ∧ P (k + 1) δ2)) :
    ∀ (j n : Nat) (δ : List Sl), l.length = n + j → P n δ → Dw T (c * j) (gForL tg body (l.drop n) δ) (fun f => ∃ δ', f = .nx δ' ∧ P l.length δ')
  | 0, n, δ, hn, p => by
    rw [List.drop_of_length_le (by omega)]
    exact Dw.ret (by simp) ⟨δ, rfl, by rw [hn]; exact p⟩
  | j + 1, n, δ, hn, p => by
    have hlt : n < l.length := by omega
    obtain ⟨δ1, e1, e2⟩ := h n l[n] δ (List.getElem?_eq_getElem hlt) p
    rw [List.drop_eq_getElem_cons hlt, gForL_step e1]
    have e : c * ((j + 1 : Nat) : Int) = c + c * (j : Int) := by
      rw [Int.natCast_succ, Int.mul_add, Int.mul_one, Int.add_comm]
    rw [e]
    refine Dw.bnd hc (Int.mul_nonneg hc (by omega)) e2 fun f hf => ?_
    obtain ⟨δ2, rfl, p2⟩ := hf
    exact for_dw hc P h j (n + 1) δ2 (by omega) p2
theorem for_dw0 {tg : Dt → List Sl → Option (List Sl)} {body : List Sl → M Fl} {l : List Dt} {c k : Int} (hc : 0 ≤ c) (P : Nat → List Sl → Prop) (h : ∀ k d δ, l[k]? = some d → P k δ → ∃ δ1, tg d δ = some δ1 ∧ Dw T c (body δ1) (fun f => ∃ δ2, f = .nx δ2 ∧ P (k + 1) δ2)) {δ : List Sl} (p : P 0 δ) (hk : c * (l.length : Nat) ≤ k) :
    Dw T k (gForL tg body l δ) (fun f => ∃ δ', f = .nx δ' ∧ P l.length δ') := (for_dw hc P h l.length 0 δ (by omega) p).le hk
theorem Dw.draw {lim : Int} (h1 : 1 ≤ lim) (h2 : lim < 1073741824) : Dw T 1 (drawS [.drw, .int lim]) (fun r => ∃ z : Int, r = .val (.int z) ∧ 0 ≤ z ∧ z < lim) := fun s h0 hn ht => by
  obtain ⟨b1, b2⟩ := Lw.drawP_bd s.n s.gs s.cs h1
  refine ⟨.val (.int (Lw.drawP s.n s.gs s.cs lim).1), { s with n := s.n + 1, gs := (Lw.drawP s.n s.gs s.cs lim).2 }, ?_, ⟨_, rfl, b1, b2⟩, by show s.n ≤ s.n + 1; omega, by show s.n + 1 ≤ s.n + 1; omega, ht⟩
  show (if 1 ≤ lim ∧ lim < 1073741824 ∧ s.n ≤ 900000 then _ else _) = _
  rw [if_pos ⟨h1, h2, by omega⟩]
end
theorem pass_of {T : List (Addr × Str)} {N : List Str} {g : List Sl → M Fl} (h : Dw T 800000 (g (δ0 N)) (fun f => f = .ret (.val (.bl true)))) : Pass T N g := fun s h0 h1 _ _ _ => by
  obtain ⟨a, s', e, p, _⟩ := h s (by omega) (by omega) h1
  exact ⟨s', by rw [e, p]⟩
end DL
namespace LwE
open PySem PySem.Spec PyProof.Rows L2
mutual
def smD : PyData → Bool
  | .none | .bool _ => true
  | .int i => decide (i.natAbs ≤ 100000)
  | .str _ => false
  | .list xs | .tuple xs => smA xs
  | .dict _ => false
def smA : List PyData → Bool
  | [] => true
  | x :: xs => smD x && smA xs
end
mutual
def wtD : PyData → Nat
  | .none => 4
  | .bool _ => 5
  | .int _ => 18
  | .str _ => 0
  | .list xs | .tuple xs => wtA xs + 3
  | .dict _ => 0
def wtA : List PyData → Nat
  | [] => 0
  | x :: xs => wtD x + 2 + wtA xs
end
theorem textFrom_le : ∀ (ts : List Str) (k : Nat) (acc : Str), (textFrom k acc ts).length ≤ acc.length + piled ts
  | [], k, acc => by simp [textFrom]
  | t :: ts, k, acc => by
    have ih := textFrom_le ts (k + 1) (acc ++ (if k > 0 then ", " else "" : String) ++ t)
    have e : (acc ++ (if k > 0 then ", " else "" : String) ++ t).length ≤ acc.length + 2 + t.length := by
      rw [strLen_append, strLen_append]
      split
      · have : ((", " : String) : Str).length = 2 := rfl
        omega
      · have : (("" : String) : Str).length = 0 := rfl
        omega
    rw [piled_cons]
    show (textFrom (k + 1) _ ts).length ≤ _
    omega
theorem listText_le (ts : List Str) : (listText ts).length ≤ piled ts + 2 := by
  unfold listText
  rw [strLen_append]
  have h := textFrom_le ts 0 "["
  have e1 : (("[" : String) : Str).length = 1 := rfl
  have e2 : (("]" : String) : Str).length = 1 := rfl
  omega
theorem tupleText_le (ts : List Str) : (tupleText ts).length ≤ piled ts + 3 := by
  unfold tupleText
  rw [strLen_append, strLen_append]
  have e1 : ((("(" : String) : Str)).length = 1 := rfl
  have e3 : (((if ts.length == 1 then ",)" else ")" : String) : Str)).length ≤ 2 := by split <;> decide
  by_cases h : ts = []
  · subst h
    have : (Str.join ", " []).length = 0 := rfl
    omega
  · have := join_length_add ts h
    omega
theorem log_small (i : Int) (h : i.natAbs ≤ 100000) : i.natAbs.log2 < 17 := by
  rcases Nat.eq_zero_or_pos i.natAbs with z | z
  · rw [z]
    decide
  · exact (Nat.log2_lt (by omega)).mpr (by omega)
mutual
theorem sm_all : ∀ d : PyData, smD d = true → d.showable = true ∧ d.hasDict = false ∧ d.shown.length ≤ wtD d
  | .none, _ => ⟨rfl, rfl, by simp only [PyData.shown, wtD]; decide⟩
  | .bool b, _ => ⟨rfl, rfl, by simp only [PyData.shown, wtD]; cases b <;> decide⟩
  | .int i, h => by
    have hi : i.natAbs ≤ 100000 := by simpa [smD] using h
    have h1 := log_small i hi
    have h2 := int_text_length_le (by decide : 0 < 17) h1
    refine ⟨?_, rfl, ?_⟩
    · simp only [PyData.showable, decide_eq_true_eq]
      omega
    · simp only [PyData.shown, wtD]
      show (Str.ofString (toString i)).length ≤ 18
      rw [PySem.ofString_length]
      omega
  | .str x, h => by simp [smD] at h
  | .list xs, h => by
    obtain ⟨a, b, c⟩ := sm_allA xs (by simpa [smD] using h)
    refine ⟨by simpa [PyData.showable] using a, by simpa [PyData.hasDict] using b, ?_⟩
    simp only [PyData.shown, wtD]
    have := listText_le (PyData.shownAll xs)
    omega
  | .tuple xs, h => by
    obtain ⟨a, b, c⟩ := sm_allA xs (by simpa [smD] using h)
    refine ⟨by simpa [PyData.showable] using a, by simpa [PyData.hasDict] using b, ?_⟩
    simp only [PyData.shown, wtD]
    have := tupleText_le (PyData.shownAll xs)
    omega
  | .dict _, h => by simp [smD] at h
theorem sm_allA : ∀ xs : List PyData, smA xs = true → PyData.showableAll xs = true ∧ PyData.hasDictAll xs = false ∧ piled (PyData.shownAll xs) ≤ wtA xs
  | [], _ => ⟨rfl, rfl, by simp [PyData.shownAll, piled, wtA]⟩
  | x :: xs, h => by
    have h' : smD x = true ∧ smA xs = true := by simpa [smA] using h
    obtain ⟨a, b, c⟩ := sm_all x h'.1
    obtain ⟨a2, b2, c2⟩ := sm_allA xs h'.2
    refine ⟨by simp [PyData.showableAll, a, a2], by simp [PyData.hasDictAll, b, b2], ?_⟩
    simp only [PyData.shownAll, wtA, piled_cons]
    omega
end
theorem sm_ints : ∀ l : List Int, (∀ x ∈ l, x.natAbs ≤ 100000) → smA (l.map PyData.int) = true
  | [], _ => rfl
  | x :: l, h => by
    have ih := sm_ints l fun y hy => h y (List.mem_cons_of_mem _ hy)
    have hx := h x (List.mem_cons_self ..)
    simp [smA, smD, ih, hx]
theorem wt_ints : ∀ l : List Int, wtA (l.map PyData.int) = 20 * l.length
  | [] => rfl
  | x :: l => by
    have ih := wt_ints l
    simp only [List.map_cons, wtA, wtD, List.length_cons, ih]
    omega
end LwE
namespace DL
open PySem L2 LwE
def Tx (n w : Nat) (d : Dt) : Prop := ∃ x, convX d = some x ∧ x.showable = true ∧ x.depth ≤ n ∧ x.shown.length ≤ w
def Txs (n w : Nat) (l : List Dt) : Prop := ∃ xs, convXs l = some xs ∧ PyData.showableAll xs = true ∧ PyData.depthAll xs ≤ n ∧ piled (PyData.shownAll xs) ≤ w
theorem Tx.mono {n m w v : Nat} {d : Dt} (h : Tx n w d) (h1 : n ≤ m) (h2 : w ≤ v) : Tx m v d := let ⟨x, a, b, c, e⟩ := h; ⟨x, a, b, by omega, by omega⟩
theorem Txs.mono {n m w v : Nat} {d : List Dt} (h : Txs n w d) (h1 : n ≤ m) (h2 : w ≤ v) : Txs m v d := let ⟨x, a, b, c, e⟩ := h; ⟨x, a, b, by omega, by omega⟩
theorem Txs.nil : Txs 0 0 [] := ⟨[], rfl, rfl, Nat.le_refl _, by simp [PyData.shownAll, piled]⟩
theorem Txs.cons {n m w v : Nat} {d : Dt} {l : List Dt} (h : Tx n w d) (k : Txs m v l) : Txs (max n m) (w + 2 + v) (d :: l) := by
  obtain ⟨x, a, b, c, e⟩ := h
  obtain ⟨xs, a2, b2, c2, e2⟩ := k
  refine ⟨x :: xs, ?_, by simp [PyData.showableAll, b, b2], ?_, ?_⟩
  · show (match convX d, convXs l with | some x, some xs => some (x :: xs) | _, _ => none) = _
    rw [a, a2]
  · simp only [PyData.depthAll]
    omega
  · simp only [PyData.shownAll, piled_cons]
    omega
theorem Tx.tup {n w : Nat} {l : List Dt} (h : Txs n w l) : Tx (n + 1) (w + 3) (.tup l) := by
  obtain ⟨xs, a, b, c, e⟩ := h
  refine ⟨.tuple xs, ?_, by simpa [PyData.showable] using b, ?_, ?_⟩
  · show (convXs l).map PyData.tuple = _
    rw [a]
    rfl
  · simp only [PyData.depth]
    omega
  · simp only [PyData.shown]
    have := tupleText_le (PyData.shownAll xs)
    omega
theorem Tx.lst {n w : Nat} {l : List Dt} (h : Txs n w l) : Tx (n + 1) (w + 2) (.lst l) := by
  obtain ⟨xs, a, b, c, e⟩ := h
  refine ⟨.list xs, ?_, by simpa [PyData.showable] using b, ?_, ?_⟩
  · show (convXs l).map PyData.list = _
    rw [a]
    rfl
  · simp only [PyData.depth]
    omega
  · simp only [PyData.shown]
    have := listText_le (PyData.shownAll xs)
    omega
theorem Tx.sm {d : Dt} {x : PyData} (h : convX d = some x) (s : smD x = true) : Tx x.depth (wtD x) d := by
  obtain ⟨h1, h2, h3⟩ := sm_all x s
  exact ⟨x, h, h1, Nat.le_refl _, h3⟩
theorem Tx.int {z : Int} (h : z.natAbs ≤ 100000) : Tx 0 18 (.int z) := (Tx.sm (x := .int z) rfl (by simp [smD, h])).mono (by simp [PyData.depth]) (by simp [wtD])
theorem Tx.bl (b : Bool) : Tx 0 5 (.bl b) := (Tx.sm (x := .bool b) rfl rfl).mono (by simp [PyData.depth]) (by simp [wtD])
theorem Tx.non : Tx 0 4 .non := (Tx.sm (x := .none) rfl rfl).mono (by simp [PyData.depth]) (by simp [wtD])
theorem Tx.dic : Tx 1 2 (.dK [] []) := ⟨.dict [], rfl, by decide +kernel, by decide +kernel, by decide +kernel⟩
theorem Txs.ints : ∀ {l : List Int}, (∀ x ∈ l, x.natAbs ≤ 100000) → Txs 0 (20 * l.length) (l.map .int)
  | [], _ => Txs.nil
  | x :: l, h => (Txs.cons (Tx.int (h x (List.mem_cons_self ..))) (Txs.ints fun y hy => h y (List.mem_cons_of_mem _ hy))).mono (by omega) (by rw [List.length_cons]; omega)
theorem Txs.all {n w : Nat} : ∀ {l : List Dt}, (∀ d ∈ l, Tx n w d) → Txs n ((w + 2) * l.length) l
  | [], _ => Txs.nil.mono (by omega) (by simp)
  | d :: l, h => (Txs.cons (h d (List.mem_cons_self ..)) (Txs.all fun y hy => h y (List.mem_cons_of_mem _ hy))).mono (by omega) (by rw [List.length_cons, Nat.mul_succ]; omega)
theorem Tx.repr {n w : Nat} {d : Dt} (h : Tx n w d) (hn : n ≤ 8) (hw : w ≤ 100000) : ∃ s, reprD d = M.ret (.val (.str s)) := by
  obtain ⟨x, a, b, c, e⟩ := h
  refine ⟨x.shown, ?_⟩
  unfold reprD
  rw [a]
  simp only [if_pos (show x.showable = true ∧ x.depth ≤ 8 ∧ x.shown.length ≤ 100000 from ⟨b, by omega, by omega⟩)]
theorem eq_self {d : Dt} {x : PyData} (neg : Bool) (h : conv d = some x) (s : SeqAt.shaped x = true) (hs : ∀ y, d ≠ .str y) (k : kneD d d = false) : eqG neg d d = M.ret (.val (.bl (neg ^^ true))) := by
  refine (eqG_def _ _ _ hs).trans ?_
  rw [k, if_neg (by decide)]
  unfold eqD
  rw [h]
  simp only [s, Bool.and_self, if_true, SeqAt.eqv_refl x (SeqAt.canLay_of_shaped s)]
end DL
namespace LwM
def stq (i : Int) (s : List (Int × Int) × List Int) (p x : Int) : List (Int × Int) × List Int :=
  if x = i + 1 then (s.1, s.2 ++ [p]) else if x = i then (if s.2 = [] then s else (s.1 ++ [(lst s.2, p)], s.2.dropLast)) else s
def gq (i : Int) (f : Int → Int) : List (Int × Int) × List Int → List Int → List (Int × Int) × List Int
  | s, [] => s
  | s, p :: r => gq i f (stq i s p (f p)) r
theorem gq_app (i : Int) (f : Int → Int) : ∀ (A B : List Int) (s : List (Int × Int) × List Int), gq i f s (A ++ B) = gq i f (gq i f s A) B
  | [], B, s => rfl
  | p :: A, B, s => gq_app i f A B _
def allp (n : Nat) : List Int := (List.range n).map fun j => ((j : Nat) : Int)
def prS (i : Int) (ls : List Int) (n : Nat) : List (Int × Int) × List Int := gq i (val ls) ([], []) (allp n)
def prB (i : Int) (ls : List Int) : List (Int × Int) := (prS i ls ls.length).1
theorem gq_pre (i : Int) (f : Int → Int) : ∀ (B : List Int) (x : List (Int × Int)) (s : List (Int × Int) × List Int), gq i f (x ++ s.1, s.2) B = (x ++ (gq i f s B).1, (gq i f s B).2)
  | [], x, s => rfl
  | p :: B, x, s => by
    have e : stq i (x ++ s.1, s.2) p (f p) = (x ++ (stq i s p (f p)).1, (stq i s p (f p)).2) := by
      unfold stq
      split
      · rfl
      · split
        · split
          · rfl
          · simp
        · rfl
    show gq i f (stq i (x ++ s.1, s.2) p (f p)) B = _
    rw [e]
    exact gq_pre i f B x _
theorem gq_filter (i : Int) (f : Int → Int) : ∀ (A : List Int) (s : List (Int × Int) × List Int), gq i f s (A.filter fun p => decide (f p = i ∨ f p = i + 1)) = gq i f s A
  | [], s => rfl
  | p :: A, s => by
    rw [List.filter_cons]
    by_cases h : f p = i ∨ f p = i + 1
    · rw [if_pos (by simpa using h)]
      exact gq_filter i f A _
    · rw [if_neg (by simpa using h)]
      show gq i f s _ = gq i f (stq i s p (f p)) A
      have e : stq i s p (f p) = s := by
        unfold stq
        rw [if_neg (fun z => h (.inr z)), if_neg (fun z => h (.inl z))]
      rw [e]
      exact gq_filter i f A s
theorem gq_pair (i : Int) (f : Int → Int) (A B : List Int) {p q : Int} (hp : f p = i + 1) (hq : f q = i) : (gq i f ([], []) (A ++ p :: q :: B)).1.Perm ((p, q) :: (gq i f ([], []) (A ++ B)).1) := by
  rw [gq_app, gq_app]
  generalize gq i f ([], []) A = s
  obtain ⟨P, W⟩ := s
  show (gq i f (stq i (stq i (P, W) p (f p)) q (f q)) B).1.Perm _
  have e : stq i (stq i (P, W) p (f p)) q (f q) = ((P ++ [(p, q)]) ++ [], W) := by
    rw [hp, hq]
    unfold stq
    rw [if_pos rfl, if_neg (by omega), if_pos rfl, if_neg (by simp), lst_app _ _ (by simp)]
    simp [lst]
  have e2 : ((P, W) : List (Int × Int) × List Int) = (P ++ [], W) := by rw [List.append_nil]
  rw [e, e2, gq_pre i f B (P ++ [(p, q)]) ([], W), gq_pre i f B P ([], W)]
  simp only [List.append_assoc, List.singleton_append]
  exact List.perm_middle
theorem gq_ups (i : Int) (f : Int → Int) : ∀ (B : List Int) (P : List (Int × Int)) (W : List Int), (∀ p ∈ B, f p = i + 1) → (gq i f (P, W) B).1 = P
  | [], P, W, _ => rfl
  | p :: B, P, W, h => by
    show (gq i f (stq i (P, W) p (f p)) B).1 = _
    have e : stq i (P, W) p (f p) = (P, W ++ [p]) := by
      unfold stq
      rw [if_pos (h p (List.mem_cons_self ..))]
    rw [e]
    exact gq_ups i f B P _ fun q hq => h q (List.mem_cons_of_mem _ hq)
theorem gq_end (i : Int) (f : Int → Int) : ∀ (A : List Int), (∀ p ∈ A, f p = i ∨ f p = i + 1) → NoAdj i f A → (gq i f ([], []) A).1 = []
  | [], _, _ => rfl
  | p :: A, h, hn => by
    have hA : ∀ q ∈ A, f q = i ∨ f q = i + 1 := fun q hq => h q (List.mem_cons_of_mem _ hq)
    rcases h p (List.mem_cons_self ..) with z | z
    · show (gq i f (stq i ([], []) p (f p)) A).1 = _
      have e : stq i ([], []) p (f p) = ([], []) := by
        unfold stq
        rw [if_neg (by omega), if_pos z, if_pos rfl]
      rw [e]
      exact gq_end i f A hA hn.tail
    · have hall := NoAdj.all hn z hA
      exact gq_ups i f (p :: A) [] [] fun q hq => by
        rcases List.mem_cons.mp hq with y | y
        · rw [y]; exact z
        · exact hall q y
theorem prB_plc (i : Int) (ls : List Int) : prB i ls = (gq i (val ls) ([], []) (plc i ls ls.length)).1 := by
  unfold plc
  rw [gq_filter]
  rfl
def PI (i : Int) (ls rest : List Int) (l : List (Int × Int)) : Prop := (l ++ (gq i (val ls) ([], []) rest).1).Perm (prB i ls)
theorem PI.start (i : Int) (ls : List Int) : PI i ls (plc i ls ls.length) [] := by
  unfold PI
  rw [← prB_plc]
  exact List.Perm.refl _
theorem PI.take {i : Int} {ls rest : List Int} {l : List (Int × Int)} {n : Nat} (o : PI i ls rest l) {a b : Int} (ha : rest[n]? = some a) (hb : rest[n + 1]? = some b) (h1 : val ls a = i + 1) (h2 : val ls b = i) : PI i ls (rest.take n ++ rest.drop (n + 2)) (l ++ [(a, b)]) := by
  unfold PI at o ⊢
  refine List.Perm.trans ?_ o
  have e := split_at ha hb
  conv => rhs; rw [e]
  rw [List.append_assoc, List.singleton_append]
  exact (List.Perm.append_left l (gq_pair i (val ls) (rest.take n) (rest.drop (n + 2)) h1 h2)).symm
theorem PI.done {i : Int} {ls rest : List Int} {l : List (Int × Int)} {n : Nat} (o : PI i ls rest l) (q : Out i ls rest n) (h : rest.length ≤ n + 1) : l.Perm (prB i ls) := by
  have hn : NoAdj i (val ls) rest := fun j a b ha hb => by
    have := (List.getElem?_eq_some_iff.mp hb).1
    exact q.far j a b (by omega) ha hb
  unfold PI at o
  rw [gq_end i (val ls) rest q.two hn, List.append_nil] at o
  exact o
end LwM
namespace Dg
open PySem DL LwM
def isI : Dt → Bool
  | .int _ => true
  | .bl _ => true
  | _ => false
def isB : Dt → Bool
  | .bl _ => true
  | _ => false
def isLT : Dt → Bool
  | .lst _ => true
  | .tup _ => true
  | _ => false
theorem isi_int (cs : List Addr) {d : Dt} (h : plainD d = true) : isiD cs [.ty "int"] d = DL.M.ret (.val (.bl (isI d))) := by
  cases d <;> first | exact isi_ty cs "int" _ rfl (b := true) (by decide +kernel) | exact isi_ty cs "int" _ rfl (b := false) (by decide +kernel) | (cases h; done)
theorem isi_bool (cs : List Addr) {d : Dt} (h : plainD d = true) : isiD cs [.ty "bool"] d = DL.M.ret (.val (.bl (isB d))) := by
  cases d <;> first | exact isi_ty cs "bool" _ rfl (b := true) (by decide +kernel) | exact isi_ty cs "bool" _ rfl (b := false) (by decide +kernel) | (cases h; done)
theorem isi_rows (cs : List Addr) {d : Dt} (h : plainD d = true) : isiD cs [.ty "list", .ty "tuple"] d = DL.M.ret (.val (.bl (isLT d))) := by
  cases d <;> first | exact isi_lt cs _ rfl (b := false) (c := false) (by decide +kernel) (by decide +kernel) | exact isi_lt cs _ rfl (b := true) (c := false) (by decide +kernel) (by decide +kernel) | exact isi_lt cs _ rfl (b := false) (c := true) (by decide +kernel) (by decide +kernel) | (cases h; done)
variable {a : Adr}
theorem isiS_p (cs : List Addr) (t : Tst) {d : Dt} (h : plainD d = true) : isiS cs t d = isiD cs [t] d := isiS_eq fun z => by
  rw [z] at h
  cases h
theorem between {d : Dt} (lo hi : Int) (h : plainD d = true) : S_is_between a [d, .int lo, .int hi] = DL.M.ret (.val (.bl (btw d lo hi))) := by
  unfold S_is_between
  simp only [bnd_ret, bnd_nn, bnd_rse, bnd_ite, bnd_bnd, semOf, gSeq, gNx, gSet, gDrop, gRet, gRetV, gRetN, gIf, gBk, gCt, gFrz, frz, gApp, gExt, gSetI, gAsg, gPar, gPop, gSetPop, gAppPop, gRaise, gFld, cVar, vVar, cC, toV, bin, una, aNil, aCons, cTup, cLst, rNil, rCons, setAll, addD, subD, negD, cmpD, notD, cCall, cMeth, cMeth0, cMake, objR, tV, truD, tNotD, tAndD, tOrD, tBl, andV, orV, cIf, chain, oNone, oSome, cSl, slD, ixD, lenD, tupleD, listD, cDict, tgN, tgS, tgT, tgs, wSeq, wEn, R.sl, R.d, Sl.isIns, oneIns, List.getElem?_cons_zero, List.getElem?_cons_succ, List.getElem?_nil, List.set_cons_zero, List.set_cons_succ, List.map_cons, List.map_nil, List.length_cons, List.length_nil, List.nil_append, List.cons_append, List.append_nil, List.replicate, List.all_cons, List.all_nil, Nat.reduceSub, Nat.reduceAdd, Nat.reduceLeDiff, Nat.reduceLT, Nat.reduceEqDiff, if_true, if_false, ite_true, ite_false, Bool.not_true, Bool.not_false, Bool.true_and, Bool.and_true, Bool.false_and, Bool.and_false, Bool.true_or, Bool.or_true, Bool.false_or, Bool.or_false, decide_true, decide_false, Bool.false_eq_true, reduceCtorEq, true_and, and_true, List.mem_cons_self]
  try simp only [isiS_p _ _ h]
  rw [isi_int _ h]
  cases d <;> first | (cases h; done) | (simp only [bnd_ret, bnd_nn, bnd_rse, bnd_ite, bnd_bnd, semOf, gSeq, gNx, gSet, gDrop, gRet, gRetV, gRetN, gIf, gBk, gCt, gFrz, frz, gApp, gExt, gSetI, gAsg, gPar, gPop, gSetPop, gAppPop, gRaise, gFld, cVar, vVar, cC, toV, bin, una, aNil, aCons, cTup, cLst, rNil, rCons, setAll, addD, subD, negD, cmpD, notD, cCall, cMeth, cMeth0, cMake, objR, tV, truD, tNotD, tAndD, tOrD, tBl, andV, orV, cIf, chain, oNone, oSome, cSl, slD, ixD, lenD, tupleD, listD, cDict, tgN, tgS, tgT, tgs, wSeq, wEn, R.sl, R.d, Sl.isIns, oneIns, List.getElem?_cons_zero, List.getElem?_cons_succ, List.getElem?_nil, List.set_cons_zero, List.set_cons_succ, List.map_cons, List.map_nil, List.length_cons, List.length_nil, List.nil_append, List.cons_append, List.append_nil, List.replicate, List.all_cons, List.all_nil, Nat.reduceSub, Nat.reduceAdd, Nat.reduceLeDiff, Nat.reduceLT, Nat.reduceEqDiff, if_true, if_false, ite_true, ite_false, Bool.not_true, Bool.not_false, Bool.true_and, Bool.and_true, Bool.false_and, Bool.and_false, Bool.true_or, Bool.or_true, Bool.false_or, Bool.or_false, decide_true, decide_false, Bool.false_eq_true, reduceCtorEq, true_and, and_true, List.mem_cons_self, isI, btw]; done) | skip
  · simp only [bnd_ret, bnd_nn, bnd_rse, bnd_ite, bnd_bnd, semOf, gSeq, gNx, gSet, gDrop, gRet, gRetV, gRetN, gIf, gBk, gCt, gFrz, frz, gApp, gExt, gSetI, gAsg, gPar, gPop, gSetPop, gAppPop, gRaise, gFld, cVar, vVar, cC, toV, bin, una, aNil, aCons, cTup, cLst, rNil, rCons, setAll, addD, subD, negD, cmpD, notD, cCall, cMeth, cMeth0, cMake, objR, tV, truD, tNotD, tAndD, tOrD, tBl, andV, orV, cIf, chain, oNone, oSome, cSl, slD, ixD, lenD, tupleD, listD, cDict, tgN, tgS, tgT, tgs, wSeq, wEn, R.sl, R.d, Sl.isIns, oneIns, List.getElem?_cons_zero, List.getElem?_cons_succ, List.getElem?_nil, List.set_cons_zero, List.set_cons_succ, List.map_cons, List.map_nil, List.length_cons, List.length_nil, List.nil_append, List.cons_append, List.append_nil, List.replicate, List.all_cons, List.all_nil, Nat.reduceSub, Nat.reduceAdd, Nat.reduceLeDiff, Nat.reduceLT, Nat.reduceEqDiff, if_true, if_false, ite_true, ite_false, Bool.not_true, Bool.not_false, Bool.true_and, Bool.and_true, Bool.false_and, Bool.and_false, Bool.true_or, Bool.or_true, Bool.false_or, Bool.or_false, decide_true, decide_false, Bool.false_eq_true, reduceCtorEq, true_and, and_true, List.mem_cons_self, isI]
    rw [isi_bool _ h]
    simp only [bnd_ret, bnd_nn, bnd_rse, bnd_ite, bnd_bnd, semOf, gSeq, gNx, gSet, gDrop, gRet, gRetV, gRetN, gIf, gBk, gCt, gFrz, frz, gApp, gExt, gSetI, gAsg, gPar, gPop, gSetPop, gAppPop, gRaise, gFld, cVar, vVar, cC, toV, bin, una, aNil, aCons, cTup, cLst, rNil, rCons, setAll, addD, subD, negD, cmpD, notD, cCall, cMeth, cMeth0, cMake, objR, tV, truD, tNotD, tAndD, tOrD, tBl, andV, orV, cIf, chain, oNone, oSome, cSl, slD, ixD, lenD, tupleD, listD, cDict, tgN, tgS, tgT, tgs, wSeq, wEn, R.sl, R.d, Sl.isIns, oneIns, List.getElem?_cons_zero, List.getElem?_cons_succ, List.getElem?_nil, List.set_cons_zero, List.set_cons_succ, List.map_cons, List.map_nil, List.length_cons, List.length_nil, List.nil_append, List.cons_append, List.append_nil, List.replicate, List.all_cons, List.all_nil, Nat.reduceSub, Nat.reduceAdd, Nat.reduceLeDiff, Nat.reduceLT, Nat.reduceEqDiff, if_true, if_false, ite_true, ite_false, Bool.not_true, Bool.not_false, Bool.true_and, Bool.and_true, Bool.false_and, Bool.and_false, Bool.true_or, Bool.or_true, Bool.false_or, Bool.or_false, decide_true, decide_false, Bool.false_eq_true, reduceCtorEq, true_and, and_true, List.mem_cons_self, isB, btw]
  · simp only [bnd_ret, bnd_nn, bnd_rse, bnd_ite, bnd_bnd, semOf, gSeq, gNx, gSet, gDrop, gRet, gRetV, gRetN, gIf, gBk, gCt, gFrz, frz, gApp, gExt, gSetI, gAsg, gPar, gPop, gSetPop, gAppPop, gRaise, gFld, cVar, vVar, cC, toV, bin, una, aNil, aCons, cTup, cLst, rNil, rCons, setAll, addD, subD, negD, cmpD, notD, cCall, cMeth, cMeth0, cMake, objR, tV, truD, tNotD, tAndD, tOrD, tBl, andV, orV, cIf, chain, oNone, oSome, cSl, slD, ixD, lenD, tupleD, listD, cDict, tgN, tgS, tgT, tgs, wSeq, wEn, R.sl, R.d, Sl.isIns, oneIns, List.getElem?_cons_zero, List.getElem?_cons_succ, List.getElem?_nil, List.set_cons_zero, List.set_cons_succ, List.map_cons, List.map_nil, List.length_cons, List.length_nil, List.nil_append, List.cons_append, List.append_nil, List.replicate, List.all_cons, List.all_nil, Nat.reduceSub, Nat.reduceAdd, Nat.reduceLeDiff, Nat.reduceLT, Nat.reduceEqDiff, if_true, if_false, ite_true, ite_false, Bool.not_true, Bool.not_false, Bool.true_and, Bool.and_true, Bool.false_and, Bool.and_false, Bool.true_or, Bool.or_true, Bool.false_or, Bool.or_false, decide_true, decide_false, Bool.false_eq_true, reduceCtorEq, true_and, and_true, List.mem_cons_self, isI]
    rw [isi_bool _ h]
    rename_i z
    by_cases h1 : lo ≤ z
    · simp only [bnd_ret, bnd_nn, bnd_rse, bnd_ite, bnd_bnd, semOf, gSeq, gNx, gSet, gDrop, gRet, gRetV, gRetN, gIf, gBk, gCt, gFrz, frz, gApp, gExt, gSetI, gAsg, gPar, gPop, gSetPop, gAppPop, gRaise, gFld, cVar, vVar, cC, toV, bin, una, aNil, aCons, cTup, cLst, rNil, rCons, setAll, addD, subD, negD, cmpD, notD, cCall, cMeth, cMeth0, cMake, objR, tV, truD, tNotD, tAndD, tOrD, tBl, andV, orV, cIf, chain, oNone, oSome, cSl, slD, ixD, lenD, tupleD, listD, cDict, tgN, tgS, tgT, tgs, wSeq, wEn, R.sl, R.d, Sl.isIns, oneIns, List.getElem?_cons_zero, List.getElem?_cons_succ, List.getElem?_nil, List.set_cons_zero, List.set_cons_succ, List.map_cons, List.map_nil, List.length_cons, List.length_nil, List.nil_append, List.cons_append, List.append_nil, List.replicate, List.all_cons, List.all_nil, Nat.reduceSub, Nat.reduceAdd, Nat.reduceLeDiff, Nat.reduceLT, Nat.reduceEqDiff, if_true, if_false, ite_true, ite_false, Bool.not_true, Bool.not_false, Bool.true_and, Bool.and_true, Bool.false_and, Bool.and_false, Bool.true_or, Bool.or_true, Bool.false_or, Bool.or_false, decide_true, decide_false, Bool.false_eq_true, reduceCtorEq, true_and, and_true, List.mem_cons_self, isB, btw, h1]
    · simp only [bnd_ret, bnd_nn, bnd_rse, bnd_ite, bnd_bnd, semOf, gSeq, gNx, gSet, gDrop, gRet, gRetV, gRetN, gIf, gBk, gCt, gFrz, frz, gApp, gExt, gSetI, gAsg, gPar, gPop, gSetPop, gAppPop, gRaise, gFld, cVar, vVar, cC, toV, bin, una, aNil, aCons, cTup, cLst, rNil, rCons, setAll, addD, subD, negD, cmpD, notD, cCall, cMeth, cMeth0, cMake, objR, tV, truD, tNotD, tAndD, tOrD, tBl, andV, orV, cIf, chain, oNone, oSome, cSl, slD, ixD, lenD, tupleD, listD, cDict, tgN, tgS, tgT, tgs, wSeq, wEn, R.sl, R.d, Sl.isIns, oneIns, List.getElem?_cons_zero, List.getElem?_cons_succ, List.getElem?_nil, List.set_cons_zero, List.set_cons_succ, List.map_cons, List.map_nil, List.length_cons, List.length_nil, List.nil_append, List.cons_append, List.append_nil, List.replicate, List.all_cons, List.all_nil, Nat.reduceSub, Nat.reduceAdd, Nat.reduceLeDiff, Nat.reduceLT, Nat.reduceEqDiff, if_true, if_false, ite_true, ite_false, Bool.not_true, Bool.not_false, Bool.true_and, Bool.and_true, Bool.false_and, Bool.and_false, Bool.true_or, Bool.or_true, Bool.false_or, Bool.or_false, decide_true, decide_false, Bool.false_eq_true, reduceCtorEq, true_and, and_true, List.mem_cons_self, isB, btw, h1]
theorem ck_size {z : Int} (h0 : 2 ≤ z) (h1 : z ≤ 6) : S_check_size a [.int z] = DL.M.ret (.val .non) := by
  unfold S_check_size
  simp only [bnd_ret, bnd_nn, bnd_rse, bnd_ite, bnd_bnd, semOf, gSeq, gNx, gSet, gDrop, gRet, gRetV, gRetN, gIf, gBk, gCt, gFrz, frz, gApp, gExt, gSetI, gAsg, gPar, gPop, gSetPop, gAppPop, gRaise, gFld, cVar, vVar, cC, toV, bin, una, aNil, aCons, cTup, cLst, rNil, rCons, setAll, addD, subD, negD, cmpD, notD, cCall, cMeth, cMeth0, cMake, objR, tV, truD, tNotD, tAndD, tOrD, tBl, andV, orV, cIf, chain, oNone, oSome, cSl, slD, ixD, lenD, tupleD, listD, cDict, tgN, tgS, tgT, tgs, wSeq, wEn, R.sl, R.d, Sl.isIns, oneIns, List.getElem?_cons_zero, List.getElem?_cons_succ, List.getElem?_nil, List.set_cons_zero, List.set_cons_succ, List.map_cons, List.map_nil, List.length_cons, List.length_nil, List.nil_append, List.cons_append, List.append_nil, List.replicate, List.all_cons, List.all_nil, Nat.reduceSub, Nat.reduceAdd, Nat.reduceLeDiff, Nat.reduceLT, Nat.reduceEqDiff, if_true, if_false, ite_true, ite_false, Bool.not_true, Bool.not_false, Bool.true_and, Bool.and_true, Bool.false_and, Bool.and_false, Bool.true_or, Bool.or_true, Bool.false_or, Bool.or_false, decide_true, decide_false, Bool.false_eq_true, reduceCtorEq, true_and, and_true, List.mem_cons_self]
  rw [between _ _ rfl]
  simp only [bnd_ret, bnd_nn, bnd_rse, bnd_ite, bnd_bnd, semOf, gSeq, gNx, gSet, gDrop, gRet, gRetV, gRetN, gIf, gBk, gCt, gFrz, frz, gApp, gExt, gSetI, gAsg, gPar, gPop, gSetPop, gAppPop, gRaise, gFld, cVar, vVar, cC, toV, bin, una, aNil, aCons, cTup, cLst, rNil, rCons, setAll, addD, subD, negD, cmpD, notD, cCall, cMeth, cMeth0, cMake, objR, tV, truD, tNotD, tAndD, tOrD, tBl, andV, orV, cIf, chain, oNone, oSome, cSl, slD, ixD, lenD, tupleD, listD, cDict, tgN, tgS, tgT, tgs, wSeq, wEn, R.sl, R.d, Sl.isIns, oneIns, List.getElem?_cons_zero, List.getElem?_cons_succ, List.getElem?_nil, List.set_cons_zero, List.set_cons_succ, List.map_cons, List.map_nil, List.length_cons, List.length_nil, List.nil_append, List.cons_append, List.append_nil, List.replicate, List.all_cons, List.all_nil, Nat.reduceSub, Nat.reduceAdd, Nat.reduceLeDiff, Nat.reduceLT, Nat.reduceEqDiff, if_true, if_false, ite_true, ite_false, Bool.not_true, Bool.not_false, Bool.true_and, Bool.and_true, Bool.false_and, Bool.and_false, Bool.true_or, Bool.or_true, Bool.false_or, Bool.or_false, decide_true, decide_false, Bool.false_eq_true, reduceCtorEq, true_and, and_true, List.mem_cons_self, btw, h0, h1]
theorem listing {d : Dt} (h : plainD d = true) : S_is_listing a [d] = DL.M.ret (.val (.bl (isLT d))) := by
  unfold S_is_listing
  simp only [bnd_ret, bnd_nn, bnd_rse, bnd_ite, bnd_bnd, semOf, gSeq, gNx, gSet, gDrop, gRet, gRetV, gRetN, gIf, gBk, gCt, gFrz, frz, gApp, gExt, gSetI, gAsg, gPar, gPop, gSetPop, gAppPop, gRaise, gFld, cVar, vVar, cC, toV, bin, una, aNil, aCons, cTup, cLst, rNil, rCons, setAll, addD, subD, negD, cmpD, notD, cCall, cMeth, cMeth0, cMake, objR, tV, truD, tNotD, tAndD, tOrD, tBl, andV, orV, cIf, chain, oNone, oSome, cSl, slD, ixD, lenD, tupleD, listD, cDict, tgN, tgS, tgT, tgs, wSeq, wEn, R.sl, R.d, Sl.isIns, oneIns, List.getElem?_cons_zero, List.getElem?_cons_succ, List.getElem?_nil, List.set_cons_zero, List.set_cons_succ, List.map_cons, List.map_nil, List.length_cons, List.length_nil, List.nil_append, List.cons_append, List.append_nil, List.replicate, List.all_cons, List.all_nil, Nat.reduceSub, Nat.reduceAdd, Nat.reduceLeDiff, Nat.reduceLT, Nat.reduceEqDiff, if_true, if_false, ite_true, ite_false, Bool.not_true, Bool.not_false, Bool.true_and, Bool.and_true, Bool.false_and, Bool.and_false, Bool.true_or, Bool.or_true, Bool.false_or, Bool.or_false, decide_true, decide_false, Bool.false_eq_true, reduceCtorEq, true_and, and_true, List.mem_cons_self]
  rw [isi_rows _ h]
  rfl
structure Lt (size : Int) (ls : List Int) : Prop where
  s0 : 2 ≤ size
  s1 : size ≤ 6
  len : ls.length ≤ 40
  bd : ∀ x ∈ ls, 1 ≤ x ∧ x ≤ size
abbrev nis (l : List Int) : List Dt := l.map .int
theorem enum_at {ls : List Int} {k : Nat} {d : Dt} (h : (enumD 0 (nis ls))[k]? = some d) : ∃ x, ls[k]? = some x ∧ d = .tup [.int (k : Nat), .int x] := by
  rw [enumD_get, List.getElem?_map] at h
  cases hx : ls[k]? with
  | none => rw [hx] at h; cases h
  | some x =>
    rw [hx] at h
    cases h
    exact ⟨x, rfl, by rw [Nat.zero_add]⟩
theorem ck_loop {size : Int} {d : Dt} {ls : List Int} (h : ∀ x ∈ ls, 1 ≤ x ∧ x ≤ size) : ∃ δ', gForL (tgS [(tgN 2), (tgN 3)]) (gIf (tNotD (tV (toV (cCall 3 (aCons (cVar 3) (aCons (cC (.int 1)) (aCons (cVar 0) aNil))) (S_is_between a))))) (gRaise 1 (a.ec.of .letters) "place" (cVar 2)) gNx) (enumD 0 (nis ls)) [.val (.int size), .val d, .non, .non] = DL.M.ret (.nx δ') := by
  obtain ⟨δ', e, _⟩ := for_ret0 (tg := tgS [(tgN 2), (tgN 3)]) (body := gIf (tNotD (tV (toV (cCall 3 (aCons (cVar 3) (aCons (cC (.int 1)) (aCons (cVar 0) aNil))) (S_is_between a))))) (gRaise 1 (a.ec.of .letters) "place" (cVar 2)) gNx) (l := enumD 0 (nis ls)) (fun _ δ => ∃ u v, δ = [.val (.int size), .val d, u, v]) (fun k x δ hx ⟨u, v, e⟩ => by
    obtain ⟨z, hz, rfl⟩ := enum_at hx
    obtain ⟨h0, h1⟩ := h z (List.mem_of_getElem? hz)
    subst e
    refine ⟨_, [.val (.int size), .val d, .val (.int (k : Nat)), .val (.int z)], rfl, ?_, _, _, rfl⟩
    simp only [bnd_ret, bnd_nn, bnd_rse, bnd_ite, bnd_bnd, semOf, gSeq, gNx, gSet, gDrop, gRet, gRetV, gRetN, gIf, gBk, gCt, gFrz, frz, gApp, gExt, gSetI, gAsg, gPar, gPop, gSetPop, gAppPop, gRaise, gFld, cVar, vVar, cC, toV, bin, una, aNil, aCons, cTup, cLst, rNil, rCons, setAll, addD, subD, negD, cmpD, notD, cCall, cMeth, cMeth0, cMake, objR, tV, truD, tNotD, tAndD, tOrD, tBl, andV, orV, cIf, chain, oNone, oSome, cSl, slD, ixD, lenD, tupleD, listD, cDict, tgN, tgS, tgT, tgs, wSeq, wEn, R.sl, R.d, Sl.isIns, oneIns, List.getElem?_cons_zero, List.getElem?_cons_succ, List.getElem?_nil, List.set_cons_zero, List.set_cons_succ, List.map_cons, List.map_nil, List.length_cons, List.length_nil, List.nil_append, List.cons_append, List.append_nil, List.replicate, List.all_cons, List.all_nil, Nat.reduceSub, Nat.reduceAdd, Nat.reduceLeDiff, Nat.reduceLT, Nat.reduceEqDiff, if_true, if_false, ite_true, ite_false, Bool.not_true, Bool.not_false, Bool.true_and, Bool.and_true, Bool.false_and, Bool.and_false, Bool.true_or, Bool.or_true, Bool.false_or, Bool.or_false, decide_true, decide_false, Bool.false_eq_true, reduceCtorEq, true_and, and_true, List.mem_cons_self]
    rw [between _ _ rfl]
    simp only [bnd_ret, bnd_nn, bnd_rse, bnd_ite, bnd_bnd, semOf, gSeq, gNx, gSet, gDrop, gRet, gRetV, gRetN, gIf, gBk, gCt, gFrz, frz, gApp, gExt, gSetI, gAsg, gPar, gPop, gSetPop, gAppPop, gRaise, gFld, cVar, vVar, cC, toV, bin, una, aNil, aCons, cTup, cLst, rNil, rCons, setAll, addD, subD, negD, cmpD, notD, cCall, cMeth, cMeth0, cMake, objR, tV, truD, tNotD, tAndD, tOrD, tBl, andV, orV, cIf, chain, oNone, oSome, cSl, slD, ixD, lenD, tupleD, listD, cDict, tgN, tgS, tgT, tgs, wSeq, wEn, R.sl, R.d, Sl.isIns, oneIns, List.getElem?_cons_zero, List.getElem?_cons_succ, List.getElem?_nil, List.set_cons_zero, List.set_cons_succ, List.map_cons, List.map_nil, List.length_cons, List.length_nil, List.nil_append, List.cons_append, List.append_nil, List.replicate, List.all_cons, List.all_nil, Nat.reduceSub, Nat.reduceAdd, Nat.reduceLeDiff, Nat.reduceLT, Nat.reduceEqDiff, if_true, if_false, ite_true, ite_false, Bool.not_true, Bool.not_false, Bool.true_and, Bool.and_true, Bool.false_and, Bool.and_false, Bool.true_or, Bool.or_true, Bool.false_or, Bool.or_false, decide_true, decide_false, Bool.false_eq_true, reduceCtorEq, true_and, and_true, List.mem_cons_self, btw, h0, h1]) (δ := [.val (.int size), .val d, .non, .non]) ⟨_, _, rfl⟩
  exact ⟨δ', e⟩
theorem ck_letters {size : Int} {ls : List Int} {d : Dt} (hd : d = .lst (nis ls) ∨ d = .tup (nis ls)) (L : Lt size ls) : S_check_letters a [.int size, d] = DL.M.ret (.val .non) := by
  obtain ⟨δ', e⟩ := ck_loop (a := a) (d := d) L.bd
  have hl := L.len
  have hp : plainD d = true := by rcases hd with rfl | rfl <;> rfl
  have hlt : isLT d = true := by rcases hd with rfl | rfl <;> rfl
  have hlen : lenD d = DL.M.ret (.val (.int (ls.length : Nat))) := by rcases hd with rfl | rfl <;> (simp only [lenD, List.length_map])
  have h40 : ¬ ((40 : Int) < (ls.length : Nat)) := by omega
  unfold S_check_letters
  simp only [semOf, gSeq, gIf, tNotD, tV, toV, cCall, aCons, cVar, aNil, bnd_bnd, bnd_ret, List.map_cons, List.map_nil, List.length_cons, List.length_nil, Nat.reduceSub, Nat.reduceAdd, List.replicate, List.cons_append, List.nil_append, List.getElem?_cons_zero, List.getElem?_cons_succ, if_true, R.d, listing hp, hlt, truD, Bool.not_true, Bool.false_eq_true, if_false, gNx, tBl, bin, una, vVar, hlen, cC, cmpD, h40, decide_false, gFor, wEn, wSeq]
  rcases hd with rfl | rfl
  · simp only [bnd_ret]
    rw [e]
    rfl
  · simp only [bnd_ret]
    rw [e]
    rfl
theorem make_word {size : Int} {ls : List Int} {d : Dt} (hd : d = .lst (nis ls) ∨ d = .tup (nis ls)) (L : Lt size ls) : S_Word_init a [.int size, d] = DL.M.ret (.val (.obj a.w_Word ["size", "letters"] [.int size, .tup (nis ls)])) := by
  have ht : tupleD d = DL.M.ret (.val (.tup (nis ls))) := by rcases hd with rfl | rfl <;> rfl
  have n1 : (([] : List Str).contains ("size" : Str)) = false := rfl
  have n2 : ((["size"] : List Str).contains ("letters" : Str)) = false := by decide +kernel
  unfold S_Word_init
  simp only [semI, gSeq, gDrop, cCall, aCons, cVar, aNil, bnd_bnd, bnd_ret, List.map_cons, List.map_nil, List.length_cons, List.length_nil, Nat.reduceSub, Nat.reduceAdd, List.replicate, List.cons_append, List.nil_append, List.append_nil, List.getElem?_cons_zero, List.getElem?_cons_succ, if_true, R.d, ck_size L.s0 L.s1, ck_letters hd L, gFld, n1, true_and, Nat.reduceLT, oneIns, List.set_cons_zero, List.all_cons, List.all_nil, Sl.isIns, Bool.not_false, Bool.and_true, n2, una, vVar, ht, selfD]
end Dg
namespace LwM
theorem set_bd {l : List Int} {n : Int} (h : ∀ x ∈ l, 1 ≤ x ∧ x ≤ n) (p : Nat) {z : Int} (z0 : 1 ≤ z) (z1 : z ≤ n) : ∀ x ∈ l.set p z, 1 ≤ x ∧ x ≤ n := fun y hy => by
  rcases List.mem_or_eq_of_mem_set hy with q | q
  · exact h y q
  · rw [q]
    exact ⟨z0, z1⟩
end LwM
namespace LwM
def ix (d : Int) : Int := if 0 < d then d else -d
def FarD (d e : Int) : Prop := ix d + 1 < ix e ∨ ix e + 1 < ix d
theorem FarD.symm {d e : Int} (h : FarD d e) : FarD e d := h.elim .inr .inl
inductive Ming : List Int → List Int → List Int → Prop
  | nil : Ming [] [] []
  | left {d : Int} {a b r : List Int} : Ming a b r → Ming (d :: a) b (d :: r)
  | right {e : Int} {a b r : List Int} : Ming a b r → Ming a (e :: b) (e :: r)
theorem Ming.others : ∀ b : List Int, Ming [] b b
  | [] => .nil
  | _ :: b => .right (others b)
theorem Ming.app : ∀ a b : List Int, Ming a b (a ++ b)
  | [], b => others b
  | _ :: a, b => .left (app a b)
end LwM
namespace LwM
end LwM
namespace LwM
end LwM
namespace LwM
end LwM
namespace Dg
open PySem DL LwM
variable {a : Adr}
theorem eq_ii (neg : Bool) (x y : Int) : eqG neg (.int x) (.int y) = DL.M.ret (.val (.bl (neg ^^ decide (x = y)))) := by
  refine (eqG_def _ _ _ (fun _ h => by cases h)).trans ?_
  unfold kneD
  simp only [Bool.false_eq_true, if_false]
  unfold eqD conv
  have : PyData.eqv (.int x) (.int y) = decide (x = y) := by
    simp only [PyData.eqv]
    exact Bool.beq_eq_decide_eq x y
  have s1 : SeqAt.shaped (.int x) = true := by simp [SeqAt.shaped, PyData.canLay0, PyData.depth]
  have s2 : SeqAt.shaped (.int y) = true := by simp [SeqAt.shaped, PyData.canLay0, PyData.depth]
  simp only [s1, s2, Bool.and_self, if_true, this]
def AllP (ps : List Dt) : Prop := ∃ l : List (Int × Int), ps = l.map pairD
theorem AllP.snoc {ps : List Dt} (h : AllP ps) (x y : Int) : AllP (ps ++ [.tup [.int x, .int y]]) := by
  obtain ⟨l, rfl⟩ := h
  exact ⟨l ++ [(x, y)], by rw [List.map_append]; rfl⟩
theorem nis_snoc (l : List Int) (x : Int) : nis l ++ [Dt.int x] = nis (l ++ [x]) := by
  unfold nis
  rw [List.map_append]
  rfl
end Dg
namespace Dg
open PySem DL LwM
variable {a : Adr}
abbrev wordD (a : Adr) (size : Int) (ls : List Int) : Dt := .obj a.w_Word ["size", "letters"] [.int size, .tup (nis ls)]
theorem fld_size {cs : List Addr} (size : Int) (ls : List Int) : fldsD cs "size" (wordD a size ls) = if a.w_Word ∈ cs then DL.M.ret (.val (.int size)) else DL.M.no := by
  show (if a.w_Word ∈ cs then (match List.lookup ("size" : Str) ((["size", "letters"] : List Str).zip [Dt.int size, Dt.tup (nis ls)]) with | some d => DL.M.ret (R.val d) | none => DL.M.no) else DL.M.no) = _
  have : List.lookup ("size" : Str) ((["size", "letters"] : List Str).zip [Dt.int size, Dt.tup (nis ls)]) = some (Dt.int size) := by simp [List.lookup]
  rw [this]
theorem fld_letters {cs : List Addr} (size : Int) (ls : List Int) : fldsD cs "letters" (wordD a size ls) = if a.w_Word ∈ cs then DL.M.ret (.val (.tup (nis ls))) else DL.M.no := by
  show (if a.w_Word ∈ cs then (match List.lookup ("letters" : Str) ((["size", "letters"] : List Str).zip [Dt.int size, Dt.tup (nis ls)]) with | some d => DL.M.ret (R.val d) | none => DL.M.no) else DL.M.no) = _
  have h : (("letters" : Str) == ("size" : Str)) = false := by decide +kernel
  have : List.lookup ("letters" : Str) ((["size", "letters"] : List Str).zip [Dt.int size, Dt.tup (nis ls)]) = some (Dt.tup (nis ls)) := by simp [List.lookup, h]
  rw [this]
theorem cut_hi (l : List Dt) {p : Int} (h : 0 ≤ p) : cutD l none (some p) = l.take p.toNat := by
  unfold cutD
  have e : HT.sIx l.length l.length (some p) = min p.toNat l.length := by
    have q := HT.sIx_nat l.length l.length p.toNat
    rw [Int.toNat_of_nonneg h] at q
    exact q
  rw [HT.sIx_none, e, List.drop_zero, Nat.sub_zero]
  rcases Nat.le_total p.toNat l.length with z | z
  · rw [Nat.min_eq_left z]
  · rw [Nat.min_eq_right z, List.take_length, List.take_of_length_le z]
theorem Lt.set {size : Int} {ls : List Int} (L : Lt size ls) (p : Nat) {x : Int} (h0 : 1 ≤ x) (h1 : x ≤ size) : Lt size (ls.set p x) := ⟨L.s0, L.s1, by rw [List.length_set]; exact L.len, set_bd L.bd p h0 h1⟩
end Dg
namespace DL
open PySem
theorem compL_eq {tg : Dt → List Sl → Option (List Sl)} {tt : List Sl → M Bool} {fe : List Sl → M R} {δ : List Sl} (p : Dt → Bool) (f : Dt → Dt) : ∀ {l : List Dt}, (∀ d ∈ l, ∃ δ1, tg d δ = some δ1 ∧ tt δ1 = M.ret (p d) ∧ (p d = true → ∃ r, fe δ1 = M.ret r ∧ r.d = f d)) → compL tg tt fe δ l = M.ret ((l.filter p).map f)
  | [], _ => rfl
  | d :: ds, h => by
    obtain ⟨δ1, e1, e2, e3⟩ := h d (List.mem_cons_self ..)
    have ih := compL_eq p f (l := ds) fun x hx => h x (List.mem_cons_of_mem _ hx)
    unfold compL
    rw [e1]
    simp only [e2, bnd_ret]
    cases hp : p d with
    | false => simp only [Bool.false_eq_true, if_false]; rw [ih, List.filter_cons_of_neg (by simp [hp])]
    | true =>
      obtain ⟨r, e4, e5⟩ := e3 hp
      simp only [if_true, e4, bnd_ret]
      rw [ih, List.filter_cons_of_pos hp, bnd_ret, List.map_cons, e5]
theorem lc_eq {src : List Sl → M (List Dt)} {tg : Dt → List Sl → Option (List Sl)} {tt : List Sl → M Bool} {fe : List Sl → M R} {vs : List Nat} {δ : List Sl} {l r : List Dt} (hs : src δ = M.ret l) (hl : l.length ≤ 100000) (hc : compL tg tt fe (wipeD δ vs) l = M.ret r) : cLc src tg tt fe vs δ = M.ret (.new r) := by
  unfold cLc
  rw [hs, bnd_ret, if_pos hl, hc, nx_ret, bnd_ret]
end DL
namespace Dg
open PySem DL LwM
variable {a : Adr}
theorem at_nat {l : List Int} {n : Nat} {x : Int} (h : l[n]? = some x) : L2.atI (nis l) (n : Int) = some (.int x) := by
  have hn := (List.getElem?_eq_some_iff.mp h).1
  unfold L2.atI L2.ixN
  rw [List.length_map, if_pos (by omega), if_pos (by omega)]
  show (nis l)[(n : Int).toNat]? = _
  rw [Int.toNat_natCast, List.getElem?_map, h]
  rfl
end Dg
namespace Dg
open PySem DL LwM
variable {a : Adr} {T : List (Addr × Str)}
theorem draw_ {lim : Int} (h1 : 1 ≤ lim) (h2 : lim < 1073741824) : Dw T 1 (S__law_draw a [.drw, .int lim]) (fun r => ∃ z : Int, r = .val (.int z) ∧ 0 ≤ z ∧ z < lim) := Dw.draw h1 h2
theorem size_ : Dw T 1 (S__law_size a [.drw]) (fun r => ∃ z : Int, r = .val (.int z) ∧ 2 ≤ z ∧ z ≤ 6) := by
  unfold S__law_size
  simp only [bnd_ret, bnd_nn, bnd_rse, bnd_ite, bnd_bnd, semOf, gSeq, gNx, gSet, gDrop, gRet, gRetV, gRetN, gIf, gBk, gCt, gFrz, frz, gApp, gExt, gSetI, gAsg, gPar, gPop, gSetPop, gAppPop, gRaise, gFld, cVar, vVar, cC, toV, bin, una, aNil, aCons, cTup, cLst, rNil, rCons, setAll, addD, subD, negD, cmpD, notD, cCall, cMeth, cMeth0, cMake, objR, tV, truD, tNotD, tAndD, tOrD, tBl, andV, orV, cIf, chain, oNone, oSome, cSl, slD, ixD, lenD, tupleD, listD, cDict, tgN, tgS, tgT, tgs, wSeq, wEn, R.sl, R.d, Sl.isIns, oneIns, List.getElem?_cons_zero, List.getElem?_cons_succ, List.getElem?_nil, List.set_cons_zero, List.set_cons_succ, List.map_cons, List.map_nil, List.length_cons, List.length_nil, List.nil_append, List.cons_append, List.append_nil, List.replicate, List.all_cons, List.all_nil, Nat.reduceSub, Nat.reduceAdd, Nat.reduceLeDiff, Nat.reduceLT, Nat.reduceEqDiff, if_true, if_false, ite_true, ite_false, Bool.not_true, Bool.not_false, Bool.true_and, Bool.and_true, Bool.false_and, Bool.and_false, Bool.true_or, Bool.or_true, Bool.false_or, Bool.or_false, decide_true, decide_false, Bool.false_eq_true, reduceCtorEq, true_and, and_true, List.mem_cons_self]
  refine Dw.bnd (k := 1) (j := 0) (by decide) (by decide) (draw_ (lim := 5) (by decide) (by decide)) fun r hr => ?_
  obtain ⟨z, rfl, z0, z1⟩ := hr
  simp only [bnd_ret, bnd_nn, bnd_rse, bnd_ite, bnd_bnd, semOf, gSeq, gNx, gSet, gDrop, gRet, gRetV, gRetN, gIf, gBk, gCt, gFrz, frz, gApp, gExt, gSetI, gAsg, gPar, gPop, gSetPop, gAppPop, gRaise, gFld, cVar, vVar, cC, toV, bin, una, aNil, aCons, cTup, cLst, rNil, rCons, setAll, addD, subD, negD, cmpD, notD, cCall, cMeth, cMeth0, cMake, objR, tV, truD, tNotD, tAndD, tOrD, tBl, andV, orV, cIf, chain, oNone, oSome, cSl, slD, ixD, lenD, tupleD, listD, cDict, tgN, tgS, tgT, tgs, wSeq, wEn, R.sl, R.d, Sl.isIns, oneIns, List.getElem?_cons_zero, List.getElem?_cons_succ, List.getElem?_nil, List.set_cons_zero, List.set_cons_succ, List.map_cons, List.map_nil, List.length_cons, List.length_nil, List.nil_append, List.cons_append, List.append_nil, List.replicate, List.all_cons, List.all_nil, Nat.reduceSub, Nat.reduceAdd, Nat.reduceLeDiff, Nat.reduceLT, Nat.reduceEqDiff, if_true, if_false, ite_true, ite_false, Bool.not_true, Bool.not_false, Bool.true_and, Bool.and_true, Bool.false_and, Bool.and_false, Bool.true_or, Bool.or_true, Bool.false_or, Bool.or_false, decide_true, decide_false, Bool.false_eq_true, reduceCtorEq, true_and, and_true, List.mem_cons_self]
  exact Dw.ret (by decide) ⟨_, rfl, by omega, by omega⟩
def Lb (size : Int) (l : List Int) : Prop := ∀ x ∈ l, 1 ≤ x ∧ x ≤ size
theorem Lb.snoc {size : Int} {l : List Int} (h : Lb size l) {x : Int} (h0 : 1 ≤ x) (h1 : x ≤ size) : Lb size (l ++ [x]) := fun y hy => by
  rcases List.mem_append.mp hy with z | z
  · exact h y z
  · rw [List.mem_singleton.mp z]; exact ⟨h0, h1⟩
theorem Lb.app {size : Int} {l m : List Int} (h : Lb size l) (k : Lb size m) : Lb size (l ++ m) := fun y hy => (List.mem_append.mp hy).elim (h y) (k y)
def dnI (x y : Int) : List Int := (List.range (x - y).toNat).map fun (n : Nat) => x - (n : Int)
def upI (x y : Int) : List Int := (List.range (y - x).toNat).map fun (n : Nat) => x + (n : Int)
theorem dnD_eq (x y : Int) : dnD x y = nis (dnI x y) := by unfold dnD dnI nis; rw [List.map_map]; rfl
theorem rgD_eq (x y : Int) : rgD x y = nis (upI x y) := by unfold rgD upI nis; rw [List.map_map]; rfl
abbrev tLet : List Sl → DL.M Bool := tBl (bin (toV (una (vVar 6) lenD)) (vVar 5) (cmpD fun x y => decide (x < y)))
abbrev bLet (a : Adr) : List Sl → DL.M Fl := gIf (tBl (bin (vVar 4) (toV (cC (.int 0))) (eqG false))) (gApp 6 (bin (toV (cC (.int 1))) (toV (cCall 2 (aCons (cVar 0) (aCons (cVar 1) aNil)) (S__law_draw a))) addD)) (gIf (tBl (bin (vVar 4) (toV (cC (.int 1))) (eqG false))) (gApp 6 (bin (vVar 3) (toV (cCall 2 (aCons (cVar 0) (aCons (cC (.int 2)) aNil)) (S__law_draw a))) addD)) (gIf (tBl (bin (vVar 4) (toV (cC (.int 2))) (eqG false))) (gApp 6 (bin (toV (cLst (aCons (cVar 3) (aCons (cVar 3) (aCons (bin (toV (cC (.int 1))) (toV (cCall 2 (aCons (cVar 0) (aCons (cVar 1) aNil)) (S__law_draw a))) addD) aNil))))) (toV (cCall 2 (aCons (cVar 0) (aCons (cC (.int 3)) aNil)) (S__law_draw a))) ixD)) (gIf (tBl (bin (vVar 4) (toV (cC (.int 3))) (eqG false))) (gSet 6 (bin (vVar 6) (toV (bin (vVar 1) (toV (cCall 2 (aCons (cVar 0) (aCons (cVar 1) aNil)) (S__law_draw a))) ldn)) addD)) (gSet 6 (bin (vVar 6) (toV (bin (toV (bin (toV (cC (.int 1))) (toV (cCall 2 (aCons (cVar 0) (aCons (cVar 1) aNil)) (S__law_draw a))) addD)) (toV (bin (vVar 1) (toV (cC (.int 1))) addD)) lrg2)) addD)))))
theorem let_body {size most low kind many : Int} {l : List Int} (s0 : 2 ≤ size) (s1 : size ≤ 6) (w0 : 1 ≤ low) (w1 : low ≤ size - 1) (hb : Lb size l) (hl : l.length ≤ 100) :
    Dw T 2 (bLet a [.val .drw, .val (.int size), .val (.int most), .val (.int low), .val (.int kind), .val (.int many), .own (nis l)]) (fun f => ∃ l', f = .nx [.val .drw, .val (.int size), .val (.int most), .val (.int low), .val (.int kind), .val (.int many), .own (nis l')] ∧ Lb size l' ∧ l.length < l'.length ∧ l'.length ≤ l.length + 6) := by
  have hlen : (nis l).length < 100000 := by rw [List.length_map]; omega
  unfold bLet
  by_cases k0 : kind = 0
  · simp only [bnd_ret, bnd_nn, bnd_rse, bnd_ite, bnd_bnd, semOf, gSeq, gNx, gSet, gDrop, gRet, gRetV, gRetN, gIf, gBk, gCt, gFrz, frz, gApp, gExt, gSetI, gAsg, gPar, gPop, gSetPop, gAppPop, gRaise, gFld, cVar, vVar, cC, toV, bin, una, aNil, aCons, cTup, cLst, rNil, rCons, setAll, addD, subD, negD, cmpD, notD, cCall, cMeth, cMeth0, cMake, objR, tV, truD, tNotD, tAndD, tOrD, tBl, andV, orV, cIf, chain, oNone, oSome, cSl, slD, ixD, lenD, tupleD, listD, cDict, tgN, tgS, tgT, tgs, wSeq, wEn, R.sl, R.d, Sl.isIns, oneIns, List.getElem?_cons_zero, List.getElem?_cons_succ, List.getElem?_nil, List.set_cons_zero, List.set_cons_succ, List.map_cons, List.map_nil, List.length_cons, List.length_nil, List.nil_append, List.cons_append, List.append_nil, List.replicate, List.all_cons, List.all_nil, Nat.reduceSub, Nat.reduceAdd, Nat.reduceLeDiff, Nat.reduceLT, Nat.reduceEqDiff, if_true, if_false, ite_true, ite_false, Bool.not_true, Bool.not_false, Bool.true_and, Bool.and_true, Bool.false_and, Bool.and_false, Bool.true_or, Bool.or_true, Bool.false_or, Bool.or_false, decide_true, decide_false, Bool.false_eq_true, reduceCtorEq, true_and, and_true, List.mem_cons_self, eq_ii, k0, Bool.false_xor]
    refine (Dw.bnd (k := 1) (j := 0) (by decide) (by decide) (draw_ (lim := size) (by omega) (by omega)) fun r hr => ?_).le (by decide)
    obtain ⟨z, rfl, z0, z1⟩ := hr
    simp only [bnd_ret, bnd_nn, bnd_rse, bnd_ite, bnd_bnd, semOf, gSeq, gNx, gSet, gDrop, gRet, gRetV, gRetN, gIf, gBk, gCt, gFrz, frz, gApp, gExt, gSetI, gAsg, gPar, gPop, gSetPop, gAppPop, gRaise, gFld, cVar, vVar, cC, toV, bin, una, aNil, aCons, cTup, cLst, rNil, rCons, setAll, addD, subD, negD, cmpD, notD, cCall, cMeth, cMeth0, cMake, objR, tV, truD, tNotD, tAndD, tOrD, tBl, andV, orV, cIf, chain, oNone, oSome, cSl, slD, ixD, lenD, tupleD, listD, cDict, tgN, tgS, tgT, tgs, wSeq, wEn, R.sl, R.d, Sl.isIns, oneIns, List.getElem?_cons_zero, List.getElem?_cons_succ, List.getElem?_nil, List.set_cons_zero, List.set_cons_succ, List.map_cons, List.map_nil, List.length_cons, List.length_nil, List.nil_append, List.cons_append, List.append_nil, List.replicate, List.all_cons, List.all_nil, Nat.reduceSub, Nat.reduceAdd, Nat.reduceLeDiff, Nat.reduceLT, Nat.reduceEqDiff, if_true, if_false, ite_true, ite_false, Bool.not_true, Bool.not_false, Bool.true_and, Bool.and_true, Bool.false_and, Bool.and_false, Bool.true_or, Bool.or_true, Bool.false_or, Bool.or_false, decide_true, decide_false, Bool.false_eq_true, reduceCtorEq, true_and, and_true, List.mem_cons_self, hlen]
    exact Dw.ret (by decide) ⟨l ++ [1 + z], by rw [nis_snoc], hb.snoc (by omega) (by omega), by simp, by simp⟩
  by_cases k1 : kind = 1
  · simp only [bnd_ret, bnd_nn, bnd_rse, bnd_ite, bnd_bnd, semOf, gSeq, gNx, gSet, gDrop, gRet, gRetV, gRetN, gIf, gBk, gCt, gFrz, frz, gApp, gExt, gSetI, gAsg, gPar, gPop, gSetPop, gAppPop, gRaise, gFld, cVar, vVar, cC, toV, bin, una, aNil, aCons, cTup, cLst, rNil, rCons, setAll, addD, subD, negD, cmpD, notD, cCall, cMeth, cMeth0, cMake, objR, tV, truD, tNotD, tAndD, tOrD, tBl, andV, orV, cIf, chain, oNone, oSome, cSl, slD, ixD, lenD, tupleD, listD, cDict, tgN, tgS, tgT, tgs, wSeq, wEn, R.sl, R.d, Sl.isIns, oneIns, List.getElem?_cons_zero, List.getElem?_cons_succ, List.getElem?_nil, List.set_cons_zero, List.set_cons_succ, List.map_cons, List.map_nil, List.length_cons, List.length_nil, List.nil_append, List.cons_append, List.append_nil, List.replicate, List.all_cons, List.all_nil, Nat.reduceSub, Nat.reduceAdd, Nat.reduceLeDiff, Nat.reduceLT, Nat.reduceEqDiff, if_true, if_false, ite_true, ite_false, Bool.not_true, Bool.not_false, Bool.true_and, Bool.and_true, Bool.false_and, Bool.and_false, Bool.true_or, Bool.or_true, Bool.false_or, Bool.or_false, decide_true, decide_false, Bool.false_eq_true, reduceCtorEq, true_and, and_true, List.mem_cons_self, eq_ii, k1, Bool.false_xor, show ¬ (1 : Int) = 0 by decide]
    refine (Dw.bnd (k := 1) (j := 0) (by decide) (by decide) (draw_ (lim := 2) (by decide) (by decide)) fun r hr => ?_).le (by decide)
    obtain ⟨z, rfl, z0, z1⟩ := hr
    simp only [bnd_ret, bnd_nn, bnd_rse, bnd_ite, bnd_bnd, semOf, gSeq, gNx, gSet, gDrop, gRet, gRetV, gRetN, gIf, gBk, gCt, gFrz, frz, gApp, gExt, gSetI, gAsg, gPar, gPop, gSetPop, gAppPop, gRaise, gFld, cVar, vVar, cC, toV, bin, una, aNil, aCons, cTup, cLst, rNil, rCons, setAll, addD, subD, negD, cmpD, notD, cCall, cMeth, cMeth0, cMake, objR, tV, truD, tNotD, tAndD, tOrD, tBl, andV, orV, cIf, chain, oNone, oSome, cSl, slD, ixD, lenD, tupleD, listD, cDict, tgN, tgS, tgT, tgs, wSeq, wEn, R.sl, R.d, Sl.isIns, oneIns, List.getElem?_cons_zero, List.getElem?_cons_succ, List.getElem?_nil, List.set_cons_zero, List.set_cons_succ, List.map_cons, List.map_nil, List.length_cons, List.length_nil, List.nil_append, List.cons_append, List.append_nil, List.replicate, List.all_cons, List.all_nil, Nat.reduceSub, Nat.reduceAdd, Nat.reduceLeDiff, Nat.reduceLT, Nat.reduceEqDiff, if_true, if_false, ite_true, ite_false, Bool.not_true, Bool.not_false, Bool.true_and, Bool.and_true, Bool.false_and, Bool.and_false, Bool.true_or, Bool.or_true, Bool.false_or, Bool.or_false, decide_true, decide_false, Bool.false_eq_true, reduceCtorEq, true_and, and_true, List.mem_cons_self, hlen]
    exact Dw.ret (by decide) ⟨l ++ [low + z], by rw [nis_snoc], hb.snoc (by omega) (by omega), by simp, by simp⟩
  by_cases k2 : kind = 2
  · simp only [bnd_ret, bnd_nn, bnd_rse, bnd_ite, bnd_bnd, semOf, gSeq, gNx, gSet, gDrop, gRet, gRetV, gRetN, gIf, gBk, gCt, gFrz, frz, gApp, gExt, gSetI, gAsg, gPar, gPop, gSetPop, gAppPop, gRaise, gFld, cVar, vVar, cC, toV, bin, una, aNil, aCons, cTup, cLst, rNil, rCons, setAll, addD, subD, negD, cmpD, notD, cCall, cMeth, cMeth0, cMake, objR, tV, truD, tNotD, tAndD, tOrD, tBl, andV, orV, cIf, chain, oNone, oSome, cSl, slD, ixD, lenD, tupleD, listD, cDict, tgN, tgS, tgT, tgs, wSeq, wEn, R.sl, R.d, Sl.isIns, oneIns, List.getElem?_cons_zero, List.getElem?_cons_succ, List.getElem?_nil, List.set_cons_zero, List.set_cons_succ, List.map_cons, List.map_nil, List.length_cons, List.length_nil, List.nil_append, List.cons_append, List.append_nil, List.replicate, List.all_cons, List.all_nil, Nat.reduceSub, Nat.reduceAdd, Nat.reduceLeDiff, Nat.reduceLT, Nat.reduceEqDiff, if_true, if_false, ite_true, ite_false, Bool.not_true, Bool.not_false, Bool.true_and, Bool.and_true, Bool.false_and, Bool.and_false, Bool.true_or, Bool.or_true, Bool.false_or, Bool.or_false, decide_true, decide_false, Bool.false_eq_true, reduceCtorEq, true_and, and_true, List.mem_cons_self, eq_ii, k2, Bool.false_xor, show ¬ (2 : Int) = 0 by decide, show ¬ (2 : Int) = 1 by decide]
    refine Dw.bnd (k := 1) (j := 1) (by decide) (by decide) (draw_ (lim := size) (by omega) (by omega)) fun r hr => ?_
    obtain ⟨z, rfl, z0, z1⟩ := hr
    simp only [bnd_ret, bnd_nn, bnd_rse, bnd_ite, bnd_bnd, semOf, gSeq, gNx, gSet, gDrop, gRet, gRetV, gRetN, gIf, gBk, gCt, gFrz, frz, gApp, gExt, gSetI, gAsg, gPar, gPop, gSetPop, gAppPop, gRaise, gFld, cVar, vVar, cC, toV, bin, una, aNil, aCons, cTup, cLst, rNil, rCons, setAll, addD, subD, negD, cmpD, notD, cCall, cMeth, cMeth0, cMake, objR, tV, truD, tNotD, tAndD, tOrD, tBl, andV, orV, cIf, chain, oNone, oSome, cSl, slD, ixD, lenD, tupleD, listD, cDict, tgN, tgS, tgT, tgs, wSeq, wEn, R.sl, R.d, Sl.isIns, oneIns, List.getElem?_cons_zero, List.getElem?_cons_succ, List.getElem?_nil, List.set_cons_zero, List.set_cons_succ, List.map_cons, List.map_nil, List.length_cons, List.length_nil, List.nil_append, List.cons_append, List.append_nil, List.replicate, List.all_cons, List.all_nil, Nat.reduceSub, Nat.reduceAdd, Nat.reduceLeDiff, Nat.reduceLT, Nat.reduceEqDiff, if_true, if_false, ite_true, ite_false, Bool.not_true, Bool.not_false, Bool.true_and, Bool.and_true, Bool.false_and, Bool.and_false, Bool.true_or, Bool.or_true, Bool.false_or, Bool.or_false, decide_true, decide_false, Bool.false_eq_true, reduceCtorEq, true_and, and_true, List.mem_cons_self]
    refine Dw.bnd (k := 1) (j := 0) (by decide) (by decide) (draw_ (lim := 3) (by decide) (by decide)) fun r hr => ?_
    obtain ⟨y, rfl, y0, y1⟩ := hr
    obtain ⟨x, hx, x0, x1⟩ : ∃ x, L2.atI [Dt.int low, .int low, .int (1 + z)] y = some (.int x) ∧ 1 ≤ x ∧ x ≤ size := by
      have : y = 0 ∨ y = 1 ∨ y = 2 := by omega
      rcases this with rfl | rfl | rfl
      · exact ⟨low, rfl, by omega, by omega⟩
      · exact ⟨low, rfl, by omega, by omega⟩
      · exact ⟨1 + z, rfl, by omega, by omega⟩
    simp only [bnd_ret, bnd_nn, bnd_rse, bnd_ite, bnd_bnd, semOf, gSeq, gNx, gSet, gDrop, gRet, gRetV, gRetN, gIf, gBk, gCt, gFrz, frz, gApp, gExt, gSetI, gAsg, gPar, gPop, gSetPop, gAppPop, gRaise, gFld, cVar, vVar, cC, toV, bin, una, aNil, aCons, cTup, cLst, rNil, rCons, setAll, addD, subD, negD, cmpD, notD, cCall, cMeth, cMeth0, cMake, objR, tV, truD, tNotD, tAndD, tOrD, tBl, andV, orV, cIf, chain, oNone, oSome, cSl, slD, ixD, lenD, tupleD, listD, cDict, tgN, tgS, tgT, tgs, wSeq, wEn, R.sl, R.d, Sl.isIns, oneIns, List.getElem?_cons_zero, List.getElem?_cons_succ, List.getElem?_nil, List.set_cons_zero, List.set_cons_succ, List.map_cons, List.map_nil, List.length_cons, List.length_nil, List.nil_append, List.cons_append, List.append_nil, List.replicate, List.all_cons, List.all_nil, Nat.reduceSub, Nat.reduceAdd, Nat.reduceLeDiff, Nat.reduceLT, Nat.reduceEqDiff, if_true, if_false, ite_true, ite_false, Bool.not_true, Bool.not_false, Bool.true_and, Bool.and_true, Bool.false_and, Bool.and_false, Bool.true_or, Bool.or_true, Bool.false_or, Bool.or_false, decide_true, decide_false, Bool.false_eq_true, reduceCtorEq, true_and, and_true, List.mem_cons_self, hx, hlen]
    exact Dw.ret (by decide) ⟨l ++ [x], by rw [nis_snoc], hb.snoc x0 x1, by simp, by simp⟩
  by_cases k3 : kind = 3
  · simp only [bnd_ret, bnd_nn, bnd_rse, bnd_ite, bnd_bnd, semOf, gSeq, gNx, gSet, gDrop, gRet, gRetV, gRetN, gIf, gBk, gCt, gFrz, frz, gApp, gExt, gSetI, gAsg, gPar, gPop, gSetPop, gAppPop, gRaise, gFld, cVar, vVar, cC, toV, bin, una, aNil, aCons, cTup, cLst, rNil, rCons, setAll, addD, subD, negD, cmpD, notD, cCall, cMeth, cMeth0, cMake, objR, tV, truD, tNotD, tAndD, tOrD, tBl, andV, orV, cIf, chain, oNone, oSome, cSl, slD, ixD, lenD, tupleD, listD, cDict, tgN, tgS, tgT, tgs, wSeq, wEn, R.sl, R.d, Sl.isIns, oneIns, List.getElem?_cons_zero, List.getElem?_cons_succ, List.getElem?_nil, List.set_cons_zero, List.set_cons_succ, List.map_cons, List.map_nil, List.length_cons, List.length_nil, List.nil_append, List.cons_append, List.append_nil, List.replicate, List.all_cons, List.all_nil, Nat.reduceSub, Nat.reduceAdd, Nat.reduceLeDiff, Nat.reduceLT, Nat.reduceEqDiff, if_true, if_false, ite_true, ite_false, Bool.not_true, Bool.not_false, Bool.true_and, Bool.and_true, Bool.false_and, Bool.and_false, Bool.true_or, Bool.or_true, Bool.false_or, Bool.or_false, decide_true, decide_false, Bool.false_eq_true, reduceCtorEq, true_and, and_true, List.mem_cons_self, eq_ii, k3, Bool.false_xor, show ¬ (3 : Int) = 0 by decide, show ¬ (3 : Int) = 1 by decide, show ¬ (3 : Int) = 2 by decide]
    refine (Dw.bnd (k := 1) (j := 0) (by decide) (by decide) (draw_ (lim := size) (by omega) (by omega)) fun r hr => ?_).le (by decide)
    obtain ⟨z, rfl, z0, z1⟩ := hr
    have hbd : -1000 ≤ size ∧ size ≤ 1000 ∧ -1000 ≤ z ∧ z ≤ 1000 := by omega
    have hd : (dnI size z).length = (size - z).toNat := by unfold dnI; rw [List.length_map, List.length_range]
    have hll : (nis l).length + (nis (dnI size z)).length ≤ 100000 := by rw [List.length_map, List.length_map, hd]; omega
    simp only [bnd_ret, bnd_nn, bnd_rse, bnd_ite, bnd_bnd, semOf, gSeq, gNx, gSet, gDrop, gRet, gRetV, gRetN, gIf, gBk, gCt, gFrz, frz, gApp, gExt, gSetI, gAsg, gPar, gPop, gSetPop, gAppPop, gRaise, gFld, cVar, vVar, cC, toV, bin, una, aNil, aCons, cTup, cLst, rNil, rCons, setAll, addD, subD, negD, cmpD, notD, cCall, cMeth, cMeth0, cMake, objR, tV, truD, tNotD, tAndD, tOrD, tBl, andV, orV, cIf, chain, oNone, oSome, cSl, slD, ixD, lenD, tupleD, listD, cDict, tgN, tgS, tgT, tgs, wSeq, wEn, R.sl, R.d, Sl.isIns, oneIns, List.getElem?_cons_zero, List.getElem?_cons_succ, List.getElem?_nil, List.set_cons_zero, List.set_cons_succ, List.map_cons, List.map_nil, List.length_cons, List.length_nil, List.nil_append, List.cons_append, List.append_nil, List.replicate, List.all_cons, List.all_nil, Nat.reduceSub, Nat.reduceAdd, Nat.reduceLeDiff, Nat.reduceLT, Nat.reduceEqDiff, if_true, if_false, ite_true, ite_false, Bool.not_true, Bool.not_false, Bool.true_and, Bool.and_true, Bool.false_and, Bool.and_false, Bool.true_or, Bool.or_true, Bool.false_or, Bool.or_false, decide_true, decide_false, Bool.false_eq_true, reduceCtorEq, true_and, and_true, List.mem_cons_self, ldn, hbd, dnD_eq, hll]
    refine Dw.ret (by decide) ⟨l ++ dnI size z, by unfold nis; rw [List.map_append], hb.app fun x hx => ?_, by rw [List.length_append, hd]; omega, by rw [List.length_append, hd]; omega⟩
    obtain ⟨n, hn, rfl⟩ := List.mem_map.mp hx
    have := List.mem_range.mp hn
    omega
  · simp only [bnd_ret, bnd_nn, bnd_rse, bnd_ite, bnd_bnd, semOf, gSeq, gNx, gSet, gDrop, gRet, gRetV, gRetN, gIf, gBk, gCt, gFrz, frz, gApp, gExt, gSetI, gAsg, gPar, gPop, gSetPop, gAppPop, gRaise, gFld, cVar, vVar, cC, toV, bin, una, aNil, aCons, cTup, cLst, rNil, rCons, setAll, addD, subD, negD, cmpD, notD, cCall, cMeth, cMeth0, cMake, objR, tV, truD, tNotD, tAndD, tOrD, tBl, andV, orV, cIf, chain, oNone, oSome, cSl, slD, ixD, lenD, tupleD, listD, cDict, tgN, tgS, tgT, tgs, wSeq, wEn, R.sl, R.d, Sl.isIns, oneIns, List.getElem?_cons_zero, List.getElem?_cons_succ, List.getElem?_nil, List.set_cons_zero, List.set_cons_succ, List.map_cons, List.map_nil, List.length_cons, List.length_nil, List.nil_append, List.cons_append, List.append_nil, List.replicate, List.all_cons, List.all_nil, Nat.reduceSub, Nat.reduceAdd, Nat.reduceLeDiff, Nat.reduceLT, Nat.reduceEqDiff, if_true, if_false, ite_true, ite_false, Bool.not_true, Bool.not_false, Bool.true_and, Bool.and_true, Bool.false_and, Bool.and_false, Bool.true_or, Bool.or_true, Bool.false_or, Bool.or_false, decide_true, decide_false, Bool.false_eq_true, reduceCtorEq, true_and, and_true, List.mem_cons_self, eq_ii, k0, k1, k2, k3, Bool.false_xor]
    refine (Dw.bnd (k := 1) (j := 0) (by decide) (by decide) (draw_ (lim := size) (by omega) (by omega)) fun r hr => ?_).le (by decide)
    obtain ⟨z, rfl, z0, z1⟩ := hr
    have hbd : -100000 ≤ 1 + z ∧ 1 + z ≤ 100000 ∧ -100000 ≤ size + 1 ∧ size + 1 ≤ 100000 := by omega
    have hd : (upI (1 + z) (size + 1)).length = (size + 1 - (1 + z)).toNat := by unfold upI; rw [List.length_map, List.length_range]
    have hll : (nis l).length + (nis (upI (1 + z) (size + 1))).length ≤ 100000 := by rw [List.length_map, List.length_map, hd]; omega
    simp only [bnd_ret, bnd_nn, bnd_rse, bnd_ite, bnd_bnd, semOf, gSeq, gNx, gSet, gDrop, gRet, gRetV, gRetN, gIf, gBk, gCt, gFrz, frz, gApp, gExt, gSetI, gAsg, gPar, gPop, gSetPop, gAppPop, gRaise, gFld, cVar, vVar, cC, toV, bin, una, aNil, aCons, cTup, cLst, rNil, rCons, setAll, addD, subD, negD, cmpD, notD, cCall, cMeth, cMeth0, cMake, objR, tV, truD, tNotD, tAndD, tOrD, tBl, andV, orV, cIf, chain, oNone, oSome, cSl, slD, ixD, lenD, tupleD, listD, cDict, tgN, tgS, tgT, tgs, wSeq, wEn, R.sl, R.d, Sl.isIns, oneIns, List.getElem?_cons_zero, List.getElem?_cons_succ, List.getElem?_nil, List.set_cons_zero, List.set_cons_succ, List.map_cons, List.map_nil, List.length_cons, List.length_nil, List.nil_append, List.cons_append, List.append_nil, List.replicate, List.all_cons, List.all_nil, Nat.reduceSub, Nat.reduceAdd, Nat.reduceLeDiff, Nat.reduceLT, Nat.reduceEqDiff, if_true, if_false, ite_true, ite_false, Bool.not_true, Bool.not_false, Bool.true_and, Bool.and_true, Bool.false_and, Bool.and_false, Bool.true_or, Bool.or_true, Bool.false_or, Bool.or_false, decide_true, decide_false, Bool.false_eq_true, reduceCtorEq, true_and, and_true, List.mem_cons_self, lrg2, hbd, rgD_eq, hll]
    refine Dw.ret (by decide) ⟨l ++ upI (1 + z) (size + 1), by unfold nis; rw [List.map_append], hb.app fun x hx => ?_, by rw [List.length_append, hd]; omega, by rw [List.length_append, hd]; omega⟩
    obtain ⟨n, hn, rfl⟩ := List.mem_map.mp hx
    have := List.mem_range.mp hn
    omega
theorem let_loop {size most low kind many : Int} (s0 : 2 ≤ size) (s1 : size ≤ 6) (w0 : 1 ≤ low) (w1 : low ≤ size - 1) (m1 : many ≤ 50) : ∀ (m : Nat) (l : List Int), many ≤ m + l.length → Lb size l → l.length ≤ 60 →
    Dw T (2 * m) (gWhile tLet (bLet a) [.val .drw, .val (.int size), .val (.int most), .val (.int low), .val (.int kind), .val (.int many), .own (nis l)]) (fun f => ∃ l', f = .nx [.val .drw, .val (.int size), .val (.int most), .val (.int low), .val (.int kind), .val (.int many), .own (nis l')] ∧ Lb size l' ∧ many ≤ l'.length ∧ l'.length ≤ 60)
  | m, l, hm, hb, hl => by
    rw [gWhile_eq1]
    by_cases c : (l.length : Int) < many
    · have et : tLet [.val .drw, .val (.int size), .val (.int most), .val (.int low), .val (.int kind), .val (.int many), .own (nis l)] = DL.M.ret true := by
        unfold tLet
        simp only [bnd_ret, bnd_nn, bnd_rse, bnd_ite, bnd_bnd, semOf, gSeq, gNx, gSet, gDrop, gRet, gRetV, gRetN, gIf, gBk, gCt, gFrz, frz, gApp, gExt, gSetI, gAsg, gPar, gPop, gSetPop, gAppPop, gRaise, gFld, cVar, vVar, cC, toV, bin, una, aNil, aCons, cTup, cLst, rNil, rCons, setAll, addD, subD, negD, cmpD, notD, cCall, cMeth, cMeth0, cMake, objR, tV, truD, tNotD, tAndD, tOrD, tBl, andV, orV, cIf, chain, oNone, oSome, cSl, slD, ixD, lenD, tupleD, listD, cDict, tgN, tgS, tgT, tgs, wSeq, wEn, R.sl, R.d, Sl.isIns, oneIns, List.getElem?_cons_zero, List.getElem?_cons_succ, List.getElem?_nil, List.set_cons_zero, List.set_cons_succ, List.map_cons, List.map_nil, List.length_cons, List.length_nil, List.nil_append, List.cons_append, List.append_nil, List.replicate, List.all_cons, List.all_nil, Nat.reduceSub, Nat.reduceAdd, Nat.reduceLeDiff, Nat.reduceLT, Nat.reduceEqDiff, if_true, if_false, ite_true, ite_false, Bool.not_true, Bool.not_false, Bool.true_and, Bool.and_true, Bool.false_and, Bool.and_false, Bool.true_or, Bool.or_true, Bool.false_or, Bool.or_false, decide_true, decide_false, Bool.false_eq_true, reduceCtorEq, true_and, and_true, List.mem_cons_self, List.length_map, c]
      rw [et, bnd_ret, if_pos rfl]
      obtain ⟨m', rfl⟩ : ∃ m', m = m' + 1 := ⟨m - 1, by omega⟩
      have e : (2 : Int) * ((m' + 1 : Nat) : Int) = 2 + 2 * (m' : Int) := by omega
      rw [e]
      refine Dw.bnd (by decide) (by omega) (let_body (a := a) (T := T) s0 s1 w0 w1 hb (by omega)) fun f hf => ?_
      obtain ⟨l', rfl, b', h1, h2⟩ := hf
      exact let_loop s0 s1 w0 w1 m1 m' l' (by omega) b' (by omega)
    · have et : tLet [.val .drw, .val (.int size), .val (.int most), .val (.int low), .val (.int kind), .val (.int many), .own (nis l)] = DL.M.ret false := by
        unfold tLet
        simp only [bnd_ret, bnd_nn, bnd_rse, bnd_ite, bnd_bnd, semOf, gSeq, gNx, gSet, gDrop, gRet, gRetV, gRetN, gIf, gBk, gCt, gFrz, frz, gApp, gExt, gSetI, gAsg, gPar, gPop, gSetPop, gAppPop, gRaise, gFld, cVar, vVar, cC, toV, bin, una, aNil, aCons, cTup, cLst, rNil, rCons, setAll, addD, subD, negD, cmpD, notD, cCall, cMeth, cMeth0, cMake, objR, tV, truD, tNotD, tAndD, tOrD, tBl, andV, orV, cIf, chain, oNone, oSome, cSl, slD, ixD, lenD, tupleD, listD, cDict, tgN, tgS, tgT, tgs, wSeq, wEn, R.sl, R.d, Sl.isIns, oneIns, List.getElem?_cons_zero, List.getElem?_cons_succ, List.getElem?_nil, List.set_cons_zero, List.set_cons_succ, List.map_cons, List.map_nil, List.length_cons, List.length_nil, List.nil_append, List.cons_append, List.append_nil, List.replicate, List.all_cons, List.all_nil, Nat.reduceSub, Nat.reduceAdd, Nat.reduceLeDiff, Nat.reduceLT, Nat.reduceEqDiff, if_true, if_false, ite_true, ite_false, Bool.not_true, Bool.not_false, Bool.true_and, Bool.and_true, Bool.false_and, Bool.and_false, Bool.true_or, Bool.or_true, Bool.false_or, Bool.or_false, decide_true, decide_false, Bool.false_eq_true, reduceCtorEq, true_and, and_true, List.mem_cons_self, List.length_map, c]
      rw [et, bnd_ret, if_neg (by decide)]
      exact Dw.ret (by omega) ⟨l, rfl, hb, by omega, hl⟩
termination_by m => m
theorem letters_ {size most : Int} (s0 : 2 ≤ size) (s1 : size ≤ 6) (m0 : 0 ≤ most) (m1 : most ≤ 40) : Dw T 103 (S__law_letters a [.drw, .int size, .int most]) (fun r => ∃ l, r = .new (nis l) ∧ Lb size l ∧ (l.length : Int) ≤ most) := by
  unfold S__law_letters
  simp only [bnd_ret, bnd_nn, bnd_rse, bnd_ite, bnd_bnd, semOf, gSeq, gNx, gSet, gDrop, gRet, gRetV, gRetN, gIf, gBk, gCt, gFrz, frz, gApp, gExt, gSetI, gAsg, gPar, gPop, gSetPop, gAppPop, gRaise, gFld, cVar, vVar, cC, toV, bin, una, aNil, aCons, cTup, cLst, rNil, rCons, setAll, addD, subD, negD, cmpD, notD, cCall, cMeth, cMeth0, cMake, objR, tV, truD, tNotD, tAndD, tOrD, tBl, andV, orV, cIf, chain, oNone, oSome, cSl, slD, ixD, lenD, tupleD, listD, cDict, tgN, tgS, tgT, tgs, wSeq, wEn, R.sl, R.d, Sl.isIns, oneIns, List.getElem?_cons_zero, List.getElem?_cons_succ, List.getElem?_nil, List.set_cons_zero, List.set_cons_succ, List.map_cons, List.map_nil, List.length_cons, List.length_nil, List.nil_append, List.cons_append, List.append_nil, List.replicate, List.all_cons, List.all_nil, Nat.reduceSub, Nat.reduceAdd, Nat.reduceLeDiff, Nat.reduceLT, Nat.reduceEqDiff, if_true, if_false, ite_true, ite_false, Bool.not_true, Bool.not_false, Bool.true_and, Bool.and_true, Bool.false_and, Bool.and_false, Bool.true_or, Bool.or_true, Bool.false_or, Bool.or_false, decide_true, decide_false, Bool.false_eq_true, reduceCtorEq, true_and, and_true, List.mem_cons_self]
  refine Dw.bnd (k := 1) (j := 102) (by decide) (by decide) (draw_ (lim := 5) (by decide) (by decide)) fun r hr => ?_
  obtain ⟨kind, rfl, k0, k1⟩ := hr
  simp only [bnd_ret, bnd_nn, bnd_rse, bnd_ite, bnd_bnd, semOf, gSeq, gNx, gSet, gDrop, gRet, gRetV, gRetN, gIf, gBk, gCt, gFrz, frz, gApp, gExt, gSetI, gAsg, gPar, gPop, gSetPop, gAppPop, gRaise, gFld, cVar, vVar, cC, toV, bin, una, aNil, aCons, cTup, cLst, rNil, rCons, setAll, addD, subD, negD, cmpD, notD, cCall, cMeth, cMeth0, cMake, objR, tV, truD, tNotD, tAndD, tOrD, tBl, andV, orV, cIf, chain, oNone, oSome, cSl, slD, ixD, lenD, tupleD, listD, cDict, tgN, tgS, tgT, tgs, wSeq, wEn, R.sl, R.d, Sl.isIns, oneIns, List.getElem?_cons_zero, List.getElem?_cons_succ, List.getElem?_nil, List.set_cons_zero, List.set_cons_succ, List.map_cons, List.map_nil, List.length_cons, List.length_nil, List.nil_append, List.cons_append, List.append_nil, List.replicate, List.all_cons, List.all_nil, Nat.reduceSub, Nat.reduceAdd, Nat.reduceLeDiff, Nat.reduceLT, Nat.reduceEqDiff, if_true, if_false, ite_true, ite_false, Bool.not_true, Bool.not_false, Bool.true_and, Bool.and_true, Bool.false_and, Bool.and_false, Bool.true_or, Bool.or_true, Bool.false_or, Bool.or_false, decide_true, decide_false, Bool.false_eq_true, reduceCtorEq, true_and, and_true, List.mem_cons_self]
  refine Dw.bnd (k := 1) (j := 101) (by decide) (by decide) (draw_ (lim := most + 1) (by omega) (by omega)) fun r hr => ?_
  obtain ⟨many, rfl, n0, n1⟩ := hr
  simp only [bnd_ret, bnd_nn, bnd_rse, bnd_ite, bnd_bnd, semOf, gSeq, gNx, gSet, gDrop, gRet, gRetV, gRetN, gIf, gBk, gCt, gFrz, frz, gApp, gExt, gSetI, gAsg, gPar, gPop, gSetPop, gAppPop, gRaise, gFld, cVar, vVar, cC, toV, bin, una, aNil, aCons, cTup, cLst, rNil, rCons, setAll, addD, subD, negD, cmpD, notD, cCall, cMeth, cMeth0, cMake, objR, tV, truD, tNotD, tAndD, tOrD, tBl, andV, orV, cIf, chain, oNone, oSome, cSl, slD, ixD, lenD, tupleD, listD, cDict, tgN, tgS, tgT, tgs, wSeq, wEn, R.sl, R.d, Sl.isIns, oneIns, List.getElem?_cons_zero, List.getElem?_cons_succ, List.getElem?_nil, List.set_cons_zero, List.set_cons_succ, List.map_cons, List.map_nil, List.length_cons, List.length_nil, List.nil_append, List.cons_append, List.append_nil, List.replicate, List.all_cons, List.all_nil, Nat.reduceSub, Nat.reduceAdd, Nat.reduceLeDiff, Nat.reduceLT, Nat.reduceEqDiff, if_true, if_false, ite_true, ite_false, Bool.not_true, Bool.not_false, Bool.true_and, Bool.and_true, Bool.false_and, Bool.and_false, Bool.true_or, Bool.or_true, Bool.false_or, Bool.or_false, decide_true, decide_false, Bool.false_eq_true, reduceCtorEq, true_and, and_true, List.mem_cons_self]
  refine Dw.bnd (k := 1) (j := 100) (by decide) (by decide) (draw_ (lim := size - 1) (by omega) (by omega)) fun r hr => ?_
  obtain ⟨low, rfl, w0, w1⟩ := hr
  simp only [bnd_ret, bnd_nn, bnd_rse, bnd_ite, bnd_bnd, semOf, gSeq, gNx, gSet, gDrop, gRet, gRetV, gRetN, gIf, gBk, gCt, gFrz, frz, gApp, gExt, gSetI, gAsg, gPar, gPop, gSetPop, gAppPop, gRaise, gFld, cVar, vVar, cC, toV, bin, una, aNil, aCons, cTup, cLst, rNil, rCons, setAll, addD, subD, negD, cmpD, notD, cCall, cMeth, cMeth0, cMake, objR, tV, truD, tNotD, tAndD, tOrD, tBl, andV, orV, cIf, chain, oNone, oSome, cSl, slD, ixD, lenD, tupleD, listD, cDict, tgN, tgS, tgT, tgs, wSeq, wEn, R.sl, R.d, Sl.isIns, oneIns, List.getElem?_cons_zero, List.getElem?_cons_succ, List.getElem?_nil, List.set_cons_zero, List.set_cons_succ, List.map_cons, List.map_nil, List.length_cons, List.length_nil, List.nil_append, List.cons_append, List.append_nil, List.replicate, List.all_cons, List.all_nil, Nat.reduceSub, Nat.reduceAdd, Nat.reduceLeDiff, Nat.reduceLT, Nat.reduceEqDiff, if_true, if_false, ite_true, ite_false, Bool.not_true, Bool.not_false, Bool.true_and, Bool.and_true, Bool.false_and, Bool.and_false, Bool.true_or, Bool.or_true, Bool.false_or, Bool.or_false, decide_true, decide_false, Bool.false_eq_true, reduceCtorEq, true_and, and_true, List.mem_cons_self]
  refine Dw.bnd (k := 2 * ((50 : Nat) : Int)) (j := 0) (by decide) (by decide) (let_loop (a := a) (T := T) (most := most) (kind := kind) (many := many) (low := 1 + low) s0 s1 (by omega) (by omega) (by omega) 50 [] (by simp; omega) (fun x hx => by simp at hx) (by decide)) fun f hf => ?_
  obtain ⟨l, rfl, hb, h1, h2⟩ := hf
  simp only [bnd_ret, bnd_nn, bnd_rse, bnd_ite, bnd_bnd, semOf, gSeq, gNx, gSet, gDrop, gRet, gRetV, gRetN, gIf, gBk, gCt, gFrz, frz, gApp, gExt, gSetI, gAsg, gPar, gPop, gSetPop, gAppPop, gRaise, gFld, cVar, vVar, cC, toV, bin, una, aNil, aCons, cTup, cLst, rNil, rCons, setAll, addD, subD, negD, cmpD, notD, cCall, cMeth, cMeth0, cMake, objR, tV, truD, tNotD, tAndD, tOrD, tBl, andV, orV, cIf, chain, oNone, oSome, cSl, slD, ixD, lenD, tupleD, listD, cDict, tgN, tgS, tgT, tgs, wSeq, wEn, R.sl, R.d, Sl.isIns, oneIns, List.getElem?_cons_zero, List.getElem?_cons_succ, List.getElem?_nil, List.set_cons_zero, List.set_cons_succ, List.map_cons, List.map_nil, List.length_cons, List.length_nil, List.nil_append, List.cons_append, List.append_nil, List.replicate, List.all_cons, List.all_nil, Nat.reduceSub, Nat.reduceAdd, Nat.reduceLeDiff, Nat.reduceLT, Nat.reduceEqDiff, if_true, if_false, ite_true, ite_false, Bool.not_true, Bool.not_false, Bool.true_and, Bool.and_true, Bool.false_and, Bool.and_false, Bool.true_or, Bool.or_true, Bool.false_or, Bool.or_false, decide_true, decide_false, Bool.false_eq_true, reduceCtorEq, true_and, and_true, List.mem_cons_self, cut_hi _ n0]
  refine Dw.ret (by decide) ⟨l.take many.toNat, by unfold nis; rw [List.map_take], fun x hx => hb x (List.mem_of_mem_take hx), by rw [List.length_take]; omega⟩
end Dg
namespace Dg
open PySem DL LwM
variable {a : Adr} {T : List (Addr × Str)}
theorem conv_nis : ∀ l : List Int, convs (nis l) = some (l.map PyData.int)
  | [] => rfl
  | x :: l => by
    show (match conv (.int x), convs (nis l) with | some x, some xs => some (x :: xs) | _, _ => none) = _
    rw [conv_nis l]
    rfl
theorem eq_tt (neg : Bool) (x y : List Int) : eqG neg (.tup (nis x)) (.tup (nis y)) = DL.M.ret (.val (.bl (neg ^^ decide (x = y)))) := by
  have e : ∀ l : List Int, conv (.tup (nis l)) = some (.tuple (l.map PyData.int)) := fun l => by
    show (convs (nis l)).map PyData.tuple = _
    rw [conv_nis]
    rfl
  have ev : PyData.eqv (.tuple (x.map PyData.int)) (.tuple (y.map PyData.int)) = decide (x = y) := Lw.eqv_nums x y
  refine (eqG_def _ _ _ (fun _ h => by cases h)).trans ?_
  rw [if_neg (by simp [kneD])]
  unfold eqD
  rw [e, e]
  simp only [Lw.shaped_tup, Bool.and_self, if_true, ev]
theorem eq_ss (neg : Bool) (x : Str) : eqG neg (.str x) (.str x) = DL.M.ret (.val (.bl (neg ^^ true))) := by
  show DL.M.ret (R.val (.bl (neg ^^ decide (x = x)))) = _
  rw [decide_eq_true rfl]
theorem w_in : a.w_Word ∈ ocs a := by simp [ocs]
theorem isi_w (size : Int) (ls : List Int) : isiD (ocs a) [.own a.w_Word] (wordD a size ls) = DL.M.ret (.val (.bl true)) := by
  rw [isi_obj _ _ _ _ _ w_in w_in, decide_eq_true rfl]
theorem word_eq {s1 s2 : Int} {l1 l2 : List Int} : S_Word_eq a [wordD a s1 l1, wordD a s2 l2] = DL.M.ret (.val (.bl (decide (s1 = s2 ∧ l1 = l2)))) := by
  unfold S_Word_eq
  by_cases h : s1 = s2
  · by_cases k : l1 = l2
    · simp only [bnd_ret, bnd_nn, bnd_rse, bnd_ite, bnd_bnd, semOf, gSeq, gNx, gSet, gDrop, gRet, gRetV, gRetN, gIf, gBk, gCt, gFrz, frz, gApp, gExt, gSetI, gAsg, gPar, gPop, gSetPop, gAppPop, gRaise, gFld, cVar, vVar, cC, toV, bin, una, aNil, aCons, cTup, cLst, rNil, rCons, setAll, addD, subD, negD, cmpD, notD, cCall, cMeth, cMeth0, cMake, objR, tV, truD, tNotD, tAndD, tOrD, tBl, andV, orV, cIf, chain, oNone, oSome, cSl, slD, ixD, lenD, tupleD, listD, cDict, tgN, tgS, tgT, tgs, wSeq, wEn, R.sl, R.d, Sl.isIns, oneIns, List.getElem?_cons_zero, List.getElem?_cons_succ, List.getElem?_nil, List.set_cons_zero, List.set_cons_succ, List.map_cons, List.map_nil, List.length_cons, List.length_nil, List.nil_append, List.cons_append, List.append_nil, List.replicate, List.all_cons, List.all_nil, Nat.reduceSub, Nat.reduceAdd, Nat.reduceLeDiff, Nat.reduceLT, Nat.reduceEqDiff, if_true, if_false, ite_true, ite_false, Bool.not_true, Bool.not_false, Bool.true_and, Bool.and_true, Bool.false_and, Bool.and_false, Bool.true_or, Bool.or_true, Bool.false_or, Bool.or_false, decide_true, decide_false, Bool.false_eq_true, reduceCtorEq, true_and, and_true, List.mem_cons_self, isi_w, fld_size, fld_letters, eq_ii, eq_tt, h, k, Bool.false_xor]
    · simp only [bnd_ret, bnd_nn, bnd_rse, bnd_ite, bnd_bnd, semOf, gSeq, gNx, gSet, gDrop, gRet, gRetV, gRetN, gIf, gBk, gCt, gFrz, frz, gApp, gExt, gSetI, gAsg, gPar, gPop, gSetPop, gAppPop, gRaise, gFld, cVar, vVar, cC, toV, bin, una, aNil, aCons, cTup, cLst, rNil, rCons, setAll, addD, subD, negD, cmpD, notD, cCall, cMeth, cMeth0, cMake, objR, tV, truD, tNotD, tAndD, tOrD, tBl, andV, orV, cIf, chain, oNone, oSome, cSl, slD, ixD, lenD, tupleD, listD, cDict, tgN, tgS, tgT, tgs, wSeq, wEn, R.sl, R.d, Sl.isIns, oneIns, List.getElem?_cons_zero, List.getElem?_cons_succ, List.getElem?_nil, List.set_cons_zero, List.set_cons_succ, List.map_cons, List.map_nil, List.length_cons, List.length_nil, List.nil_append, List.cons_append, List.append_nil, List.replicate, List.all_cons, List.all_nil, Nat.reduceSub, Nat.reduceAdd, Nat.reduceLeDiff, Nat.reduceLT, Nat.reduceEqDiff, if_true, if_false, ite_true, ite_false, Bool.not_true, Bool.not_false, Bool.true_and, Bool.and_true, Bool.false_and, Bool.and_false, Bool.true_or, Bool.or_true, Bool.false_or, Bool.or_false, decide_true, decide_false, Bool.false_eq_true, reduceCtorEq, true_and, and_true, List.mem_cons_self, isi_w, fld_size, fld_letters, eq_ii, eq_tt, h, k, Bool.false_xor]
  · simp only [bnd_ret, bnd_nn, bnd_rse, bnd_ite, bnd_bnd, semOf, gSeq, gNx, gSet, gDrop, gRet, gRetV, gRetN, gIf, gBk, gCt, gFrz, frz, gApp, gExt, gSetI, gAsg, gPar, gPop, gSetPop, gAppPop, gRaise, gFld, cVar, vVar, cC, toV, bin, una, aNil, aCons, cTup, cLst, rNil, rCons, setAll, addD, subD, negD, cmpD, notD, cCall, cMeth, cMeth0, cMake, objR, tV, truD, tNotD, tAndD, tOrD, tBl, andV, orV, cIf, chain, oNone, oSome, cSl, slD, ixD, lenD, tupleD, listD, cDict, tgN, tgS, tgT, tgs, wSeq, wEn, R.sl, R.d, Sl.isIns, oneIns, List.getElem?_cons_zero, List.getElem?_cons_succ, List.getElem?_nil, List.set_cons_zero, List.set_cons_succ, List.map_cons, List.map_nil, List.length_cons, List.length_nil, List.nil_append, List.cons_append, List.append_nil, List.replicate, List.all_cons, List.all_nil, Nat.reduceSub, Nat.reduceAdd, Nat.reduceLeDiff, Nat.reduceLT, Nat.reduceEqDiff, if_true, if_false, ite_true, ite_false, Bool.not_true, Bool.not_false, Bool.true_and, Bool.and_true, Bool.false_and, Bool.and_false, Bool.true_or, Bool.or_true, Bool.false_or, Bool.or_false, decide_true, decide_false, Bool.false_eq_true, reduceCtorEq, true_and, and_true, List.mem_cons_self, isi_w, fld_size, fld_letters, eq_ii, h, Bool.false_xor, false_and]
theorem repr_sm {d : Dt} {x : PyData} (h : convX d = some x) (s : LwE.smD x = true) (dp : x.depth ≤ 8) (w : LwE.wtD x ≤ 100000) : reprD d = DL.M.ret (.val (.str x.shown)) := by
  obtain ⟨h1, h2, h3⟩ := LwE.sm_all x s
  unfold reprD
  rw [h]
  simp only [if_pos (show x.showable = true ∧ x.depth ≤ 8 ∧ x.shown.length ≤ 100000 from ⟨h1, dp, by omega⟩)]
theorem convX_nis : ∀ l : List Int, convXs (nis l) = some (l.map PyData.int)
  | [] => rfl
  | x :: l => by
    show (match convX (.int x), convXs (nis l) with | some x, some xs => some (x :: xs) | _, _ => none) = _
    rw [convX_nis l]
    rfl
theorem dep_ints (l : List Int) : PyData.depthAll (l.map PyData.int) = 0 := (Lw.lay_nums l).2
theorem repr_word {size : Int} {ls : List Int} (L : Lt size ls) : reprD (.tup [.int size, .tup (nis ls)]) = DL.M.ret (.val (.str (PyData.tuple [.int size, .tuple (ls.map PyData.int)]).shown)) := by
  have s0 := L.s0
  have s1 := L.s1
  have ln := L.len
  refine repr_sm ?_ ?_ ?_ ?_
  · show (convXs [.int size, .tup (nis ls)]).map PyData.tuple = _
    have : convX (.tup (nis ls)) = some (.tuple (ls.map PyData.int)) := by
      show (convXs (nis ls)).map PyData.tuple = _
      rw [convX_nis]
      rfl
    show (match convX (.int size), convXs [.tup (nis ls)] with | some x, some xs => some (x :: xs) | _, _ => none : Option (List PyData)).map PyData.tuple = _
    have e2 : convXs [.tup (nis ls)] = some [.tuple (ls.map PyData.int)] := by
      show (match convX (.tup (nis ls)), convXs [] with | some x, some xs => some (x :: xs) | _, _ => none) = _
      rw [this]
      rfl
    rw [e2]
    rfl
  · have := LwE.sm_ints ls fun x hx => by have := L.bd x hx; omega
    have h2 : size.natAbs ≤ 100000 := by omega
    simp [LwE.smD, LwE.smA, this, h2]
  · have := dep_ints ls
    simp [PyData.depth, PyData.depthAll, this]
  · have := LwE.wt_ints ls
    simp only [LwE.wtD, LwE.wtA]
    omega
theorem is_word {size : Int} {ls : List Int} (L : Lt size ls) : S__law_is_word a [wordD a size ls, .int size, .lst (nis ls)] = DL.M.ret (.val (.bl true)) := by
  unfold S__law_is_word
  simp only [bnd_ret, bnd_nn, bnd_rse, bnd_ite, bnd_bnd, semOf, gSeq, gNx, gSet, gDrop, gRet, gRetV, gRetN, gIf, gBk, gCt, gFrz, frz, gApp, gExt, gSetI, gAsg, gPar, gPop, gSetPop, gAppPop, gRaise, gFld, cVar, vVar, cC, toV, bin, una, aNil, aCons, cTup, cLst, rNil, rCons, setAll, addD, subD, negD, cmpD, notD, cCall, cMeth, cMeth0, cMake, objR, tV, truD, tNotD, tAndD, tOrD, tBl, andV, orV, cIf, chain, oNone, oSome, cSl, slD, ixD, lenD, tupleD, listD, cDict, tgN, tgS, tgT, tgs, wSeq, wEn, R.sl, R.d, Sl.isIns, oneIns, List.getElem?_cons_zero, List.getElem?_cons_succ, List.getElem?_nil, List.set_cons_zero, List.set_cons_succ, List.map_cons, List.map_nil, List.length_cons, List.length_nil, List.nil_append, List.cons_append, List.append_nil, List.replicate, List.all_cons, List.all_nil, Nat.reduceSub, Nat.reduceAdd, Nat.reduceLeDiff, Nat.reduceLT, Nat.reduceEqDiff, if_true, if_false, ite_true, ite_false, Bool.not_true, Bool.not_false, Bool.true_and, Bool.and_true, Bool.false_and, Bool.and_false, Bool.true_or, Bool.or_true, Bool.false_or, Bool.or_false, decide_true, decide_false, Bool.false_eq_true, reduceCtorEq, true_and, and_true, List.mem_cons_self, isi_w, fld_size, fld_letters, repr_word L, eq_ss, Bool.false_xor]
theorem heard_ok {P : Addr} {q : Str} {f : List Sl → DL.M R} {δ : List Sl} {r : R} (ht : tabOk P q T) (h : f δ = DL.M.ret r) : Dw T 0 (cHeard a.ec usd P q f δ) (fun x => x = .new [r.d]) := fun s h0 h1 hT => by
  refine ⟨.new [r.d], s, ?_, rfl, by omega, by omega, hT⟩
  unfold cHeard
  rw [hT, if_pos ht, h]
  rfl
theorem heard_no {P : Addr} {q : Str} {f : List Sl → DL.M R} {δ : List Sl} {e : Exn} {d : Dt} (ht : tabOk P q T) (h : f δ = DL.M.rse e) (hx : heardX a.ec usd e = some d) : Dw T 0 (cHeard a.ec usd P q f δ) (fun x => x = .val d) := fun s h0 h1 hT => by
  refine ⟨.val d, s, ?_, rfl, by omega, by omega, hT⟩
  unfold cHeard
  rw [hT, if_pos ht, h]
  show (match heardX a.ec usd e with | some d => Rs.ok (R.val d) s | none => .no) = _
  rw [hx]
end Dg
namespace LwM
def rs (i : Int) (n k : Nat) : List Int := List.replicate n i ++ List.replicate k (i + 1)
end LwM
namespace DL
open PySem
theorem Dw.nx {α : Type} {T : List (Addr × Str)} {k : Int} {x : M α} {P : α → Prop} (h : Dw T k x P) : Dw T k (M.nx x) P := fun s h0 h1 ht => by
  obtain ⟨b, s1, e1, p⟩ := h s h0 h1 ht
  refine ⟨b, s1, ?_, p⟩
  unfold M.nx
  rw [e1]
end DL
namespace Dg
open PySem DL LwM
variable {a : Adr} {T : List (Addr × Str)}
theorem Lt.up {size i : Int} {ls : List Int} (L : Lt size ls) (h0 : 1 ≤ i) (h1 : i ≤ size - 1) : Lt size (upL i ls) := L.set _ (by omega) (by omega)
theorem Lt.dn {size i : Int} {ls : List Int} (L : Lt size ls) (h0 : 1 ≤ i) (h1 : i ≤ size - 1) : Lt size (dnL i ls) := L.set _ (by omega) (by omega)
theorem at0 (x : Dt) : L2.atI [x] 0 = some x := rfl
end Dg
namespace Dg
open PySem DL LwM
variable {a : Adr} {T : List (Addr × Str)}
theorem pow30 : powD (.int 10) (.int 30) = DL.M.ret (.val (.int (10 ^ 30))) := by
  show (if 0 ≤ (30 : Int) ∧ (30 : Int) ≤ 1000000 ∧ (10 : Int).natAbs < 2 ^ 64 then DL.M.ret (.val (.int ((10 : Int) ^ (30 : Int).toNat))) else DL.M.no : DL.M R) = _
  rw [if_pos (by decide)]
  rfl
end Dg
namespace Dg
open PySem DL LwM
variable {a : Adr} {T : List (Addr × Str)}
theorem like_same {n w : Nat} {d : Dt} (h : Tx n w d) (hn : n ≤ 8) (hw : w ≤ 100000) : S__law_like a [d, d] = DL.M.ret (.val (.bl true)) := by
  obtain ⟨s, e⟩ := h.repr hn hw
  unfold S__law_like
  simp only [bnd_ret, bnd_nn, bnd_rse, bnd_ite, bnd_bnd, semOf, gSeq, gNx, gSet, gDrop, gRet, gRetV, gRetN, gIf, gBk, gCt, gFrz, frz, gApp, gExt, gSetI, gAsg, gPar, gPop, gSetPop, gAppPop, gRaise, gFld, cVar, vVar, cC, toV, bin, una, aNil, aCons, cTup, cLst, rNil, rCons, setAll, addD, subD, negD, cmpD, notD, cCall, cMeth, cMeth0, cMake, objR, tV, truD, tNotD, tAndD, tOrD, tBl, andV, orV, cIf, chain, oNone, oSome, cSl, slD, ixD, lenD, tupleD, listD, cDict, tgN, tgS, tgT, tgs, wSeq, wEn, R.sl, R.d, Sl.isIns, oneIns, List.getElem?_cons_zero, List.getElem?_cons_succ, List.getElem?_nil, List.set_cons_zero, List.set_cons_succ, List.map_cons, List.map_nil, List.length_cons, List.length_nil, List.nil_append, List.cons_append, List.append_nil, List.replicate, List.all_cons, List.all_nil, Nat.reduceSub, Nat.reduceAdd, Nat.reduceLeDiff, Nat.reduceLT, Nat.reduceEqDiff, if_true, if_false, ite_true, ite_false, Bool.not_true, Bool.not_false, Bool.true_and, Bool.and_true, Bool.false_and, Bool.and_false, Bool.true_or, Bool.or_true, Bool.false_or, Bool.or_false, decide_true, decide_false, Bool.false_eq_true, reduceCtorEq, true_and, and_true, List.mem_cons_self, e, eq_ss, Bool.false_xor]
end Dg
namespace Dg
open PySem DL LwM
variable {a : Adr} {T : List (Addr × Str)}
end Dg
set_option maxHeartbeats 0
set_option pp.maxSteps 3000
namespace LwM
open Dg
end LwM
namespace DL
open PySem
end DL
namespace Dg
open PySem DL LwM
variable {a : Adr} {T : List (Addr × Str)}
end Dg
set_option maxHeartbeats 0
set_option pp.maxSteps 3000
namespace Dg
open PySem DL LwM
variable {a : Adr} {T : List (Addr × Str)}
def isW (d : Dt) : Bool := isI d && !isB d
theorem whole_ {d : Dt} (h : plainD d = true) : S_is_whole a [d] = DL.M.ret (.val (.bl (isW d))) := by
  unfold S_is_whole isW
  simp only [bnd_ret, bnd_nn, bnd_rse, bnd_ite, bnd_bnd, semOf, gSeq, gNx, gSet, gDrop, gRet, gRetV, gRetN, gIf, gBk, gCt, gFrz, frz, gApp, gExt, gSetI, gAsg, gPar, gPop, gSetPop, gAppPop, gRaise, gFld, cVar, vVar, cC, toV, bin, una, aNil, aCons, cTup, cLst, rNil, rCons, setAll, addD, subD, negD, cmpD, notD, cCall, cMeth, cMeth0, cMake, objR, tV, truD, tNotD, tAndD, tOrD, tBl, andV, orV, cIf, chain, oNone, oSome, cSl, slD, ixD, lenD, tupleD, listD, cDict, tgN, tgS, tgT, tgs, wSeq, wEn, R.sl, R.d, Sl.isIns, oneIns, List.getElem?_cons_zero, List.getElem?_cons_succ, List.getElem?_nil, List.set_cons_zero, List.set_cons_succ, List.map_cons, List.map_nil, List.length_cons, List.length_nil, List.nil_append, List.cons_append, List.append_nil, List.replicate, List.all_cons, List.all_nil, Nat.reduceSub, Nat.reduceAdd, Nat.reduceLeDiff, Nat.reduceLT, Nat.reduceEqDiff, if_true, if_false, ite_true, ite_false, Bool.not_true, Bool.not_false, Bool.true_and, Bool.and_true, Bool.false_and, Bool.and_false, Bool.true_or, Bool.or_true, Bool.false_or, Bool.or_false, decide_true, decide_false, Bool.false_eq_true, reduceCtorEq, true_and, and_true, List.mem_cons_self, isi_int _ h, isi_bool _ h]
  cases isI d <;> simp only [bnd_ret, bnd_nn, bnd_rse, bnd_ite, bnd_bnd, semOf, gSeq, gNx, gSet, gDrop, gRet, gRetV, gRetN, gIf, gBk, gCt, gFrz, frz, gApp, gExt, gSetI, gAsg, gPar, gPop, gSetPop, gAppPop, gRaise, gFld, cVar, vVar, cC, toV, bin, una, aNil, aCons, cTup, cLst, rNil, rCons, setAll, addD, subD, negD, cmpD, notD, cCall, cMeth, cMeth0, cMake, objR, tV, truD, tNotD, tAndD, tOrD, tBl, andV, orV, cIf, chain, oNone, oSome, cSl, slD, ixD, lenD, tupleD, listD, cDict, tgN, tgS, tgT, tgs, wSeq, wEn, R.sl, R.d, Sl.isIns, oneIns, List.getElem?_cons_zero, List.getElem?_cons_succ, List.getElem?_nil, List.set_cons_zero, List.set_cons_succ, List.map_cons, List.map_nil, List.length_cons, List.length_nil, List.nil_append, List.cons_append, List.append_nil, List.replicate, List.all_cons, List.all_nil, Nat.reduceSub, Nat.reduceAdd, Nat.reduceLeDiff, Nat.reduceLT, Nat.reduceEqDiff, if_true, if_false, ite_true, ite_false, Bool.not_true, Bool.not_false, Bool.true_and, Bool.and_true, Bool.false_and, Bool.and_false, Bool.true_or, Bool.or_true, Bool.false_or, Bool.or_false, decide_true, decide_false, Bool.false_eq_true, reduceCtorEq, true_and, and_true, List.mem_cons_self]
end Dg
set_option maxHeartbeats 0
set_option pp.maxSteps 3000
namespace Dg
open PySem DL LwM
variable {a : Adr} {T : List (Addr × Str)}
theorem eq_ll (neg : Bool) (x y : List Int) : eqG neg (.lst (nis x)) (.lst (nis y)) = DL.M.ret (.val (.bl (neg ^^ decide (x = y)))) := by
  have e : ∀ l : List Int, conv (.lst (nis l)) = some (.list (l.map PyData.int)) := fun l => by
    show (convs (nis l)).map PyData.list = _
    rw [conv_nis]
    rfl
  have ev : PyData.eqv (.list (x.map PyData.int)) (.list (y.map PyData.int)) = decide (x = y) := by
    have := Lw.eqv_nums x y
    simpa [PyData.eqv] using this
  have sh : ∀ l : List Int, SeqAt.shaped (.list (l.map PyData.int)) = true := fun l => by
    have := Lw.shaped_tup l
    simpa [SeqAt.shaped, PyData.canLay0, PyData.depth] using this
  refine (eqG_def _ _ _ (fun _ h => by cases h)).trans ?_
  by_cases hl : x.length = y.length
  · rw [if_neg (by simp [kneD, hl])]
    unfold eqD
    rw [e, e]
    simp only [sh, Bool.and_self, if_true, ev]
  · have hn : ¬ x = y := fun z => hl (by rw [z])
    rw [if_pos (by simp [kneD, hl]), decide_eq_false hn, Bool.xor_false]
theorem at1 (x y : Dt) : L2.atI [x, y] 1 = some y := rfl
end Dg
set_option maxHeartbeats 0
set_option pp.maxSteps 3000
namespace Dg
open PySem DL LwM
variable {a : Adr} {T : List (Addr × Str)}
theorem rng_mem {m : Nat} {d : Dt} (h : d ∈ rngD 0 m) : ∃ n : Nat, n < m ∧ d = .int (n : Nat) := by
  unfold rngD at h
  obtain ⟨n, hn, rfl⟩ := List.mem_map.mp h
  exact ⟨n, List.mem_range.mp hn, by rw [Int.zero_add]⟩
end Dg
namespace DL
open PySem
variable {T : List (Addr × Str)}
theorem seq_nx {f g : List Sl → M Fl} {δ δ' : List Sl} (e : f δ = M.ret (.nx δ')) : gSeq f g δ = g δ' := by
  simp only [gSeq, e, bnd_ret]
theorem seq_dw {P : Fl → Prop} {f g : List Sl → M Fl} {δ : List Sl} {Q : List Sl → Prop} {c d : Int} (hc : 0 ≤ c) (hd : 0 ≤ d) (h : Dw T c (f δ) (fun r => ∃ δ', r = .nx δ' ∧ Q δ')) (h2 : ∀ δ', Q δ' → Dw T d (g δ') P) : Dw T (c + d) (gSeq f g δ) P := by
  unfold gSeq
  refine Dw.bnd hc hd h fun r hr => ?_
  obtain ⟨δ', rfl, q⟩ := hr
  exact h2 δ' q
end DL
set_option maxHeartbeats 0
set_option pp.maxSteps 3000
namespace Dg
open PySem DL LwM
variable {a : Adr} {T : List (Addr × Str)}
abbrev exNu (a : Adr) (d : Dt) : Exn := ⟨3, a.ec.of .number, some ("value", d)⟩
abbrev exFo (a : Adr) : Exn := ⟨9, a.ec.of .great, some ("most", .int 40)⟩
abbrev exOz (a : Adr) : Exn := ⟨11, a.ec.of .osize, none⟩
theorem hx_nu (d : Dt) (hu : usd .number = true := by rfl) : heardX a.ec usd (exNu a d) = some (.tup [.str "number", d]) := by
  show (if usd .number = true ∧ a.ec.of .number = a.ec.of .number ∧ ("value" : Str) = Lw.Kd.field .number then some (Dt.tup [.str (Lw.Kd.word .number), d]) else none) = _
  rw [if_pos ⟨hu, rfl, rfl⟩]
  rfl
theorem hx_fo (hu : usd .great = true := by rfl) : heardX a.ec usd (exFo a) = some (.tup [.str "great", .int 40]) := by
  show (if usd .great = true ∧ a.ec.of .great = a.ec.of .great ∧ ("most" : Str) = Lw.Kd.field .great then some (Dt.tup [.str (Lw.Kd.word .great), .int 40]) else none) = _
  rw [if_pos ⟨hu, rfl, rfl⟩]
  rfl
theorem hx_oz (hu : usd .osize = true := by rfl) : heardX a.ec usd (exOz a) = some (.str "othersize") := by
  show (if usd .osize = true ∧ a.ec.of .osize = a.ec.of .osize then some (Dt.str (Lw.Kd.word .osize)) else none) = _
  rw [if_pos ⟨hu, rfl⟩]
  rfl
theorem obj_w (s : Int) (l : List Int) : isObj a.w_Word (wordD a s l) = true := by simp [isObj, wordD]
theorem get_ok {s : Int} {l : List Int} {k : Nat} {x : Int} (hk : l[k]? = some x) : S_Word_getitem a [wordD a s l, .int (k : Nat)] = DL.M.ret (.val (.int x)) := by
  have hn := (List.getElem?_eq_some_iff.mp hk).1
  unfold S_Word_getitem
  simp only [bnd_ret, bnd_nn, bnd_rse, bnd_ite, bnd_bnd, semOf, gSeq, gNx, gSet, gDrop, gRet, gRetV, gRetN, gIf, gBk, gCt, gFrz, frz, gApp, gExt, gSetI, gAsg, gPar, gPop, gSetPop, gAppPop, gRaise, gFld, cVar, vVar, cC, toV, bin, una, aNil, aCons, cTup, cLst, rNil, rCons, setAll, addD, subD, negD, cmpD, notD, cCall, cMeth, cMeth0, cMake, objR, tV, truD, tNotD, tAndD, tOrD, tBl, andV, orV, cIf, chain, oNone, oSome, cSl, slD, ixD, lenD, tupleD, listD, cDict, tgN, tgS, tgT, tgs, wSeq, wEn, R.sl, R.d, Sl.isIns, oneIns, List.getElem?_cons_zero, List.getElem?_cons_succ, List.getElem?_nil, List.set_cons_zero, List.set_cons_succ, List.map_cons, List.map_nil, List.length_cons, List.length_nil, List.nil_append, List.cons_append, List.append_nil, List.replicate, List.all_cons, List.all_nil, Nat.reduceSub, Nat.reduceAdd, Nat.reduceLeDiff, Nat.reduceLT, Nat.reduceEqDiff, if_true, if_false, ite_true, ite_false, Bool.not_true, Bool.not_false, Bool.true_and, Bool.and_true, Bool.false_and, Bool.and_false, Bool.true_or, Bool.or_true, Bool.false_or, Bool.or_false, decide_true, decide_false, Bool.false_eq_true, reduceCtorEq, true_and, and_true, List.mem_cons_self, fld_letters, List.length_map]
  rw [between _ _ rfl]
  simp only [bnd_ret, bnd_nn, bnd_rse, bnd_ite, bnd_bnd, semOf, gSeq, gNx, gSet, gDrop, gRet, gRetV, gRetN, gIf, gBk, gCt, gFrz, frz, gApp, gExt, gSetI, gAsg, gPar, gPop, gSetPop, gAppPop, gRaise, gFld, cVar, vVar, cC, toV, bin, una, aNil, aCons, cTup, cLst, rNil, rCons, setAll, addD, subD, negD, cmpD, notD, cCall, cMeth, cMeth0, cMake, objR, tV, truD, tNotD, tAndD, tOrD, tBl, andV, orV, cIf, chain, oNone, oSome, cSl, slD, ixD, lenD, tupleD, listD, cDict, tgN, tgS, tgT, tgs, wSeq, wEn, R.sl, R.d, Sl.isIns, oneIns, List.getElem?_cons_zero, List.getElem?_cons_succ, List.getElem?_nil, List.set_cons_zero, List.set_cons_succ, List.map_cons, List.map_nil, List.length_cons, List.length_nil, List.nil_append, List.cons_append, List.append_nil, List.replicate, List.all_cons, List.all_nil, Nat.reduceSub, Nat.reduceAdd, Nat.reduceLeDiff, Nat.reduceLT, Nat.reduceEqDiff, if_true, if_false, ite_true, ite_false, Bool.not_true, Bool.not_false, Bool.true_and, Bool.and_true, Bool.false_and, Bool.and_false, Bool.true_or, Bool.or_true, Bool.false_or, Bool.or_false, decide_true, decide_false, Bool.false_eq_true, reduceCtorEq, true_and, and_true, List.mem_cons_self, btw, decide_eq_true (show (0 : Int) ≤ (k : Int) by omega), decide_eq_true (show (k : Int) ≤ (l.length : Int) - 1 by omega), at_nat hk]
theorem get_no {s : Int} {l : List Int} {d : Dt} (h : plainD d = true) (hb : btw d 0 ((l.length : Int) - 1) = false) : S_Word_getitem a [wordD a s l, d] = DL.M.rse (exNu a d) := by
  unfold S_Word_getitem
  simp only [bnd_ret, bnd_nn, bnd_rse, bnd_ite, bnd_bnd, semOf, gSeq, gNx, gSet, gDrop, gRet, gRetV, gRetN, gIf, gBk, gCt, gFrz, frz, gApp, gExt, gSetI, gAsg, gPar, gPop, gSetPop, gAppPop, gRaise, gFld, cVar, vVar, cC, toV, bin, una, aNil, aCons, cTup, cLst, rNil, rCons, setAll, addD, subD, negD, cmpD, notD, cCall, cMeth, cMeth0, cMake, objR, tV, truD, tNotD, tAndD, tOrD, tBl, andV, orV, cIf, chain, oNone, oSome, cSl, slD, ixD, lenD, tupleD, listD, cDict, tgN, tgS, tgT, tgs, wSeq, wEn, R.sl, R.d, Sl.isIns, oneIns, List.getElem?_cons_zero, List.getElem?_cons_succ, List.getElem?_nil, List.set_cons_zero, List.set_cons_succ, List.map_cons, List.map_nil, List.length_cons, List.length_nil, List.nil_append, List.cons_append, List.append_nil, List.replicate, List.all_cons, List.all_nil, Nat.reduceSub, Nat.reduceAdd, Nat.reduceLeDiff, Nat.reduceLT, Nat.reduceEqDiff, if_true, if_false, ite_true, ite_false, Bool.not_true, Bool.not_false, Bool.true_and, Bool.and_true, Bool.false_and, Bool.and_false, Bool.true_or, Bool.or_true, Bool.false_or, Bool.or_false, decide_true, decide_false, Bool.false_eq_true, reduceCtorEq, true_and, and_true, List.mem_cons_self, fld_letters, List.length_map]
  rw [between _ _ h]
  simp only [bnd_ret, bnd_nn, bnd_rse, bnd_ite, bnd_bnd, semOf, gSeq, gNx, gSet, gDrop, gRet, gRetV, gRetN, gIf, gBk, gCt, gFrz, frz, gApp, gExt, gSetI, gAsg, gPar, gPop, gSetPop, gAppPop, gRaise, gFld, cVar, vVar, cC, toV, bin, una, aNil, aCons, cTup, cLst, rNil, rCons, setAll, addD, subD, negD, cmpD, notD, cCall, cMeth, cMeth0, cMake, objR, tV, truD, tNotD, tAndD, tOrD, tBl, andV, orV, cIf, chain, oNone, oSome, cSl, slD, ixD, lenD, tupleD, listD, cDict, tgN, tgS, tgT, tgs, wSeq, wEn, R.sl, R.d, Sl.isIns, oneIns, List.getElem?_cons_zero, List.getElem?_cons_succ, List.getElem?_nil, List.set_cons_zero, List.set_cons_succ, List.map_cons, List.map_nil, List.length_cons, List.length_nil, List.nil_append, List.cons_append, List.append_nil, List.replicate, List.all_cons, List.all_nil, Nat.reduceSub, Nat.reduceAdd, Nat.reduceLeDiff, Nat.reduceLT, Nat.reduceEqDiff, if_true, if_false, ite_true, ite_false, Bool.not_true, Bool.not_false, Bool.true_and, Bool.and_true, Bool.false_and, Bool.and_false, Bool.true_or, Bool.or_true, Bool.false_or, Bool.or_false, decide_true, decide_false, Bool.false_eq_true, reduceCtorEq, true_and, and_true, List.mem_cons_self, hb]
theorem btw_slc (x y : Int) : S_is_between a [.slc, .int x, .int y] = DL.M.ret (.val (.bl false)) := by
  unfold S_is_between
  have e : isiS (ocs a) (.ty "int") .slc = DL.M.ret (.val (.bl false)) := by
    show (match L2.kitB "slice" "int" with | some b => DL.M.ret (R.val (.bl b)) | none => DL.M.no) = _
    rw [show L2.kitB "slice" "int" = some false by decide +kernel]
  simp only [bnd_ret, bnd_nn, bnd_rse, bnd_ite, bnd_bnd, semOf, gSeq, gNx, gSet, gDrop, gRet, gRetV, gRetN, gIf, gBk, gCt, gFrz, frz, gApp, gExt, gSetI, gAsg, gPar, gPop, gSetPop, gAppPop, gRaise, gFld, cVar, vVar, cC, toV, bin, una, aNil, aCons, cTup, cLst, rNil, rCons, setAll, addD, subD, negD, cmpD, notD, cCall, cMeth, cMeth0, cMake, objR, tV, truD, tNotD, tAndD, tOrD, tBl, andV, orV, cIf, chain, oNone, oSome, cSl, slD, ixD, lenD, tupleD, listD, cDict, tgN, tgS, tgT, tgs, wSeq, wEn, R.sl, R.d, Sl.isIns, oneIns, List.getElem?_cons_zero, List.getElem?_cons_succ, List.getElem?_nil, List.set_cons_zero, List.set_cons_succ, List.map_cons, List.map_nil, List.length_cons, List.length_nil, List.nil_append, List.cons_append, List.append_nil, List.replicate, List.all_cons, List.all_nil, Nat.reduceSub, Nat.reduceAdd, Nat.reduceLeDiff, Nat.reduceLT, Nat.reduceEqDiff, if_true, if_false, ite_true, ite_false, Bool.not_true, Bool.not_false, Bool.true_and, Bool.and_true, Bool.false_and, Bool.and_false, Bool.true_or, Bool.or_true, Bool.false_or, Bool.or_false, decide_true, decide_false, Bool.false_eq_true, reduceCtorEq, true_and, and_true, List.mem_cons_self, e]
theorem get_slc {s : Int} {l : List Int} : S_Word_getitem a [wordD a s l, .slc] = DL.M.rse (exNu a .slc) := by
  unfold S_Word_getitem
  simp only [bnd_ret, bnd_nn, bnd_rse, bnd_ite, bnd_bnd, semOf, gSeq, gNx, gSet, gDrop, gRet, gRetV, gRetN, gIf, gBk, gCt, gFrz, frz, gApp, gExt, gSetI, gAsg, gPar, gPop, gSetPop, gAppPop, gRaise, gFld, cVar, vVar, cC, toV, bin, una, aNil, aCons, cTup, cLst, rNil, rCons, setAll, addD, subD, negD, cmpD, notD, cCall, cMeth, cMeth0, cMake, objR, tV, truD, tNotD, tAndD, tOrD, tBl, andV, orV, cIf, chain, oNone, oSome, cSl, slD, ixD, lenD, tupleD, listD, cDict, tgN, tgS, tgT, tgs, wSeq, wEn, R.sl, R.d, Sl.isIns, oneIns, List.getElem?_cons_zero, List.getElem?_cons_succ, List.getElem?_nil, List.set_cons_zero, List.set_cons_succ, List.map_cons, List.map_nil, List.length_cons, List.length_nil, List.nil_append, List.cons_append, List.append_nil, List.replicate, List.all_cons, List.all_nil, Nat.reduceSub, Nat.reduceAdd, Nat.reduceLeDiff, Nat.reduceLT, Nat.reduceEqDiff, if_true, if_false, ite_true, ite_false, Bool.not_true, Bool.not_false, Bool.true_and, Bool.and_true, Bool.false_and, Bool.and_false, Bool.true_or, Bool.or_true, Bool.false_or, Bool.or_false, decide_true, decide_false, Bool.false_eq_true, reduceCtorEq, true_and, and_true, List.mem_cons_self, fld_letters, List.length_map]
  rw [btw_slc]
  simp only [bnd_ret, bnd_nn, bnd_rse, bnd_ite, bnd_bnd, semOf, gSeq, gNx, gSet, gDrop, gRet, gRetV, gRetN, gIf, gBk, gCt, gFrz, frz, gApp, gExt, gSetI, gAsg, gPar, gPop, gSetPop, gAppPop, gRaise, gFld, cVar, vVar, cC, toV, bin, una, aNil, aCons, cTup, cLst, rNil, rCons, setAll, addD, subD, negD, cmpD, notD, cCall, cMeth, cMeth0, cMake, objR, tV, truD, tNotD, tAndD, tOrD, tBl, andV, orV, cIf, chain, oNone, oSome, cSl, slD, ixD, lenD, tupleD, listD, cDict, tgN, tgS, tgT, tgs, wSeq, wEn, R.sl, R.d, Sl.isIns, oneIns, List.getElem?_cons_zero, List.getElem?_cons_succ, List.getElem?_nil, List.set_cons_zero, List.set_cons_succ, List.map_cons, List.map_nil, List.length_cons, List.length_nil, List.nil_append, List.cons_append, List.append_nil, List.replicate, List.all_cons, List.all_nil, Nat.reduceSub, Nat.reduceAdd, Nat.reduceLeDiff, Nat.reduceLT, Nat.reduceEqDiff, if_true, if_false, ite_true, ite_false, Bool.not_true, Bool.not_false, Bool.true_and, Bool.and_true, Bool.false_and, Bool.and_false, Bool.true_or, Bool.or_true, Bool.false_or, Bool.or_false, decide_true, decide_false, Bool.false_eq_true, reduceCtorEq, true_and, and_true, List.mem_cons_self]
theorem len_ {s : Int} {l : List Int} : S_Word_len a [wordD a s l] = DL.M.ret (.val (.int (l.length : Int))) := by
  unfold S_Word_len
  simp only [bnd_ret, bnd_nn, bnd_rse, bnd_ite, bnd_bnd, semOf, gSeq, gNx, gSet, gDrop, gRet, gRetV, gRetN, gIf, gBk, gCt, gFrz, frz, gApp, gExt, gSetI, gAsg, gPar, gPop, gSetPop, gAppPop, gRaise, gFld, cVar, vVar, cC, toV, bin, una, aNil, aCons, cTup, cLst, rNil, rCons, setAll, addD, subD, negD, cmpD, notD, cCall, cMeth, cMeth0, cMake, objR, tV, truD, tNotD, tAndD, tOrD, tBl, andV, orV, cIf, chain, oNone, oSome, cSl, slD, ixD, lenD, tupleD, listD, cDict, tgN, tgS, tgT, tgs, wSeq, wEn, R.sl, R.d, Sl.isIns, oneIns, List.getElem?_cons_zero, List.getElem?_cons_succ, List.getElem?_nil, List.set_cons_zero, List.set_cons_succ, List.map_cons, List.map_nil, List.length_cons, List.length_nil, List.nil_append, List.cons_append, List.append_nil, List.replicate, List.all_cons, List.all_nil, Nat.reduceSub, Nat.reduceAdd, Nat.reduceLeDiff, Nat.reduceLT, Nat.reduceEqDiff, if_true, if_false, ite_true, ite_false, Bool.not_true, Bool.not_false, Bool.true_and, Bool.and_true, Bool.false_and, Bool.and_false, Bool.true_or, Bool.or_true, Bool.false_or, Bool.or_false, decide_true, decide_false, Bool.false_eq_true, reduceCtorEq, true_and, and_true, List.mem_cons_self, fld_letters, List.length_map]
theorem lenW {s : Int} {l : List Int} (h : l.length ≤ 1000) : orC (isObj a.w_Word) (lenOw a.w_Word (S_Word_len a)) lenD (wordD a s l) = DL.M.ret (.val (.int (l.length : Int))) := by
  unfold orC lenOw
  rw [if_pos (obj_w s l), if_pos (obj_w s l), len_, bnd_ret]
  exact if_pos ⟨by omega, by omega⟩
theorem lenL {l : List Dt} : orC (isObj a.w_Word) (lenOw a.w_Word (S_Word_len a)) lenD (.lst l) = DL.M.ret (.val (.int (l.length : Int))) := rfl
theorem comp_ {s : Int} {l : List Int} (hl : l.length ≤ 40) {x0 x3 x4 x5 : Sl} : cLc (wRng1 (toV (una (vVar 2) (orC (isObj a.w_Word) (lenOw a.w_Word (S_Word_len a)) lenD)))) (tgN 5) tYesD (binF (vVar 1) (cVar 5) (getOw a.w_Word (S_Word_getitem a))) [5] [x0, .val (wordD a s l), .val (.lst (nis l)), x3, x4, x5] = DL.M.ret (.new (nis l)) := by
  have src : wRng1 (toV (una (vVar 2) (orC (isObj a.w_Word) (lenOw a.w_Word (S_Word_len a)) lenD))) [x0, .val (wordD a s l), .val (.lst (nis l)), x3, x4, x5] = DL.M.ret (rngD 0 l.length) := by
    unfold wRng1
    simp only [bnd_ret, bnd_nn, bnd_rse, bnd_ite, bnd_bnd, semOf, gSeq, gNx, gSet, gDrop, gRet, gRetV, gRetN, gIf, gBk, gCt, gFrz, frz, gApp, gExt, gSetI, gAsg, gPar, gPop, gSetPop, gAppPop, gRaise, gFld, cVar, vVar, cC, toV, bin, una, aNil, aCons, cTup, cLst, rNil, rCons, setAll, addD, subD, negD, cmpD, notD, cCall, cMeth, cMeth0, cMake, objR, tV, truD, tNotD, tAndD, tOrD, tBl, andV, orV, cIf, chain, oNone, oSome, cSl, slD, ixD, lenD, tupleD, listD, cDict, tgN, tgS, tgT, tgs, wSeq, wEn, R.sl, R.d, Sl.isIns, oneIns, List.getElem?_cons_zero, List.getElem?_cons_succ, List.getElem?_nil, List.set_cons_zero, List.set_cons_succ, List.map_cons, List.map_nil, List.length_cons, List.length_nil, List.nil_append, List.cons_append, List.append_nil, List.replicate, List.all_cons, List.all_nil, Nat.reduceSub, Nat.reduceAdd, Nat.reduceLeDiff, Nat.reduceLT, Nat.reduceEqDiff, if_true, if_false, ite_true, ite_false, Bool.not_true, Bool.not_false, Bool.true_and, Bool.and_true, Bool.false_and, Bool.and_false, Bool.true_or, Bool.or_true, Bool.false_or, Bool.or_false, decide_true, decide_false, Bool.false_eq_true, reduceCtorEq, true_and, and_true, List.mem_cons_self, lenL, List.length_map]
    rw [if_pos (by omega)]
    congr 2
  refine lc_eq src (by unfold rngD; rw [List.length_map, List.length_range]; omega) ?_
  have := compL_eq (tg := tgN 5) (tt := tYesD) (fe := binF (vVar 1) (cVar 5) (getOw a.w_Word (S_Word_getitem a))) (δ := wipeD [x0, .val (wordD a s l), .val (.lst (nis l)), x3, x4, x5] [5]) (fun _ => true) (fun d => match d with | .int k => .int (l[k.toNat]?.getD 0) | d => d) (l := rngD 0 l.length) (fun d hd => by
    obtain ⟨n, hn, rfl⟩ := rng_mem hd
    refine ⟨_, rfl, rfl, fun _ => ⟨.val (.int (l[n]?.getD 0)), ?_, by simp [R.d]⟩⟩
    have g : l[n]? = some (l[n]?.getD 0) := by rw [List.getElem?_eq_getElem hn]; rfl
    unfold binF getOw
    simp only [bnd_ret, bnd_nn, bnd_rse, bnd_ite, bnd_bnd, semOf, gSeq, gNx, gSet, gDrop, gRet, gRetV, gRetN, gIf, gBk, gCt, gFrz, frz, gApp, gExt, gSetI, gAsg, gPar, gPop, gSetPop, gAppPop, gRaise, gFld, cVar, vVar, cC, toV, bin, una, aNil, aCons, cTup, cLst, rNil, rCons, setAll, addD, subD, negD, cmpD, notD, cCall, cMeth, cMeth0, cMake, objR, tV, truD, tNotD, tAndD, tOrD, tBl, andV, orV, cIf, chain, oNone, oSome, cSl, slD, ixD, lenD, tupleD, listD, cDict, tgN, tgS, tgT, tgs, wSeq, wEn, R.sl, R.d, Sl.isIns, oneIns, List.getElem?_cons_zero, List.getElem?_cons_succ, List.getElem?_nil, List.set_cons_zero, List.set_cons_succ, List.map_cons, List.map_nil, List.length_cons, List.length_nil, List.nil_append, List.cons_append, List.append_nil, List.replicate, List.all_cons, List.all_nil, Nat.reduceSub, Nat.reduceAdd, Nat.reduceLeDiff, Nat.reduceLT, Nat.reduceEqDiff, if_true, if_false, ite_true, ite_false, Bool.not_true, Bool.not_false, Bool.true_and, Bool.and_true, Bool.false_and, Bool.and_false, Bool.true_or, Bool.or_true, Bool.false_or, Bool.or_false, decide_true, decide_false, Bool.false_eq_true, reduceCtorEq, true_and, and_true, List.mem_cons_self, wipeD, obj_w, get_ok g])
  rw [this]
  congr 1
  rw [List.filter_eq_self.mpr (fun _ _ => rfl)]
  unfold rngD nis
  rw [List.map_map]
  refine List.ext_getElem? fun k => ?_
  rw [List.getElem?_map, List.getElem?_map]
  by_cases h : k < l.length
  · rw [List.getElem?_range h, List.getElem?_eq_getElem h]
    simp [List.getElem?_eq_getElem h]
  · rw [List.getElem?_eq_none (by rw [List.length_range]; omega), List.getElem?_eq_none (by omega)]
    rfl
def repL (t : Int) (l : List Int) : List Int := (List.replicate t.toNat l).flatten
theorem repL_len (t : Int) (l : List Int) : (repL t l).length = t.toNat * l.length := by
  unfold repL
  rw [List.length_flatten, List.map_replicate, List.sum_replicate_nat]
theorem repL_mem {t : Int} {l : List Int} {x : Int} (h : x ∈ repL t l) : x ∈ l := by
  unfold repL at h
  obtain ⟨r, hr, hx⟩ := List.mem_flatten.mp h
  rw [(List.mem_replicate.mp hr).2] at hx
  exact hx
theorem nis_rep (n : Nat) (l : List Int) : (List.replicate n (nis l)).flatten = nis (List.replicate n l).flatten := by
  unfold nis
  rw [List.map_flatten, List.map_replicate]
theorem mul_ii {x y : Int} (h : smallI x = true) : mulG (.int x) (.int y) = DL.M.ret (.val (.int (x * y))) := by
  rw [show mulG (.int x) (.int y) = mulD (.int x) (.int y) from rfl]
  simp only [mulD, h, Bool.true_or, if_true]
noncomputable def mp1 (a : Adr) : List Sl → DL.M Fl := (gIf (tOrD (tNotD (tV (toV (cCall 1 (aCons (cVar 1) aNil) (S_is_whole a))))) (tBl (bin (vVar 1) (toV (cC (.int 0))) (cmpD fun x y => decide (x < y))))) (gRaise 3 (a.ec.of .number) "value" (cVar 1)) gNx)
noncomputable def mpA (a : Adr) : List Sl → DL.M Dt := (toV (una (toV (una (vVar 0) (fldsD [a.w_Word] "letters"))) lenD))
noncomputable def mpX (a : Adr) : List Sl → DL.M Dt := (toV (bin (mpA a) (vVar 1) mulG))
noncomputable def mp2 (a : Adr) : List Sl → DL.M Fl := (gIf (tBl (bin (mpX a) (toV (cC (.int 40))) (cmpD fun x y => decide (y < x)))) (gRaise 9 (a.ec.of .great) "most" (cC (.int 40))) gNx)
noncomputable def mp3 (a : Adr) : List Sl → DL.M Fl := (gRet (cMake 3 (aCons (una (vVar 0) (fldsD [a.w_Word] "size")) (aCons (bin (toV (una (vVar 0) (fldsD [a.w_Word] "letters"))) (toV (bin (vVar 1) (toV (cC (.int 40))) minD)) mulG) aNil)) (S_Word_init a)))
theorem mt1 {s t : Int} {l : List Int} (t0 : 0 ≤ t) : mp1 a [.val (wordD a s l), .val (.int t)] = DL.M.ret (.nx [.val (wordD a s l), .val (.int t)]) := by
  unfold mp1
  simp only [bnd_ret, bnd_nn, bnd_rse, bnd_ite, bnd_bnd, semOf, gSeq, gNx, gSet, gDrop, gRet, gRetV, gRetN, gIf, gBk, gCt, gFrz, frz, gApp, gExt, gSetI, gAsg, gPar, gPop, gSetPop, gAppPop, gRaise, gFld, cVar, vVar, cC, toV, bin, una, aNil, aCons, cTup, cLst, rNil, rCons, setAll, addD, subD, negD, cmpD, notD, cCall, cMeth, cMeth0, cMake, objR, tV, truD, tNotD, tAndD, tOrD, tBl, andV, orV, cIf, chain, oNone, oSome, cSl, slD, ixD, lenD, tupleD, listD, cDict, tgN, tgS, tgT, tgs, wSeq, wEn, R.sl, R.d, Sl.isIns, oneIns, List.getElem?_cons_zero, List.getElem?_cons_succ, List.getElem?_nil, List.set_cons_zero, List.set_cons_succ, List.map_cons, List.map_nil, List.length_cons, List.length_nil, List.nil_append, List.cons_append, List.append_nil, List.replicate, List.all_cons, List.all_nil, Nat.reduceSub, Nat.reduceAdd, Nat.reduceLeDiff, Nat.reduceLT, Nat.reduceEqDiff, if_true, if_false, ite_true, ite_false, Bool.not_true, Bool.not_false, Bool.true_and, Bool.and_true, Bool.false_and, Bool.and_false, Bool.true_or, Bool.or_true, Bool.false_or, Bool.or_false, decide_true, decide_false, Bool.false_eq_true, reduceCtorEq, true_and, and_true, List.mem_cons_self, whole_ (d := .int t) rfl, isW, isI, isB, decide_eq_false (show ¬ t < 0 by omega)]
theorem mp_len0 {s t : Int} {l : List Int} : mpA a [.val (wordD a s l), .val (.int t)] = DL.M.ret (.int (l.length : Int)) := by
  unfold mpA
  simp only [bnd_ret, bnd_nn, bnd_rse, bnd_ite, bnd_bnd, semOf, gSeq, gNx, gSet, gDrop, gRet, gRetV, gRetN, gIf, gBk, gCt, gFrz, frz, gApp, gExt, gSetI, gAsg, gPar, gPop, gSetPop, gAppPop, gRaise, gFld, cVar, vVar, cC, toV, bin, una, aNil, aCons, cTup, cLst, rNil, rCons, setAll, addD, subD, negD, cmpD, notD, cCall, cMeth, cMeth0, cMake, objR, tV, truD, tNotD, tAndD, tOrD, tBl, andV, orV, cIf, chain, oNone, oSome, cSl, slD, ixD, lenD, tupleD, listD, cDict, tgN, tgS, tgT, tgs, wSeq, wEn, R.sl, R.d, Sl.isIns, oneIns, List.getElem?_cons_zero, List.getElem?_cons_succ, List.getElem?_nil, List.set_cons_zero, List.set_cons_succ, List.map_cons, List.map_nil, List.length_cons, List.length_nil, List.nil_append, List.cons_append, List.append_nil, List.replicate, List.all_cons, List.all_nil, Nat.reduceSub, Nat.reduceAdd, Nat.reduceLeDiff, Nat.reduceLT, Nat.reduceEqDiff, if_true, if_false, ite_true, ite_false, Bool.not_true, Bool.not_false, Bool.true_and, Bool.and_true, Bool.false_and, Bool.and_false, Bool.true_or, Bool.or_true, Bool.false_or, Bool.or_false, decide_true, decide_false, Bool.false_eq_true, reduceCtorEq, true_and, and_true, List.mem_cons_self, fld_letters, List.length_map]
theorem bin_ret {f g : List Sl → DL.M Dt} {δ : List Sl} {op : Dt → Dt → DL.M R} {x y : Dt} {r : R} (h1 : f δ = DL.M.ret x) (h2 : g δ = DL.M.ret y) (m : op x y = DL.M.ret r) : toV (bin f g op) δ = DL.M.ret r.d := by
  unfold toV bin
  rw [h1, bnd_ret, h2, bnd_ret, m, bnd_ret]
theorem mp_len {s t p : Int} {l : List Int} (m : mulG (.int (l.length : Int)) (.int t) = DL.M.ret (.val (.int p))) : mpX a [.val (wordD a s l), .val (.int t)] = DL.M.ret (.int p) :=
  bin_ret (g := vVar 1) mp_len0 (show vVar 1 [.val (wordD a s l), .val (.int t)] = DL.M.ret (.int t) from rfl) m
theorem repL_lt {s t : Int} {l : List Int} (L : Lt s l) (t0 : 0 ≤ t) (hl : (l.length : Int) * t ≤ 40) {n : Int} (h0 : 0 ≤ n) (h1 : n = t ∨ (n = 40 ∧ 40 ≤ t)) : Lt s (repL n l) := ⟨L.s0, L.s1, by
    rw [repL_len]
    rcases h1 with h1 | ⟨h1, h2⟩
    · have : ((n.toNat * l.length : Nat) : Int) ≤ 40 := by
        rw [Int.natCast_mul, Int.toNat_of_nonneg h0, h1, Int.mul_comm]
        exact hl
      omega
    · have h3 : (l.length : Int) * 40 ≤ (l.length : Int) * t := Int.mul_le_mul_of_nonneg_left h2 (by omega)
      rw [show n.toNat = 40 by omega]
      omega, fun x hx => L.bd x (repL_mem hx)⟩
theorem mul_tup {n : Int} {l : List Int} (h0 : 0 ≤ n) (h1 : n ≤ 40) (hn : l.length ≤ 40) : mulG (.tup (nis l)) (.int n) = DL.M.ret (.val (.tup (nis (repL n l)))) := by
  have e : mulT (.tup (nis l)) (.int n) = DL.M.ret (.val (.tup (nis (repL n l)))) := by
    show repTD (nis l) n = _
    unfold repTD
    rw [if_pos ⟨by omega, by omega, by rw [List.length_map]; omega⟩, nis_rep]
    rfl
  unfold mulG orOp
  rw [if_pos (show isTup (.tup (nis l)) (.int n) = true from rfl)]
  exact e
theorem mt3 {s t n : Int} {l : List Int} (L2 : Lt s (repL n l)) (m2 : mulG (.tup (nis l)) (.int n) = DL.M.ret (.val (.tup (nis (repL n l))))) (m3 : minD (.int t) (.int 40) = DL.M.ret (.val (.int n))) : mp3 a [.val (wordD a s l), .val (.int t)] = DL.M.ret (.ret (.val (wordD a s (repL n l)))) := by
  have w := make_word (a := a) (.inr rfl) L2
  unfold mp3
  generalize mulG = op at m2 ⊢
  generalize minD = oq at m3 ⊢
  simp only [bnd_ret, bnd_nn, bnd_rse, bnd_ite, bnd_bnd, semOf, gSeq, gNx, gSet, gDrop, gRet, gRetV, gRetN, gIf, gBk, gCt, gFrz, frz, gApp, gExt, gSetI, gAsg, gPar, gPop, gSetPop, gAppPop, gRaise, gFld, cVar, vVar, cC, toV, bin, una, aNil, aCons, cTup, cLst, rNil, rCons, setAll, addD, subD, negD, cmpD, notD, cCall, cMeth, cMeth0, cMake, objR, tV, truD, tNotD, tAndD, tOrD, tBl, andV, orV, cIf, chain, oNone, oSome, cSl, slD, ixD, lenD, tupleD, listD, cDict, tgN, tgS, tgT, tgs, wSeq, wEn, R.sl, R.d, Sl.isIns, oneIns, List.getElem?_cons_zero, List.getElem?_cons_succ, List.getElem?_nil, List.set_cons_zero, List.set_cons_succ, List.map_cons, List.map_nil, List.length_cons, List.length_nil, List.nil_append, List.cons_append, List.append_nil, List.replicate, List.all_cons, List.all_nil, Nat.reduceSub, Nat.reduceAdd, Nat.reduceLeDiff, Nat.reduceLT, Nat.reduceEqDiff, if_true, if_false, ite_true, ite_false, Bool.not_true, Bool.not_false, Bool.true_and, Bool.and_true, Bool.false_and, Bool.and_false, Bool.true_or, Bool.or_true, Bool.false_or, Bool.or_false, decide_true, decide_false, Bool.false_eq_true, reduceCtorEq, true_and, and_true, List.mem_cons_self, fld_letters, fld_size, m2, m3, w]
theorem min_40 (t : Int) : ∃ n, minD (.int t) (.int 40) = DL.M.ret (.val (.int n)) ∧ ((n = t ∧ t ≤ 40) ∨ (n = 40 ∧ 40 ≤ t)) := by
  by_cases h : (40 : Int) < t
  · exact ⟨40, by show DL.M.ret (R.val (.int (if 40 < t then 40 else t))) = _; rw [if_pos h], .inr ⟨rfl, by omega⟩⟩
  · exact ⟨t, by show DL.M.ret (R.val (.int (if 40 < t then 40 else t))) = _; rw [if_neg h], .inl ⟨rfl, by omega⟩⟩
theorem mt2 {s t : Int} {l : List Int} (hn : l.length ≤ 40) (hl : (l.length : Int) * t ≤ 40) : mp2 a [.val (wordD a s l), .val (.int t)] = DL.M.ret (.nx [.val (wordD a s l), .val (.int t)]) := by
  have m1 := mp_len (a := a) (s := s) (l := l) (mul_ii (y := t) (decide_eq_true (by omega)))
  unfold mp2
  generalize mpX a = X at m1 ⊢
  simp only [bnd_ret, bnd_nn, bnd_rse, bnd_ite, bnd_bnd, semOf, gSeq, gNx, gSet, gDrop, gRet, gRetV, gRetN, gIf, gBk, gCt, gFrz, frz, gApp, gExt, gSetI, gAsg, gPar, gPop, gSetPop, gAppPop, gRaise, gFld, cVar, vVar, cC, toV, bin, una, aNil, aCons, cTup, cLst, rNil, rCons, setAll, addD, subD, negD, cmpD, notD, cCall, cMeth, cMeth0, cMake, objR, tV, truD, tNotD, tAndD, tOrD, tBl, andV, orV, cIf, chain, oNone, oSome, cSl, slD, ixD, lenD, tupleD, listD, cDict, tgN, tgS, tgT, tgs, wSeq, wEn, R.sl, R.d, Sl.isIns, oneIns, List.getElem?_cons_zero, List.getElem?_cons_succ, List.getElem?_nil, List.set_cons_zero, List.set_cons_succ, List.map_cons, List.map_nil, List.length_cons, List.length_nil, List.nil_append, List.cons_append, List.append_nil, List.replicate, List.all_cons, List.all_nil, Nat.reduceSub, Nat.reduceAdd, Nat.reduceLeDiff, Nat.reduceLT, Nat.reduceEqDiff, if_true, if_false, ite_true, ite_false, Bool.not_true, Bool.not_false, Bool.true_and, Bool.and_true, Bool.false_and, Bool.and_false, Bool.true_or, Bool.or_true, Bool.false_or, Bool.or_false, decide_true, decide_false, Bool.false_eq_true, reduceCtorEq, true_and, and_true, List.mem_cons_self, m1, decide_eq_false (show ¬ (40 : Int) < (l.length : Int) * t by omega)]
theorem mul_ok {s t : Int} {l : List Int} (L : Lt s l) (t0 : 0 ≤ t) (hl : (l.length : Int) * t ≤ 40) : ∃ n : Int, ((n = t ∧ t ≤ 40) ∨ (n = 40 ∧ 40 ≤ t)) ∧ Lt s (repL n l) ∧ S_Word_mul a [wordD a s l, .int t] = DL.M.ret (.val (wordD a s (repL n l))) := by
  have hn := L.len
  obtain ⟨n, m3, hm⟩ := min_40 t
  have L2 := repL_lt L t0 hl (n := n) (by omega) (by omega)
  have e1 := mt1 (a := a) (s := s) (l := l) t0
  have e2 := mt2 (a := a) (s := s) hn hl
  have e3 := mt3 (a := a) L2 (mul_tup (by omega) (by omega) hn) m3
  refine ⟨n, hm, L2, ?_⟩
  unfold S_Word_mul semOf
  show DL.M.bnd (gSeq (mp1 a) (gSeq (mp2 a) (mp3 a)) [.val (wordD a s l), .val (.int t)]) _ = _
  rw [seq_nx e1, seq_nx e2, e3]
  simp only [bnd_ret, bnd_nn, bnd_rse, bnd_ite, bnd_bnd, semOf, gSeq, gNx, gSet, gDrop, gRet, gRetV, gRetN, gIf, gBk, gCt, gFrz, frz, gApp, gExt, gSetI, gAsg, gPar, gPop, gSetPop, gAppPop, gRaise, gFld, cVar, vVar, cC, toV, bin, una, aNil, aCons, cTup, cLst, rNil, rCons, setAll, addD, subD, negD, cmpD, notD, cCall, cMeth, cMeth0, cMake, objR, tV, truD, tNotD, tAndD, tOrD, tBl, andV, orV, cIf, chain, oNone, oSome, cSl, slD, ixD, lenD, tupleD, listD, cDict, tgN, tgS, tgT, tgs, wSeq, wEn, R.sl, R.d, Sl.isIns, oneIns, List.getElem?_cons_zero, List.getElem?_cons_succ, List.getElem?_nil, List.set_cons_zero, List.set_cons_succ, List.map_cons, List.map_nil, List.length_cons, List.length_nil, List.nil_append, List.cons_append, List.append_nil, List.replicate, List.all_cons, List.all_nil, Nat.reduceSub, Nat.reduceAdd, Nat.reduceLeDiff, Nat.reduceLT, Nat.reduceEqDiff, if_true, if_false, ite_true, ite_false, Bool.not_true, Bool.not_false, Bool.true_and, Bool.and_true, Bool.false_and, Bool.and_false, Bool.true_or, Bool.or_true, Bool.false_or, Bool.or_false, decide_true, decide_false, Bool.false_eq_true, reduceCtorEq, true_and, and_true, List.mem_cons_self]
theorem mul_great {s t : Int} {l : List Int} (hn : l.length ≤ 40) (t0 : 0 ≤ t) (hl : 40 < (l.length : Int) * t) : S_Word_mul a [wordD a s l, .int t] = DL.M.rse (exFo a) := by
  have sm : smallI (l.length : Int) = true := by unfold smallI; simp; omega
  have m1 := mp_len (a := a) (s := s) (l := l) (mul_ii (y := t) sm)
  have e1 := mt1 (a := a) (s := s) (l := l) t0
  have e2 : mp2 a [.val (wordD a s l), .val (.int t)] = DL.M.rse (exFo a) := by
    unfold mp2
    generalize mpX a = X at m1 ⊢
    simp only [bnd_ret, bnd_nn, bnd_rse, bnd_ite, bnd_bnd, semOf, gSeq, gNx, gSet, gDrop, gRet, gRetV, gRetN, gIf, gBk, gCt, gFrz, frz, gApp, gExt, gSetI, gAsg, gPar, gPop, gSetPop, gAppPop, gRaise, gFld, cVar, vVar, cC, toV, bin, una, aNil, aCons, cTup, cLst, rNil, rCons, setAll, addD, subD, negD, cmpD, notD, cCall, cMeth, cMeth0, cMake, objR, tV, truD, tNotD, tAndD, tOrD, tBl, andV, orV, cIf, chain, oNone, oSome, cSl, slD, ixD, lenD, tupleD, listD, cDict, tgN, tgS, tgT, tgs, wSeq, wEn, R.sl, R.d, Sl.isIns, oneIns, List.getElem?_cons_zero, List.getElem?_cons_succ, List.getElem?_nil, List.set_cons_zero, List.set_cons_succ, List.map_cons, List.map_nil, List.length_cons, List.length_nil, List.nil_append, List.cons_append, List.append_nil, List.replicate, List.all_cons, List.all_nil, Nat.reduceSub, Nat.reduceAdd, Nat.reduceLeDiff, Nat.reduceLT, Nat.reduceEqDiff, if_true, if_false, ite_true, ite_false, Bool.not_true, Bool.not_false, Bool.true_and, Bool.and_true, Bool.false_and, Bool.and_false, Bool.true_or, Bool.or_true, Bool.false_or, Bool.or_false, decide_true, decide_false, Bool.false_eq_true, reduceCtorEq, true_and, and_true, List.mem_cons_self, m1, decide_eq_true hl]
  unfold S_Word_mul semOf
  show DL.M.bnd (gSeq (mp1 a) (gSeq (mp2 a) (mp3 a)) [.val (wordD a s l), .val (.int t)]) _ = _
  rw [seq_nx e1]
  unfold gSeq
  rw [e2]
  simp only [bnd_ret, bnd_nn, bnd_rse, bnd_ite, bnd_bnd, semOf, gSeq, gNx, gSet, gDrop, gRet, gRetV, gRetN, gIf, gBk, gCt, gFrz, frz, gApp, gExt, gSetI, gAsg, gPar, gPop, gSetPop, gAppPop, gRaise, gFld, cVar, vVar, cC, toV, bin, una, aNil, aCons, cTup, cLst, rNil, rCons, setAll, addD, subD, negD, cmpD, notD, cCall, cMeth, cMeth0, cMake, objR, tV, truD, tNotD, tAndD, tOrD, tBl, andV, orV, cIf, chain, oNone, oSome, cSl, slD, ixD, lenD, tupleD, listD, cDict, tgN, tgS, tgT, tgs, wSeq, wEn, R.sl, R.d, Sl.isIns, oneIns, List.getElem?_cons_zero, List.getElem?_cons_succ, List.getElem?_nil, List.set_cons_zero, List.set_cons_succ, List.map_cons, List.map_nil, List.length_cons, List.length_nil, List.nil_append, List.cons_append, List.append_nil, List.replicate, List.all_cons, List.all_nil, Nat.reduceSub, Nat.reduceAdd, Nat.reduceLeDiff, Nat.reduceLT, Nat.reduceEqDiff, if_true, if_false, ite_true, ite_false, Bool.not_true, Bool.not_false, Bool.true_and, Bool.and_true, Bool.false_and, Bool.and_false, Bool.true_or, Bool.or_true, Bool.false_or, Bool.or_false, decide_true, decide_false, Bool.false_eq_true, reduceCtorEq, true_and, and_true, List.mem_cons_self]
def negI : Dt → Bool
  | .int z => decide (z < 0)
  | _ => false
theorem mul_no {s : Int} {l : List Int} {d : Dt} (h : plainD d = true) (hb : isW d = false ∨ negI d = true) : S_Word_mul a [wordD a s l, d] = DL.M.rse (exNu a d) := by
  unfold S_Word_mul
  rcases hb with hb | hb
  · simp only [bnd_ret, bnd_nn, bnd_rse, bnd_ite, bnd_bnd, semOf, gSeq, gNx, gSet, gDrop, gRet, gRetV, gRetN, gIf, gBk, gCt, gFrz, frz, gApp, gExt, gSetI, gAsg, gPar, gPop, gSetPop, gAppPop, gRaise, gFld, cVar, vVar, cC, toV, bin, una, aNil, aCons, cTup, cLst, rNil, rCons, setAll, addD, subD, negD, cmpD, notD, cCall, cMeth, cMeth0, cMake, objR, tV, truD, tNotD, tAndD, tOrD, tBl, andV, orV, cIf, chain, oNone, oSome, cSl, slD, ixD, lenD, tupleD, listD, cDict, tgN, tgS, tgT, tgs, wSeq, wEn, R.sl, R.d, Sl.isIns, oneIns, List.getElem?_cons_zero, List.getElem?_cons_succ, List.getElem?_nil, List.set_cons_zero, List.set_cons_succ, List.map_cons, List.map_nil, List.length_cons, List.length_nil, List.nil_append, List.cons_append, List.append_nil, List.replicate, List.all_cons, List.all_nil, Nat.reduceSub, Nat.reduceAdd, Nat.reduceLeDiff, Nat.reduceLT, Nat.reduceEqDiff, if_true, if_false, ite_true, ite_false, Bool.not_true, Bool.not_false, Bool.true_and, Bool.and_true, Bool.false_and, Bool.and_false, Bool.true_or, Bool.or_true, Bool.false_or, Bool.or_false, decide_true, decide_false, Bool.false_eq_true, reduceCtorEq, true_and, and_true, List.mem_cons_self, whole_ h, hb]
  · cases d <;> first | (cases hb; done) | skip
    rename_i z
    have e : decide (z < 0) = true := hb
    simp only [bnd_ret, bnd_nn, bnd_rse, bnd_ite, bnd_bnd, semOf, gSeq, gNx, gSet, gDrop, gRet, gRetV, gRetN, gIf, gBk, gCt, gFrz, frz, gApp, gExt, gSetI, gAsg, gPar, gPop, gSetPop, gAppPop, gRaise, gFld, cVar, vVar, cC, toV, bin, una, aNil, aCons, cTup, cLst, rNil, rCons, setAll, addD, subD, negD, cmpD, notD, cCall, cMeth, cMeth0, cMake, objR, tV, truD, tNotD, tAndD, tOrD, tBl, andV, orV, cIf, chain, oNone, oSome, cSl, slD, ixD, lenD, tupleD, listD, cDict, tgN, tgS, tgT, tgs, wSeq, wEn, R.sl, R.d, Sl.isIns, oneIns, List.getElem?_cons_zero, List.getElem?_cons_succ, List.getElem?_nil, List.set_cons_zero, List.set_cons_succ, List.map_cons, List.map_nil, List.length_cons, List.length_nil, List.nil_append, List.cons_append, List.append_nil, List.replicate, List.all_cons, List.all_nil, Nat.reduceSub, Nat.reduceAdd, Nat.reduceLeDiff, Nat.reduceLT, Nat.reduceEqDiff, if_true, if_false, ite_true, ite_false, Bool.not_true, Bool.not_false, Bool.true_and, Bool.and_true, Bool.false_and, Bool.and_false, Bool.true_or, Bool.or_true, Bool.false_or, Bool.or_false, decide_true, decide_false, Bool.false_eq_true, reduceCtorEq, true_and, and_true, List.mem_cons_self, whole_ h, isW, isI, isB, e]
theorem add_ok {s : Int} {l1 l2 : List Int} (L1 : Lt s l1) (L2 : Lt s l2) (hl : l1.length + l2.length ≤ 40) : S_Word_add a [wordD a s l1, wordD a s l2] = DL.M.ret (.val (wordD a s (l1 ++ l2))) := by
  have L : Lt s (l1 ++ l2) := ⟨L1.s0, L1.s1, by rw [List.length_append]; exact hl, fun x hx => (List.mem_append.mp hx).elim (L1.bd x) (L2.bd x)⟩
  have e : nis l1 ++ nis l2 = nis (l1 ++ l2) := by unfold nis; rw [List.map_append]
  unfold S_Word_add
  simp only [bnd_ret, bnd_nn, bnd_rse, bnd_ite, bnd_bnd, semOf, gSeq, gNx, gSet, gDrop, gRet, gRetV, gRetN, gIf, gBk, gCt, gFrz, frz, gApp, gExt, gSetI, gAsg, gPar, gPop, gSetPop, gAppPop, gRaise, gFld, cVar, vVar, cC, toV, bin, una, aNil, aCons, cTup, cLst, rNil, rCons, setAll, addD, subD, negD, cmpD, notD, cCall, cMeth, cMeth0, cMake, objR, tV, truD, tNotD, tAndD, tOrD, tBl, andV, orV, cIf, chain, oNone, oSome, cSl, slD, ixD, lenD, tupleD, listD, cDict, tgN, tgS, tgT, tgs, wSeq, wEn, R.sl, R.d, Sl.isIns, oneIns, List.getElem?_cons_zero, List.getElem?_cons_succ, List.getElem?_nil, List.set_cons_zero, List.set_cons_succ, List.map_cons, List.map_nil, List.length_cons, List.length_nil, List.nil_append, List.cons_append, List.append_nil, List.replicate, List.all_cons, List.all_nil, Nat.reduceSub, Nat.reduceAdd, Nat.reduceLeDiff, Nat.reduceLT, Nat.reduceEqDiff, if_true, if_false, ite_true, ite_false, Bool.not_true, Bool.not_false, Bool.true_and, Bool.and_true, Bool.false_and, Bool.and_false, Bool.true_or, Bool.or_true, Bool.false_or, Bool.or_false, decide_true, decide_false, Bool.false_eq_true, reduceCtorEq, true_and, and_true, List.mem_cons_self, isi_w, fld_size, fld_letters, eq_ii, Bool.true_xor, List.length_map, decide_eq_false (show ¬ (40 : Int) < (l1.length : Int) + (l2.length : Int) by omega), e, show l1.length + l2.length ≤ 100000 by omega, make_word (a := a) (.inr rfl) L]
theorem add_great {s : Int} {l1 l2 : List Int} (hl : 40 < l1.length + l2.length) : S_Word_add a [wordD a s l1, wordD a s l2] = DL.M.rse (exFo a) := by
  unfold S_Word_add
  simp only [bnd_ret, bnd_nn, bnd_rse, bnd_ite, bnd_bnd, semOf, gSeq, gNx, gSet, gDrop, gRet, gRetV, gRetN, gIf, gBk, gCt, gFrz, frz, gApp, gExt, gSetI, gAsg, gPar, gPop, gSetPop, gAppPop, gRaise, gFld, cVar, vVar, cC, toV, bin, una, aNil, aCons, cTup, cLst, rNil, rCons, setAll, addD, subD, negD, cmpD, notD, cCall, cMeth, cMeth0, cMake, objR, tV, truD, tNotD, tAndD, tOrD, tBl, andV, orV, cIf, chain, oNone, oSome, cSl, slD, ixD, lenD, tupleD, listD, cDict, tgN, tgS, tgT, tgs, wSeq, wEn, R.sl, R.d, Sl.isIns, oneIns, List.getElem?_cons_zero, List.getElem?_cons_succ, List.getElem?_nil, List.set_cons_zero, List.set_cons_succ, List.map_cons, List.map_nil, List.length_cons, List.length_nil, List.nil_append, List.cons_append, List.append_nil, List.replicate, List.all_cons, List.all_nil, Nat.reduceSub, Nat.reduceAdd, Nat.reduceLeDiff, Nat.reduceLT, Nat.reduceEqDiff, if_true, if_false, ite_true, ite_false, Bool.not_true, Bool.not_false, Bool.true_and, Bool.and_true, Bool.false_and, Bool.and_false, Bool.true_or, Bool.or_true, Bool.false_or, Bool.or_false, decide_true, decide_false, Bool.false_eq_true, reduceCtorEq, true_and, and_true, List.mem_cons_self, isi_w, fld_size, fld_letters, eq_ii, Bool.true_xor, List.length_map, decide_eq_true (show (40 : Int) < (l1.length : Int) + (l2.length : Int) by omega)]
theorem add_other {s1 s2 : Int} {l1 l2 : List Int} (h : ¬ s1 = s2) : S_Word_add a [wordD a s1 l1, wordD a s2 l2] = DL.M.rse (exOz a) := by
  unfold S_Word_add
  simp only [bnd_ret, bnd_nn, bnd_rse, bnd_ite, bnd_bnd, semOf, gSeq, gNx, gSet, gDrop, gRet, gRetV, gRetN, gIf, gBk, gCt, gFrz, frz, gApp, gExt, gSetI, gAsg, gPar, gPop, gSetPop, gAppPop, gRaise, gFld, cVar, vVar, cC, toV, bin, una, aNil, aCons, cTup, cLst, rNil, rCons, setAll, addD, subD, negD, cmpD, notD, cCall, cMeth, cMeth0, cMake, objR, tV, truD, tNotD, tAndD, tOrD, tBl, andV, orV, cIf, chain, oNone, oSome, cSl, slD, ixD, lenD, tupleD, listD, cDict, tgN, tgS, tgT, tgs, wSeq, wEn, R.sl, R.d, Sl.isIns, oneIns, List.getElem?_cons_zero, List.getElem?_cons_succ, List.getElem?_nil, List.set_cons_zero, List.set_cons_succ, List.map_cons, List.map_nil, List.length_cons, List.length_nil, List.nil_append, List.cons_append, List.append_nil, List.replicate, List.all_cons, List.all_nil, Nat.reduceSub, Nat.reduceAdd, Nat.reduceLeDiff, Nat.reduceLT, Nat.reduceEqDiff, if_true, if_false, ite_true, ite_false, Bool.not_true, Bool.not_false, Bool.true_and, Bool.and_true, Bool.false_and, Bool.and_false, Bool.true_or, Bool.or_true, Bool.false_or, Bool.or_false, decide_true, decide_false, Bool.false_eq_true, reduceCtorEq, true_and, and_true, List.mem_cons_self, isi_w, fld_size, fld_letters, eq_ii, Bool.true_xor, decide_eq_false h, gRaise0]
end Dg
set_option maxHeartbeats 0
set_option pp.maxSteps 3000
namespace Dg
open PySem DL LwM
variable {a : Adr} {T : List (Addr × Str)}
theorem tx_str {x : Str} (h : (PyData.str x).showable = true) : Tx 0 (PyData.str x).shown.length (.str x) := ⟨.str x, rfl, h, Nat.le_refl _, Nat.le_refl _⟩
theorem like_nu {d : Dt} (h : Tx 5 5000 d) : S__law_like a [.tup [.str "number", d], .tup [.str "number", d]] = DL.M.ret (.val (.bl true)) :=
  like_same (n := 6) (w := 6000) ((Tx.tup (.cons ((tx_str (x := "number") (by decide +kernel)).mono (Nat.le_refl _) (show _ ≤ 100 by decide +kernel)) (.cons h .nil))).mono (by omega) (by omega)) (by decide) (by decide)
theorem nis_tx {s : Int} {l : List Int} (L : Lt s l) : Tx 1 1000 (.lst (nis l)) := by
  have h1 := L.s1
  have h2 := L.len
  exact (Tx.lst (Txs.ints fun x hx => by have := L.bd x hx; omega)).mono (by omega) (by omega)
theorem tx_big {y : Int} (hy : y = 10 ^ 30 ∨ y = -(10 ^ 30)) : Tx 5 5000 (.int y) := by
  refine ⟨.int y, rfl, ?_, by simp [PyData.depth], ?_⟩
  · rcases hy with rfl | rfl <;> decide +kernel
  · rcases hy with rfl | rfl <;> decide +kernel
structure OdN (n : Int) (d : Dt) : Prop where
  pl : plainD d = true
  no : btw d 0 (n - 1) = false
  tx : Tx 5 5000 d
theorem odn_at {n z : Int} (n0 : 0 ≤ n) (n1 : n ≤ 40) (z0 : 0 ≤ z) (z1 : z < 11) : ∃ d, L2.atI [Dt.int n, .int (-1), .non, .str "0", .bl true, .bl false, .tup [.int 0], .lst [.int 0], .int (10 ^ 30), .int (-(10 ^ 30)), .dK [] []] z = some d ∧ OdN n d := by
  have big : ∀ y : Int, (y = 10 ^ 30 ∨ y = -(10 ^ 30)) → OdN n (.int y) := fun y hy => by
    refine ⟨rfl, ?_, tx_big hy⟩
    show (decide (0 ≤ y) && decide (y ≤ n - 1)) = false
    rcases hy with rfl | rfl
    · rw [decide_eq_false (show ¬ (10 : Int) ^ 30 ≤ n - 1 by omega), Bool.and_false]
    · rw [decide_eq_false (show ¬ (0 : Int) ≤ -(10 ^ 30) by omega)]; rfl
  have one : ∀ y : Int, (y < 0 ∨ n - 1 < y) → y.natAbs ≤ 100000 → OdN n (.int y) := fun y h hz => by
    refine ⟨rfl, ?_, (Tx.int hz).mono (by omega) (by omega)⟩
    show (decide (0 ≤ y) && decide (y ≤ n - 1)) = false
    rcases h with h | h
    · rw [decide_eq_false (show ¬ 0 ≤ y by omega)]; rfl
    · rw [decide_eq_false (show ¬ y ≤ n - 1 by omega), Bool.and_false]
  have h : z = 0 ∨ z = 1 ∨ z = 2 ∨ z = 3 ∨ z = 4 ∨ z = 5 ∨ z = 6 ∨ z = 7 ∨ z = 8 ∨ z = 9 ∨ z = 10 := by omega
  rcases h with rfl | rfl | rfl | rfl | rfl | rfl | rfl | rfl | rfl | rfl | rfl
  · exact ⟨_, rfl, one _ (by omega) (by omega)⟩
  · exact ⟨_, rfl, one _ (by omega) (by omega)⟩
  · exact ⟨_, rfl, rfl, rfl, Tx.non.mono (by omega) (by omega)⟩
  · exact ⟨_, rfl, rfl, rfl, (tx_str (x := "0") (by decide +kernel)).mono (by omega) (by decide +kernel)⟩
  · exact ⟨_, rfl, rfl, rfl, (Tx.bl true).mono (by omega) (by omega)⟩
  · exact ⟨_, rfl, rfl, rfl, (Tx.bl false).mono (by omega) (by omega)⟩
  · exact ⟨_, rfl, rfl, rfl, (Tx.tup (.cons (Tx.int (z := 0) (by decide)) .nil)).mono (by omega) (by omega)⟩
  · exact ⟨_, rfl, rfl, rfl, (Tx.lst (.cons (Tx.int (z := 0) (by decide)) .nil)).mono (by omega) (by omega)⟩
  · exact ⟨_, rfl, big _ (.inl rfl)⟩
  · exact ⟨_, rfl, big _ (.inr rfl)⟩
  · exact ⟨_, rfl, rfl, rfl, Tx.dic.mono (by omega) (by omega)⟩
noncomputable def pl1 (a : Adr) : List Sl → DL.M Fl := (gIf (tOrD (tBl (bin (toV (una (toV (cLc (wRng1 (toV (una (vVar 2) (orC (isObj a.w_Word) (lenOw a.w_Word (S_Word_len a)) lenD)))) (tgN 5) tYesD (binF (vVar 1) (cVar 5) (getOw a.w_Word (S_Word_getitem a))) [5])) reprD)) (toV (una (vVar 2) reprD)) (eqG true))) (tNotD (tV (toV (cCall 2 (aCons (una (vVar 1) (orC (isObj a.w_Word) (lenOw a.w_Word (S_Word_len a)) lenD)) (aCons (una (vVar 2) (orC (isObj a.w_Word) (lenOw a.w_Word (S_Word_len a)) lenD)) aNil)) (S__law_like a)))))) (gRet (cC (.bl false))) gNx)
noncomputable def pl2 (a : Adr) : List Sl → DL.M Fl := (gSet 3 (bin (toV (cLst (aCons (una (vVar 2) (orC (isObj a.w_Word) (lenOw a.w_Word (S_Word_len a)) lenD)) (aCons (una (toV (cC (.int 1))) negD) (aCons (cC .non) (aCons (cC (.str "0")) (aCons (cC (.bl true)) (aCons (cC (.bl false)) (aCons (cTup (aCons (cC (.int 0)) aNil)) (aCons (cLst (aCons (cC (.int 0)) aNil)) (aCons (bin (toV (cC (.int 10))) (toV (cC (.int 30))) powD) (aCons (una (toV (bin (toV (cC (.int 10))) (toV (cC (.int 30))) powD)) negD) (aCons cDict aNil))))))))))))) (toV (cCall 2 (aCons (cVar 0) (aCons (cC (.int 11)) aNil)) (S__law_draw a))) ixD))
noncomputable def pl3 (a : Adr) : List Sl → DL.M Fl := (gSet 4 (cHeard a.ec usd a.P__law_places_right lq__law_places_right (una (vVar 1) (getSl a.w_Word (S_Word_getitem a)))))
noncomputable def pl4 (a : Adr) : List Sl → DL.M Fl := (gIf (tOrD (tNotD (tV (toV (una (vVar 4) (isiD (ocs a) [(.ty "tuple")]))))) (tBl (bin (toV (bin (vVar 4) (toV (cC (.int 0))) ixD)) (toV (cC (.str "number"))) (eqG true)))) (gRet (cC (.bl false))) gNx)
noncomputable def pl5 (a : Adr) : List Sl → DL.M Fl := (gRet (cCall 2 (aCons (cHeard a.ec usd a.P__law_places_right lq__law_places_right (binF (vVar 1) (cVar 3) (getOw a.w_Word (S_Word_getitem a)))) (aCons (cTup (aCons (cC (.str "number")) (aCons (cVar 3) aNil))) aNil)) (S__law_like a)))
theorem pl_def : S__law_places_right a = semOf 6 (gSeq (pl1 a) (gSeq (pl2 a) (gSeq (pl3 a) (gSeq (pl4 a) (pl5 a))))) := rfl
theorem pl1_ {s : Int} {l : List Int} (L : Lt s l) {x0 x3 x4 x5 : Sl} : pl1 a [x0, .val (wordD a s l), .val (.lst (nis l)), x3, x4, x5] = DL.M.ret (.nx [x0, .val (wordD a s l), .val (.lst (nis l)), x3, x4, x5]) := by
  have hl := L.len
  have c := comp_ (a := a) (s := s) (l := l) hl (x0 := x0) (x3 := x3) (x4 := x4) (x5 := x5)
  obtain ⟨t, e⟩ := (nis_tx L).repr (by omega) (by omega)
  have k := like_same (a := a) (d := .int (l.length : Int)) (Tx.int (by omega)) (by omega) (by omega)
  unfold pl1
  generalize cLc (wRng1 (toV (una (vVar 2) (orC (isObj a.w_Word) (lenOw a.w_Word (S_Word_len a)) lenD)))) (tgN 5) tYesD (binF (vVar 1) (cVar 5) (getOw a.w_Word (S_Word_getitem a))) [5] = C at c ⊢
  have w1 := lenW (a := a) (s := s) (l := l) (by omega)
  have w2 := lenL (a := a) (l := nis l)
  rw [List.length_map] at w2
  generalize orC (isObj a.w_Word) (lenOw a.w_Word (S_Word_len a)) lenD = LN at w1 w2 ⊢
  simp only [bnd_ret, bnd_nn, bnd_rse, bnd_ite, bnd_bnd, semOf, gSeq, gNx, gSet, gDrop, gRet, gRetV, gRetN, gIf, gBk, gCt, gFrz, frz, gApp, gExt, gSetI, gAsg, gPar, gPop, gSetPop, gAppPop, gRaise, gFld, cVar, vVar, cC, toV, bin, una, aNil, aCons, cTup, cLst, rNil, rCons, setAll, addD, subD, negD, cmpD, notD, cCall, cMeth, cMeth0, cMake, objR, tV, truD, tNotD, tAndD, tOrD, tBl, andV, orV, cIf, chain, oNone, oSome, cSl, slD, ixD, lenD, tupleD, listD, cDict, tgN, tgS, tgT, tgs, wSeq, wEn, R.sl, R.d, Sl.isIns, oneIns, List.getElem?_cons_zero, List.getElem?_cons_succ, List.getElem?_nil, List.set_cons_zero, List.set_cons_succ, List.map_cons, List.map_nil, List.length_cons, List.length_nil, List.nil_append, List.cons_append, List.append_nil, List.replicate, List.all_cons, List.all_nil, Nat.reduceSub, Nat.reduceAdd, Nat.reduceLeDiff, Nat.reduceLT, Nat.reduceEqDiff, if_true, if_false, ite_true, ite_false, Bool.not_true, Bool.not_false, Bool.true_and, Bool.and_true, Bool.false_and, Bool.and_false, Bool.true_or, Bool.or_true, Bool.false_or, Bool.or_false, decide_true, decide_false, Bool.false_eq_true, reduceCtorEq, true_and, and_true, List.mem_cons_self, c, e, eq_ss, Bool.true_xor, w1, w2, k]
theorem pl2_ {l : List Int} (hl : l.length ≤ 40) {x1 x3 x4 x5 : Sl} : Dw T 1 (pl2 a [.val .drw, x1, .val (.lst (nis l)), x3, x4, x5]) (fun f => ∃ d, f = .nx [.val .drw, x1, .val (.lst (nis l)), .val d, x4, x5] ∧ OdN (l.length : Int) d) := by
  unfold pl2
  have w2 := lenL (a := a) (l := nis l)
  rw [List.length_map] at w2
  generalize orC (isObj a.w_Word) (lenOw a.w_Word (S_Word_len a)) lenD = LN at w2 ⊢
  simp only [bnd_ret, bnd_nn, bnd_rse, bnd_ite, bnd_bnd, semOf, gSeq, gNx, gSet, gDrop, gRet, gRetV, gRetN, gIf, gBk, gCt, gFrz, frz, gApp, gExt, gSetI, gAsg, gPar, gPop, gSetPop, gAppPop, gRaise, gFld, cVar, vVar, cC, toV, bin, una, aNil, aCons, cTup, cLst, rNil, rCons, setAll, addD, subD, negD, cmpD, notD, cCall, cMeth, cMeth0, cMake, objR, tV, truD, tNotD, tAndD, tOrD, tBl, andV, orV, cIf, chain, oNone, oSome, cSl, slD, ixD, lenD, tupleD, listD, cDict, tgN, tgS, tgT, tgs, wSeq, wEn, R.sl, R.d, Sl.isIns, oneIns, List.getElem?_cons_zero, List.getElem?_cons_succ, List.getElem?_nil, List.set_cons_zero, List.set_cons_succ, List.map_cons, List.map_nil, List.length_cons, List.length_nil, List.nil_append, List.cons_append, List.append_nil, List.replicate, List.all_cons, List.all_nil, Nat.reduceSub, Nat.reduceAdd, Nat.reduceLeDiff, Nat.reduceLT, Nat.reduceEqDiff, if_true, if_false, ite_true, ite_false, Bool.not_true, Bool.not_false, Bool.true_and, Bool.and_true, Bool.false_and, Bool.and_false, Bool.true_or, Bool.or_true, Bool.false_or, Bool.or_false, decide_true, decide_false, Bool.false_eq_true, reduceCtorEq, true_and, and_true, List.mem_cons_self, w2, pow30]
  refine Dw.bnd (k := 1) (j := 0) (by decide) (by decide) (draw_ (lim := 11) (by decide) (by decide)) fun r hr => ?_
  obtain ⟨z, rfl, z0, z1⟩ := hr
  obtain ⟨d, e, o⟩ := odn_at (n := (l.length : Int)) (by omega) (by omega) z0 z1
  simp only [bnd_ret, bnd_nn, bnd_rse, bnd_ite, bnd_bnd, semOf, gSeq, gNx, gSet, gDrop, gRet, gRetV, gRetN, gIf, gBk, gCt, gFrz, frz, gApp, gExt, gSetI, gAsg, gPar, gPop, gSetPop, gAppPop, gRaise, gFld, cVar, vVar, cC, toV, bin, una, aNil, aCons, cTup, cLst, rNil, rCons, setAll, addD, subD, negD, cmpD, notD, cCall, cMeth, cMeth0, cMake, objR, tV, truD, tNotD, tAndD, tOrD, tBl, andV, orV, cIf, chain, oNone, oSome, cSl, slD, ixD, lenD, tupleD, listD, cDict, tgN, tgS, tgT, tgs, wSeq, wEn, R.sl, R.d, Sl.isIns, oneIns, List.getElem?_cons_zero, List.getElem?_cons_succ, List.getElem?_nil, List.set_cons_zero, List.set_cons_succ, List.map_cons, List.map_nil, List.length_cons, List.length_nil, List.nil_append, List.cons_append, List.append_nil, List.replicate, List.all_cons, List.all_nil, Nat.reduceSub, Nat.reduceAdd, Nat.reduceLeDiff, Nat.reduceLT, Nat.reduceEqDiff, if_true, if_false, ite_true, ite_false, Bool.not_true, Bool.not_false, Bool.true_and, Bool.and_true, Bool.false_and, Bool.and_false, Bool.true_or, Bool.or_true, Bool.false_or, Bool.or_false, decide_true, decide_false, Bool.false_eq_true, reduceCtorEq, true_and, and_true, List.mem_cons_self, e]
  exact Dw.ret (by decide) ⟨d, rfl, o⟩
theorem pl3_ {s : Int} {l : List Int} (hm : tabOk a.P__law_places_right lq__law_places_right T) {x0 x2 x3 x4 x5 : Sl} : Dw T 0 (pl3 a [x0, .val (wordD a s l), x2, x3, x4, x5]) (fun f => f = .nx [x0, .val (wordD a s l), x2, x3, .val (.tup [.str "number", .slc]), x5]) := by
  have h : una (vVar 1) (getSl a.w_Word (S_Word_getitem a)) [x0, .val (wordD a s l), x2, x3, x4, x5] = DL.M.rse (exNu a .slc) := by
    unfold una getSl
    simp only [bnd_ret, bnd_nn, bnd_rse, bnd_ite, bnd_bnd, semOf, gSeq, gNx, gSet, gDrop, gRet, gRetV, gRetN, gIf, gBk, gCt, gFrz, frz, gApp, gExt, gSetI, gAsg, gPar, gPop, gSetPop, gAppPop, gRaise, gFld, cVar, vVar, cC, toV, bin, una, aNil, aCons, cTup, cLst, rNil, rCons, setAll, addD, subD, negD, cmpD, notD, cCall, cMeth, cMeth0, cMake, objR, tV, truD, tNotD, tAndD, tOrD, tBl, andV, orV, cIf, chain, oNone, oSome, cSl, slD, ixD, lenD, tupleD, listD, cDict, tgN, tgS, tgT, tgs, wSeq, wEn, R.sl, R.d, Sl.isIns, oneIns, List.getElem?_cons_zero, List.getElem?_cons_succ, List.getElem?_nil, List.set_cons_zero, List.set_cons_succ, List.map_cons, List.map_nil, List.length_cons, List.length_nil, List.nil_append, List.cons_append, List.append_nil, List.replicate, List.all_cons, List.all_nil, Nat.reduceSub, Nat.reduceAdd, Nat.reduceLeDiff, Nat.reduceLT, Nat.reduceEqDiff, if_true, if_false, ite_true, ite_false, Bool.not_true, Bool.not_false, Bool.true_and, Bool.and_true, Bool.false_and, Bool.and_false, Bool.true_or, Bool.or_true, Bool.false_or, Bool.or_false, decide_true, decide_false, Bool.false_eq_true, reduceCtorEq, true_and, and_true, List.mem_cons_self, obj_w, get_slc]
  have k := heard_no (T := T) hm h (hx_nu .slc)
  unfold pl3 gSet
  exact (Dw.bnd (k := 0) (j := 0) (by decide) (by decide) k fun r hr => by
    subst hr
    exact Dw.ret (by decide) rfl).le (by decide)
theorem pl4_ {x0 x1 x2 x3 x5 : Sl} {d : Dt} : pl4 a [x0, x1, x2, x3, .val (.tup [.str "number", d]), x5] = DL.M.ret (.nx [x0, x1, x2, x3, .val (.tup [.str "number", d]), x5]) := by
  unfold pl4
  have e : isiD (ocs a) [.ty "tuple"] (.tup [.str "number", d]) = DL.M.ret (.val (.bl true)) := isi_ty (ocs a) "tuple" _ rfl (b := true) (by decide +kernel)
  have e2 : L2.atI [Dt.str "number", d] 0 = some (.str "number") := rfl
  simp only [bnd_ret, bnd_nn, bnd_rse, bnd_ite, bnd_bnd, semOf, gSeq, gNx, gSet, gDrop, gRet, gRetV, gRetN, gIf, gBk, gCt, gFrz, frz, gApp, gExt, gSetI, gAsg, gPar, gPop, gSetPop, gAppPop, gRaise, gFld, cVar, vVar, cC, toV, bin, una, aNil, aCons, cTup, cLst, rNil, rCons, setAll, addD, subD, negD, cmpD, notD, cCall, cMeth, cMeth0, cMake, objR, tV, truD, tNotD, tAndD, tOrD, tBl, andV, orV, cIf, chain, oNone, oSome, cSl, slD, ixD, lenD, tupleD, listD, cDict, tgN, tgS, tgT, tgs, wSeq, wEn, R.sl, R.d, Sl.isIns, oneIns, List.getElem?_cons_zero, List.getElem?_cons_succ, List.getElem?_nil, List.set_cons_zero, List.set_cons_succ, List.map_cons, List.map_nil, List.length_cons, List.length_nil, List.nil_append, List.cons_append, List.append_nil, List.replicate, List.all_cons, List.all_nil, Nat.reduceSub, Nat.reduceAdd, Nat.reduceLeDiff, Nat.reduceLT, Nat.reduceEqDiff, if_true, if_false, ite_true, ite_false, Bool.not_true, Bool.not_false, Bool.true_and, Bool.and_true, Bool.false_and, Bool.and_false, Bool.true_or, Bool.or_true, Bool.false_or, Bool.or_false, decide_true, decide_false, Bool.false_eq_true, reduceCtorEq, true_and, and_true, List.mem_cons_self, e, e2, eq_ss, Bool.true_xor]
theorem pl5_ {s : Int} {l : List Int} (hm : tabOk a.P__law_places_right lq__law_places_right T) {d : Dt} (o : OdN (l.length : Int) d) {x0 x2 x4 x5 : Sl} : Dw T 0 (pl5 a [x0, .val (wordD a s l), x2, .val d, x4, x5]) (fun f => f = .ret (.val (.bl true))) := by
  have h : binF (vVar 1) (cVar 3) (getOw a.w_Word (S_Word_getitem a)) [x0, .val (wordD a s l), x2, .val d, x4, x5] = DL.M.rse (exNu a d) := by
    unfold binF getOw
    simp only [bnd_ret, bnd_nn, bnd_rse, bnd_ite, bnd_bnd, semOf, gSeq, gNx, gSet, gDrop, gRet, gRetV, gRetN, gIf, gBk, gCt, gFrz, frz, gApp, gExt, gSetI, gAsg, gPar, gPop, gSetPop, gAppPop, gRaise, gFld, cVar, vVar, cC, toV, bin, una, aNil, aCons, cTup, cLst, rNil, rCons, setAll, addD, subD, negD, cmpD, notD, cCall, cMeth, cMeth0, cMake, objR, tV, truD, tNotD, tAndD, tOrD, tBl, andV, orV, cIf, chain, oNone, oSome, cSl, slD, ixD, lenD, tupleD, listD, cDict, tgN, tgS, tgT, tgs, wSeq, wEn, R.sl, R.d, Sl.isIns, oneIns, List.getElem?_cons_zero, List.getElem?_cons_succ, List.getElem?_nil, List.set_cons_zero, List.set_cons_succ, List.map_cons, List.map_nil, List.length_cons, List.length_nil, List.nil_append, List.cons_append, List.append_nil, List.replicate, List.all_cons, List.all_nil, Nat.reduceSub, Nat.reduceAdd, Nat.reduceLeDiff, Nat.reduceLT, Nat.reduceEqDiff, if_true, if_false, ite_true, ite_false, Bool.not_true, Bool.not_false, Bool.true_and, Bool.and_true, Bool.false_and, Bool.and_false, Bool.true_or, Bool.or_true, Bool.false_or, Bool.or_false, decide_true, decide_false, Bool.false_eq_true, reduceCtorEq, true_and, and_true, List.mem_cons_self, obj_w, get_no o.pl o.no]
  have k := heard_no (T := T) hm h (hx_nu d)
  unfold pl5
  generalize cHeard a.ec usd a.P__law_places_right lq__law_places_right (binF (vVar 1) (cVar 3) (getOw a.w_Word (S_Word_getitem a))) = HD at k ⊢
  simp only [bnd_ret, bnd_nn, bnd_rse, bnd_ite, bnd_bnd, semOf, gSeq, gNx, gSet, gDrop, gRet, gRetV, gRetN, gIf, gBk, gCt, gFrz, frz, gApp, gExt, gSetI, gAsg, gPar, gPop, gSetPop, gAppPop, gRaise, gFld, cVar, vVar, cC, toV, bin, una, aNil, aCons, cTup, cLst, rNil, rCons, setAll, addD, subD, negD, cmpD, notD, cCall, cMeth, cMeth0, cMake, objR, tV, truD, tNotD, tAndD, tOrD, tBl, andV, orV, cIf, chain, oNone, oSome, cSl, slD, ixD, lenD, tupleD, listD, cDict, tgN, tgS, tgT, tgs, wSeq, wEn, R.sl, R.d, Sl.isIns, oneIns, List.getElem?_cons_zero, List.getElem?_cons_succ, List.getElem?_nil, List.set_cons_zero, List.set_cons_succ, List.map_cons, List.map_nil, List.length_cons, List.length_nil, List.nil_append, List.cons_append, List.append_nil, List.replicate, List.all_cons, List.all_nil, Nat.reduceSub, Nat.reduceAdd, Nat.reduceLeDiff, Nat.reduceLT, Nat.reduceEqDiff, if_true, if_false, ite_true, ite_false, Bool.not_true, Bool.not_false, Bool.true_and, Bool.and_true, Bool.false_and, Bool.and_false, Bool.true_or, Bool.or_true, Bool.false_or, Bool.or_false, decide_true, decide_false, Bool.false_eq_true, reduceCtorEq, true_and, and_true, List.mem_cons_self]
  refine (Dw.bnd (k := 0) (j := 0) (by decide) (by decide) k fun r hr => ?_).le (by decide)
  subst hr
  simp only [bnd_ret, bnd_nn, bnd_rse, bnd_ite, bnd_bnd, semOf, gSeq, gNx, gSet, gDrop, gRet, gRetV, gRetN, gIf, gBk, gCt, gFrz, frz, gApp, gExt, gSetI, gAsg, gPar, gPop, gSetPop, gAppPop, gRaise, gFld, cVar, vVar, cC, toV, bin, una, aNil, aCons, cTup, cLst, rNil, rCons, setAll, addD, subD, negD, cmpD, notD, cCall, cMeth, cMeth0, cMake, objR, tV, truD, tNotD, tAndD, tOrD, tBl, andV, orV, cIf, chain, oNone, oSome, cSl, slD, ixD, lenD, tupleD, listD, cDict, tgN, tgS, tgT, tgs, wSeq, wEn, R.sl, R.d, Sl.isIns, oneIns, List.getElem?_cons_zero, List.getElem?_cons_succ, List.getElem?_nil, List.set_cons_zero, List.set_cons_succ, List.map_cons, List.map_nil, List.length_cons, List.length_nil, List.nil_append, List.cons_append, List.append_nil, List.replicate, List.all_cons, List.all_nil, Nat.reduceSub, Nat.reduceAdd, Nat.reduceLeDiff, Nat.reduceLT, Nat.reduceEqDiff, if_true, if_false, ite_true, ite_false, Bool.not_true, Bool.not_false, Bool.true_and, Bool.and_true, Bool.false_and, Bool.and_false, Bool.true_or, Bool.or_true, Bool.false_or, Bool.or_false, decide_true, decide_false, Bool.false_eq_true, reduceCtorEq, true_and, and_true, List.mem_cons_self, like_nu o.tx]
  exact Dw.ret (by decide) rfl
theorem places_ {s : Int} {l : List Int} (L : Lt s l) (hm : tabOk a.P__law_places_right lq__law_places_right T) : Dw T 1 (S__law_places_right a [.drw, wordD a s l, .lst (nis l)]) (fun r => r = .val (.bl true)) := by
  rw [pl_def]
  show Dw T 1 (DL.M.bnd (gSeq (pl1 a) (gSeq (pl2 a) (gSeq (pl3 a) (gSeq (pl4 a) (pl5 a)))) [.val .drw, .val (wordD a s l), .val (.lst (nis l)), .non, .non, .non]) _) _
  rw [seq_nx (pl1_ L)]
  refine (Dw.bnd (k := 1) (j := 0) (P := fun f => f = .ret (.val (.bl true))) (by decide) (by decide) ?_ fun f hf => ?_).le (by decide)
  · refine (seq_dw (c := 1) (d := 0) (Q := fun δ => ∃ d, δ = [.val .drw, .val (wordD a s l), .val (.lst (nis l)), .val d, .non, .non] ∧ OdN (l.length : Int) d) (by decide) (by decide) ((pl2_ L.len).imp fun f ⟨d, e, o⟩ => ⟨_, e, d, rfl, o⟩) fun δ' ⟨d, e, o⟩ => ?_).le (by decide)
    subst e
    refine (seq_dw (c := 0) (d := 0) (Q := fun δ => δ = [.val .drw, .val (wordD a s l), .val (.lst (nis l)), .val d, .val (.tup [.str "number", .slc]), .non]) (by decide) (by decide) ((pl3_ hm).imp fun f e => ⟨_, e, rfl⟩) fun δ' e => ?_).le (by decide)
    subst e
    rw [seq_nx pl4_]
    exact pl5_ hm o
  · subst hf
    exact Dw.ret (by decide) rfl
theorem gr_self (neg : Bool) : eqG neg (.tup [.str "great", .int 40]) (.tup [.str "great", .int 40]) = DL.M.ret (.val (.bl (neg ^^ true))) :=
  eq_self (x := .tuple [.str "great", .int 40]) neg rfl (by decide +kernel) (fun _ h => by cases h) (by decide +kernel)
theorem both_ {s1 s2 : Int} {l1 l2 : List Int} (M1 : Lt s1 l1) (M2 : Lt s2 l2) (hm : tabOk a.P__law_both_right lq__law_both_right T) : Dw T 0 (S__law_both_right a [wordD a s1 l1, wordD a s2 l2, .lst [.int s1, .int s2], .lst [.lst (nis l1), .lst (nis l2)]]) (fun r => r = .val (.bl true)) := by
  have at0 : L2.atI [Dt.int s1, .int s2] 0 = some (.int s1) := rfl
  have at1 : L2.atI [Dt.int s1, .int s2] 1 = some (.int s2) := rfl
  have bt0 : L2.atI [Dt.lst (nis l1), .lst (nis l2)] 0 = some (.lst (nis l1)) := rfl
  have bt1 : L2.atI [Dt.lst (nis l1), .lst (nis l2)] 1 = some (.lst (nis l2)) := rfl
  have ob : both a.w_Word (wordD a s1 l1) (wordD a s2 l2) = true := by unfold both; rw [obj_w, obj_w]; rfl
  by_cases hs : s1 = s2
  · subst hs
    by_cases hl : l1.length + l2.length ≤ 40
    · have h : bin (vVar 0) (vVar 1) (twoOw a.w_Word (S_Word_add a)) [.val (wordD a s1 l1), .val (wordD a s1 l2), .val (.lst [.int s1, .int s1]), .val (.lst [.lst (nis l1), .lst (nis l2)]), .non] = DL.M.ret (.val (wordD a s1 (l1 ++ l2))) := by
        unfold bin twoOw
        simp only [bnd_ret, bnd_nn, bnd_rse, bnd_ite, bnd_bnd, semOf, gSeq, gNx, gSet, gDrop, gRet, gRetV, gRetN, gIf, gBk, gCt, gFrz, frz, gApp, gExt, gSetI, gAsg, gPar, gPop, gSetPop, gAppPop, gRaise, gFld, cVar, vVar, cC, toV, bin, una, aNil, aCons, cTup, cLst, rNil, rCons, setAll, addD, subD, negD, cmpD, notD, cCall, cMeth, cMeth0, cMake, objR, tV, truD, tNotD, tAndD, tOrD, tBl, andV, orV, cIf, chain, oNone, oSome, cSl, slD, ixD, lenD, tupleD, listD, cDict, tgN, tgS, tgT, tgs, wSeq, wEn, R.sl, R.d, Sl.isIns, oneIns, List.getElem?_cons_zero, List.getElem?_cons_succ, List.getElem?_nil, List.set_cons_zero, List.set_cons_succ, List.map_cons, List.map_nil, List.length_cons, List.length_nil, List.nil_append, List.cons_append, List.append_nil, List.replicate, List.all_cons, List.all_nil, Nat.reduceSub, Nat.reduceAdd, Nat.reduceLeDiff, Nat.reduceLT, Nat.reduceEqDiff, if_true, if_false, ite_true, ite_false, Bool.not_true, Bool.not_false, Bool.true_and, Bool.and_true, Bool.false_and, Bool.and_false, Bool.true_or, Bool.or_true, Bool.false_or, Bool.or_false, decide_true, decide_false, Bool.false_eq_true, reduceCtorEq, true_and, and_true, List.mem_cons_self, ob, add_ok M1 M2 hl]
      have k := heard_ok (a := a) (T := T) hm h
      have L : Lt s1 (l1 ++ l2) := ⟨M1.s0, M1.s1, by rw [List.length_append]; exact hl, fun x hx => (List.mem_append.mp hx).elim (M1.bd x) (M2.bd x)⟩
      have w := is_word (a := a) L
      have e : nis l1 ++ nis l2 = nis (l1 ++ l2) := by unfold nis; rw [List.map_append]
      have i1 : isiD (ocs a) [.ty "list"] (.lst [wordD a s1 (l1 ++ l2)]) = DL.M.ret (.val (.bl true)) := isi_ty (ocs a) "list" _ rfl (b := true) (by decide +kernel)
      have i2 : L2.atI [wordD a s1 (l1 ++ l2)] 0 = some (wordD a s1 (l1 ++ l2)) := rfl
      unfold S__law_both_right
      generalize cHeard a.ec usd a.P__law_both_right lq__law_both_right (bin (vVar 0) (vVar 1) (twoOw a.w_Word (S_Word_add a))) = HD at k ⊢
      simp only [bnd_ret, bnd_nn, bnd_rse, bnd_ite, bnd_bnd, semOf, gSeq, gNx, gSet, gDrop, gRet, gRetV, gRetN, gIf, gBk, gCt, gFrz, frz, gApp, gExt, gSetI, gAsg, gPar, gPop, gSetPop, gAppPop, gRaise, gFld, cVar, vVar, cC, toV, bin, una, aNil, aCons, cTup, cLst, rNil, rCons, setAll, addD, subD, negD, cmpD, notD, cCall, cMeth, cMeth0, cMake, objR, tV, truD, tNotD, tAndD, tOrD, tBl, andV, orV, cIf, chain, oNone, oSome, cSl, slD, ixD, lenD, tupleD, listD, cDict, tgN, tgS, tgT, tgs, wSeq, wEn, R.sl, R.d, Sl.isIns, oneIns, List.getElem?_cons_zero, List.getElem?_cons_succ, List.getElem?_nil, List.set_cons_zero, List.set_cons_succ, List.map_cons, List.map_nil, List.length_cons, List.length_nil, List.nil_append, List.cons_append, List.append_nil, List.replicate, List.all_cons, List.all_nil, Nat.reduceSub, Nat.reduceAdd, Nat.reduceLeDiff, Nat.reduceLT, Nat.reduceEqDiff, if_true, if_false, ite_true, ite_false, Bool.not_true, Bool.not_false, Bool.true_and, Bool.and_true, Bool.false_and, Bool.and_false, Bool.true_or, Bool.or_true, Bool.false_or, Bool.or_false, decide_true, decide_false, Bool.false_eq_true, reduceCtorEq, true_and, and_true, List.mem_cons_self]
      refine (Dw.bnd (k := 0) (j := 0) (by decide) (by decide) k fun r hr => ?_).le (by decide)
      subst hr
      simp only [bnd_ret, bnd_nn, bnd_rse, bnd_ite, bnd_bnd, semOf, gSeq, gNx, gSet, gDrop, gRet, gRetV, gRetN, gIf, gBk, gCt, gFrz, frz, gApp, gExt, gSetI, gAsg, gPar, gPop, gSetPop, gAppPop, gRaise, gFld, cVar, vVar, cC, toV, bin, una, aNil, aCons, cTup, cLst, rNil, rCons, setAll, addD, subD, negD, cmpD, notD, cCall, cMeth, cMeth0, cMake, objR, tV, truD, tNotD, tAndD, tOrD, tBl, andV, orV, cIf, chain, oNone, oSome, cSl, slD, ixD, lenD, tupleD, listD, cDict, tgN, tgS, tgT, tgs, wSeq, wEn, R.sl, R.d, Sl.isIns, oneIns, List.getElem?_cons_zero, List.getElem?_cons_succ, List.getElem?_nil, List.set_cons_zero, List.set_cons_succ, List.map_cons, List.map_nil, List.length_cons, List.length_nil, List.nil_append, List.cons_append, List.append_nil, List.replicate, List.all_cons, List.all_nil, Nat.reduceSub, Nat.reduceAdd, Nat.reduceLeDiff, Nat.reduceLT, Nat.reduceEqDiff, if_true, if_false, ite_true, ite_false, Bool.not_true, Bool.not_false, Bool.true_and, Bool.and_true, Bool.false_and, Bool.and_false, Bool.true_or, Bool.or_true, Bool.false_or, Bool.or_false, decide_true, decide_false, Bool.false_eq_true, reduceCtorEq, true_and, and_true, List.mem_cons_self, at0, at1, bt0, bt1, eq_ii, Bool.true_xor, List.length_map, decide_eq_false (show ¬ (40 : Int) < (l1.length : Int) + (l2.length : Int) by omega), i1, i2, show l1.length + l2.length ≤ 100000 by omega, e, w]
      exact Dw.ret (by decide) rfl
    · have h : bin (vVar 0) (vVar 1) (twoOw a.w_Word (S_Word_add a)) [.val (wordD a s1 l1), .val (wordD a s1 l2), .val (.lst [.int s1, .int s1]), .val (.lst [.lst (nis l1), .lst (nis l2)]), .non] = DL.M.rse (exFo a) := by
        unfold bin twoOw
        simp only [bnd_ret, bnd_nn, bnd_rse, bnd_ite, bnd_bnd, semOf, gSeq, gNx, gSet, gDrop, gRet, gRetV, gRetN, gIf, gBk, gCt, gFrz, frz, gApp, gExt, gSetI, gAsg, gPar, gPop, gSetPop, gAppPop, gRaise, gFld, cVar, vVar, cC, toV, bin, una, aNil, aCons, cTup, cLst, rNil, rCons, setAll, addD, subD, negD, cmpD, notD, cCall, cMeth, cMeth0, cMake, objR, tV, truD, tNotD, tAndD, tOrD, tBl, andV, orV, cIf, chain, oNone, oSome, cSl, slD, ixD, lenD, tupleD, listD, cDict, tgN, tgS, tgT, tgs, wSeq, wEn, R.sl, R.d, Sl.isIns, oneIns, List.getElem?_cons_zero, List.getElem?_cons_succ, List.getElem?_nil, List.set_cons_zero, List.set_cons_succ, List.map_cons, List.map_nil, List.length_cons, List.length_nil, List.nil_append, List.cons_append, List.append_nil, List.replicate, List.all_cons, List.all_nil, Nat.reduceSub, Nat.reduceAdd, Nat.reduceLeDiff, Nat.reduceLT, Nat.reduceEqDiff, if_true, if_false, ite_true, ite_false, Bool.not_true, Bool.not_false, Bool.true_and, Bool.and_true, Bool.false_and, Bool.and_false, Bool.true_or, Bool.or_true, Bool.false_or, Bool.or_false, decide_true, decide_false, Bool.false_eq_true, reduceCtorEq, true_and, and_true, List.mem_cons_self, ob, add_great (a := a) (s := s1) (show 40 < l1.length + l2.length by omega)]
      have k := heard_no (T := T) hm h hx_fo
      unfold S__law_both_right
      generalize cHeard a.ec usd a.P__law_both_right lq__law_both_right (bin (vVar 0) (vVar 1) (twoOw a.w_Word (S_Word_add a))) = HD at k ⊢
      simp only [bnd_ret, bnd_nn, bnd_rse, bnd_ite, bnd_bnd, semOf, gSeq, gNx, gSet, gDrop, gRet, gRetV, gRetN, gIf, gBk, gCt, gFrz, frz, gApp, gExt, gSetI, gAsg, gPar, gPop, gSetPop, gAppPop, gRaise, gFld, cVar, vVar, cC, toV, bin, una, aNil, aCons, cTup, cLst, rNil, rCons, setAll, addD, subD, negD, cmpD, notD, cCall, cMeth, cMeth0, cMake, objR, tV, truD, tNotD, tAndD, tOrD, tBl, andV, orV, cIf, chain, oNone, oSome, cSl, slD, ixD, lenD, tupleD, listD, cDict, tgN, tgS, tgT, tgs, wSeq, wEn, R.sl, R.d, Sl.isIns, oneIns, List.getElem?_cons_zero, List.getElem?_cons_succ, List.getElem?_nil, List.set_cons_zero, List.set_cons_succ, List.map_cons, List.map_nil, List.length_cons, List.length_nil, List.nil_append, List.cons_append, List.append_nil, List.replicate, List.all_cons, List.all_nil, Nat.reduceSub, Nat.reduceAdd, Nat.reduceLeDiff, Nat.reduceLT, Nat.reduceEqDiff, if_true, if_false, ite_true, ite_false, Bool.not_true, Bool.not_false, Bool.true_and, Bool.and_true, Bool.false_and, Bool.and_false, Bool.true_or, Bool.or_true, Bool.false_or, Bool.or_false, decide_true, decide_false, Bool.false_eq_true, reduceCtorEq, true_and, and_true, List.mem_cons_self]
      refine (Dw.bnd (k := 0) (j := 0) (by decide) (by decide) k fun r hr => ?_).le (by decide)
      subst hr
      simp only [bnd_ret, bnd_nn, bnd_rse, bnd_ite, bnd_bnd, semOf, gSeq, gNx, gSet, gDrop, gRet, gRetV, gRetN, gIf, gBk, gCt, gFrz, frz, gApp, gExt, gSetI, gAsg, gPar, gPop, gSetPop, gAppPop, gRaise, gFld, cVar, vVar, cC, toV, bin, una, aNil, aCons, cTup, cLst, rNil, rCons, setAll, addD, subD, negD, cmpD, notD, cCall, cMeth, cMeth0, cMake, objR, tV, truD, tNotD, tAndD, tOrD, tBl, andV, orV, cIf, chain, oNone, oSome, cSl, slD, ixD, lenD, tupleD, listD, cDict, tgN, tgS, tgT, tgs, wSeq, wEn, R.sl, R.d, Sl.isIns, oneIns, List.getElem?_cons_zero, List.getElem?_cons_succ, List.getElem?_nil, List.set_cons_zero, List.set_cons_succ, List.map_cons, List.map_nil, List.length_cons, List.length_nil, List.nil_append, List.cons_append, List.append_nil, List.replicate, List.all_cons, List.all_nil, Nat.reduceSub, Nat.reduceAdd, Nat.reduceLeDiff, Nat.reduceLT, Nat.reduceEqDiff, if_true, if_false, ite_true, ite_false, Bool.not_true, Bool.not_false, Bool.true_and, Bool.and_true, Bool.false_and, Bool.and_false, Bool.true_or, Bool.or_true, Bool.false_or, Bool.or_false, decide_true, decide_false, Bool.false_eq_true, reduceCtorEq, true_and, and_true, List.mem_cons_self, at0, at1, bt0, bt1, eq_ii, Bool.true_xor, List.length_map, decide_eq_true (show (40 : Int) < (l1.length : Int) + (l2.length : Int) by omega), gr_self, Bool.false_xor]
      exact Dw.ret (by decide) rfl
  · have h : bin (vVar 0) (vVar 1) (twoOw a.w_Word (S_Word_add a)) [.val (wordD a s1 l1), .val (wordD a s2 l2), .val (.lst [.int s1, .int s2]), .val (.lst [.lst (nis l1), .lst (nis l2)]), .non] = DL.M.rse (exOz a) := by
      unfold bin twoOw
      simp only [bnd_ret, bnd_nn, bnd_rse, bnd_ite, bnd_bnd, semOf, gSeq, gNx, gSet, gDrop, gRet, gRetV, gRetN, gIf, gBk, gCt, gFrz, frz, gApp, gExt, gSetI, gAsg, gPar, gPop, gSetPop, gAppPop, gRaise, gFld, cVar, vVar, cC, toV, bin, una, aNil, aCons, cTup, cLst, rNil, rCons, setAll, addD, subD, negD, cmpD, notD, cCall, cMeth, cMeth0, cMake, objR, tV, truD, tNotD, tAndD, tOrD, tBl, andV, orV, cIf, chain, oNone, oSome, cSl, slD, ixD, lenD, tupleD, listD, cDict, tgN, tgS, tgT, tgs, wSeq, wEn, R.sl, R.d, Sl.isIns, oneIns, List.getElem?_cons_zero, List.getElem?_cons_succ, List.getElem?_nil, List.set_cons_zero, List.set_cons_succ, List.map_cons, List.map_nil, List.length_cons, List.length_nil, List.nil_append, List.cons_append, List.append_nil, List.replicate, List.all_cons, List.all_nil, Nat.reduceSub, Nat.reduceAdd, Nat.reduceLeDiff, Nat.reduceLT, Nat.reduceEqDiff, if_true, if_false, ite_true, ite_false, Bool.not_true, Bool.not_false, Bool.true_and, Bool.and_true, Bool.false_and, Bool.and_false, Bool.true_or, Bool.or_true, Bool.false_or, Bool.or_false, decide_true, decide_false, Bool.false_eq_true, reduceCtorEq, true_and, and_true, List.mem_cons_self, ob, add_other (a := a) (l1 := l1) (l2 := l2) hs]
    have k := heard_no (T := T) hm h hx_oz
    unfold S__law_both_right
    generalize cHeard a.ec usd a.P__law_both_right lq__law_both_right (bin (vVar 0) (vVar 1) (twoOw a.w_Word (S_Word_add a))) = HD at k ⊢
    simp only [bnd_ret, bnd_nn, bnd_rse, bnd_ite, bnd_bnd, semOf, gSeq, gNx, gSet, gDrop, gRet, gRetV, gRetN, gIf, gBk, gCt, gFrz, frz, gApp, gExt, gSetI, gAsg, gPar, gPop, gSetPop, gAppPop, gRaise, gFld, cVar, vVar, cC, toV, bin, una, aNil, aCons, cTup, cLst, rNil, rCons, setAll, addD, subD, negD, cmpD, notD, cCall, cMeth, cMeth0, cMake, objR, tV, truD, tNotD, tAndD, tOrD, tBl, andV, orV, cIf, chain, oNone, oSome, cSl, slD, ixD, lenD, tupleD, listD, cDict, tgN, tgS, tgT, tgs, wSeq, wEn, R.sl, R.d, Sl.isIns, oneIns, List.getElem?_cons_zero, List.getElem?_cons_succ, List.getElem?_nil, List.set_cons_zero, List.set_cons_succ, List.map_cons, List.map_nil, List.length_cons, List.length_nil, List.nil_append, List.cons_append, List.append_nil, List.replicate, List.all_cons, List.all_nil, Nat.reduceSub, Nat.reduceAdd, Nat.reduceLeDiff, Nat.reduceLT, Nat.reduceEqDiff, if_true, if_false, ite_true, ite_false, Bool.not_true, Bool.not_false, Bool.true_and, Bool.and_true, Bool.false_and, Bool.and_false, Bool.true_or, Bool.or_true, Bool.false_or, Bool.or_false, decide_true, decide_false, Bool.false_eq_true, reduceCtorEq, true_and, and_true, List.mem_cons_self]
    refine (Dw.bnd (k := 0) (j := 0) (by decide) (by decide) k fun r hr => ?_).le (by decide)
    subst hr
    simp only [bnd_ret, bnd_nn, bnd_rse, bnd_ite, bnd_bnd, semOf, gSeq, gNx, gSet, gDrop, gRet, gRetV, gRetN, gIf, gBk, gCt, gFrz, frz, gApp, gExt, gSetI, gAsg, gPar, gPop, gSetPop, gAppPop, gRaise, gFld, cVar, vVar, cC, toV, bin, una, aNil, aCons, cTup, cLst, rNil, rCons, setAll, addD, subD, negD, cmpD, notD, cCall, cMeth, cMeth0, cMake, objR, tV, truD, tNotD, tAndD, tOrD, tBl, andV, orV, cIf, chain, oNone, oSome, cSl, slD, ixD, lenD, tupleD, listD, cDict, tgN, tgS, tgT, tgs, wSeq, wEn, R.sl, R.d, Sl.isIns, oneIns, List.getElem?_cons_zero, List.getElem?_cons_succ, List.getElem?_nil, List.set_cons_zero, List.set_cons_succ, List.map_cons, List.map_nil, List.length_cons, List.length_nil, List.nil_append, List.cons_append, List.append_nil, List.replicate, List.all_cons, List.all_nil, Nat.reduceSub, Nat.reduceAdd, Nat.reduceLeDiff, Nat.reduceLT, Nat.reduceEqDiff, if_true, if_false, ite_true, ite_false, Bool.not_true, Bool.not_false, Bool.true_and, Bool.and_true, Bool.false_and, Bool.and_false, Bool.true_or, Bool.or_true, Bool.false_or, Bool.or_false, decide_true, decide_false, Bool.false_eq_true, reduceCtorEq, true_and, and_true, List.mem_cons_self, at0, at1, eq_ii, Bool.true_xor, decide_eq_false hs, eq_ss, Bool.false_xor]
    exact Dw.ret (by decide) rfl
end Dg
set_option maxHeartbeats 0
set_option pp.maxSteps 3000
namespace Dg
open PySem DL LwM
variable {a : Adr} {T : List (Addr × Str)}
structure OdM (d : Dt) : Prop where
  pl : plainD d = true
  no : isW d = false ∨ negI d = true
  tx : Tx 5 5000 d
theorem odm_at {z : Int} (z0 : 0 ≤ z) (z1 : z < 9) : ∃ d, L2.atI [Dt.int (-1), .non, .str "2", .bl true, .bl false, .tup [.int 2], .lst [.int 2], .dK [] [], .int (-(10 ^ 30))] z = some d ∧ OdM d := by
  have h : z = 0 ∨ z = 1 ∨ z = 2 ∨ z = 3 ∨ z = 4 ∨ z = 5 ∨ z = 6 ∨ z = 7 ∨ z = 8 := by omega
  rcases h with rfl | rfl | rfl | rfl | rfl | rfl | rfl | rfl | rfl
  · exact ⟨_, rfl, rfl, .inr rfl, (Tx.int (z := -1) (by decide)).mono (by omega) (by omega)⟩
  · exact ⟨_, rfl, rfl, .inl rfl, Tx.non.mono (by omega) (by omega)⟩
  · exact ⟨_, rfl, rfl, .inl rfl, (tx_str (x := "2") (by decide +kernel)).mono (by omega) (by decide +kernel)⟩
  · exact ⟨_, rfl, rfl, .inl rfl, (Tx.bl true).mono (by omega) (by omega)⟩
  · exact ⟨_, rfl, rfl, .inl rfl, (Tx.bl false).mono (by omega) (by omega)⟩
  · exact ⟨_, rfl, rfl, .inl rfl, (Tx.tup (.cons (Tx.int (z := 2) (by decide)) .nil)).mono (by omega) (by omega)⟩
  · exact ⟨_, rfl, rfl, .inl rfl, (Tx.lst (.cons (Tx.int (z := 2) (by decide)) .nil)).mono (by omega) (by omega)⟩
  · exact ⟨_, rfl, rfl, .inl rfl, Tx.dic.mono (by omega) (by omega)⟩
  · exact ⟨_, rfl, rfl, .inr (by decide +kernel), tx_big (.inr rfl)⟩
theorem tms_at {z : Int} (z0 : 0 ≤ z) (z1 : z < 7) : ∃ t : Int, L2.atI [Dt.int 0, .int 1, .int 2, .int 3, .int 20, .int 41, .int (10 ^ 40)] z = some (.int t) ∧ 0 ≤ t ∧ (t ≤ 41 ∨ t = 10 ^ 40) := by
  have h : z = 0 ∨ z = 1 ∨ z = 2 ∨ z = 3 ∨ z = 4 ∨ z = 5 ∨ z = 6 := by omega
  rcases h with rfl | rfl | rfl | rfl | rfl | rfl | rfl
  · exact ⟨0, rfl, by decide, .inl (by decide)⟩
  · exact ⟨1, rfl, by decide, .inl (by decide)⟩
  · exact ⟨2, rfl, by decide, .inl (by decide)⟩
  · exact ⟨3, rfl, by decide, .inl (by decide)⟩
  · exact ⟨20, rfl, by decide, .inl (by decide)⟩
  · exact ⟨41, rfl, by decide, .inl (by decide)⟩
  · exact ⟨10 ^ 40, rfl, by omega, .inr rfl⟩
theorem pow40 : powD (.int 10) (.int 40) = DL.M.ret (.val (.int (10 ^ 40))) := by
  show (if 0 ≤ (40 : Int) ∧ (40 : Int) ≤ 1000000 ∧ (10 : Int).natAbs < 2 ^ 64 then DL.M.ret (.val (.int ((10 : Int) ^ (40 : Int).toNat))) else DL.M.no : DL.M R) = _
  rw [if_pos (by decide)]
  rfl
noncomputable def tm1 (a : Adr) : List Sl → DL.M Fl := (gSet 4 (bin (toV (cLst (aCons (cC (.int 0)) (aCons (cC (.int 1)) (aCons (cC (.int 2)) (aCons (cC (.int 3)) (aCons (cC (.int 20)) (aCons (cC (.int 41)) (aCons (bin (toV (cC (.int 10))) (toV (cC (.int 40))) powD) aNil))))))))) (toV (cCall 2 (aCons (cVar 0) (aCons (cC (.int 7)) aNil)) (S__law_draw a))) ixD))
noncomputable def tm2 (a : Adr) : List Sl → DL.M Fl := (gSet 5 (cHeard a.ec usd a.P__law_times_right lq__law_times_right (binF (vVar 1) (cVar 4) (mulOw a.w_Word (S_Word_mul a)))))
noncomputable def tmL (a : Adr) : List Sl → DL.M Dt := (toV (una (vVar 3) (orC (isObj a.w_Word) (lenOw a.w_Word (S_Word_len a)) lenD)))
noncomputable def tmX (a : Adr) : List Sl → DL.M Dt := (toV (bin (tmL a) (vVar 4) mulG))
noncomputable def tmY : List Sl → DL.M R := (bin (vVar 3) (vVar 4) mulG)
noncomputable def tmG : List Sl → DL.M Fl := (gIf (tBl (bin (vVar 5) (toV (cTup (aCons (cC (.str "great")) (aCons (cC (.int 40)) aNil)))) (eqG true))) (gRet (cC (.bl false))) gNx)
noncomputable def tmN (a : Adr) : List Sl → DL.M Fl := (gIf (tAndD (tBl (bin (vVar 3) (toV (cLst aNil)) (eqG true))) (tNotD (tV (toV (cCall 3 (aCons (bin (vVar 5) (toV (cC (.int 0))) ixD) (aCons (cVar 2) (aCons tmY aNil))) (S__law_is_word a)))))) (gRet (cC (.bl false))) gNx)
noncomputable def tmE (a : Adr) : List Sl → DL.M Fl := (gIf (tOrD (tNotD (tV (toV (una (vVar 5) (isiD (ocs a) [(.ty "list")]))))) (tBl (bin (toV (una (toV (bin (vVar 5) (toV (cC (.int 0))) ixD)) (orC (isObj a.w_Word) (lenOw a.w_Word (S_Word_len a)) lenD))) (tmX a) (eqG true)))) (gRet (cC (.bl false))) (tmN a))
noncomputable def tm3 (a : Adr) : List Sl → DL.M Fl := (gIf (tBl (bin (tmX a) (toV (cC (.int 40))) (cmpD fun x y => decide (y < x)))) tmG (tmE a))
noncomputable def tm4 (a : Adr) : List Sl → DL.M Fl := (gSet 6 (bin (toV (cLst (aCons (una (toV (cC (.int 1))) negD) (aCons (cC .non) (aCons (cC (.str "2")) (aCons (cC (.bl true)) (aCons (cC (.bl false)) (aCons (cTup (aCons (cC (.int 2)) aNil)) (aCons (cLst (aCons (cC (.int 2)) aNil)) (aCons cDict (aCons (una (toV (bin (toV (cC (.int 10))) (toV (cC (.int 30))) powD)) negD) aNil))))))))))) (toV (cCall 2 (aCons (cVar 0) (aCons (cC (.int 9)) aNil)) (S__law_draw a))) ixD))
noncomputable def tm5 (a : Adr) : List Sl → DL.M Fl := (gRet (cCall 2 (aCons (cHeard a.ec usd a.P__law_times_right lq__law_times_right (binF (vVar 1) (cVar 6) (mulOw a.w_Word (S_Word_mul a)))) (aCons (cTup (aCons (cC (.str "number")) (aCons (cVar 6) aNil))) aNil)) (S__law_like a)))
theorem tm_def : S__law_times_right a = semOf 7 (gSeq (tm1 a) (gSeq (tm2 a) (gSeq (tm3 a) (gSeq (tm4 a) (tm5 a))))) := rfl
theorem tm1_ {x1 x2 x3 x4 x5 x6 : Sl} : Dw T 1 (tm1 a [.val .drw, x1, x2, x3, x4, x5, x6]) (fun f => ∃ t : Int, f = .nx [.val .drw, x1, x2, x3, .val (.int t), x5, x6] ∧ 0 ≤ t ∧ (t ≤ 41 ∨ t = 10 ^ 40)) := by
  unfold tm1
  simp only [bnd_ret, bnd_nn, bnd_rse, bnd_ite, bnd_bnd, semOf, gSeq, gNx, gSet, gDrop, gRet, gRetV, gRetN, gIf, gBk, gCt, gFrz, frz, gApp, gExt, gSetI, gAsg, gPar, gPop, gSetPop, gAppPop, gRaise, gFld, cVar, vVar, cC, toV, bin, una, aNil, aCons, cTup, cLst, rNil, rCons, setAll, addD, subD, negD, cmpD, notD, cCall, cMeth, cMeth0, cMake, objR, tV, truD, tNotD, tAndD, tOrD, tBl, andV, orV, cIf, chain, oNone, oSome, cSl, slD, ixD, lenD, tupleD, listD, cDict, tgN, tgS, tgT, tgs, wSeq, wEn, R.sl, R.d, Sl.isIns, oneIns, List.getElem?_cons_zero, List.getElem?_cons_succ, List.getElem?_nil, List.set_cons_zero, List.set_cons_succ, List.map_cons, List.map_nil, List.length_cons, List.length_nil, List.nil_append, List.cons_append, List.append_nil, List.replicate, List.all_cons, List.all_nil, Nat.reduceSub, Nat.reduceAdd, Nat.reduceLeDiff, Nat.reduceLT, Nat.reduceEqDiff, if_true, if_false, ite_true, ite_false, Bool.not_true, Bool.not_false, Bool.true_and, Bool.and_true, Bool.false_and, Bool.and_false, Bool.true_or, Bool.or_true, Bool.false_or, Bool.or_false, decide_true, decide_false, Bool.false_eq_true, reduceCtorEq, true_and, and_true, List.mem_cons_self, pow40]
  refine Dw.bnd (k := 1) (j := 0) (by decide) (by decide) (draw_ (lim := 7) (by decide) (by decide)) fun r hr => ?_
  obtain ⟨z, rfl, z0, z1⟩ := hr
  obtain ⟨t, e, o⟩ := tms_at z0 z1
  simp only [bnd_ret, bnd_nn, bnd_rse, bnd_ite, bnd_bnd, semOf, gSeq, gNx, gSet, gDrop, gRet, gRetV, gRetN, gIf, gBk, gCt, gFrz, frz, gApp, gExt, gSetI, gAsg, gPar, gPop, gSetPop, gAppPop, gRaise, gFld, cVar, vVar, cC, toV, bin, una, aNil, aCons, cTup, cLst, rNil, rCons, setAll, addD, subD, negD, cmpD, notD, cCall, cMeth, cMeth0, cMake, objR, tV, truD, tNotD, tAndD, tOrD, tBl, andV, orV, cIf, chain, oNone, oSome, cSl, slD, ixD, lenD, tupleD, listD, cDict, tgN, tgS, tgT, tgs, wSeq, wEn, R.sl, R.d, Sl.isIns, oneIns, List.getElem?_cons_zero, List.getElem?_cons_succ, List.getElem?_nil, List.set_cons_zero, List.set_cons_succ, List.map_cons, List.map_nil, List.length_cons, List.length_nil, List.nil_append, List.cons_append, List.append_nil, List.replicate, List.all_cons, List.all_nil, Nat.reduceSub, Nat.reduceAdd, Nat.reduceLeDiff, Nat.reduceLT, Nat.reduceEqDiff, if_true, if_false, ite_true, ite_false, Bool.not_true, Bool.not_false, Bool.true_and, Bool.and_true, Bool.false_and, Bool.and_false, Bool.true_or, Bool.or_true, Bool.false_or, Bool.or_false, decide_true, decide_false, Bool.false_eq_true, reduceCtorEq, true_and, and_true, List.mem_cons_self, e]
  exact Dw.ret (by decide) ⟨t, rfl, o⟩
theorem tm4_ {x1 x2 x3 x4 x5 x6 : Sl} : Dw T 1 (tm4 a [.val .drw, x1, x2, x3, x4, x5, x6]) (fun f => ∃ d, f = .nx [.val .drw, x1, x2, x3, x4, x5, .val d] ∧ OdM d) := by
  unfold tm4
  simp only [bnd_ret, bnd_nn, bnd_rse, bnd_ite, bnd_bnd, semOf, gSeq, gNx, gSet, gDrop, gRet, gRetV, gRetN, gIf, gBk, gCt, gFrz, frz, gApp, gExt, gSetI, gAsg, gPar, gPop, gSetPop, gAppPop, gRaise, gFld, cVar, vVar, cC, toV, bin, una, aNil, aCons, cTup, cLst, rNil, rCons, setAll, addD, subD, negD, cmpD, notD, cCall, cMeth, cMeth0, cMake, objR, tV, truD, tNotD, tAndD, tOrD, tBl, andV, orV, cIf, chain, oNone, oSome, cSl, slD, ixD, lenD, tupleD, listD, cDict, tgN, tgS, tgT, tgs, wSeq, wEn, R.sl, R.d, Sl.isIns, oneIns, List.getElem?_cons_zero, List.getElem?_cons_succ, List.getElem?_nil, List.set_cons_zero, List.set_cons_succ, List.map_cons, List.map_nil, List.length_cons, List.length_nil, List.nil_append, List.cons_append, List.append_nil, List.replicate, List.all_cons, List.all_nil, Nat.reduceSub, Nat.reduceAdd, Nat.reduceLeDiff, Nat.reduceLT, Nat.reduceEqDiff, if_true, if_false, ite_true, ite_false, Bool.not_true, Bool.not_false, Bool.true_and, Bool.and_true, Bool.false_and, Bool.and_false, Bool.true_or, Bool.or_true, Bool.false_or, Bool.or_false, decide_true, decide_false, Bool.false_eq_true, reduceCtorEq, true_and, and_true, List.mem_cons_self, pow30]
  refine Dw.bnd (k := 1) (j := 0) (by decide) (by decide) (draw_ (lim := 9) (by decide) (by decide)) fun r hr => ?_
  obtain ⟨z, rfl, z0, z1⟩ := hr
  obtain ⟨d, e, o⟩ := odm_at z0 z1
  simp only [bnd_ret, bnd_nn, bnd_rse, bnd_ite, bnd_bnd, semOf, gSeq, gNx, gSet, gDrop, gRet, gRetV, gRetN, gIf, gBk, gCt, gFrz, frz, gApp, gExt, gSetI, gAsg, gPar, gPop, gSetPop, gAppPop, gRaise, gFld, cVar, vVar, cC, toV, bin, una, aNil, aCons, cTup, cLst, rNil, rCons, setAll, addD, subD, negD, cmpD, notD, cCall, cMeth, cMeth0, cMake, objR, tV, truD, tNotD, tAndD, tOrD, tBl, andV, orV, cIf, chain, oNone, oSome, cSl, slD, ixD, lenD, tupleD, listD, cDict, tgN, tgS, tgT, tgs, wSeq, wEn, R.sl, R.d, Sl.isIns, oneIns, List.getElem?_cons_zero, List.getElem?_cons_succ, List.getElem?_nil, List.set_cons_zero, List.set_cons_succ, List.map_cons, List.map_nil, List.length_cons, List.length_nil, List.nil_append, List.cons_append, List.append_nil, List.replicate, List.all_cons, List.all_nil, Nat.reduceSub, Nat.reduceAdd, Nat.reduceLeDiff, Nat.reduceLT, Nat.reduceEqDiff, if_true, if_false, ite_true, ite_false, Bool.not_true, Bool.not_false, Bool.true_and, Bool.and_true, Bool.false_and, Bool.and_false, Bool.true_or, Bool.or_true, Bool.false_or, Bool.or_false, decide_true, decide_false, Bool.false_eq_true, reduceCtorEq, true_and, and_true, List.mem_cons_self, e]
  exact Dw.ret (by decide) ⟨d, rfl, o⟩
theorem tm5_ {s : Int} {l : List Int} (hm : tabOk a.P__law_times_right lq__law_times_right T) {d : Dt} (o : OdM d) {x0 x2 x3 x4 x5 : Sl} : Dw T 0 (tm5 a [x0, .val (wordD a s l), x2, x3, x4, x5, .val d]) (fun f => f = .ret (.val (.bl true))) := by
  have h : binF (vVar 1) (cVar 6) (mulOw a.w_Word (S_Word_mul a)) [x0, .val (wordD a s l), x2, x3, x4, x5, .val d] = DL.M.rse (exNu a d) := by
    have c : (isObj a.w_Word (wordD a s l) && mulK d) = true := by
      rw [obj_w]
      have := o.pl
      cases d <;> first | rfl | (cases this; done)
    unfold binF mulOw
    simp only [bnd_ret, bnd_nn, bnd_rse, bnd_ite, bnd_bnd, semOf, gSeq, gNx, gSet, gDrop, gRet, gRetV, gRetN, gIf, gBk, gCt, gFrz, frz, gApp, gExt, gSetI, gAsg, gPar, gPop, gSetPop, gAppPop, gRaise, gFld, cVar, vVar, cC, toV, bin, una, aNil, aCons, cTup, cLst, rNil, rCons, setAll, addD, subD, negD, cmpD, notD, cCall, cMeth, cMeth0, cMake, objR, tV, truD, tNotD, tAndD, tOrD, tBl, andV, orV, cIf, chain, oNone, oSome, cSl, slD, ixD, lenD, tupleD, listD, cDict, tgN, tgS, tgT, tgs, wSeq, wEn, R.sl, R.d, Sl.isIns, oneIns, List.getElem?_cons_zero, List.getElem?_cons_succ, List.getElem?_nil, List.set_cons_zero, List.set_cons_succ, List.map_cons, List.map_nil, List.length_cons, List.length_nil, List.nil_append, List.cons_append, List.append_nil, List.replicate, List.all_cons, List.all_nil, Nat.reduceSub, Nat.reduceAdd, Nat.reduceLeDiff, Nat.reduceLT, Nat.reduceEqDiff, if_true, if_false, ite_true, ite_false, Bool.not_true, Bool.not_false, Bool.true_and, Bool.and_true, Bool.false_and, Bool.and_false, Bool.true_or, Bool.or_true, Bool.false_or, Bool.or_false, decide_true, decide_false, Bool.false_eq_true, reduceCtorEq, true_and, and_true, List.mem_cons_self, c, mul_no o.pl o.no]
  have k := heard_no (T := T) hm h (hx_nu d)
  unfold tm5
  generalize cHeard a.ec usd a.P__law_times_right lq__law_times_right (binF (vVar 1) (cVar 6) (mulOw a.w_Word (S_Word_mul a))) = HD at k ⊢
  simp only [bnd_ret, bnd_nn, bnd_rse, bnd_ite, bnd_bnd, semOf, gSeq, gNx, gSet, gDrop, gRet, gRetV, gRetN, gIf, gBk, gCt, gFrz, frz, gApp, gExt, gSetI, gAsg, gPar, gPop, gSetPop, gAppPop, gRaise, gFld, cVar, vVar, cC, toV, bin, una, aNil, aCons, cTup, cLst, rNil, rCons, setAll, addD, subD, negD, cmpD, notD, cCall, cMeth, cMeth0, cMake, objR, tV, truD, tNotD, tAndD, tOrD, tBl, andV, orV, cIf, chain, oNone, oSome, cSl, slD, ixD, lenD, tupleD, listD, cDict, tgN, tgS, tgT, tgs, wSeq, wEn, R.sl, R.d, Sl.isIns, oneIns, List.getElem?_cons_zero, List.getElem?_cons_succ, List.getElem?_nil, List.set_cons_zero, List.set_cons_succ, List.map_cons, List.map_nil, List.length_cons, List.length_nil, List.nil_append, List.cons_append, List.append_nil, List.replicate, List.all_cons, List.all_nil, Nat.reduceSub, Nat.reduceAdd, Nat.reduceLeDiff, Nat.reduceLT, Nat.reduceEqDiff, if_true, if_false, ite_true, ite_false, Bool.not_true, Bool.not_false, Bool.true_and, Bool.and_true, Bool.false_and, Bool.and_false, Bool.true_or, Bool.or_true, Bool.false_or, Bool.or_false, decide_true, decide_false, Bool.false_eq_true, reduceCtorEq, true_and, and_true, List.mem_cons_self]
  refine (Dw.bnd (k := 0) (j := 0) (by decide) (by decide) k fun r hr => ?_).le (by decide)
  subst hr
  simp only [bnd_ret, bnd_nn, bnd_rse, bnd_ite, bnd_bnd, semOf, gSeq, gNx, gSet, gDrop, gRet, gRetV, gRetN, gIf, gBk, gCt, gFrz, frz, gApp, gExt, gSetI, gAsg, gPar, gPop, gSetPop, gAppPop, gRaise, gFld, cVar, vVar, cC, toV, bin, una, aNil, aCons, cTup, cLst, rNil, rCons, setAll, addD, subD, negD, cmpD, notD, cCall, cMeth, cMeth0, cMake, objR, tV, truD, tNotD, tAndD, tOrD, tBl, andV, orV, cIf, chain, oNone, oSome, cSl, slD, ixD, lenD, tupleD, listD, cDict, tgN, tgS, tgT, tgs, wSeq, wEn, R.sl, R.d, Sl.isIns, oneIns, List.getElem?_cons_zero, List.getElem?_cons_succ, List.getElem?_nil, List.set_cons_zero, List.set_cons_succ, List.map_cons, List.map_nil, List.length_cons, List.length_nil, List.nil_append, List.cons_append, List.append_nil, List.replicate, List.all_cons, List.all_nil, Nat.reduceSub, Nat.reduceAdd, Nat.reduceLeDiff, Nat.reduceLT, Nat.reduceEqDiff, if_true, if_false, ite_true, ite_false, Bool.not_true, Bool.not_false, Bool.true_and, Bool.and_true, Bool.false_and, Bool.and_false, Bool.true_or, Bool.or_true, Bool.false_or, Bool.or_false, decide_true, decide_false, Bool.false_eq_true, reduceCtorEq, true_and, and_true, List.mem_cons_self, like_nu o.tx]
  exact Dw.ret (by decide) rfl
theorem tmX_ {t : Int} {l : List Int} (hn : l.length ≤ 40) {x0 x1 x2 x5 x6 : Sl} : tmX a [x0, x1, x2, .val (.lst (nis l)), .val (.int t), x5, x6] = DL.M.ret (.int ((l.length : Int) * t)) := by
  have h1 : tmL a [x0, x1, x2, .val (.lst (nis l)), .val (.int t), x5, x6] = DL.M.ret (.int (l.length : Int)) := by
    have w2 := lenL (a := a) (l := nis l)
    rw [List.length_map] at w2
    unfold tmL
    simp only [bnd_ret, bnd_nn, bnd_rse, bnd_ite, bnd_bnd, semOf, gSeq, gNx, gSet, gDrop, gRet, gRetV, gRetN, gIf, gBk, gCt, gFrz, frz, gApp, gExt, gSetI, gAsg, gPar, gPop, gSetPop, gAppPop, gRaise, gFld, cVar, vVar, cC, toV, bin, una, aNil, aCons, cTup, cLst, rNil, rCons, setAll, addD, subD, negD, cmpD, notD, cCall, cMeth, cMeth0, cMake, objR, tV, truD, tNotD, tAndD, tOrD, tBl, andV, orV, cIf, chain, oNone, oSome, cSl, slD, ixD, lenD, tupleD, listD, cDict, tgN, tgS, tgT, tgs, wSeq, wEn, R.sl, R.d, Sl.isIns, oneIns, List.getElem?_cons_zero, List.getElem?_cons_succ, List.getElem?_nil, List.set_cons_zero, List.set_cons_succ, List.map_cons, List.map_nil, List.length_cons, List.length_nil, List.nil_append, List.cons_append, List.append_nil, List.replicate, List.all_cons, List.all_nil, Nat.reduceSub, Nat.reduceAdd, Nat.reduceLeDiff, Nat.reduceLT, Nat.reduceEqDiff, if_true, if_false, ite_true, ite_false, Bool.not_true, Bool.not_false, Bool.true_and, Bool.and_true, Bool.false_and, Bool.and_false, Bool.true_or, Bool.or_true, Bool.false_or, Bool.or_false, decide_true, decide_false, Bool.false_eq_true, reduceCtorEq, true_and, and_true, List.mem_cons_self, w2]
  exact bin_ret (g := vVar 4) h1 (show vVar 4 [x0, x1, x2, .val (.lst (nis l)), .val (.int t), x5, x6] = DL.M.ret (.int t) from rfl) (mul_ii (decide_eq_true (by omega)))
theorem mul_lst {t : Int} {l : List Int} (h0 : 0 ≤ t) (h1 : t ≤ 40) (hn : l.length ≤ 40) : mulG (.lst (nis l)) (.int t) = DL.M.ret (.new (nis (repL t l))) := by
  have e : mulD (.lst (nis l)) (.int t) = DL.M.ret (.new (nis (repL t l))) := by
    simp only [mulD]
    rw [if_pos ⟨by omega, by omega, by rw [List.length_map]; omega⟩, nis_rep]
    rfl
  unfold mulG orOp
  rw [if_neg (show ¬ isTup (.lst (nis l)) (.int t) = true from fun z => by cases z)]
  exact e
theorem bin_retR {f g : List Sl → DL.M Dt} {δ : List Sl} {op : Dt → Dt → DL.M R} {x y : Dt} {r : R} (h1 : f δ = DL.M.ret x) (h2 : g δ = DL.M.ret y) (m : op x y = DL.M.ret r) : bin f g op δ = DL.M.ret r := by
  unfold bin
  rw [h1, bnd_ret, h2, bnd_ret, m]
theorem rep_len {n t : Int} {l : List Int} (h0 : 0 ≤ n) (h : (n = t ∧ t ≤ 40) ∨ (n = 40 ∧ 40 ≤ t)) (hl : (l.length : Int) * t ≤ 40) : ((repL n l).length : Int) = (l.length : Int) * t ∧ (l ≠ [] → n = t) := by
  rcases h with ⟨h, _⟩ | ⟨h, h2⟩
  · refine ⟨?_, fun _ => h⟩
    rw [repL_len, Int.natCast_mul, Int.toNat_of_nonneg h0, h, Int.mul_comm]
  · by_cases e : l = []
    · subst e
      refine ⟨?_, fun z => absurd rfl z⟩
      rw [repL_len]
      simp
    · have h3 : 1 ≤ (l.length : Int) := by
        have := List.length_pos_iff.mpr e
        omega
      have h4 : 1 * t ≤ (l.length : Int) * t := Int.mul_le_mul_of_nonneg_right h3 (by omega)
      have h5 : n = t := by omega
      refine ⟨?_, fun _ => h5⟩
      rw [repL_len, Int.natCast_mul, Int.toNat_of_nonneg h0, h5, Int.mul_comm]
theorem mulO_h {s t : Int} {l : List Int} {x0 x2 x3 x5 x6 : Sl} : binF (vVar 1) (cVar 4) (mulOw a.w_Word (S_Word_mul a)) [x0, .val (wordD a s l), x2, x3, .val (.int t), x5, x6] = S_Word_mul a [wordD a s l, .int t] := by
  have c : (isObj a.w_Word (wordD a s l) && mulK (.int t)) = true := by rw [obj_w]; rfl
  unfold binF mulOw
  simp only [bnd_ret, bnd_nn, bnd_rse, bnd_ite, bnd_bnd, semOf, gSeq, gNx, gSet, gDrop, gRet, gRetV, gRetN, gIf, gBk, gCt, gFrz, frz, gApp, gExt, gSetI, gAsg, gPar, gPop, gSetPop, gAppPop, gRaise, gFld, cVar, vVar, cC, toV, bin, una, aNil, aCons, cTup, cLst, rNil, rCons, setAll, addD, subD, negD, cmpD, notD, cCall, cMeth, cMeth0, cMake, objR, tV, truD, tNotD, tAndD, tOrD, tBl, andV, orV, cIf, chain, oNone, oSome, cSl, slD, ixD, lenD, tupleD, listD, cDict, tgN, tgS, tgT, tgs, wSeq, wEn, R.sl, R.d, Sl.isIns, oneIns, List.getElem?_cons_zero, List.getElem?_cons_succ, List.getElem?_nil, List.set_cons_zero, List.set_cons_succ, List.map_cons, List.map_nil, List.length_cons, List.length_nil, List.nil_append, List.cons_append, List.append_nil, List.replicate, List.all_cons, List.all_nil, Nat.reduceSub, Nat.reduceAdd, Nat.reduceLeDiff, Nat.reduceLT, Nat.reduceEqDiff, if_true, if_false, ite_true, ite_false, Bool.not_true, Bool.not_false, Bool.true_and, Bool.and_true, Bool.false_and, Bool.and_false, Bool.true_or, Bool.or_true, Bool.false_or, Bool.or_false, decide_true, decide_false, Bool.false_eq_true, reduceCtorEq, true_and, and_true, List.mem_cons_self, c]
theorem tm2_ok {s t : Int} {l : List Int} (L : Lt s l) (t0 : 0 ≤ t) (hl : (l.length : Int) * t ≤ 40) (hm : tabOk a.P__law_times_right lq__law_times_right T) {x0 x2 x3 x5 x6 : Sl} : ∃ n : Int, 0 ≤ n ∧ ((n = t ∧ t ≤ 40) ∨ (n = 40 ∧ 40 ≤ t)) ∧ Lt s (repL n l) ∧ Dw T 0 (tm2 a [x0, .val (wordD a s l), x2, x3, .val (.int t), x5, x6]) (fun f => f = .nx [x0, .val (wordD a s l), x2, x3, .val (.int t), .own [wordD a s (repL n l)], x6]) := by
  obtain ⟨n, hn, M2, e⟩ := mul_ok (a := a) L t0 hl
  have k := heard_ok (a := a) (T := T) hm (mulO_h.trans e) (δ := [x0, .val (wordD a s l), x2, x3, .val (.int t), x5, x6])
  refine ⟨n, by omega, hn, M2, ?_⟩
  unfold tm2 gSet
  exact (Dw.bnd (k := 0) (j := 0) (by decide) (by decide) k fun r hr => by
    subst hr
    exact Dw.ret (by decide) rfl).le (by decide)
theorem tm2_gr {s t : Int} {l : List Int} (L : Lt s l) (t0 : 0 ≤ t) (hl : 40 < (l.length : Int) * t) (hm : tabOk a.P__law_times_right lq__law_times_right T) {x0 x2 x3 x5 x6 : Sl} : Dw T 0 (tm2 a [x0, .val (wordD a s l), x2, x3, .val (.int t), x5, x6]) (fun f => f = .nx [x0, .val (wordD a s l), x2, x3, .val (.int t), .val (.tup [.str "great", .int 40]), x6]) := by
  have k := heard_no (a := a) (T := T) hm (mulO_h.trans (mul_great (a := a) (s := s) L.len t0 hl)) hx_fo (δ := [x0, .val (wordD a s l), x2, x3, .val (.int t), x5, x6])
  unfold tm2 gSet
  exact (Dw.bnd (k := 0) (j := 0) (by decide) (by decide) k fun r hr => by
    subst hr
    exact Dw.ret (by decide) rfl).le (by decide)
theorem tm3_gr {t : Int} {l : List Int} (hn : l.length ≤ 40) (hl : 40 < (l.length : Int) * t) {x0 x1 x2 x6 : Sl} : tm3 a [x0, x1, x2, .val (.lst (nis l)), .val (.int t), .val (.tup [.str "great", .int 40]), x6] = DL.M.ret (.nx [x0, x1, x2, .val (.lst (nis l)), .val (.int t), .val (.tup [.str "great", .int 40]), x6]) := by
  have h := tmX_ (a := a) (t := t) hn (x0 := x0) (x1 := x1) (x2 := x2) (x5 := .val (.tup [.str "great", .int 40])) (x6 := x6)
  unfold tm3
  generalize tmX a = X at h ⊢
  generalize tmE a = Y
  unfold tmG
  simp only [bnd_ret, bnd_nn, bnd_rse, bnd_ite, bnd_bnd, semOf, gSeq, gNx, gSet, gDrop, gRet, gRetV, gRetN, gIf, gBk, gCt, gFrz, frz, gApp, gExt, gSetI, gAsg, gPar, gPop, gSetPop, gAppPop, gRaise, gFld, cVar, vVar, cC, toV, bin, una, aNil, aCons, cTup, cLst, rNil, rCons, setAll, addD, subD, negD, cmpD, notD, cCall, cMeth, cMeth0, cMake, objR, tV, truD, tNotD, tAndD, tOrD, tBl, andV, orV, cIf, chain, oNone, oSome, cSl, slD, ixD, lenD, tupleD, listD, cDict, tgN, tgS, tgT, tgs, wSeq, wEn, R.sl, R.d, Sl.isIns, oneIns, List.getElem?_cons_zero, List.getElem?_cons_succ, List.getElem?_nil, List.set_cons_zero, List.set_cons_succ, List.map_cons, List.map_nil, List.length_cons, List.length_nil, List.nil_append, List.cons_append, List.append_nil, List.replicate, List.all_cons, List.all_nil, Nat.reduceSub, Nat.reduceAdd, Nat.reduceLeDiff, Nat.reduceLT, Nat.reduceEqDiff, if_true, if_false, ite_true, ite_false, Bool.not_true, Bool.not_false, Bool.true_and, Bool.and_true, Bool.false_and, Bool.and_false, Bool.true_or, Bool.or_true, Bool.false_or, Bool.or_false, decide_true, decide_false, Bool.false_eq_true, reduceCtorEq, true_and, and_true, List.mem_cons_self, h, decide_eq_true hl, gr_self, Bool.true_xor]
theorem tmN_ {s t n : Int} {l : List Int} (hn : l.length ≤ 40) (n0 : 0 ≤ n) (hn2 : n ≤ 40) (M2 : Lt s (repL n l)) (e : l ≠ [] → n = t) {x0 x1 x6 : Sl} : tmN a [x0, x1, .val (.int s), .val (.lst (nis l)), .val (.int t), .own [wordD a s (repL n l)], x6] = DL.M.ret (.nx [x0, x1, .val (.int s), .val (.lst (nis l)), .val (.int t), .own [wordD a s (repL n l)], x6]) := by
  have q := eq_ll true l []
  by_cases h : l = []
  · subst h
    unfold tmN
    generalize tmY = Y
    have q0 : eqG true (Dt.lst []) (Dt.lst []) = DL.M.ret (.val (.bl false)) := (eq_ll true [] []).trans (by simp)
    simp only [bnd_ret, bnd_nn, bnd_rse, bnd_ite, bnd_bnd, semOf, gSeq, gNx, gSet, gDrop, gRet, gRetV, gRetN, gIf, gBk, gCt, gFrz, frz, gApp, gExt, gSetI, gAsg, gPar, gPop, gSetPop, gAppPop, gRaise, gFld, cVar, vVar, cC, toV, bin, una, aNil, aCons, cTup, cLst, rNil, rCons, setAll, addD, subD, negD, cmpD, notD, cCall, cMeth, cMeth0, cMake, objR, tV, truD, tNotD, tAndD, tOrD, tBl, andV, orV, cIf, chain, oNone, oSome, cSl, slD, ixD, lenD, tupleD, listD, cDict, tgN, tgS, tgT, tgs, wSeq, wEn, R.sl, R.d, Sl.isIns, oneIns, List.getElem?_cons_zero, List.getElem?_cons_succ, List.getElem?_nil, List.set_cons_zero, List.set_cons_succ, List.map_cons, List.map_nil, List.length_cons, List.length_nil, List.nil_append, List.cons_append, List.append_nil, List.replicate, List.all_cons, List.all_nil, Nat.reduceSub, Nat.reduceAdd, Nat.reduceLeDiff, Nat.reduceLT, Nat.reduceEqDiff, if_true, if_false, ite_true, ite_false, Bool.not_true, Bool.not_false, Bool.true_and, Bool.and_true, Bool.false_and, Bool.and_false, Bool.true_or, Bool.or_true, Bool.false_or, Bool.or_false, decide_true, decide_false, Bool.false_eq_true, reduceCtorEq, true_and, and_true, List.mem_cons_self, q0]
  · have y : tmY [x0, x1, .val (.int s), .val (.lst (nis l)), .val (.int t), .own [wordD a s (repL n l)], x6] = DL.M.ret (.new (nis (repL n l))) := by
      have e := e h
      subst e
      exact bin_retR (f := vVar 3) (g := vVar 4) rfl rfl (mul_lst n0 hn2 hn)
    rw [decide_eq_false h] at q
    have i2 : L2.atI [wordD a s (repL n l)] 0 = some (wordD a s (repL n l)) := rfl
    have w := is_word (a := a) M2
    unfold tmN
    generalize tmY = Y at y ⊢
    simp only [bnd_ret, bnd_nn, bnd_rse, bnd_ite, bnd_bnd, semOf, gSeq, gNx, gSet, gDrop, gRet, gRetV, gRetN, gIf, gBk, gCt, gFrz, frz, gApp, gExt, gSetI, gAsg, gPar, gPop, gSetPop, gAppPop, gRaise, gFld, cVar, vVar, cC, toV, bin, una, aNil, aCons, cTup, cLst, rNil, rCons, setAll, addD, subD, negD, cmpD, notD, cCall, cMeth, cMeth0, cMake, objR, tV, truD, tNotD, tAndD, tOrD, tBl, andV, orV, cIf, chain, oNone, oSome, cSl, slD, ixD, lenD, tupleD, listD, cDict, tgN, tgS, tgT, tgs, wSeq, wEn, R.sl, R.d, Sl.isIns, oneIns, List.getElem?_cons_zero, List.getElem?_cons_succ, List.getElem?_nil, List.set_cons_zero, List.set_cons_succ, List.map_cons, List.map_nil, List.length_cons, List.length_nil, List.nil_append, List.cons_append, List.append_nil, List.replicate, List.all_cons, List.all_nil, Nat.reduceSub, Nat.reduceAdd, Nat.reduceLeDiff, Nat.reduceLT, Nat.reduceEqDiff, if_true, if_false, ite_true, ite_false, Bool.not_true, Bool.not_false, Bool.true_and, Bool.and_true, Bool.false_and, Bool.and_false, Bool.true_or, Bool.or_true, Bool.false_or, Bool.or_false, decide_true, decide_false, Bool.false_eq_true, reduceCtorEq, true_and, and_true, List.mem_cons_self, show eqG true (.lst (nis l)) (.lst []) = DL.M.ret (.val (.bl (true ^^ false))) from q, Bool.xor_false, y, i2, w]
theorem tm3_ok {s t n : Int} {l : List Int} (hn : l.length ≤ 40) (hl : (l.length : Int) * t ≤ 40) (n0 : 0 ≤ n) (h : (n = t ∧ t ≤ 40) ∨ (n = 40 ∧ 40 ≤ t)) (M2 : Lt s (repL n l)) {x0 x1 x6 : Sl} : tm3 a [x0, x1, .val (.int s), .val (.lst (nis l)), .val (.int t), .own [wordD a s (repL n l)], x6] = DL.M.ret (.nx [x0, x1, .val (.int s), .val (.lst (nis l)), .val (.int t), .own [wordD a s (repL n l)], x6]) := by
  obtain ⟨r1, r2⟩ := rep_len n0 h hl
  have x := tmX_ (a := a) (t := t) hn (x0 := x0) (x1 := x1) (x2 := .val (.int s)) (x5 := .own [wordD a s (repL n l)]) (x6 := x6)
  have y := tmN_ (a := a) (t := t) hn n0 (by omega) M2 r2 (x0 := x0) (x1 := x1) (x6 := x6)
  have i1 : isiD (ocs a) [.ty "list"] (.lst [wordD a s (repL n l)]) = DL.M.ret (.val (.bl true)) := isi_ty (ocs a) "list" _ rfl (b := true) (by decide +kernel)
  have i2 : L2.atI [wordD a s (repL n l)] 0 = some (wordD a s (repL n l)) := rfl
  have w1 := lenW (a := a) (s := s) (l := repL n l) (by have := M2.len; omega)
  rw [r1] at w1
  unfold tm3
  generalize tmG = G
  unfold tmE
  generalize tmX a = X at x ⊢
  generalize tmN a = N at y ⊢
  generalize orC (isObj a.w_Word) (lenOw a.w_Word (S_Word_len a)) lenD = LN at w1 ⊢
  generalize (l.length : Int) * t = p at x w1 hl
  generalize wordD a s (repL n l) = W at *
  simp only [bnd_ret, bnd_nn, bnd_rse, bnd_ite, bnd_bnd, semOf, gSeq, gNx, gSet, gDrop, gRet, gRetV, gRetN, gIf, gBk, gCt, gFrz, frz, gApp, gExt, gSetI, gAsg, gPar, gPop, gSetPop, gAppPop, gRaise, gFld, cVar, vVar, cC, toV, bin, una, aNil, aCons, cTup, cLst, rNil, rCons, setAll, addD, subD, negD, cmpD, notD, cCall, cMeth, cMeth0, cMake, objR, tV, truD, tNotD, tAndD, tOrD, tBl, andV, orV, cIf, chain, oNone, oSome, cSl, slD, ixD, lenD, tupleD, listD, cDict, tgN, tgS, tgT, tgs, wSeq, wEn, R.sl, R.d, Sl.isIns, oneIns, List.getElem?_cons_zero, List.getElem?_cons_succ, List.getElem?_nil, List.set_cons_zero, List.set_cons_succ, List.map_cons, List.map_nil, List.length_cons, List.length_nil, List.nil_append, List.cons_append, List.append_nil, List.replicate, List.all_cons, List.all_nil, Nat.reduceSub, Nat.reduceAdd, Nat.reduceLeDiff, Nat.reduceLT, Nat.reduceEqDiff, if_true, if_false, ite_true, ite_false, Bool.not_true, Bool.not_false, Bool.true_and, Bool.and_true, Bool.false_and, Bool.and_false, Bool.true_or, Bool.or_true, Bool.false_or, Bool.or_false, decide_true, decide_false, Bool.false_eq_true, reduceCtorEq, true_and, and_true, List.mem_cons_self, x, decide_eq_false (show ¬ (40 : Int) < p by omega), i1, i2, w1, eq_ii, Bool.true_xor, y]
theorem times_ {s : Int} {l : List Int} (L : Lt s l) (hm : tabOk a.P__law_times_right lq__law_times_right T) : Dw T 2 (S__law_times_right a [.drw, wordD a s l, .int s, .lst (nis l)]) (fun r => r = .val (.bl true)) := by
  rw [tm_def]
  show Dw T 2 (DL.M.bnd (gSeq (tm1 a) (gSeq (tm2 a) (gSeq (tm3 a) (gSeq (tm4 a) (tm5 a)))) [.val .drw, .val (wordD a s l), .val (.int s), .val (.lst (nis l)), .non, .non, .non]) _) _
  refine (Dw.bnd (k := 2) (j := 0) (P := fun f => f = .ret (.val (.bl true))) (by decide) (by decide) ?_ fun f hf => ?_).le (by decide)
  · refine (seq_dw (c := 1) (d := 1) (Q := fun δ => ∃ t : Int, δ = [.val .drw, .val (wordD a s l), .val (.int s), .val (.lst (nis l)), .val (.int t), .non, .non] ∧ 0 ≤ t) (by decide) (by decide) (tm1_.imp fun f ⟨t, e, o, _⟩ => ⟨_, e, t, rfl, o⟩) fun δ' ⟨t, e, t0⟩ => ?_).le (by decide)
    subst e
    by_cases hl : (l.length : Int) * t ≤ 40
    · obtain ⟨n, n0, hn, M2, k⟩ := tm2_ok (a := a) (T := T) L t0 hl hm (x0 := .val .drw) (x2 := .val (.int s)) (x3 := .val (.lst (nis l))) (x5 := .non) (x6 := .non)
      refine (seq_dw (c := 0) (d := 1) (Q := fun δ => δ = [.val .drw, .val (wordD a s l), .val (.int s), .val (.lst (nis l)), .val (.int t), .own [wordD a s (repL n l)], .non]) (by decide) (by decide) (k.imp fun f e => ⟨_, e, rfl⟩) fun δ' e => ?_).le (by decide)
      subst e
      rw [seq_nx (tm3_ok L.len hl n0 hn M2)]
      refine (seq_dw (c := 1) (d := 0) (Q := fun δ => ∃ d, δ = [.val .drw, .val (wordD a s l), .val (.int s), .val (.lst (nis l)), .val (.int t), .own [wordD a s (repL n l)], .val d] ∧ OdM d) (by decide) (by decide) (tm4_.imp fun f ⟨d, e, o⟩ => ⟨_, e, d, rfl, o⟩) fun δ' ⟨d, e, o⟩ => ?_).le (by decide)
      subst e
      exact tm5_ hm o
    · refine (seq_dw (c := 0) (d := 1) (Q := fun δ => δ = [.val .drw, .val (wordD a s l), .val (.int s), .val (.lst (nis l)), .val (.int t), .val (.tup [.str "great", .int 40]), .non]) (by decide) (by decide) ((tm2_gr L t0 (by omega) hm).imp fun f e => ⟨_, e, rfl⟩) fun δ' e => ?_).le (by decide)
      subst e
      rw [seq_nx (tm3_gr L.len (by omega))]
      refine (seq_dw (c := 1) (d := 0) (Q := fun δ => ∃ d, δ = [.val .drw, .val (wordD a s l), .val (.int s), .val (.lst (nis l)), .val (.int t), .val (.tup [.str "great", .int 40]), .val d] ∧ OdM d) (by decide) (by decide) (tm4_.imp fun f ⟨d, e, o⟩ => ⟨_, e, d, rfl, o⟩) fun δ' ⟨d, e, o⟩ => ?_).le (by decide)
      subst e
      exact tm5_ hm o
  · subst hf
    exact Dw.ret (by decide) rfl
end Dg
set_option maxHeartbeats 0
set_option pp.maxSteps 3000
namespace Dg
open PySem DL LwM
variable {a : Adr} {T : List (Addr × Str)}
noncomputable def lB1 (a : Adr) : List Sl → DL.M Fl :=
  (gSet 3 (cLst (aCons (cCall 1 (aCons (cVar 1) aNil) (S__law_size a)) (aCons (cCall 1 (aCons (cVar 1) aNil) (S__law_size a)) aNil))))
noncomputable def lB2 (a : Adr) : List Sl → DL.M Fl :=
  (gSetI 3 (bin (vVar 3) (toV (cCall 2 (aCons (cVar 1) (aCons (cC (.int 2)) aNil)) (S__law_draw a))) ixD) (toV (cC (.int 1))))
noncomputable def lB3 (a : Adr) : List Sl → DL.M Fl :=
  (gSet 4 (cLc (wRng1 (toV (cC (.int 2)))) (tgN 9) tYesD (cCall 3 (aCons (cVar 1) (aCons (una (vVar 3) minLD) (aCons (bin (toV (cLst (aCons (cC (.int 8)) (aCons (cC (.int 30)) aNil)))) (toV (cCall 2 (aCons (cVar 1) (aCons (cC (.int 2)) aNil)) (S__law_draw a))) ixD) aNil))) (S__law_letters a)) [9]))
noncomputable def lB4 (a : Adr) : List Sl → DL.M Fl :=
  (gSetI 4 (una (toV (bin (vVar 4) (toV (cCall 2 (aCons (cVar 1) (aCons (cC (.int 2)) aNil)) (S__law_draw a))) ixD)) listD) (toV (cC (.int 1))))
noncomputable def lB5 (a : Adr) : List Sl → DL.M Fl :=
  (gPar [7, 8] (rCons (cMake 3 (aCons (bin (vVar 3) (toV (cC (.int 0))) ixD) (aCons (bin (vVar 4) (toV (cC (.int 0))) ixD) aNil)) (S_Word_init a)) (rCons (cMake 3 (aCons (bin (vVar 3) (toV (cC (.int 1))) ixD) (aCons (bin (vVar 4) (toV (cC (.int 1))) ixD) aNil)) (S_Word_init a)) rNil)))
noncomputable def lB6 (a : Adr) : List Sl → DL.M Fl :=
  (gIf (tOrD (tNotD (tV (toV (cCall 3 (aCons (cVar 1) (aCons (cVar 7) (aCons (bin (vVar 4) (toV (cC (.int 0))) ixD) aNil))) (S__law_places_right a))))) (tNotD (tV (toV (cCall 4 (aCons (cVar 1) (aCons (cVar 7) (aCons (bin (vVar 3) (toV (cC (.int 0))) ixD) (aCons (bin (vVar 4) (toV (cC (.int 0))) ixD) aNil)))) (S__law_times_right a)))))) (gRet (cC (.bl false))) gNx)
noncomputable def lB7 (a : Adr) : List Sl → DL.M Fl :=
  (gFrz 4 (gFrz 3 (gIf (tNotD (tV (toV (cCall 4 (aCons (cVar 7) (aCons (cVar 8) (aCons (cVar 3) (aCons (cVar 4) aNil)))) (S__law_both_right a))))) (gRet (cC (.bl false))) gNx)))
noncomputable def lB8 (a : Adr) : List Sl → DL.M Fl :=
  (gSet 5 (andV (toV (bin (toV (bin (vVar 3) (toV (cC (.int 0))) ixD)) (toV (bin (vVar 3) (toV (cC (.int 1))) ixD)) (orOp (objL a.w_Word) (eqAn (ocs a) a.w_Word false (S_Word_eq a)) (eqG false)))) (bin (toV (bin (vVar 4) (toV (cC (.int 0))) ixD)) (toV (bin (vVar 4) (toV (cC (.int 1))) ixD)) (orOp (objL a.w_Word) (eqAn (ocs a) a.w_Word false (S_Word_eq a)) (eqG false)))))
noncomputable def lB9 (a : Adr) : List Sl → DL.M Fl :=
  (gIf (tNotD (tV (toV (cCall 2 (aCons (cLst (aCons (bin (vVar 7) (vVar 8) (orOp (objL a.w_Word) (eqAn (ocs a) a.w_Word false (S_Word_eq a)) (eqG false))) (aCons (bin (vVar 7) (vVar 8) (orOp (objL a.w_Word) (eqAn (ocs a) a.w_Word true (S_Word_eq a)) (eqG true))) aNil))) (aCons (cLst (aCons (cVar 5) (aCons (una (vVar 5) notD) aNil))) aNil)) (S__law_like a))))) (gRet (cC (.bl false))) gNx)
noncomputable def lB10 (a : Adr) : List Sl → DL.M Fl :=
  (gSet 6 (bin (toV (cLst (aCons (cC .non) (aCons (bin (vVar 4) (toV (cC (.int 0))) ixD) (aCons (una (toV (bin (vVar 4) (toV (cC (.int 0))) ixD)) tupleD) (aCons (bin (vVar 3) (toV (cC (.int 0))) ixD) (aCons (cC (.str "")) (aCons (cTup (aCons (bin (vVar 3) (toV (cC (.int 0))) ixD) (aCons (una (toV (bin (vVar 4) (toV (cC (.int 0))) ixD)) tupleD) aNil))) aNil)))))))) (toV (cCall 2 (aCons (cVar 1) (aCons (cC (.int 6)) aNil)) (S__law_draw a))) ixD))
noncomputable def lB11 (a : Adr) : List Sl → DL.M Fl :=
  (gIf (tNotD (tV (toV (cCall 2 (aCons (cLst (aCons (orE (binF (vVar 7) (cVar 6) (eqAL (ocs a) a.w_Word false (S_Word_eq a))) (bin (vVar 7) (vVar 6) (orOp (objL a.w_Word) (eqAn (ocs a) a.w_Word false (S_Word_eq a)) (eqG false)))) (aCons (orE (binF (vVar 7) (cVar 6) (eqAL (ocs a) a.w_Word true (S_Word_eq a))) (bin (vVar 7) (vVar 6) (orOp (objL a.w_Word) (eqAn (ocs a) a.w_Word true (S_Word_eq a)) (eqG true)))) (aCons (bin (vVar 7) (toV (cMake 3 (aCons (bin (vVar 3) (toV (cC (.int 0))) ixD) (aCons (bin (vVar 4) (toV (cC (.int 0))) ixD) aNil)) (S_Word_init a))) (orOp (objL a.w_Word) (eqAn (ocs a) a.w_Word false (S_Word_eq a)) (eqG false))) aNil)))) (aCons (cLst (aCons (cC (.bl false)) (aCons (cC (.bl true)) (aCons (cC (.bl true)) aNil)))) aNil)) (S__law_like a))))) (gRet (cC (.bl false))) gNx)
noncomputable def lB12 (a : Adr) : List Sl → DL.M Fl :=
  (gIf (tOrD (tNotD (tV (toV (cCall 3 (aCons (cVar 7) (aCons (bin (vVar 3) (toV (cC (.int 0))) ixD) (aCons (bin (vVar 4) (toV (cC (.int 0))) ixD) aNil))) (S__law_is_word a))))) (tNotD (tV (toV (cCall 3 (aCons (cVar 8) (aCons (bin (vVar 3) (toV (cC (.int 1))) ixD) (aCons (bin (vVar 4) (toV (cC (.int 1))) ixD) aNil))) (S__law_is_word a)))))) (gRet (cC (.bl false))) gNx)
noncomputable def lBB (a : Adr) : List Sl → DL.M Fl :=
  gSeq (lB1 a) (gSeq (lB2 a) (gSeq (lB3 a) (gSeq (lB4 a) (gSeq (lB5 a) (gSeq (lB6 a) (gSeq (lB7 a) (gSeq (lB8 a) (gSeq (lB9 a) (gSeq (lB10 a) (gSeq (lB11 a) (lB12 a)))))))))))
noncomputable def lBE1 (a : Adr) : List Sl → DL.M Fl :=
  (gRet (andV (toV (bin (toV (bin (toV (cMake 3 (aCons (cC (.int 3)) (aCons (cLst (aCons (cC (.int 1)) (aCons (cC (.int 2)) aNil))) aNil)) (S_Word_init a))) (toV (cMake 3 (aCons (cC (.int 3)) (aCons (cLst (aCons (cC (.int 3)) aNil)) aNil)) (S_Word_init a))) (twoOw a.w_Word (S_Word_add a)))) (toV (cMake 3 (aCons (cC (.int 3)) (aCons (cLst (aCons (cC (.int 1)) (aCons (cC (.int 2)) (aCons (cC (.int 3)) aNil)))) aNil)) (S_Word_init a))) (orOp (objL a.w_Word) (eqAn (ocs a) a.w_Word false (S_Word_eq a)) (eqG false)))) (bin (toV (binF (toV (cMake 3 (aCons (cC (.int 2)) (aCons (cTup aNil) aNil)) (S_Word_init a))) (bin (toV (cC (.int 10))) (toV (cC (.int 60))) powD) (mulOw a.w_Word (S_Word_mul a)))) (toV (cMake 3 (aCons (cC (.int 2)) (aCons (cLst aNil) aNil)) (S_Word_init a))) (orOp (objL a.w_Word) (eqAn (ocs a) a.w_Word false (S_Word_eq a)) (eqG false)))))
theorem compL_n {tg : Dt → List Sl → Option (List Sl)} {tt : List Sl → DL.M Bool} {fe : List Sl → DL.M R} {δ : List Sl} {P : Dt → Prop} {c : Int} (hc : 0 ≤ c) : ∀ (l : List Dt), (∀ d ∈ l, ∃ δ1, tg d δ = some δ1 ∧ tt δ1 = DL.M.ret true ∧ Dw T c (fe δ1) (fun r => P r.d)) → Dw T (c * (l.length : Nat)) (compL tg tt fe δ l) (fun ds => ds.length = l.length ∧ ∀ d ∈ ds, P d)
  | [], _ => Dw.ret (by simp) ⟨rfl, fun d h => by cases h⟩
  | d :: l, h => by
    obtain ⟨δ1, e1, e2, k⟩ := h d (List.mem_cons_self ..)
    have ih := compL_n hc l fun x hx => h x (List.mem_cons_of_mem _ hx)
    have n0 : 0 ≤ c * (l.length : Nat) := Int.mul_nonneg hc (by omega)
    unfold compL
    rw [e1]
    simp only [e2, bnd_ret, if_true]
    have e : c * ((d :: l).length : Nat) = c + (c * (l.length : Nat) + 0) := by
      rw [List.length_cons]
      have : (((l.length + 1 : Nat) : Int)) = (l.length : Int) + 1 := by omega
      rw [this, Int.mul_add, Int.mul_one]
      omega
    rw [e]
    refine Dw.bnd hc (by omega) k fun r hr => Dw.bnd n0 (by decide) ih fun ds hd => Dw.ret (by decide) ⟨by rw [List.length_cons, List.length_cons, hd.1], fun x hx => ?_⟩
    rcases List.mem_cons.mp hx with e | hx
    · rw [e]; exact hr
    · exact hd.2 x hx
abbrev szS (s1 s2 : Int) : Sl := .own [.int s1, .int s2]
abbrev rwS (l1 l2 : List Int) : Sl := .own [.lst (nis l1), .lst (nis l2)]
theorem lB1_ {x0 x2 x3 x4 x5 x6 x7 x8 x9 : Sl} : Dw T 2 (lB1 a [x0, .val .drw, x2, x3, x4, x5, x6, x7, x8, x9]) (fun f => ∃ s1 s2 : Int, f = .nx [x0, .val .drw, x2, szS s1 s2, x4, x5, x6, x7, x8, x9] ∧ (2 ≤ s1 ∧ s1 ≤ 6) ∧ (2 ≤ s2 ∧ s2 ≤ 6)) := by
  unfold lB1
  simp only [bnd_ret, bnd_nn, bnd_rse, bnd_ite, bnd_bnd, semOf, gSeq, gNx, gSet, gDrop, gRet, gRetV, gRetN, gIf, gBk, gCt, gFrz, frz, gApp, gExt, gSetI, gAsg, gPar, gPop, gSetPop, gAppPop, gRaise, gFld, cVar, vVar, cC, toV, bin, una, aNil, aCons, cTup, cLst, rNil, rCons, setAll, addD, subD, negD, cmpD, notD, cCall, cMeth, cMeth0, cMake, objR, tV, truD, tNotD, tAndD, tOrD, tBl, andV, orV, cIf, chain, oNone, oSome, cSl, slD, ixD, lenD, tupleD, listD, cDict, tgN, tgS, tgT, tgs, wSeq, wEn, R.sl, R.d, Sl.isIns, oneIns, List.getElem?_cons_zero, List.getElem?_cons_succ, List.getElem?_nil, List.set_cons_zero, List.set_cons_succ, List.map_cons, List.map_nil, List.length_cons, List.length_nil, List.nil_append, List.cons_append, List.append_nil, List.replicate, List.all_cons, List.all_nil, Nat.reduceSub, Nat.reduceAdd, Nat.reduceLeDiff, Nat.reduceLT, Nat.reduceEqDiff, if_true, if_false, ite_true, ite_false, Bool.not_true, Bool.not_false, Bool.true_and, Bool.and_true, Bool.false_and, Bool.and_false, Bool.true_or, Bool.or_true, Bool.false_or, Bool.or_false, decide_true, decide_false, Bool.false_eq_true, reduceCtorEq, true_and, and_true, List.mem_cons_self]
  refine Dw.bnd (k := 1) (j := 1) (by decide) (by decide) size_ fun r hr => ?_
  obtain ⟨s1, rfl, a0, a1⟩ := hr
  simp only [bnd_ret, bnd_nn, bnd_rse, bnd_ite, bnd_bnd, semOf, gSeq, gNx, gSet, gDrop, gRet, gRetV, gRetN, gIf, gBk, gCt, gFrz, frz, gApp, gExt, gSetI, gAsg, gPar, gPop, gSetPop, gAppPop, gRaise, gFld, cVar, vVar, cC, toV, bin, una, aNil, aCons, cTup, cLst, rNil, rCons, setAll, addD, subD, negD, cmpD, notD, cCall, cMeth, cMeth0, cMake, objR, tV, truD, tNotD, tAndD, tOrD, tBl, andV, orV, cIf, chain, oNone, oSome, cSl, slD, ixD, lenD, tupleD, listD, cDict, tgN, tgS, tgT, tgs, wSeq, wEn, R.sl, R.d, Sl.isIns, oneIns, List.getElem?_cons_zero, List.getElem?_cons_succ, List.getElem?_nil, List.set_cons_zero, List.set_cons_succ, List.map_cons, List.map_nil, List.length_cons, List.length_nil, List.nil_append, List.cons_append, List.append_nil, List.replicate, List.all_cons, List.all_nil, Nat.reduceSub, Nat.reduceAdd, Nat.reduceLeDiff, Nat.reduceLT, Nat.reduceEqDiff, if_true, if_false, ite_true, ite_false, Bool.not_true, Bool.not_false, Bool.true_and, Bool.and_true, Bool.false_and, Bool.and_false, Bool.true_or, Bool.or_true, Bool.false_or, Bool.or_false, decide_true, decide_false, Bool.false_eq_true, reduceCtorEq, true_and, and_true, List.mem_cons_self]
  refine Dw.bnd (k := 1) (j := 0) (by decide) (by decide) size_ fun r hr => ?_
  obtain ⟨s2, rfl, b0, b1⟩ := hr
  simp only [bnd_ret, bnd_nn, bnd_rse, bnd_ite, bnd_bnd, semOf, gSeq, gNx, gSet, gDrop, gRet, gRetV, gRetN, gIf, gBk, gCt, gFrz, frz, gApp, gExt, gSetI, gAsg, gPar, gPop, gSetPop, gAppPop, gRaise, gFld, cVar, vVar, cC, toV, bin, una, aNil, aCons, cTup, cLst, rNil, rCons, setAll, addD, subD, negD, cmpD, notD, cCall, cMeth, cMeth0, cMake, objR, tV, truD, tNotD, tAndD, tOrD, tBl, andV, orV, cIf, chain, oNone, oSome, cSl, slD, ixD, lenD, tupleD, listD, cDict, tgN, tgS, tgT, tgs, wSeq, wEn, R.sl, R.d, Sl.isIns, oneIns, List.getElem?_cons_zero, List.getElem?_cons_succ, List.getElem?_nil, List.set_cons_zero, List.set_cons_succ, List.map_cons, List.map_nil, List.length_cons, List.length_nil, List.nil_append, List.cons_append, List.append_nil, List.replicate, List.all_cons, List.all_nil, Nat.reduceSub, Nat.reduceAdd, Nat.reduceLeDiff, Nat.reduceLT, Nat.reduceEqDiff, if_true, if_false, ite_true, ite_false, Bool.not_true, Bool.not_false, Bool.true_and, Bool.and_true, Bool.false_and, Bool.and_false, Bool.true_or, Bool.or_true, Bool.false_or, Bool.or_false, decide_true, decide_false, Bool.false_eq_true, reduceCtorEq, true_and, and_true, List.mem_cons_self]
  exact Dw.ret (by decide) ⟨s1, s2, rfl, ⟨a0, a1⟩, b0, b1⟩
theorem at_two {x y : Dt} {z : Int} (z0 : 0 ≤ z) (z1 : z < 2) : ∃ d, L2.atI [x, y] z = some d ∧ (d = x ∨ d = y) := by
  have h : z = 0 ∨ z = 1 := by omega
  rcases h with rfl | rfl
  · exact ⟨x, rfl, .inl rfl⟩
  · exact ⟨y, rfl, .inr rfl⟩
theorem lB2_ {s1 s2 : Int} (h1 : 2 ≤ s1 ∧ s1 ≤ 6) (h2 : 2 ≤ s2 ∧ s2 ≤ 6) {x0 x2 x4 x5 x6 x7 x8 x9 : Sl} : Dw T 1 (lB2 a [x0, .val .drw, x2, szS s1 s2, x4, x5, x6, x7, x8, x9]) (fun f => ∃ s3 : Int, f = .nx [x0, .val .drw, x2, szS s1 s3, x4, x5, x6, x7, x8, x9] ∧ (2 ≤ s3 ∧ s3 ≤ 6)) := by
  unfold lB2
  have ix : L2.ixN 2 1 = some 1 := rfl
  simp only [bnd_ret, bnd_nn, bnd_rse, bnd_ite, bnd_bnd, semOf, gSeq, gNx, gSet, gDrop, gRet, gRetV, gRetN, gIf, gBk, gCt, gFrz, frz, gApp, gExt, gSetI, gAsg, gPar, gPop, gSetPop, gAppPop, gRaise, gFld, cVar, vVar, cC, toV, bin, una, aNil, aCons, cTup, cLst, rNil, rCons, setAll, addD, subD, negD, cmpD, notD, cCall, cMeth, cMeth0, cMake, objR, tV, truD, tNotD, tAndD, tOrD, tBl, andV, orV, cIf, chain, oNone, oSome, cSl, slD, ixD, lenD, tupleD, listD, cDict, tgN, tgS, tgT, tgs, wSeq, wEn, R.sl, R.d, Sl.isIns, oneIns, List.getElem?_cons_zero, List.getElem?_cons_succ, List.getElem?_nil, List.set_cons_zero, List.set_cons_succ, List.map_cons, List.map_nil, List.length_cons, List.length_nil, List.nil_append, List.cons_append, List.append_nil, List.replicate, List.all_cons, List.all_nil, Nat.reduceSub, Nat.reduceAdd, Nat.reduceLeDiff, Nat.reduceLT, Nat.reduceEqDiff, if_true, if_false, ite_true, ite_false, Bool.not_true, Bool.not_false, Bool.true_and, Bool.and_true, Bool.false_and, Bool.and_false, Bool.true_or, Bool.or_true, Bool.false_or, Bool.or_false, decide_true, decide_false, Bool.false_eq_true, reduceCtorEq, true_and, and_true, List.mem_cons_self]
  refine Dw.bnd (k := 1) (j := 0) (by decide) (by decide) (draw_ (lim := 2) (by decide) (by decide)) fun r hr => ?_
  obtain ⟨z, rfl, z0, z1⟩ := hr
  obtain ⟨d, e, o⟩ := at_two (x := .int s1) (y := .int s2) z0 z1
  simp only [bnd_ret, bnd_nn, bnd_rse, bnd_ite, bnd_bnd, semOf, gSeq, gNx, gSet, gDrop, gRet, gRetV, gRetN, gIf, gBk, gCt, gFrz, frz, gApp, gExt, gSetI, gAsg, gPar, gPop, gSetPop, gAppPop, gRaise, gFld, cVar, vVar, cC, toV, bin, una, aNil, aCons, cTup, cLst, rNil, rCons, setAll, addD, subD, negD, cmpD, notD, cCall, cMeth, cMeth0, cMake, objR, tV, truD, tNotD, tAndD, tOrD, tBl, andV, orV, cIf, chain, oNone, oSome, cSl, slD, ixD, lenD, tupleD, listD, cDict, tgN, tgS, tgT, tgs, wSeq, wEn, R.sl, R.d, Sl.isIns, oneIns, List.getElem?_cons_zero, List.getElem?_cons_succ, List.getElem?_nil, List.set_cons_zero, List.set_cons_succ, List.map_cons, List.map_nil, List.length_cons, List.length_nil, List.nil_append, List.cons_append, List.append_nil, List.replicate, List.all_cons, List.all_nil, Nat.reduceSub, Nat.reduceAdd, Nat.reduceLeDiff, Nat.reduceLT, Nat.reduceEqDiff, if_true, if_false, ite_true, ite_false, Bool.not_true, Bool.not_false, Bool.true_and, Bool.and_true, Bool.false_and, Bool.and_false, Bool.true_or, Bool.or_true, Bool.false_or, Bool.or_false, decide_true, decide_false, Bool.false_eq_true, reduceCtorEq, true_and, and_true, List.mem_cons_self, e, ix]
  rcases o with rfl | rfl
  · exact Dw.ret (by decide) ⟨s1, rfl, h1⟩
  · exact Dw.ret (by decide) ⟨s2, rfl, h2⟩
theorem lB3_ {s1 s2 : Int} (h1 : 2 ≤ s1 ∧ s1 ≤ 6) (h2 : 2 ≤ s2 ∧ s2 ≤ 6) {x0 x2 x4 x5 x6 x7 x8 x9 : Sl} : Dw T 208 (lB3 a [x0, .val .drw, x2, szS s1 s2, x4, x5, x6, x7, x8, x9]) (fun f => ∃ l1 l2 : List Int, f = .nx [x0, .val .drw, x2, szS s1 s2, rwS l1 l2, x5, x6, x7, x8, x9] ∧ (Lt s1 l1 ∧ Lt s2 l1) ∧ (Lt s1 l2 ∧ Lt s2 l2)) := by
  have mn : minLD (.lst [.int s1, .int s2]) = DL.M.ret (.val (.int (min s1 s2))) := rfl
  have m0 : 2 ≤ min s1 s2 := by omega
  have m1 : min s1 s2 ≤ 6 := by omega
  have src : wRng1 (toV (cC (.int 2))) [x0, .val .drw, x2, szS s1 s2, x4, x5, x6, x7, x8, x9] = DL.M.ret (rngD 0 2) := rfl
  have key := compL_n (T := T) (tg := tgN 9) (tt := tYesD) (fe := (cCall 3 (aCons (cVar 1) (aCons (una (vVar 3) minLD) (aCons (bin (toV (cLst (aCons (cC (.int 8)) (aCons (cC (.int 30)) aNil)))) (toV (cCall 2 (aCons (cVar 1) (aCons (cC (.int 2)) aNil)) (S__law_draw a))) ixD) aNil))) (S__law_letters a))) (δ := wipeD [x0, .val .drw, x2, szS s1 s2, x4, x5, x6, x7, x8, x9] [9]) (P := fun d => ∃ l, d = .lst (nis l) ∧ Lb (min s1 s2) l ∧ (l.length : Int) ≤ 30) (c := 104) (by decide) (rngD 0 2) fun d hd => by
    refine ⟨_, rfl, rfl, ?_⟩
    simp only [bnd_ret, bnd_nn, bnd_rse, bnd_ite, bnd_bnd, semOf, gSeq, gNx, gSet, gDrop, gRet, gRetV, gRetN, gIf, gBk, gCt, gFrz, frz, gApp, gExt, gSetI, gAsg, gPar, gPop, gSetPop, gAppPop, gRaise, gFld, cVar, vVar, cC, toV, bin, una, aNil, aCons, cTup, cLst, rNil, rCons, setAll, addD, subD, negD, cmpD, notD, cCall, cMeth, cMeth0, cMake, objR, tV, truD, tNotD, tAndD, tOrD, tBl, andV, orV, cIf, chain, oNone, oSome, cSl, slD, ixD, lenD, tupleD, listD, cDict, tgN, tgS, tgT, tgs, wSeq, wEn, R.sl, R.d, Sl.isIns, oneIns, List.getElem?_cons_zero, List.getElem?_cons_succ, List.getElem?_nil, List.set_cons_zero, List.set_cons_succ, List.map_cons, List.map_nil, List.length_cons, List.length_nil, List.nil_append, List.cons_append, List.append_nil, List.replicate, List.all_cons, List.all_nil, Nat.reduceSub, Nat.reduceAdd, Nat.reduceLeDiff, Nat.reduceLT, Nat.reduceEqDiff, if_true, if_false, ite_true, ite_false, Bool.not_true, Bool.not_false, Bool.true_and, Bool.and_true, Bool.false_and, Bool.and_false, Bool.true_or, Bool.or_true, Bool.false_or, Bool.or_false, decide_true, decide_false, Bool.false_eq_true, reduceCtorEq, true_and, and_true, List.mem_cons_self, wipeD, mn]
    refine Dw.bnd (k := 1) (j := 103) (by decide) (by decide) (draw_ (lim := 2) (by decide) (by decide)) fun r hr => ?_
    obtain ⟨z, rfl, z0, z1⟩ := hr
    obtain ⟨d, e, o⟩ := at_two (x := .int 8) (y := .int 30) z0 z1
    simp only [bnd_ret, bnd_nn, bnd_rse, bnd_ite, bnd_bnd, semOf, gSeq, gNx, gSet, gDrop, gRet, gRetV, gRetN, gIf, gBk, gCt, gFrz, frz, gApp, gExt, gSetI, gAsg, gPar, gPop, gSetPop, gAppPop, gRaise, gFld, cVar, vVar, cC, toV, bin, una, aNil, aCons, cTup, cLst, rNil, rCons, setAll, addD, subD, negD, cmpD, notD, cCall, cMeth, cMeth0, cMake, objR, tV, truD, tNotD, tAndD, tOrD, tBl, andV, orV, cIf, chain, oNone, oSome, cSl, slD, ixD, lenD, tupleD, listD, cDict, tgN, tgS, tgT, tgs, wSeq, wEn, R.sl, R.d, Sl.isIns, oneIns, List.getElem?_cons_zero, List.getElem?_cons_succ, List.getElem?_nil, List.set_cons_zero, List.set_cons_succ, List.map_cons, List.map_nil, List.length_cons, List.length_nil, List.nil_append, List.cons_append, List.append_nil, List.replicate, List.all_cons, List.all_nil, Nat.reduceSub, Nat.reduceAdd, Nat.reduceLeDiff, Nat.reduceLT, Nat.reduceEqDiff, if_true, if_false, ite_true, ite_false, Bool.not_true, Bool.not_false, Bool.true_and, Bool.and_true, Bool.false_and, Bool.and_false, Bool.true_or, Bool.or_true, Bool.false_or, Bool.or_false, decide_true, decide_false, Bool.false_eq_true, reduceCtorEq, true_and, and_true, List.mem_cons_self, e]
    rcases o with rfl | rfl
    · exact (letters_ m0 m1 (by decide) (by decide)).imp fun r hr => by
        obtain ⟨l, rfl, b, n⟩ := hr
        exact ⟨l, rfl, b, by omega⟩
    · exact (letters_ m0 m1 (by decide) (by decide)).imp fun r hr => by
        obtain ⟨l, rfl, b, n⟩ := hr
        exact ⟨l, rfl, b, by omega⟩
  unfold lB3 gSet cLc
  rw [src]
  simp only [bnd_ret, bnd_bnd]
  rw [if_pos (show (rngD 0 2).length ≤ 100000 by decide)]
  simp only [bnd_bnd]
  refine (Dw.bnd (k := 208) (j := 0) (by decide) (by decide) (Dw.nx (key.le (by decide))) fun ds hd => ?_).le (by decide)
  obtain ⟨n, hp⟩ := hd
  obtain ⟨p, q, rfl⟩ : ∃ p q, ds = [p, q] := by
    match ds, n with
    | [p, q], _ => exact ⟨p, q, rfl⟩
  obtain ⟨l1, rfl, b1, n1⟩ := hp p (by simp)
  obtain ⟨l2, rfl, b2, n2⟩ := hp q (by simp)
  simp only [bnd_ret, bnd_nn, bnd_rse, bnd_ite, bnd_bnd, semOf, gSeq, gNx, gSet, gDrop, gRet, gRetV, gRetN, gIf, gBk, gCt, gFrz, frz, gApp, gExt, gSetI, gAsg, gPar, gPop, gSetPop, gAppPop, gRaise, gFld, cVar, vVar, cC, toV, bin, una, aNil, aCons, cTup, cLst, rNil, rCons, setAll, addD, subD, negD, cmpD, notD, cCall, cMeth, cMeth0, cMake, objR, tV, truD, tNotD, tAndD, tOrD, tBl, andV, orV, cIf, chain, oNone, oSome, cSl, slD, ixD, lenD, tupleD, listD, cDict, tgN, tgS, tgT, tgs, wSeq, wEn, R.sl, R.d, Sl.isIns, oneIns, List.getElem?_cons_zero, List.getElem?_cons_succ, List.getElem?_nil, List.set_cons_zero, List.set_cons_succ, List.map_cons, List.map_nil, List.length_cons, List.length_nil, List.nil_append, List.cons_append, List.append_nil, List.replicate, List.all_cons, List.all_nil, Nat.reduceSub, Nat.reduceAdd, Nat.reduceLeDiff, Nat.reduceLT, Nat.reduceEqDiff, if_true, if_false, ite_true, ite_false, Bool.not_true, Bool.not_false, Bool.true_and, Bool.and_true, Bool.false_and, Bool.and_false, Bool.true_or, Bool.or_true, Bool.false_or, Bool.or_false, decide_true, decide_false, Bool.false_eq_true, reduceCtorEq, true_and, and_true, List.mem_cons_self]
  exact Dw.ret (by decide) ⟨l1, l2, rfl, ⟨⟨h1.1, h1.2, by omega, fun x hx => by have := b1 x hx; omega⟩, ⟨h2.1, h2.2, by omega, fun x hx => by have := b1 x hx; omega⟩⟩, ⟨h1.1, h1.2, by omega, fun x hx => by have := b2 x hx; omega⟩, ⟨h2.1, h2.2, by omega, fun x hx => by have := b2 x hx; omega⟩⟩
theorem lB4_ {s2 : Int} {l1 l2 : List Int} (h1 : Lt s2 l1) (h2 : Lt s2 l2) {x0 x2 x3 x5 x6 x7 x8 x9 : Sl} : Dw T 1 (lB4 a [x0, .val .drw, x2, x3, rwS l1 l2, x5, x6, x7, x8, x9]) (fun f => ∃ l3 : List Int, f = .nx [x0, .val .drw, x2, x3, rwS l1 l3, x5, x6, x7, x8, x9] ∧ Lt s2 l3) := by
  unfold lB4
  have ix : L2.ixN 2 1 = some 1 := rfl
  simp only [bnd_ret, bnd_nn, bnd_rse, bnd_ite, bnd_bnd, semOf, gSeq, gNx, gSet, gDrop, gRet, gRetV, gRetN, gIf, gBk, gCt, gFrz, frz, gApp, gExt, gSetI, gAsg, gPar, gPop, gSetPop, gAppPop, gRaise, gFld, cVar, vVar, cC, toV, bin, una, aNil, aCons, cTup, cLst, rNil, rCons, setAll, addD, subD, negD, cmpD, notD, cCall, cMeth, cMeth0, cMake, objR, tV, truD, tNotD, tAndD, tOrD, tBl, andV, orV, cIf, chain, oNone, oSome, cSl, slD, ixD, lenD, tupleD, listD, cDict, tgN, tgS, tgT, tgs, wSeq, wEn, R.sl, R.d, Sl.isIns, oneIns, List.getElem?_cons_zero, List.getElem?_cons_succ, List.getElem?_nil, List.set_cons_zero, List.set_cons_succ, List.map_cons, List.map_nil, List.length_cons, List.length_nil, List.nil_append, List.cons_append, List.append_nil, List.replicate, List.all_cons, List.all_nil, Nat.reduceSub, Nat.reduceAdd, Nat.reduceLeDiff, Nat.reduceLT, Nat.reduceEqDiff, if_true, if_false, ite_true, ite_false, Bool.not_true, Bool.not_false, Bool.true_and, Bool.and_true, Bool.false_and, Bool.and_false, Bool.true_or, Bool.or_true, Bool.false_or, Bool.or_false, decide_true, decide_false, Bool.false_eq_true, reduceCtorEq, true_and, and_true, List.mem_cons_self]
  refine Dw.bnd (k := 1) (j := 0) (by decide) (by decide) (draw_ (lim := 2) (by decide) (by decide)) fun r hr => ?_
  obtain ⟨z, rfl, z0, z1⟩ := hr
  obtain ⟨d, e, o⟩ := at_two (x := .lst (nis l1)) (y := .lst (nis l2)) z0 z1
  simp only [bnd_ret, bnd_nn, bnd_rse, bnd_ite, bnd_bnd, semOf, gSeq, gNx, gSet, gDrop, gRet, gRetV, gRetN, gIf, gBk, gCt, gFrz, frz, gApp, gExt, gSetI, gAsg, gPar, gPop, gSetPop, gAppPop, gRaise, gFld, cVar, vVar, cC, toV, bin, una, aNil, aCons, cTup, cLst, rNil, rCons, setAll, addD, subD, negD, cmpD, notD, cCall, cMeth, cMeth0, cMake, objR, tV, truD, tNotD, tAndD, tOrD, tBl, andV, orV, cIf, chain, oNone, oSome, cSl, slD, ixD, lenD, tupleD, listD, cDict, tgN, tgS, tgT, tgs, wSeq, wEn, R.sl, R.d, Sl.isIns, oneIns, List.getElem?_cons_zero, List.getElem?_cons_succ, List.getElem?_nil, List.set_cons_zero, List.set_cons_succ, List.map_cons, List.map_nil, List.length_cons, List.length_nil, List.nil_append, List.cons_append, List.append_nil, List.replicate, List.all_cons, List.all_nil, Nat.reduceSub, Nat.reduceAdd, Nat.reduceLeDiff, Nat.reduceLT, Nat.reduceEqDiff, if_true, if_false, ite_true, ite_false, Bool.not_true, Bool.not_false, Bool.true_and, Bool.and_true, Bool.false_and, Bool.and_false, Bool.true_or, Bool.or_true, Bool.false_or, Bool.or_false, decide_true, decide_false, Bool.false_eq_true, reduceCtorEq, true_and, and_true, List.mem_cons_self, e, ix]
  rcases o with rfl | rfl
  · exact Dw.ret (by decide) ⟨l1, rfl, h1⟩
  · exact Dw.ret (by decide) ⟨l2, rfl, h2⟩
theorem lB5_ {s1 s2 : Int} {l1 l2 : List Int} (h1 : Lt s1 l1) (h2 : Lt s2 l2) {x0 x1 x2 x5 x6 x7 x8 x9 : Sl} : lB5 a [x0, x1, x2, szS s1 s2, rwS l1 l2, x5, x6, x7, x8, x9] = DL.M.ret (.nx [x0, x1, x2, szS s1 s2, rwS l1 l2, x5, x6, .val (wordD a s1 l1), .val (wordD a s2 l2), x9]) := by
  have w1 := make_word (a := a) (d := .lst (nis l1)) (.inl rfl) h1
  have w2 := make_word (a := a) (d := .lst (nis l2)) (.inl rfl) h2
  have at0 : L2.atI [Dt.int s1, .int s2] 0 = some (.int s1) := rfl
  have at1 : L2.atI [Dt.int s1, .int s2] 1 = some (.int s2) := rfl
  have bt0 : L2.atI [Dt.lst (nis l1), .lst (nis l2)] 0 = some (.lst (nis l1)) := rfl
  have bt1 : L2.atI [Dt.lst (nis l1), .lst (nis l2)] 1 = some (.lst (nis l2)) := rfl
  unfold lB5
  simp only [bnd_ret, bnd_nn, bnd_rse, bnd_ite, bnd_bnd, semOf, gSeq, gNx, gSet, gDrop, gRet, gRetV, gRetN, gIf, gBk, gCt, gFrz, frz, gApp, gExt, gSetI, gAsg, gPar, gPop, gSetPop, gAppPop, gRaise, gFld, cVar, vVar, cC, toV, bin, una, aNil, aCons, cTup, cLst, rNil, rCons, setAll, addD, subD, negD, cmpD, notD, cCall, cMeth, cMeth0, cMake, objR, tV, truD, tNotD, tAndD, tOrD, tBl, andV, orV, cIf, chain, oNone, oSome, cSl, slD, ixD, lenD, tupleD, listD, cDict, tgN, tgS, tgT, tgs, wSeq, wEn, R.sl, R.d, Sl.isIns, oneIns, List.getElem?_cons_zero, List.getElem?_cons_succ, List.getElem?_nil, List.set_cons_zero, List.set_cons_succ, List.map_cons, List.map_nil, List.length_cons, List.length_nil, List.nil_append, List.cons_append, List.append_nil, List.replicate, List.all_cons, List.all_nil, Nat.reduceSub, Nat.reduceAdd, Nat.reduceLeDiff, Nat.reduceLT, Nat.reduceEqDiff, if_true, if_false, ite_true, ite_false, Bool.not_true, Bool.not_false, Bool.true_and, Bool.and_true, Bool.false_and, Bool.and_false, Bool.true_or, Bool.or_true, Bool.false_or, Bool.or_false, decide_true, decide_false, Bool.false_eq_true, reduceCtorEq, true_and, and_true, List.mem_cons_self, at0, at1, bt0, bt1, w1, w2]
noncomputable abbrev eqW (a : Adr) (neg : Bool) : Dt → Dt → DL.M R := orOp (objL a.w_Word) (eqAn (ocs a) a.w_Word neg (S_Word_eq a)) (eqG neg)
theorem eqW_ww (neg : Bool) {s1 s2 : Int} {l1 l2 : List Int} : eqW a neg (wordD a s1 l1) (wordD a s2 l2) = DL.M.ret (.val (.bl (neg ^^ decide (s1 = s2 ∧ l1 = l2)))) := by
  have c : (isObj a.w_Word (wordD a s1 l1) && anyR (ocs a) a.w_Word (wordD a s2 l2)) = true := by simp [isObj, anyR, wordD]
  unfold eqW orOp
  rw [if_pos (by simp [objL, isObj, wordD])]
  unfold eqAn
  rw [if_pos c, word_eq, bnd_ret]
theorem eqW_g (neg : Bool) {d e : Dt} (h : ∀ C ns l, d ≠ .obj C ns l) : eqW a neg d e = eqG neg d e := by
  have c : objL a.w_Word d e = false := by
    unfold objL isObj
    cases d <;> first | rfl | exact absurd rfl (h _ _ _)
  unfold eqW orOp
  rw [c]
  rfl
theorem tst_w {d : Dt} (h : plainD d = true) : tst1 (ocs a) (.own a.w_Word) d = some false := by
  have hC : a.w_Word ∈ ocs a := by simp [ocs]
  cases d <;> first | (cases h; done) | (show (if a.w_Word ∈ ocs a then some false else none) = some false; rw [if_pos hC])
theorem isi_wp {d : Dt} (h : plainD d = true) : isiD (ocs a) [.own a.w_Word] d = DL.M.ret (.val (.bl false)) := by
  have k : tst1 (ocs a) (.own a.w_Word) d = some false := tst_w h
  simp [isiD, tstA, k]
theorem word_eqn {s : Int} {l : List Int} {d : Dt} (h : plainD d = true) : S_Word_eq a [wordD a s l, d] = DL.M.ret (.val (.bl false)) := by
  unfold S_Word_eq
  generalize h1 : wordD a s l = d1 at *
  simp only [bnd_ret, bnd_nn, bnd_rse, bnd_ite, bnd_bnd, semOf, gSeq, gNx, gSet, gDrop, gRet, gRetV, gRetN, gIf, gBk, gCt, gFrz, frz, gApp, gExt, gSetI, gAsg, gPar, gPop, gSetPop, gAppPop, gRaise, gFld, cVar, vVar, cC, toV, bin, una, aNil, aCons, cTup, cLst, rNil, rCons, setAll, addD, subD, negD, cmpD, notD, cCall, cMeth, cMeth0, cMake, objR, tV, truD, tNotD, tAndD, tOrD, tBl, andV, orV, cIf, chain, oNone, oSome, cSl, slD, ixD, lenD, tupleD, listD, cDict, tgN, tgS, tgT, tgs, wSeq, wEn, R.sl, R.d, Sl.isIns, oneIns, List.getElem?_cons_zero, List.getElem?_cons_succ, List.getElem?_nil, List.set_cons_zero, List.set_cons_succ, List.map_cons, List.map_nil, List.length_cons, List.length_nil, List.nil_append, List.cons_append, List.append_nil, List.replicate, List.all_cons, List.all_nil, Nat.reduceSub, Nat.reduceAdd, Nat.reduceLeDiff, Nat.reduceLT, Nat.reduceEqDiff, if_true, if_false, ite_true, ite_false, Bool.not_true, Bool.not_false, Bool.true_and, Bool.and_true, Bool.false_and, Bool.and_false, Bool.true_or, Bool.or_true, Bool.false_or, Bool.or_false, decide_true, decide_false, Bool.false_eq_true, reduceCtorEq, true_and, and_true, List.mem_cons_self, isi_wp h]
theorem eqAL_wp (neg : Bool) {s : Int} {l : List Int} {d : Dt} (h : plainD d = true) : eqAL (ocs a) a.w_Word neg (S_Word_eq a) (wordD a s l) d = DL.M.ret (.val (.bl neg)) := by
  have k := tst_w (a := a) h
  have c : (isObj a.w_Word (wordD a s l) && anyL (ocs a) a.w_Word d) = true := by simp [isObj, anyL, wordD, k]
  unfold eqAL
  rw [if_pos c, word_eqn h, bnd_ret]
  simp
theorem bls_tx (l : List Bool) (h : l.length ≤ 10) : Tx 5 5000 (.lst (l.map .bl)) := by
  refine (Tx.lst (Txs.all (n := 0) (w := 5) fun d hd => ?_)).mono (by omega) (by rw [List.length_map]; omega)
  obtain ⟨b, _, rfl⟩ := List.mem_map.mp hd
  exact Tx.bl b
theorem lB6_ {s1 s2 : Int} {l1 l2 : List Int} (h1 : Lt s1 l1) (hp : tabOk a.P__law_places_right lq__law_places_right T) (ht : tabOk a.P__law_times_right lq__law_times_right T) {x0 x2 x5 x6 x8 x9 : Sl} : Dw T 3 (lB6 a [x0, .val .drw, x2, szS s1 s2, rwS l1 l2, x5, x6, .val (wordD a s1 l1), x8, x9]) (fun f => f = .nx [x0, .val .drw, x2, szS s1 s2, rwS l1 l2, x5, x6, .val (wordD a s1 l1), x8, x9]) := by
  have at0 : L2.atI [Dt.int s1, .int s2] 0 = some (.int s1) := rfl
  have bt0 : L2.atI [Dt.lst (nis l1), .lst (nis l2)] 0 = some (.lst (nis l1)) := rfl
  unfold lB6
  simp only [bnd_ret, bnd_nn, bnd_rse, bnd_ite, bnd_bnd, semOf, gSeq, gNx, gSet, gDrop, gRet, gRetV, gRetN, gIf, gBk, gCt, gFrz, frz, gApp, gExt, gSetI, gAsg, gPar, gPop, gSetPop, gAppPop, gRaise, gFld, cVar, vVar, cC, toV, bin, una, aNil, aCons, cTup, cLst, rNil, rCons, setAll, addD, subD, negD, cmpD, notD, cCall, cMeth, cMeth0, cMake, objR, tV, truD, tNotD, tAndD, tOrD, tBl, andV, orV, cIf, chain, oNone, oSome, cSl, slD, ixD, lenD, tupleD, listD, cDict, tgN, tgS, tgT, tgs, wSeq, wEn, R.sl, R.d, Sl.isIns, oneIns, List.getElem?_cons_zero, List.getElem?_cons_succ, List.getElem?_nil, List.set_cons_zero, List.set_cons_succ, List.map_cons, List.map_nil, List.length_cons, List.length_nil, List.nil_append, List.cons_append, List.append_nil, List.replicate, List.all_cons, List.all_nil, Nat.reduceSub, Nat.reduceAdd, Nat.reduceLeDiff, Nat.reduceLT, Nat.reduceEqDiff, if_true, if_false, ite_true, ite_false, Bool.not_true, Bool.not_false, Bool.true_and, Bool.and_true, Bool.false_and, Bool.and_false, Bool.true_or, Bool.or_true, Bool.false_or, Bool.or_false, decide_true, decide_false, Bool.false_eq_true, reduceCtorEq, true_and, and_true, List.mem_cons_self, at0, bt0]
  refine Dw.bnd (k := 1) (j := 2) (by decide) (by decide) (places_ h1 hp) fun r hr => ?_
  subst hr
  simp only [bnd_ret, bnd_nn, bnd_rse, bnd_ite, bnd_bnd, semOf, gSeq, gNx, gSet, gDrop, gRet, gRetV, gRetN, gIf, gBk, gCt, gFrz, frz, gApp, gExt, gSetI, gAsg, gPar, gPop, gSetPop, gAppPop, gRaise, gFld, cVar, vVar, cC, toV, bin, una, aNil, aCons, cTup, cLst, rNil, rCons, setAll, addD, subD, negD, cmpD, notD, cCall, cMeth, cMeth0, cMake, objR, tV, truD, tNotD, tAndD, tOrD, tBl, andV, orV, cIf, chain, oNone, oSome, cSl, slD, ixD, lenD, tupleD, listD, cDict, tgN, tgS, tgT, tgs, wSeq, wEn, R.sl, R.d, Sl.isIns, oneIns, List.getElem?_cons_zero, List.getElem?_cons_succ, List.getElem?_nil, List.set_cons_zero, List.set_cons_succ, List.map_cons, List.map_nil, List.length_cons, List.length_nil, List.nil_append, List.cons_append, List.append_nil, List.replicate, List.all_cons, List.all_nil, Nat.reduceSub, Nat.reduceAdd, Nat.reduceLeDiff, Nat.reduceLT, Nat.reduceEqDiff, if_true, if_false, ite_true, ite_false, Bool.not_true, Bool.not_false, Bool.true_and, Bool.and_true, Bool.false_and, Bool.and_false, Bool.true_or, Bool.or_true, Bool.false_or, Bool.or_false, decide_true, decide_false, Bool.false_eq_true, reduceCtorEq, true_and, and_true, List.mem_cons_self]
  refine Dw.bnd (k := 2) (j := 0) (by decide) (by decide) (times_ h1 ht) fun r hr => ?_
  subst hr
  simp only [bnd_ret, bnd_nn, bnd_rse, bnd_ite, bnd_bnd, semOf, gSeq, gNx, gSet, gDrop, gRet, gRetV, gRetN, gIf, gBk, gCt, gFrz, frz, gApp, gExt, gSetI, gAsg, gPar, gPop, gSetPop, gAppPop, gRaise, gFld, cVar, vVar, cC, toV, bin, una, aNil, aCons, cTup, cLst, rNil, rCons, setAll, addD, subD, negD, cmpD, notD, cCall, cMeth, cMeth0, cMake, objR, tV, truD, tNotD, tAndD, tOrD, tBl, andV, orV, cIf, chain, oNone, oSome, cSl, slD, ixD, lenD, tupleD, listD, cDict, tgN, tgS, tgT, tgs, wSeq, wEn, R.sl, R.d, Sl.isIns, oneIns, List.getElem?_cons_zero, List.getElem?_cons_succ, List.getElem?_nil, List.set_cons_zero, List.set_cons_succ, List.map_cons, List.map_nil, List.length_cons, List.length_nil, List.nil_append, List.cons_append, List.append_nil, List.replicate, List.all_cons, List.all_nil, Nat.reduceSub, Nat.reduceAdd, Nat.reduceLeDiff, Nat.reduceLT, Nat.reduceEqDiff, if_true, if_false, ite_true, ite_false, Bool.not_true, Bool.not_false, Bool.true_and, Bool.and_true, Bool.false_and, Bool.and_false, Bool.true_or, Bool.or_true, Bool.false_or, Bool.or_false, decide_true, decide_false, Bool.false_eq_true, reduceCtorEq, true_and, and_true, List.mem_cons_self]
  exact Dw.ret (by decide) rfl
theorem lB7_ {s1 s2 : Int} {l1 l2 : List Int} (h1 : Lt s1 l1) (h2 : Lt s2 l2) (hb : tabOk a.P__law_both_right lq__law_both_right T) {x0 x1 x2 x5 x6 x9 : Sl} : Dw T 0 (lB7 a [x0, x1, x2, szS s1 s2, rwS l1 l2, x5, x6, .val (wordD a s1 l1), .val (wordD a s2 l2), x9]) (fun f => f = .nx [x0, x1, x2, .val (.lst [.int s1, .int s2]), .val (.lst [.lst (nis l1), .lst (nis l2)]), x5, x6, .val (wordD a s1 l1), .val (wordD a s2 l2), x9]) := by
  unfold lB7
  simp only [bnd_ret, bnd_nn, bnd_rse, bnd_ite, bnd_bnd, semOf, gSeq, gNx, gSet, gDrop, gRet, gRetV, gRetN, gIf, gBk, gCt, gFrz, frz, gApp, gExt, gSetI, gAsg, gPar, gPop, gSetPop, gAppPop, gRaise, gFld, cVar, vVar, cC, toV, bin, una, aNil, aCons, cTup, cLst, rNil, rCons, setAll, addD, subD, negD, cmpD, notD, cCall, cMeth, cMeth0, cMake, objR, tV, truD, tNotD, tAndD, tOrD, tBl, andV, orV, cIf, chain, oNone, oSome, cSl, slD, ixD, lenD, tupleD, listD, cDict, tgN, tgS, tgT, tgs, wSeq, wEn, R.sl, R.d, Sl.isIns, oneIns, List.getElem?_cons_zero, List.getElem?_cons_succ, List.getElem?_nil, List.set_cons_zero, List.set_cons_succ, List.map_cons, List.map_nil, List.length_cons, List.length_nil, List.nil_append, List.cons_append, List.append_nil, List.replicate, List.all_cons, List.all_nil, Nat.reduceSub, Nat.reduceAdd, Nat.reduceLeDiff, Nat.reduceLT, Nat.reduceEqDiff, if_true, if_false, ite_true, ite_false, Bool.not_true, Bool.not_false, Bool.true_and, Bool.and_true, Bool.false_and, Bool.and_false, Bool.true_or, Bool.or_true, Bool.false_or, Bool.or_false, decide_true, decide_false, Bool.false_eq_true, reduceCtorEq, true_and, and_true, List.mem_cons_self]
  refine (Dw.bnd (k := 0) (j := 0) (by decide) (by decide) (both_ h1 h2 hb) fun r hr => ?_).le (by decide)
  subst hr
  simp only [bnd_ret, bnd_nn, bnd_rse, bnd_ite, bnd_bnd, semOf, gSeq, gNx, gSet, gDrop, gRet, gRetV, gRetN, gIf, gBk, gCt, gFrz, frz, gApp, gExt, gSetI, gAsg, gPar, gPop, gSetPop, gAppPop, gRaise, gFld, cVar, vVar, cC, toV, bin, una, aNil, aCons, cTup, cLst, rNil, rCons, setAll, addD, subD, negD, cmpD, notD, cCall, cMeth, cMeth0, cMake, objR, tV, truD, tNotD, tAndD, tOrD, tBl, andV, orV, cIf, chain, oNone, oSome, cSl, slD, ixD, lenD, tupleD, listD, cDict, tgN, tgS, tgT, tgs, wSeq, wEn, R.sl, R.d, Sl.isIns, oneIns, List.getElem?_cons_zero, List.getElem?_cons_succ, List.getElem?_nil, List.set_cons_zero, List.set_cons_succ, List.map_cons, List.map_nil, List.length_cons, List.length_nil, List.nil_append, List.cons_append, List.append_nil, List.replicate, List.all_cons, List.all_nil, Nat.reduceSub, Nat.reduceAdd, Nat.reduceLeDiff, Nat.reduceLT, Nat.reduceEqDiff, if_true, if_false, ite_true, ite_false, Bool.not_true, Bool.not_false, Bool.true_and, Bool.and_true, Bool.false_and, Bool.and_false, Bool.true_or, Bool.or_true, Bool.false_or, Bool.or_false, decide_true, decide_false, Bool.false_eq_true, reduceCtorEq, true_and, and_true, List.mem_cons_self]
  exact Dw.ret (by decide) rfl
theorem lB8_ {s1 s2 : Int} {l1 l2 : List Int} {x0 x1 x2 x5 x6 x7 x8 x9 : Sl} : lB8 a [x0, x1, x2, .val (.lst [.int s1, .int s2]), .val (.lst [.lst (nis l1), .lst (nis l2)]), x5, x6, x7, x8, x9] = DL.M.ret (.nx [x0, x1, x2, .val (.lst [.int s1, .int s2]), .val (.lst [.lst (nis l1), .lst (nis l2)]), .val (.bl (decide (s1 = s2 ∧ l1 = l2))), x6, x7, x8, x9]) := by
  have at0 : L2.atI [Dt.int s1, .int s2] 0 = some (.int s1) := rfl
  have at1 : L2.atI [Dt.int s1, .int s2] 1 = some (.int s2) := rfl
  have bt0 : L2.atI [Dt.lst (nis l1), .lst (nis l2)] 0 = some (.lst (nis l1)) := rfl
  have bt1 : L2.atI [Dt.lst (nis l1), .lst (nis l2)] 1 = some (.lst (nis l2)) := rfl
  have q1 : eqW a false (.int s1) (.int s2) = DL.M.ret (.val (.bl (decide (s1 = s2)))) := (eqW_g false fun _ _ _ h => by cases h).trans ((eq_ii false s1 s2).trans (by simp))
  have q2 : eqW a false (.lst (nis l1)) (.lst (nis l2)) = DL.M.ret (.val (.bl (decide (l1 = l2)))) := (eqW_g false fun _ _ _ h => by cases h).trans ((eq_ll false l1 l2).trans (by simp))
  have q1 : orOp (objL a.w_Word) (eqAn (ocs a) a.w_Word false (S_Word_eq a)) (eqG false) (.int s1) (.int s2) = DL.M.ret (.val (.bl (decide (s1 = s2)))) := q1
  have q2 : orOp (objL a.w_Word) (eqAn (ocs a) a.w_Word false (S_Word_eq a)) (eqG false) (.lst (nis l1)) (.lst (nis l2)) = DL.M.ret (.val (.bl (decide (l1 = l2)))) := q2
  unfold lB8
  by_cases h : s1 = s2
  · simp only [bnd_ret, bnd_nn, bnd_rse, bnd_ite, bnd_bnd, semOf, gSeq, gNx, gSet, gDrop, gRet, gRetV, gRetN, gIf, gBk, gCt, gFrz, frz, gApp, gExt, gSetI, gAsg, gPar, gPop, gSetPop, gAppPop, gRaise, gFld, cVar, vVar, cC, toV, bin, una, aNil, aCons, cTup, cLst, rNil, rCons, setAll, addD, subD, negD, cmpD, notD, cCall, cMeth, cMeth0, cMake, objR, tV, truD, tNotD, tAndD, tOrD, tBl, andV, orV, cIf, chain, oNone, oSome, cSl, slD, ixD, lenD, tupleD, listD, cDict, tgN, tgS, tgT, tgs, wSeq, wEn, R.sl, R.d, Sl.isIns, oneIns, List.getElem?_cons_zero, List.getElem?_cons_succ, List.getElem?_nil, List.set_cons_zero, List.set_cons_succ, List.map_cons, List.map_nil, List.length_cons, List.length_nil, List.nil_append, List.cons_append, List.append_nil, List.replicate, List.all_cons, List.all_nil, Nat.reduceSub, Nat.reduceAdd, Nat.reduceLeDiff, Nat.reduceLT, Nat.reduceEqDiff, if_true, if_false, ite_true, ite_false, Bool.not_true, Bool.not_false, Bool.true_and, Bool.and_true, Bool.false_and, Bool.and_false, Bool.true_or, Bool.or_true, Bool.false_or, Bool.or_false, decide_true, decide_false, Bool.false_eq_true, reduceCtorEq, true_and, and_true, List.mem_cons_self, at0, at1, bt0, bt1, q1, decide_eq_true h, q2]
    rw [show decide (s1 = s2 ∧ l1 = l2) = decide (l1 = l2) by simp [h]]
  · simp only [bnd_ret, bnd_nn, bnd_rse, bnd_ite, bnd_bnd, semOf, gSeq, gNx, gSet, gDrop, gRet, gRetV, gRetN, gIf, gBk, gCt, gFrz, frz, gApp, gExt, gSetI, gAsg, gPar, gPop, gSetPop, gAppPop, gRaise, gFld, cVar, vVar, cC, toV, bin, una, aNil, aCons, cTup, cLst, rNil, rCons, setAll, addD, subD, negD, cmpD, notD, cCall, cMeth, cMeth0, cMake, objR, tV, truD, tNotD, tAndD, tOrD, tBl, andV, orV, cIf, chain, oNone, oSome, cSl, slD, ixD, lenD, tupleD, listD, cDict, tgN, tgS, tgT, tgs, wSeq, wEn, R.sl, R.d, Sl.isIns, oneIns, List.getElem?_cons_zero, List.getElem?_cons_succ, List.getElem?_nil, List.set_cons_zero, List.set_cons_succ, List.map_cons, List.map_nil, List.length_cons, List.length_nil, List.nil_append, List.cons_append, List.append_nil, List.replicate, List.all_cons, List.all_nil, Nat.reduceSub, Nat.reduceAdd, Nat.reduceLeDiff, Nat.reduceLT, Nat.reduceEqDiff, if_true, if_false, ite_true, ite_false, Bool.not_true, Bool.not_false, Bool.true_and, Bool.and_true, Bool.false_and, Bool.and_false, Bool.true_or, Bool.or_true, Bool.false_or, Bool.or_false, decide_true, decide_false, Bool.false_eq_true, reduceCtorEq, true_and, and_true, List.mem_cons_self, at0, at1, bt0, bt1, q1, decide_eq_false h]
    rw [show decide (s1 = s2 ∧ l1 = l2) = false by simp [h]]
theorem lB9_ {s1 s2 : Int} {l1 l2 : List Int} {x0 x1 x2 x3 x4 x6 x9 : Sl} : lB9 a [x0, x1, x2, x3, x4, .val (.bl (decide (s1 = s2 ∧ l1 = l2))), x6, .val (wordD a s1 l1), .val (wordD a s2 l2), x9] = DL.M.ret (.nx [x0, x1, x2, x3, x4, .val (.bl (decide (s1 = s2 ∧ l1 = l2))), x6, .val (wordD a s1 l1), .val (wordD a s2 l2), x9]) := by
  have q1 := eqW_ww (a := a) false (s1 := s1) (s2 := s2) (l1 := l1) (l2 := l2)
  have q2 := eqW_ww (a := a) true (s1 := s1) (s2 := s2) (l1 := l1) (l2 := l2)
  unfold eqW at q1 q2
  generalize decide (s1 = s2 ∧ l1 = l2) = b at q1 q2 ⊢
  rw [Bool.false_xor] at q1
  rw [Bool.true_xor] at q2
  have k := like_same (a := a) (bls_tx [b, !b] (by simp)) (by decide) (by decide)
  rw [show ([b, !b].map Dt.bl) = [.bl b, .bl !b] from rfl] at k
  unfold lB9
  generalize wordD a s1 l1 = w1 at *
  generalize wordD a s2 l2 = w2 at *
  simp only [bnd_ret, bnd_nn, bnd_rse, bnd_ite, bnd_bnd, semOf, gSeq, gNx, gSet, gDrop, gRet, gRetV, gRetN, gIf, gBk, gCt, gFrz, frz, gApp, gExt, gSetI, gAsg, gPar, gPop, gSetPop, gAppPop, gRaise, gFld, cVar, vVar, cC, toV, bin, una, aNil, aCons, cTup, cLst, rNil, rCons, setAll, addD, subD, negD, cmpD, notD, cCall, cMeth, cMeth0, cMake, objR, tV, truD, tNotD, tAndD, tOrD, tBl, andV, orV, cIf, chain, oNone, oSome, cSl, slD, ixD, lenD, tupleD, listD, cDict, tgN, tgS, tgT, tgs, wSeq, wEn, R.sl, R.d, Sl.isIns, oneIns, List.getElem?_cons_zero, List.getElem?_cons_succ, List.getElem?_nil, List.set_cons_zero, List.set_cons_succ, List.map_cons, List.map_nil, List.length_cons, List.length_nil, List.nil_append, List.cons_append, List.append_nil, List.replicate, List.all_cons, List.all_nil, Nat.reduceSub, Nat.reduceAdd, Nat.reduceLeDiff, Nat.reduceLT, Nat.reduceEqDiff, if_true, if_false, ite_true, ite_false, Bool.not_true, Bool.not_false, Bool.true_and, Bool.and_true, Bool.false_and, Bool.and_false, Bool.true_or, Bool.or_true, Bool.false_or, Bool.or_false, decide_true, decide_false, Bool.false_eq_true, reduceCtorEq, true_and, and_true, List.mem_cons_self, q1, q2, k]
theorem st_at {s : Int} {l : List Int} {z : Int} (z0 : 0 ≤ z) (z1 : z < 6) : ∃ d, L2.atI [Dt.non, .lst (nis l), .tup (nis l), .int s, .str "", .tup [.int s, .tup (nis l)]] z = some d ∧ plainD d = true := by
  have h : z = 0 ∨ z = 1 ∨ z = 2 ∨ z = 3 ∨ z = 4 ∨ z = 5 := by omega
  rcases h with rfl | rfl | rfl | rfl | rfl | rfl <;> exact ⟨_, rfl, rfl⟩
theorem lB10_ {s1 s2 : Int} {l1 l2 : List Int} {x0 x2 x5 x6 x7 x8 x9 : Sl} : Dw T 1 (lB10 a [x0, .val .drw, x2, .val (.lst [.int s1, .int s2]), .val (.lst [.lst (nis l1), .lst (nis l2)]), x5, x6, x7, x8, x9]) (fun f => ∃ d, f = .nx [x0, .val .drw, x2, .val (.lst [.int s1, .int s2]), .val (.lst [.lst (nis l1), .lst (nis l2)]), x5, .val d, x7, x8, x9] ∧ plainD d = true) := by
  have at0 : L2.atI [Dt.int s1, .int s2] 0 = some (.int s1) := rfl
  have bt0 : L2.atI [Dt.lst (nis l1), .lst (nis l2)] 0 = some (.lst (nis l1)) := rfl
  unfold lB10
  simp only [bnd_ret, bnd_nn, bnd_rse, bnd_ite, bnd_bnd, semOf, gSeq, gNx, gSet, gDrop, gRet, gRetV, gRetN, gIf, gBk, gCt, gFrz, frz, gApp, gExt, gSetI, gAsg, gPar, gPop, gSetPop, gAppPop, gRaise, gFld, cVar, vVar, cC, toV, bin, una, aNil, aCons, cTup, cLst, rNil, rCons, setAll, addD, subD, negD, cmpD, notD, cCall, cMeth, cMeth0, cMake, objR, tV, truD, tNotD, tAndD, tOrD, tBl, andV, orV, cIf, chain, oNone, oSome, cSl, slD, ixD, lenD, tupleD, listD, cDict, tgN, tgS, tgT, tgs, wSeq, wEn, R.sl, R.d, Sl.isIns, oneIns, List.getElem?_cons_zero, List.getElem?_cons_succ, List.getElem?_nil, List.set_cons_zero, List.set_cons_succ, List.map_cons, List.map_nil, List.length_cons, List.length_nil, List.nil_append, List.cons_append, List.append_nil, List.replicate, List.all_cons, List.all_nil, Nat.reduceSub, Nat.reduceAdd, Nat.reduceLeDiff, Nat.reduceLT, Nat.reduceEqDiff, if_true, if_false, ite_true, ite_false, Bool.not_true, Bool.not_false, Bool.true_and, Bool.and_true, Bool.false_and, Bool.and_false, Bool.true_or, Bool.or_true, Bool.false_or, Bool.or_false, decide_true, decide_false, Bool.false_eq_true, reduceCtorEq, true_and, and_true, List.mem_cons_self, at0, bt0]
  refine Dw.bnd (k := 1) (j := 0) (by decide) (by decide) (draw_ (lim := 6) (by decide) (by decide)) fun r hr => ?_
  obtain ⟨z, rfl, z0, z1⟩ := hr
  obtain ⟨d, e, o⟩ := st_at (s := s1) (l := l1) z0 z1
  simp only [bnd_ret, bnd_nn, bnd_rse, bnd_ite, bnd_bnd, semOf, gSeq, gNx, gSet, gDrop, gRet, gRetV, gRetN, gIf, gBk, gCt, gFrz, frz, gApp, gExt, gSetI, gAsg, gPar, gPop, gSetPop, gAppPop, gRaise, gFld, cVar, vVar, cC, toV, bin, una, aNil, aCons, cTup, cLst, rNil, rCons, setAll, addD, subD, negD, cmpD, notD, cCall, cMeth, cMeth0, cMake, objR, tV, truD, tNotD, tAndD, tOrD, tBl, andV, orV, cIf, chain, oNone, oSome, cSl, slD, ixD, lenD, tupleD, listD, cDict, tgN, tgS, tgT, tgs, wSeq, wEn, R.sl, R.d, Sl.isIns, oneIns, List.getElem?_cons_zero, List.getElem?_cons_succ, List.getElem?_nil, List.set_cons_zero, List.set_cons_succ, List.map_cons, List.map_nil, List.length_cons, List.length_nil, List.nil_append, List.cons_append, List.append_nil, List.replicate, List.all_cons, List.all_nil, Nat.reduceSub, Nat.reduceAdd, Nat.reduceLeDiff, Nat.reduceLT, Nat.reduceEqDiff, if_true, if_false, ite_true, ite_false, Bool.not_true, Bool.not_false, Bool.true_and, Bool.and_true, Bool.false_and, Bool.and_false, Bool.true_or, Bool.or_true, Bool.false_or, Bool.or_false, decide_true, decide_false, Bool.false_eq_true, reduceCtorEq, true_and, and_true, List.mem_cons_self, e]
  exact Dw.ret (by decide) ⟨d, rfl, o⟩
theorem lB11_ {s1 s2 : Int} {l1 l2 : List Int} {d : Dt} (h1 : Lt s1 l1) (hd : plainD d = true) {x0 x1 x2 x5 x8 x9 : Sl} : lB11 a [x0, x1, x2, .val (.lst [.int s1, .int s2]), .val (.lst [.lst (nis l1), .lst (nis l2)]), x5, .val d, .val (wordD a s1 l1), x8, x9] = DL.M.ret (.nx [x0, x1, x2, .val (.lst [.int s1, .int s2]), .val (.lst [.lst (nis l1), .lst (nis l2)]), x5, .val d, .val (wordD a s1 l1), x8, x9]) := by
  have at0 : L2.atI [Dt.int s1, .int s2] 0 = some (.int s1) := rfl
  have bt0 : L2.atI [Dt.lst (nis l1), .lst (nis l2)] 0 = some (.lst (nis l1)) := rfl
  have w1 := make_word (a := a) (d := .lst (nis l1)) (.inl rfl) h1
  have q1 := eqAL_wp (a := a) false (s := s1) (l := l1) hd
  have q2 := eqAL_wp (a := a) true (s := s1) (l := l1) hd
  have q3 := eqW_ww (a := a) false (s1 := s1) (s2 := s1) (l1 := l1) (l2 := l1)
  unfold eqW at q3
  rw [show decide (s1 = s1 ∧ l1 = l1) = true by simp] at q3
  have k := like_same (a := a) (bls_tx [false, true, true] (by decide)) (by decide) (by decide)
  rw [show ([false, true, true].map Dt.bl) = [.bl false, .bl true, .bl true] from rfl] at k
  have o1 : ∀ g, orE (binF (vVar 7) (cVar 6) (eqAL (ocs a) a.w_Word false (S_Word_eq a))) g [x0, x1, x2, .val (.lst [.int s1, .int s2]), .val (.lst [.lst (nis l1), .lst (nis l2)]), x5, .val d, .val (wordD a s1 l1), x8, x9] = DL.M.ret (.val (.bl false)) := fun g => orE_ret (by unfold binF; simp only [bnd_ret, bnd_nn, bnd_rse, bnd_ite, bnd_bnd, semOf, gSeq, gNx, gSet, gDrop, gRet, gRetV, gRetN, gIf, gBk, gCt, gFrz, frz, gApp, gExt, gSetI, gAsg, gPar, gPop, gSetPop, gAppPop, gRaise, gFld, cVar, vVar, cC, toV, bin, una, aNil, aCons, cTup, cLst, rNil, rCons, setAll, addD, subD, negD, cmpD, notD, cCall, cMeth, cMeth0, cMake, objR, tV, truD, tNotD, tAndD, tOrD, tBl, andV, orV, cIf, chain, oNone, oSome, cSl, slD, ixD, lenD, tupleD, listD, cDict, tgN, tgS, tgT, tgs, wSeq, wEn, R.sl, R.d, Sl.isIns, oneIns, List.getElem?_cons_zero, List.getElem?_cons_succ, List.getElem?_nil, List.set_cons_zero, List.set_cons_succ, List.map_cons, List.map_nil, List.length_cons, List.length_nil, List.nil_append, List.cons_append, List.append_nil, List.replicate, List.all_cons, List.all_nil, Nat.reduceSub, Nat.reduceAdd, Nat.reduceLeDiff, Nat.reduceLT, Nat.reduceEqDiff, if_true, if_false, ite_true, ite_false, Bool.not_true, Bool.not_false, Bool.true_and, Bool.and_true, Bool.false_and, Bool.and_false, Bool.true_or, Bool.or_true, Bool.false_or, Bool.or_false, decide_true, decide_false, Bool.false_eq_true, reduceCtorEq, true_and, and_true, List.mem_cons_self, q1])
  have o2 : ∀ g, orE (binF (vVar 7) (cVar 6) (eqAL (ocs a) a.w_Word true (S_Word_eq a))) g [x0, x1, x2, .val (.lst [.int s1, .int s2]), .val (.lst [.lst (nis l1), .lst (nis l2)]), x5, .val d, .val (wordD a s1 l1), x8, x9] = DL.M.ret (.val (.bl true)) := fun g => orE_ret (by unfold binF; simp only [bnd_ret, bnd_nn, bnd_rse, bnd_ite, bnd_bnd, semOf, gSeq, gNx, gSet, gDrop, gRet, gRetV, gRetN, gIf, gBk, gCt, gFrz, frz, gApp, gExt, gSetI, gAsg, gPar, gPop, gSetPop, gAppPop, gRaise, gFld, cVar, vVar, cC, toV, bin, una, aNil, aCons, cTup, cLst, rNil, rCons, setAll, addD, subD, negD, cmpD, notD, cCall, cMeth, cMeth0, cMake, objR, tV, truD, tNotD, tAndD, tOrD, tBl, andV, orV, cIf, chain, oNone, oSome, cSl, slD, ixD, lenD, tupleD, listD, cDict, tgN, tgS, tgT, tgs, wSeq, wEn, R.sl, R.d, Sl.isIns, oneIns, List.getElem?_cons_zero, List.getElem?_cons_succ, List.getElem?_nil, List.set_cons_zero, List.set_cons_succ, List.map_cons, List.map_nil, List.length_cons, List.length_nil, List.nil_append, List.cons_append, List.append_nil, List.replicate, List.all_cons, List.all_nil, Nat.reduceSub, Nat.reduceAdd, Nat.reduceLeDiff, Nat.reduceLT, Nat.reduceEqDiff, if_true, if_false, ite_true, ite_false, Bool.not_true, Bool.not_false, Bool.true_and, Bool.and_true, Bool.false_and, Bool.and_false, Bool.true_or, Bool.or_true, Bool.false_or, Bool.or_false, decide_true, decide_false, Bool.false_eq_true, reduceCtorEq, true_and, and_true, List.mem_cons_self, q2])
  unfold lB11
  generalize hA : orE (binF (vVar 7) (cVar 6) (eqAL (ocs a) a.w_Word false (S_Word_eq a))) _ = A
  generalize hB : orE (binF (vVar 7) (cVar 6) (eqAL (ocs a) a.w_Word true (S_Word_eq a))) _ = B
  have o1 := o1 (bin (vVar 7) (vVar 6) (orOp (objL a.w_Word) (eqAn (ocs a) a.w_Word false (S_Word_eq a)) (eqG false)))
  have o2 := o2 (bin (vVar 7) (vVar 6) (orOp (objL a.w_Word) (eqAn (ocs a) a.w_Word true (S_Word_eq a)) (eqG true)))
  rw [hA] at o1
  rw [hB] at o2
  simp only [bnd_ret, bnd_nn, bnd_rse, bnd_ite, bnd_bnd, semOf, gSeq, gNx, gSet, gDrop, gRet, gRetV, gRetN, gIf, gBk, gCt, gFrz, frz, gApp, gExt, gSetI, gAsg, gPar, gPop, gSetPop, gAppPop, gRaise, gFld, cVar, vVar, cC, toV, bin, una, aNil, aCons, cTup, cLst, rNil, rCons, setAll, addD, subD, negD, cmpD, notD, cCall, cMeth, cMeth0, cMake, objR, tV, truD, tNotD, tAndD, tOrD, tBl, andV, orV, cIf, chain, oNone, oSome, cSl, slD, ixD, lenD, tupleD, listD, cDict, tgN, tgS, tgT, tgs, wSeq, wEn, R.sl, R.d, Sl.isIns, oneIns, List.getElem?_cons_zero, List.getElem?_cons_succ, List.getElem?_nil, List.set_cons_zero, List.set_cons_succ, List.map_cons, List.map_nil, List.length_cons, List.length_nil, List.nil_append, List.cons_append, List.append_nil, List.replicate, List.all_cons, List.all_nil, Nat.reduceSub, Nat.reduceAdd, Nat.reduceLeDiff, Nat.reduceLT, Nat.reduceEqDiff, if_true, if_false, ite_true, ite_false, Bool.not_true, Bool.not_false, Bool.true_and, Bool.and_true, Bool.false_and, Bool.and_false, Bool.true_or, Bool.or_true, Bool.false_or, Bool.or_false, decide_true, decide_false, Bool.false_eq_true, reduceCtorEq, true_and, and_true, List.mem_cons_self, o1, o2, at0, bt0, w1, q3, Bool.false_xor, k]
theorem lB12_ {s1 s2 : Int} {l1 l2 : List Int} (h1 : Lt s1 l1) (h2 : Lt s2 l2) {x0 x1 x2 x5 x6 x9 : Sl} : lB12 a [x0, x1, x2, .val (.lst [.int s1, .int s2]), .val (.lst [.lst (nis l1), .lst (nis l2)]), x5, x6, .val (wordD a s1 l1), .val (wordD a s2 l2), x9] = DL.M.ret (.nx [x0, x1, x2, .val (.lst [.int s1, .int s2]), .val (.lst [.lst (nis l1), .lst (nis l2)]), x5, x6, .val (wordD a s1 l1), .val (wordD a s2 l2), x9]) := by
  have at0 : L2.atI [Dt.int s1, .int s2] 0 = some (.int s1) := rfl
  have at1 : L2.atI [Dt.int s1, .int s2] 1 = some (.int s2) := rfl
  have bt0 : L2.atI [Dt.lst (nis l1), .lst (nis l2)] 0 = some (.lst (nis l1)) := rfl
  have bt1 : L2.atI [Dt.lst (nis l1), .lst (nis l2)] 1 = some (.lst (nis l2)) := rfl
  unfold lB12
  simp only [bnd_ret, bnd_nn, bnd_rse, bnd_ite, bnd_bnd, semOf, gSeq, gNx, gSet, gDrop, gRet, gRetV, gRetN, gIf, gBk, gCt, gFrz, frz, gApp, gExt, gSetI, gAsg, gPar, gPop, gSetPop, gAppPop, gRaise, gFld, cVar, vVar, cC, toV, bin, una, aNil, aCons, cTup, cLst, rNil, rCons, setAll, addD, subD, negD, cmpD, notD, cCall, cMeth, cMeth0, cMake, objR, tV, truD, tNotD, tAndD, tOrD, tBl, andV, orV, cIf, chain, oNone, oSome, cSl, slD, ixD, lenD, tupleD, listD, cDict, tgN, tgS, tgT, tgs, wSeq, wEn, R.sl, R.d, Sl.isIns, oneIns, List.getElem?_cons_zero, List.getElem?_cons_succ, List.getElem?_nil, List.set_cons_zero, List.set_cons_succ, List.map_cons, List.map_nil, List.length_cons, List.length_nil, List.nil_append, List.cons_append, List.append_nil, List.replicate, List.all_cons, List.all_nil, Nat.reduceSub, Nat.reduceAdd, Nat.reduceLeDiff, Nat.reduceLT, Nat.reduceEqDiff, if_true, if_false, ite_true, ite_false, Bool.not_true, Bool.not_false, Bool.true_and, Bool.and_true, Bool.false_and, Bool.and_false, Bool.true_or, Bool.or_true, Bool.false_or, Bool.or_false, decide_true, decide_false, Bool.false_eq_true, reduceCtorEq, true_and, and_true, List.mem_cons_self, at0, at1, bt0, bt1, is_word (a := a) h1, is_word (a := a) h2]
theorem pow60 : powD (.int 10) (.int 60) = DL.M.ret (.val (.int (10 ^ 60))) := by
  show (if 0 ≤ (60 : Int) ∧ (60 : Int) ≤ 1000000 ∧ (10 : Int).natAbs < 2 ^ 64 then DL.M.ret (.val (.int ((10 : Int) ^ (60 : Int).toNat))) else DL.M.no : DL.M R) = _
  rw [if_pos (by decide)]
  rfl
theorem lBE1_ {δ : List Sl} : lBE1 a δ = DL.M.ret (.ret (.val (.bl true))) := by
  have mk : ∀ {s : Int} {l : List Int} {d : Dt}, (d = .lst (nis l) ∨ d = .tup (nis l)) → Lt s l → DL.M.bnd (S_Word_init a [.int s, d]) objR = DL.M.ret (.val (wordD a s l)) := fun hd L => by
    rw [make_word hd L]
    rfl
  have L12 : Lt 3 [1, 2] := ⟨by decide, by decide, by decide, by decide⟩
  have L3 : Lt 3 [3] := ⟨by decide, by decide, by decide, by decide⟩
  have L123 : Lt 3 [1, 2, 3] := ⟨by decide, by decide, by decide, by decide⟩
  have L0 : Lt 2 [] := ⟨by decide, by decide, by decide, by decide⟩
  have a1 := mk (d := .lst [.int 1, .int 2]) (.inl rfl) L12
  have a2 := mk (d := .lst [.int 3]) (.inl rfl) L3
  have a3 := mk (d := .lst [.int 1, .int 2, .int 3]) (.inl rfl) L123
  have a4 := mk (d := .tup []) (.inr rfl) L0
  have a5 := mk (d := .lst []) (.inl rfl) L0
  have b1 : twoOw a.w_Word (S_Word_add a) (wordD a 3 [1, 2]) (wordD a 3 [3]) = DL.M.ret (.val (wordD a 3 [1, 2, 3])) := by
    unfold twoOw
    rw [if_pos (by unfold both; rw [obj_w, obj_w]; rfl)]
    exact add_ok L12 L3 (by decide)
  have q1 : orOp (objL a.w_Word) (eqAn (ocs a) a.w_Word false (S_Word_eq a)) (eqG false) (wordD a 3 [1, 2, 3]) (wordD a 3 [1, 2, 3]) = DL.M.ret (.val (.bl true)) := (eqW_ww false).trans (by simp)
  obtain ⟨n, _, _, e⟩ := mul_ok (a := a) (s := 2) (t := 10 ^ 60) (l := []) L0 (by decide) (by simp)
  have r0 : repL n [] = [] := by
    have := repL_len n []
    exact List.eq_nil_of_length_eq_zero (by rw [this]; simp)
  rw [r0] at e
  have b2 : mulOw a.w_Word (S_Word_mul a) (wordD a 2 []) (.int (10 ^ 60)) = DL.M.ret (.val (wordD a 2 [])) := by
    unfold mulOw
    rw [if_pos (by rw [obj_w]; rfl)]
    exact e
  have q2 : orOp (objL a.w_Word) (eqAn (ocs a) a.w_Word false (S_Word_eq a)) (eqG false) (wordD a 2 []) (wordD a 2 []) = DL.M.ret (.val (.bl true)) := (eqW_ww false).trans (by simp)
  unfold lBE1 binF
  generalize wordD a 3 [1, 2] = u1 at *
  generalize wordD a 3 [3] = u2 at *
  generalize wordD a 3 [1, 2, 3] = u3 at *
  generalize wordD a 2 [] = u4 at *
  generalize S_Word_init a = I at *
  have p := pow60
  generalize (10 : Int) ^ 60 = big at *
  simp only [bnd_ret, bnd_nn, bnd_rse, bnd_ite, bnd_bnd, semOf, gSeq, gNx, gSet, gDrop, gRet, gRetV, gRetN, gIf, gBk, gCt, gFrz, frz, gApp, gExt, gSetI, gAsg, gPar, gPop, gSetPop, gAppPop, gRaise, gFld, cVar, vVar, cC, toV, bin, una, aNil, aCons, cTup, cLst, rNil, rCons, setAll, addD, subD, negD, cmpD, notD, cCall, cMeth, cMeth0, cMake, objR, tV, truD, tNotD, tAndD, tOrD, tBl, andV, orV, cIf, chain, oNone, oSome, cSl, slD, ixD, lenD, tupleD, listD, cDict, tgN, tgS, tgT, tgs, wSeq, wEn, R.sl, R.d, Sl.isIns, oneIns, List.getElem?_cons_zero, List.getElem?_cons_succ, List.getElem?_nil, List.set_cons_zero, List.set_cons_succ, List.map_cons, List.map_nil, List.length_cons, List.length_nil, List.nil_append, List.cons_append, List.append_nil, List.replicate, List.all_cons, List.all_nil, Nat.reduceSub, Nat.reduceAdd, Nat.reduceLeDiff, Nat.reduceLT, Nat.reduceEqDiff, if_true, if_false, ite_true, ite_false, Bool.not_true, Bool.not_false, Bool.true_and, Bool.and_true, Bool.false_and, Bool.and_false, Bool.true_or, Bool.or_true, Bool.false_or, Bool.or_false, decide_true, decide_false, Bool.false_eq_true, reduceCtorEq, true_and, and_true, List.mem_cons_self, a1, a2, a3, a4, a5, b1, b2, q1, q2, p]
theorem lBB_ (hp : tabOk a.P__law_places_right lq__law_places_right T) (ht : tabOk a.P__law_times_right lq__law_times_right T) (hb : tabOk a.P__law_both_right lq__law_both_right T) {x0 x2 x3 x4 x5 x6 x7 x8 x9 : Sl} : Dw T 220 (lBB a [x0, .val .drw, x2, x3, x4, x5, x6, x7, x8, x9]) (fun f => ∃ y3 y4 y5 y6 y7 y8 y9, f = .nx [x0, .val .drw, x2, y3, y4, y5, y6, y7, y8, y9]) := by
  unfold lBB
  refine (seq_dw (c := 2) (d := 214) (Q := fun δ => ∃ s1 s2 : Int, δ = [x0, .val .drw, x2, szS s1 s2, x4, x5, x6, x7, x8, x9] ∧ (2 ≤ s1 ∧ s1 ≤ 6) ∧ (2 ≤ s2 ∧ s2 ≤ 6)) (by decide) (by decide) (lB1_.imp fun f ⟨s1, s2, e, h⟩ => ⟨_, e, s1, s2, rfl, h⟩) fun δ ⟨s1, s2, e, g1, g2⟩ => ?_).le (by decide)
  subst e
  refine (seq_dw (c := 1) (d := 213) (Q := fun δ => ∃ s3 : Int, δ = [x0, .val .drw, x2, szS s1 s3, x4, x5, x6, x7, x8, x9] ∧ (2 ≤ s3 ∧ s3 ≤ 6)) (by decide) (by decide) ((lB2_ g1 g2).imp fun f ⟨s3, e, h⟩ => ⟨_, e, s3, rfl, h⟩) fun δ ⟨s3, e, g3⟩ => ?_).le (by decide)
  subst e
  refine (seq_dw (c := 208) (d := 5) (Q := fun δ => ∃ l1 l2 : List Int, δ = [x0, .val .drw, x2, szS s1 s3, rwS l1 l2, x5, x6, x7, x8, x9] ∧ (Lt s1 l1 ∧ Lt s3 l1) ∧ (Lt s1 l2 ∧ Lt s3 l2)) (by decide) (by decide) ((lB3_ g1 g3).imp fun f ⟨l1, l2, e, h⟩ => ⟨_, e, l1, l2, rfl, h⟩) fun δ ⟨l1, l2, e, ⟨k1, k2⟩, k3, k4⟩ => ?_).le (by decide)
  subst e
  refine (seq_dw (c := 1) (d := 4) (Q := fun δ => ∃ l3 : List Int, δ = [x0, .val .drw, x2, szS s1 s3, rwS l1 l3, x5, x6, x7, x8, x9] ∧ Lt s3 l3) (by decide) (by decide) ((lB4_ k2 k4).imp fun f ⟨l3, e, h⟩ => ⟨_, e, l3, rfl, h⟩) fun δ ⟨l3, e, k5⟩ => ?_).le (by decide)
  subst e
  rw [seq_nx (lB5_ k1 k5)]
  refine (seq_dw (c := 3) (d := 1) (by decide) (by decide) ((lB6_ k1 hp ht).imp fun f e => ⟨_, e, rfl⟩) fun δ e => ?_).le (by decide)
  subst e
  refine (seq_dw (c := 0) (d := 1) (by decide) (by decide) ((lB7_ k1 k5 hb).imp fun f e => ⟨_, e, rfl⟩) fun δ e => ?_).le (by decide)
  subst e
  rw [seq_nx lB8_, seq_nx lB9_]
  refine (seq_dw (c := 1) (d := 0) (Q := fun δ => ∃ d, δ = [x0, .val .drw, x2, .val (.lst [.int s1, .int s3]), .val (.lst [.lst (nis l1), .lst (nis l3)]), .val (.bl (decide (s1 = s3 ∧ l1 = l3))), .val d, .val (wordD a s1 l1), .val (wordD a s3 l3), x9] ∧ plainD d = true) (by decide) (by decide) (lB10_.imp fun f ⟨d, e, h⟩ => ⟨_, e, d, rfl, h⟩) fun δ ⟨d, e, k6⟩ => ?_).le (by decide)
  subst e
  rw [seq_nx (lB11_ k1 k6), lB12_ k1 k5]
  exact Dw.ret (by decide) ⟨_, _, _, _, _, _, _, rfl⟩
theorem law_pass {Tl : List (Addr × Str)} (hp : tabOk a.P__law_places_right lq__law_places_right Tl) (ht : tabOk a.P__law_times_right lq__law_times_right Tl) (hb : tabOk a.P__law_both_right lq__law_both_right Tl) : Pass Tl ["script", "m", "turn", "sizes", "rows", "due", "strange", "one", "other", "k"] (g_law a) := by
  refine pass_of ((?_ : Dw Tl (1100 + 0) _ _).le (by decide))
  have e0 : δ0 ["script", "m", "turn", "sizes", "rows", "due", "strange", "one", "other", "k"] = [.non, .val .drw, .non, .non, .non, .non, .non, .non, .non, .non] := rfl
  rw [e0, show g_law a = gSeq (gFor (wRng1 (toV (cC (.int 5)))) (tgN 2) (lBB a)) (lBE1 a) from rfl]
  have h4 : wRng1 (toV (cC (.int 5))) [.non, .val .drw, .non, .non, .non, .non, .non, .non, .non, .non] = DL.M.ret (rngD 0 5) := rfl
  rw [gSeq]
  simp only [gFor, h4, bnd_ret]
  refine Dw.bnd (by decide) (by decide) (for_dw0 (T := Tl) (tg := tgN 2) (body := lBB a) (l := rngD 0 5) (c := 220) (k := 1100) (by decide) (fun _ δ => ∃ x2 x3 x4 x5 x6 x7 x8 x9, δ = [.non, .val .drw, x2, x3, x4, x5, x6, x7, x8, x9]) (fun k d δ hk ⟨x2, x3, x4, x5, x6, x7, x8, x9, e⟩ => by
    subst e
    refine ⟨_, rfl, (lBB_ hp ht hb).imp fun f hf => ?_⟩
    obtain ⟨y3, y4, y5, y6, y7, y8, y9, rfl⟩ := hf
    exact ⟨_, rfl, _, _, _, _, _, _, _, _, rfl⟩) ⟨_, _, _, _, _, _, _, _, rfl⟩ (by decide)) fun f hf => ?_
  obtain ⟨δ', rfl, _⟩ := hf
  show Dw Tl 0 (lBE1 a δ') _
  rw [lBE1_]
  exact Dw.ret (by decide) rfl
end Dg
namespace Lw
open PySem L2 LwE
section
variable {K : PySem.W.Frag} {a b : Addr}
theorem kitCls_ref {t : Value} {r : Bool} (i : PySem.W.isClsIn K b = true) (y : PySem.W.typeIn K (.ref b) = some (.type "type")) (s : PySem.W.subIn K t (.ref b) = some r) : PySem.W.kitCls K t (.ref b) = some r := by
  have c : ((PySem.W.clsIn K b).isSome && PySem.W.typeIn K (.ref b) == some (.type "type")) = true := by
    rw [show (PySem.W.clsIn K b).isSome = true from i, y]
    rfl
  show (if ((PySem.W.clsIn K b).isSome && PySem.W.typeIn K (.ref b) == some (.type "type")) = true then PySem.W.subIn K t (.ref b) else none) = some r
  rw [if_pos c]
  exact s
theorem kit_self : PySem.W.kitOne K (.ref a) (.ref a) = some true := by
  unfold PySem.W.kitOne
  simp
theorem kit_no (s : PySem.W.subIn K (.ref a) (.ref a) = some true) (n : PySem.W.subIn K (.ref a) (.ref b) = some false) (i : PySem.W.isClsIn K b = true) (y : PySem.W.typeIn K (.ref b) = some (.type "type")) : PySem.W.kitOne K (.ref a) (.ref b) = some false := by
  have ne : ¬ ((Value.ref a == Value.ref b) = true) := fun z => by
    have e : a = b := by simpa using z
    rw [← e, s] at n
    cases n
  unfold PySem.W.kitOne
  rw [if_neg ne]
  exact kitCls_ref i y n
theorem kit_ve {r : Bool} (s : PySem.W.subIn K (.ref a) (.type "ValueError") = some r) : PySem.W.kitOne K (.ref a) (.type "ValueError") = some r := by
  have m : PySem.W.kitMeta "ValueError" = true := by decide +kernel
  unfold PySem.W.kitOne
  rw [if_neg (fun z => by simp at z)]
  show (if PySem.W.kitMeta "ValueError" = true then PySem.W.subIn K (.ref a) (.type "ValueError") else none) = some r
  rw [if_pos m]
  exact s
theorem exm_is {r : Bool} (e : PySem.W.subIn K (.ref b) (.type "BaseException") = some true) (i : PySem.W.isClsIn K b = true) (y : PySem.W.typeIn K (.ref b) = some (.type "type")) (s : PySem.W.subIn K (.ref a) (.ref b) = some r) : PySem.W.exmOne K (.ref a) (.ref b) = some r := by
  unfold PySem.W.exmOne
  rw [e, if_pos (by rfl)]
  exact kitCls_ref i y s
theorem exm3 {t x1 x2 x3 : Value} {b1 b2 b3 : Bool} (h1 : PySem.W.exmOne K t x1 = some b1) (h2 : PySem.W.exmOne K t x2 = some b2) (h3 : PySem.W.exmOne K t x3 = some b3) (h : (b1 || (b2 || (b3 || false))) = true) : PySem.W.exmAny K t [x1, x2, x3] = some true := by
  unfold PySem.W.exmAny
  rw [h1]
  unfold PySem.W.exmAny
  rw [h2]
  unfold PySem.W.exmAny
  rw [h3]
  unfold PySem.W.exmAny
  show some (b1 || (b2 || (b3 || false))) = some true
  rw [h]
end
theorem pass_O (self : Value) : refuseLoop self "__setattr__" bmO = pure () := by rfl
end Lw
namespace Dg
open PySem L2 LwE LamX Lw DL
abbrev sE_BadSize : Stmt := inClass (top 3) 0
theorem scE_BadSize : FnScope ["self", "value"] ["self", "value"] (defScope sE_BadSize) := ⟨rfl, rfl, rfl, by decide +kernel, rfl, by decide +kernel, by decide +kernel⟩
theorem okE_BadSize {P : Program} {w : World} {K : PySem.W.Frag} {mg : Str → Option Value} {base : Heap} {fI C : Addr} {dI : FuncData} (F : Fun K "__init__" "BadSize.__init__" sE_BadSize fI dI) (T : OexG K C "ValueError.__new__" bmV) (no : PySem.W.findIn K (.ref C) "value" = some none) : FnOk P w K mg base CX0 1 fI dI ["self", "value"] (spENote C "value") :=
  ok_note (q := "") (x := "") F T no scE_BadSize fun cdv A outer s H E => ⟨_, pss_one (ps_note rfl (pv 0) (pv 1)), fun _ _ _ h => h⟩
abbrev sE_BadLetters : Stmt := inClass (top 4) 0
theorem scE_BadLetters : FnScope ["self", "place"] ["self", "place"] (defScope sE_BadLetters) := ⟨rfl, rfl, rfl, by decide +kernel, rfl, by decide +kernel, by decide +kernel⟩
theorem okE_BadLetters {P : Program} {w : World} {K : PySem.W.Frag} {mg : Str → Option Value} {base : Heap} {fI C : Addr} {dI : FuncData} (F : Fun K "__init__" "BadLetters.__init__" sE_BadLetters fI dI) (T : OexG K C "ValueError.__new__" bmV) (no : PySem.W.findIn K (.ref C) "place" = some none) : FnOk P w K mg base CX0 1 fI dI ["self", "place"] (spENote C "place") :=
  ok_note (q := "") (x := "") F T no scE_BadLetters fun cdv A outer s H E => ⟨_, pss_one (ps_note rfl (pv 0) (pv 1)), fun _ _ _ h => h⟩
abbrev sE_BadNumber : Stmt := inClass (top 6) 0
theorem scE_BadNumber : FnScope ["self", "value"] ["self", "value"] (defScope sE_BadNumber) := ⟨rfl, rfl, rfl, by decide +kernel, rfl, by decide +kernel, by decide +kernel⟩
theorem okE_BadNumber {P : Program} {w : World} {K : PySem.W.Frag} {mg : Str → Option Value} {base : Heap} {fI C : Addr} {dI : FuncData} (F : Fun K "__init__" "BadNumber.__init__" sE_BadNumber fI dI) (T : OexG K C "ValueError.__new__" bmV) (no : PySem.W.findIn K (.ref C) "value" = some none) : FnOk P w K mg base CX0 1 fI dI ["self", "value"] (spENote C "value") :=
  ok_note (q := "") (x := "") F T no scE_BadNumber fun cdv A outer s H E => ⟨_, pss_one (ps_note rfl (pv 0) (pv 1)), fun _ _ _ h => h⟩
abbrev sE_TooGreat : Stmt := inClass (top 15) 0
theorem scE_TooGreat : FnScope ["self", "most"] ["self", "most"] (defScope sE_TooGreat) := ⟨rfl, rfl, rfl, by decide +kernel, rfl, by decide +kernel, by decide +kernel⟩
theorem okE_TooGreat {P : Program} {w : World} {K : PySem.W.Frag} {mg : Str → Option Value} {base : Heap} {fI C : Addr} {dI : FuncData} (F : Fun K "__init__" "TooGreat.__init__" sE_TooGreat fI dI) (T : OexG K C "OverflowError.__new__" bmO) (no : PySem.W.findIn K (.ref C) "most" = some none) : FnOk P w K mg base CX0 1 fI dI ["self", "most"] (spENote C "most") :=
  ok_note (q := "") (x := "") F T no scE_TooGreat fun cdv A outer s H E => ⟨_, pss_one (ps_note rfl (pv 0) (pv 1)), fun _ _ _ h => h⟩
def TlOf (cs : List (Addr × Addr)) : List (Addr × Str) := (cs.map (·.2)).zip [lq__law_both_right, lq__law_times_right, lq__law_places_right]
set_option maxHeartbeats 16000000 in
theorem all_mk {l : PySem.W.OpenLaw} {w : World} {K : PySem.W.Frag} {h : Heap} {mg : Str → Option Value} {fa w_Word c__law_both_right c__law_times_right c__law_places_right P__law_both_right P__law_times_right P__law_places_right f__law_mixed f__law_folded f__law_draw f__law_begun f__law_heard f_Word_eq f__law_size f__law_letters f_is_between f_check_size f_is_listing f_check_letters f_Word_init f__law_is_word f_Word_add f__law_both_right f__law_like f_is_whole f_Word_mul f_Word_len f_Word_getitem f__law_places_right f__law_times_right f_law f_E_BadSize f_E_BadLetters f_E_BadNumber f_E_TooGreat q0 q1 q2 q3 q4 q5 q6 q7 q8 q9 q10 q11 q12 q13 : Addr} (X : K.In h) (G : h.Ns mainGlobals mg) (hfa : mg "law" = some (.ref fa))
    {od__law_mixed an__law_mixed : Option Addr} {sl__law_mixed : Array (Option Value)} {oc__law_mixed kV__law_mixed dc__law_mixed pm__law_mixed cd__law_mixed ct__law_mixed : Value}
    {od__law_folded an__law_folded : Option Addr} {sl__law_folded : Array (Option Value)} {oc__law_folded kV__law_folded dc__law_folded pm__law_folded cd__law_folded ct__law_folded : Value}
    {od__law_draw an__law_draw : Option Addr} {sl__law_draw : Array (Option Value)} {oc__law_draw kV__law_draw dc__law_draw pm__law_draw cd__law_draw ct__law_draw : Value}
    {od__law_begun an__law_begun : Option Addr} {sl__law_begun : Array (Option Value)} {oc__law_begun kV__law_begun dc__law_begun pm__law_begun cd__law_begun ct__law_begun : Value}
    {od__law_heard an__law_heard : Option Addr} {sl__law_heard : Array (Option Value)} {oc__law_heard kV__law_heard dc__law_heard pm__law_heard cd__law_heard ct__law_heard : Value}
    {od_Word_eq an_Word_eq : Option Addr} {sl_Word_eq : Array (Option Value)} {oc_Word_eq kV_Word_eq dc_Word_eq pm_Word_eq cd_Word_eq ct_Word_eq : Value}
    {od__law_size an__law_size : Option Addr} {sl__law_size : Array (Option Value)} {oc__law_size kV__law_size dc__law_size pm__law_size cd__law_size ct__law_size : Value}
    {od__law_letters an__law_letters : Option Addr} {sl__law_letters : Array (Option Value)} {oc__law_letters kV__law_letters dc__law_letters pm__law_letters cd__law_letters ct__law_letters : Value}
    {od_is_between an_is_between : Option Addr} {sl_is_between : Array (Option Value)} {oc_is_between kV_is_between dc_is_between pm_is_between cd_is_between ct_is_between : Value}
    {od_check_size an_check_size : Option Addr} {sl_check_size : Array (Option Value)} {oc_check_size kV_check_size dc_check_size pm_check_size cd_check_size ct_check_size : Value}
    {od_is_listing an_is_listing : Option Addr} {sl_is_listing : Array (Option Value)} {oc_is_listing kV_is_listing dc_is_listing pm_is_listing cd_is_listing ct_is_listing : Value}
    {od_check_letters an_check_letters : Option Addr} {sl_check_letters : Array (Option Value)} {oc_check_letters kV_check_letters dc_check_letters pm_check_letters cd_check_letters ct_check_letters : Value}
    {od_Word_init an_Word_init : Option Addr} {sl_Word_init : Array (Option Value)} {oc_Word_init kV_Word_init dc_Word_init pm_Word_init cd_Word_init ct_Word_init : Value}
    {od__law_is_word an__law_is_word : Option Addr} {sl__law_is_word : Array (Option Value)} {oc__law_is_word kV__law_is_word dc__law_is_word pm__law_is_word cd__law_is_word ct__law_is_word : Value}
    {od_Word_add an_Word_add : Option Addr} {sl_Word_add : Array (Option Value)} {oc_Word_add kV_Word_add dc_Word_add pm_Word_add cd_Word_add ct_Word_add : Value}
    {od__law_both_right an__law_both_right : Option Addr} {sl__law_both_right : Array (Option Value)} {oc__law_both_right kV__law_both_right dc__law_both_right pm__law_both_right ct__law_both_right : Value}
    {od__law_like an__law_like : Option Addr} {sl__law_like : Array (Option Value)} {oc__law_like kV__law_like dc__law_like pm__law_like cd__law_like ct__law_like : Value}
    {od_is_whole an_is_whole : Option Addr} {sl_is_whole : Array (Option Value)} {oc_is_whole kV_is_whole dc_is_whole pm_is_whole cd_is_whole ct_is_whole : Value}
    {od_Word_mul an_Word_mul : Option Addr} {sl_Word_mul : Array (Option Value)} {oc_Word_mul kV_Word_mul dc_Word_mul pm_Word_mul cd_Word_mul ct_Word_mul : Value}
    {od_Word_len an_Word_len : Option Addr} {sl_Word_len : Array (Option Value)} {oc_Word_len kV_Word_len dc_Word_len pm_Word_len cd_Word_len ct_Word_len : Value}
    {od_Word_getitem an_Word_getitem : Option Addr} {sl_Word_getitem : Array (Option Value)} {oc_Word_getitem kV_Word_getitem dc_Word_getitem pm_Word_getitem cd_Word_getitem ct_Word_getitem : Value}
    {od__law_places_right an__law_places_right : Option Addr} {sl__law_places_right : Array (Option Value)} {oc__law_places_right kV__law_places_right dc__law_places_right pm__law_places_right ct__law_places_right : Value}
    {od__law_times_right an__law_times_right : Option Addr} {sl__law_times_right : Array (Option Value)} {oc__law_times_right kV__law_times_right dc__law_times_right pm__law_times_right ct__law_times_right : Value}
    {od_law an_law : Option Addr} {sl_law : Array (Option Value)} {oc_law kV_law dc_law pm_law cd_law ct_law : Value}
    {od_E_BadSize an_E_BadSize : Option Addr} {sl_E_BadSize : Array (Option Value)} {oc_E_BadSize kV_E_BadSize dc_E_BadSize pm_E_BadSize cd_E_BadSize ct_E_BadSize : Value}
    {od_E_BadLetters an_E_BadLetters : Option Addr} {sl_E_BadLetters : Array (Option Value)} {oc_E_BadLetters kV_E_BadLetters dc_E_BadLetters pm_E_BadLetters cd_E_BadLetters ct_E_BadLetters : Value}
    {od_E_BadNumber an_E_BadNumber : Option Addr} {sl_E_BadNumber : Array (Option Value)} {oc_E_BadNumber kV_E_BadNumber dc_E_BadNumber pm_E_BadNumber cd_E_BadNumber ct_E_BadNumber : Value}
    {od_E_TooGreat an_E_TooGreat : Option Addr} {sl_E_TooGreat : Array (Option Value)} {oc_E_TooGreat kV_E_TooGreat dc_E_TooGreat pm_E_TooGreat cd_E_TooGreat ct_E_TooGreat : Value}
    {tk_LEAST_SIZE : Tok}
    {tk_MOST_LETTERS : Tok}
    {tk_MOST_SIZE : Tok}
    {xn1 xq1 : Str} {xN1 : Addr} {xs1 xu1 : List Value} {xm1 : List Str} {xb1 : Bool} {xc1 : Option Bool} {xd1 : Option Addr} {x01 x11 x21 x31 x51 : Option Value}
    {xn2 xq2 : Str} {xN2 : Addr} {xs2 xu2 : List Value} {xm2 : List Str} {xb2 : Bool} {xc2 : Option Bool} {xd2 : Option Addr} {x02 x12 x22 x32 x52 : Option Value}
    {xn4 xq4 : Str} {xN4 : Addr} {xs4 xu4 : List Value} {xm4 : List Str} {xb4 : Bool} {xc4 : Option Bool} {xd4 : Option Addr} {x04 x14 x24 x34 x54 : Option Value}
    {xn13 xq13 : Str} {xN13 : Addr} {xs13 xu13 : List Value} {xm13 : List Str} {xb13 : Bool} {xc13 : Option Bool} {xd13 : Option Addr} {x013 x113 x213 x313 x513 : Option Value}
    (tab_P__law_both_right : h.get? P__law_both_right = some { cls := .none, data := .fields #[] })
    (tab_P__law_times_right : h.get? P__law_times_right = some { cls := .none, data := .fields #[] })
    (tab_P__law_places_right : h.get? P__law_places_right = some { cls := .none, data := .fields #[] })
    (aC_Word : PySem.W.nsIn K mainGlobals "Word" = some (some (.ref w_Word)))
    (cl0 : PySem.W.nsIn K mainGlobals "LiftError" = some (some (.ref q0)))
    (cl1 : PySem.W.nsIn K mainGlobals "BadSize" = some (some (.ref q1)))
    (cl2 : PySem.W.nsIn K mainGlobals "BadLetters" = some (some (.ref q2)))
    (cl3 : PySem.W.nsIn K mainGlobals "BadIndex" = some (some (.ref q3)))
    (cl4 : PySem.W.nsIn K mainGlobals "BadNumber" = some (some (.ref q4)))
    (cl5 : PySem.W.nsIn K mainGlobals "BadDeed" = some (some (.ref q5)))
    (cl6 : PySem.W.nsIn K mainGlobals "BadTable" = some (some (.ref q6)))
    (cl7 : PySem.W.nsIn K mainGlobals "BadMove" = some (some (.ref q7)))
    (cl8 : PySem.W.nsIn K mainGlobals "BadShape" = some (some (.ref q8)))
    (cl9 : PySem.W.nsIn K mainGlobals "BadRecording" = some (some (.ref q9)))
    (cl10 : PySem.W.nsIn K mainGlobals "OtherSize" = some (some (.ref q10)))
    (cl11 : PySem.W.nsIn K mainGlobals "OtherHouse" = some (some (.ref q11)))
    (cl12 : PySem.W.nsIn K mainGlobals "Stuck" = some (some (.ref q12)))
    (cl13 : PySem.W.nsIn K mainGlobals "TooGreat" = some (some (.ref q13)))
    (a__law_mixed : PySem.W.nsIn K mainGlobals "_law_mixed" = some (some (.ref f__law_mixed)))
    (l__law_mixed : K.lookup f__law_mixed = some ⟨oc__law_mixed, od__law_mixed, .func (PySem.W.fnOf "_law_mixed" "_law_mixed" (defArgs sMixed) (defBody sMixed) (defScope sMixed) .none kV__law_mixed dc__law_mixed pm__law_mixed an__law_mixed cd__law_mixed ct__law_mixed), sl__law_mixed⟩)
    (c_c_law_mixed : PySem.W.codeIn K cd__law_mixed "_law_mixed" = true)
    (k__law_mixed : PySem.W.keepIn K (.ref f__law_mixed) = true)
    (a__law_folded : PySem.W.nsIn K mainGlobals "_law_folded" = some (some (.ref f__law_folded)))
    (l__law_folded : K.lookup f__law_folded = some ⟨oc__law_folded, od__law_folded, .func (PySem.W.fnOf "_law_folded" "_law_folded" (defArgs sFolded) (defBody sFolded) (defScope sFolded) .none kV__law_folded dc__law_folded pm__law_folded an__law_folded cd__law_folded ct__law_folded), sl__law_folded⟩)
    (c_c_law_folded : PySem.W.codeIn K cd__law_folded "_law_folded" = true)
    (k__law_folded : PySem.W.keepIn K (.ref f__law_folded) = true)
    (a__law_draw : PySem.W.nsIn K mainGlobals "_law_draw" = some (some (.ref f__law_draw)))
    (l__law_draw : K.lookup f__law_draw = some ⟨oc__law_draw, od__law_draw, .func (PySem.W.fnOf "_law_draw" "_law_draw" (defArgs sDraw) (defBody sDraw) (defScope sDraw) .none kV__law_draw dc__law_draw pm__law_draw an__law_draw cd__law_draw ct__law_draw), sl__law_draw⟩)
    (c_c_law_draw : PySem.W.codeIn K cd__law_draw "_law_draw" = true)
    (k__law_draw : PySem.W.keepIn K (.ref f__law_draw) = true)
    (a__law_begun : PySem.W.nsIn K mainGlobals "_law_begun" = some (some (.ref f__law_begun)))
    (l__law_begun : K.lookup f__law_begun = some ⟨oc__law_begun, od__law_begun, .func (PySem.W.fnOf "_law_begun" "_law_begun" (defArgs sBegun) (defBody sBegun) (defScope sBegun) .none kV__law_begun dc__law_begun pm__law_begun an__law_begun cd__law_begun ct__law_begun), sl__law_begun⟩)
    (c_c_law_begun : PySem.W.codeIn K cd__law_begun "_law_begun" = true)
    (k__law_begun : PySem.W.keepIn K (.ref f__law_begun) = true)
    (a__law_heard : PySem.W.nsIn K mainGlobals "_law_heard" = some (some (.ref f__law_heard)))
    (l__law_heard : K.lookup f__law_heard = some ⟨oc__law_heard, od__law_heard, .func (PySem.W.fnOf "_law_heard" "_law_heard" (defArgs sHeard) (defBody sHeard) (defScope sHeard) .none kV__law_heard dc__law_heard pm__law_heard an__law_heard cd__law_heard ct__law_heard), sl__law_heard⟩)
    (c_c_law_heard : PySem.W.codeIn K cd__law_heard "_law_heard" = true)
    (k__law_heard : PySem.W.keepIn K (.ref f__law_heard) = true)
    (a_Word_eq : PySem.W.findIn K (.ref w_Word) "__eq__" = some (some (.ref f_Word_eq)))
    (i_Word_eq : PySem.W.isFn K (.ref f_Word_eq) = true)
    (l_Word_eq : K.lookup f_Word_eq = some ⟨oc_Word_eq, od_Word_eq, .func (PySem.W.fnOf "__eq__" "Word.__eq__" (defArgs s_Word_eq) (defBody s_Word_eq) (defScope s_Word_eq) .none kV_Word_eq dc_Word_eq pm_Word_eq an_Word_eq cd_Word_eq ct_Word_eq), sl_Word_eq⟩)
    (c_cWord_eq : PySem.W.codeIn K cd_Word_eq "Word.__eq__" = true)
    (k_Word_eq : PySem.W.keepIn K (.ref f_Word_eq) = true)
    (a__law_size : PySem.W.nsIn K mainGlobals "_law_size" = some (some (.ref f__law_size)))
    (l__law_size : K.lookup f__law_size = some ⟨oc__law_size, od__law_size, .func (PySem.W.fnOf "_law_size" "_law_size" (defArgs s__law_size) (defBody s__law_size) (defScope s__law_size) .none kV__law_size dc__law_size pm__law_size an__law_size cd__law_size ct__law_size), sl__law_size⟩)
    (c_c_law_size : PySem.W.codeIn K cd__law_size "_law_size" = true)
    (k__law_size : PySem.W.keepIn K (.ref f__law_size) = true)
    (a__law_letters : PySem.W.nsIn K mainGlobals "_law_letters" = some (some (.ref f__law_letters)))
    (l__law_letters : K.lookup f__law_letters = some ⟨oc__law_letters, od__law_letters, .func (PySem.W.fnOf "_law_letters" "_law_letters" (defArgs s__law_letters) (defBody s__law_letters) (defScope s__law_letters) .none kV__law_letters dc__law_letters pm__law_letters an__law_letters cd__law_letters ct__law_letters), sl__law_letters⟩)
    (c_c_law_letters : PySem.W.codeIn K cd__law_letters "_law_letters" = true)
    (k__law_letters : PySem.W.keepIn K (.ref f__law_letters) = true)
    (a_is_between : PySem.W.nsIn K mainGlobals "is_between" = some (some (.ref f_is_between)))
    (l_is_between : K.lookup f_is_between = some ⟨oc_is_between, od_is_between, .func (PySem.W.fnOf "is_between" "is_between" (defArgs s_is_between) (defBody s_is_between) (defScope s_is_between) .none kV_is_between dc_is_between pm_is_between an_is_between cd_is_between ct_is_between), sl_is_between⟩)
    (c_cis_between : PySem.W.codeIn K cd_is_between "is_between" = true)
    (k_is_between : PySem.W.keepIn K (.ref f_is_between) = true)
    (a_check_size : PySem.W.nsIn K mainGlobals "check_size" = some (some (.ref f_check_size)))
    (l_check_size : K.lookup f_check_size = some ⟨oc_check_size, od_check_size, .func (PySem.W.fnOf "check_size" "check_size" (defArgs s_check_size) (defBody s_check_size) (defScope s_check_size) .none kV_check_size dc_check_size pm_check_size an_check_size cd_check_size ct_check_size), sl_check_size⟩)
    (c_ccheck_size : PySem.W.codeIn K cd_check_size "check_size" = true)
    (k_check_size : PySem.W.keepIn K (.ref f_check_size) = true)
    (a_is_listing : PySem.W.nsIn K mainGlobals "is_listing" = some (some (.ref f_is_listing)))
    (l_is_listing : K.lookup f_is_listing = some ⟨oc_is_listing, od_is_listing, .func (PySem.W.fnOf "is_listing" "is_listing" (defArgs s_is_listing) (defBody s_is_listing) (defScope s_is_listing) .none kV_is_listing dc_is_listing pm_is_listing an_is_listing cd_is_listing ct_is_listing), sl_is_listing⟩)
    (c_cis_listing : PySem.W.codeIn K cd_is_listing "is_listing" = true)
    (k_is_listing : PySem.W.keepIn K (.ref f_is_listing) = true)
    (a_check_letters : PySem.W.nsIn K mainGlobals "check_letters" = some (some (.ref f_check_letters)))
    (l_check_letters : K.lookup f_check_letters = some ⟨oc_check_letters, od_check_letters, .func (PySem.W.fnOf "check_letters" "check_letters" (defArgs s_check_letters) (defBody s_check_letters) (defScope s_check_letters) .none kV_check_letters dc_check_letters pm_check_letters an_check_letters cd_check_letters ct_check_letters), sl_check_letters⟩)
    (c_ccheck_letters : PySem.W.codeIn K cd_check_letters "check_letters" = true)
    (k_check_letters : PySem.W.keepIn K (.ref f_check_letters) = true)
    (a_Word_init : PySem.W.findIn K (.ref w_Word) "__init__" = some (some (.ref f_Word_init)))
    (i_Word_init : PySem.W.isFn K (.ref f_Word_init) = true)
    (l_Word_init : K.lookup f_Word_init = some ⟨oc_Word_init, od_Word_init, .func (PySem.W.fnOf "__init__" "Word.__init__" (defArgs s_Word_init) (defBody s_Word_init) (defScope s_Word_init) .none kV_Word_init dc_Word_init pm_Word_init an_Word_init cd_Word_init ct_Word_init), sl_Word_init⟩)
    (c_cWord_init : PySem.W.codeIn K cd_Word_init "Word.__init__" = true)
    (k_Word_init : PySem.W.keepIn K (.ref f_Word_init) = true)
    (a__law_is_word : PySem.W.nsIn K mainGlobals "_law_is_word" = some (some (.ref f__law_is_word)))
    (l__law_is_word : K.lookup f__law_is_word = some ⟨oc__law_is_word, od__law_is_word, .func (PySem.W.fnOf "_law_is_word" "_law_is_word" (defArgs s__law_is_word) (defBody s__law_is_word) (defScope s__law_is_word) .none kV__law_is_word dc__law_is_word pm__law_is_word an__law_is_word cd__law_is_word ct__law_is_word), sl__law_is_word⟩)
    (c_c_law_is_word : PySem.W.codeIn K cd__law_is_word "_law_is_word" = true)
    (k__law_is_word : PySem.W.keepIn K (.ref f__law_is_word) = true)
    (a_Word_add : PySem.W.findIn K (.ref w_Word) "__add__" = some (some (.ref f_Word_add)))
    (i_Word_add : PySem.W.isFn K (.ref f_Word_add) = true)
    (l_Word_add : K.lookup f_Word_add = some ⟨oc_Word_add, od_Word_add, .func (PySem.W.fnOf "__add__" "Word.__add__" (defArgs s_Word_add) (defBody s_Word_add) (defScope s_Word_add) .none kV_Word_add dc_Word_add pm_Word_add an_Word_add cd_Word_add ct_Word_add), sl_Word_add⟩)
    (c_cWord_add : PySem.W.codeIn K cd_Word_add "Word.__add__" = true)
    (k_Word_add : PySem.W.keepIn K (.ref f_Word_add) = true)
    (a__law_both_right : PySem.W.nsIn K mainGlobals "_law_both_right" = some (some (.ref f__law_both_right)))
    (l__law_both_right : K.lookup f__law_both_right = some ⟨oc__law_both_right, od__law_both_right, .func (PySem.W.fnOf "_law_both_right" "_law_both_right" (defArgs s__law_both_right) (defBody s__law_both_right) (defScope s__law_both_right) .none kV__law_both_right dc__law_both_right pm__law_both_right an__law_both_right (.ref c__law_both_right) ct__law_both_right), sl__law_both_right⟩)
    (c_c_law_both_right : PySem.W.codeIn K (.ref c__law_both_right) "_law_both_right" = true)
    (k__law_both_right : PySem.W.keepIn K (.ref f__law_both_right) = true)
    (a__law_like : PySem.W.nsIn K mainGlobals "_law_like" = some (some (.ref f__law_like)))
    (l__law_like : K.lookup f__law_like = some ⟨oc__law_like, od__law_like, .func (PySem.W.fnOf "_law_like" "_law_like" (defArgs s__law_like) (defBody s__law_like) (defScope s__law_like) .none kV__law_like dc__law_like pm__law_like an__law_like cd__law_like ct__law_like), sl__law_like⟩)
    (c_c_law_like : PySem.W.codeIn K cd__law_like "_law_like" = true)
    (k__law_like : PySem.W.keepIn K (.ref f__law_like) = true)
    (a_is_whole : PySem.W.nsIn K mainGlobals "is_whole" = some (some (.ref f_is_whole)))
    (l_is_whole : K.lookup f_is_whole = some ⟨oc_is_whole, od_is_whole, .func (PySem.W.fnOf "is_whole" "is_whole" (defArgs s_is_whole) (defBody s_is_whole) (defScope s_is_whole) .none kV_is_whole dc_is_whole pm_is_whole an_is_whole cd_is_whole ct_is_whole), sl_is_whole⟩)
    (c_cis_whole : PySem.W.codeIn K cd_is_whole "is_whole" = true)
    (k_is_whole : PySem.W.keepIn K (.ref f_is_whole) = true)
    (a_Word_mul : PySem.W.findIn K (.ref w_Word) "__mul__" = some (some (.ref f_Word_mul)))
    (i_Word_mul : PySem.W.isFn K (.ref f_Word_mul) = true)
    (l_Word_mul : K.lookup f_Word_mul = some ⟨oc_Word_mul, od_Word_mul, .func (PySem.W.fnOf "__mul__" "Word.__mul__" (defArgs s_Word_mul) (defBody s_Word_mul) (defScope s_Word_mul) .none kV_Word_mul dc_Word_mul pm_Word_mul an_Word_mul cd_Word_mul ct_Word_mul), sl_Word_mul⟩)
    (c_cWord_mul : PySem.W.codeIn K cd_Word_mul "Word.__mul__" = true)
    (k_Word_mul : PySem.W.keepIn K (.ref f_Word_mul) = true)
    (a_Word_len : PySem.W.findIn K (.ref w_Word) "__len__" = some (some (.ref f_Word_len)))
    (i_Word_len : PySem.W.isFn K (.ref f_Word_len) = true)
    (l_Word_len : K.lookup f_Word_len = some ⟨oc_Word_len, od_Word_len, .func (PySem.W.fnOf "__len__" "Word.__len__" (defArgs s_Word_len) (defBody s_Word_len) (defScope s_Word_len) .none kV_Word_len dc_Word_len pm_Word_len an_Word_len cd_Word_len ct_Word_len), sl_Word_len⟩)
    (c_cWord_len : PySem.W.codeIn K cd_Word_len "Word.__len__" = true)
    (k_Word_len : PySem.W.keepIn K (.ref f_Word_len) = true)
    (a_Word_getitem : PySem.W.findIn K (.ref w_Word) "__getitem__" = some (some (.ref f_Word_getitem)))
    (i_Word_getitem : PySem.W.isFn K (.ref f_Word_getitem) = true)
    (l_Word_getitem : K.lookup f_Word_getitem = some ⟨oc_Word_getitem, od_Word_getitem, .func (PySem.W.fnOf "__getitem__" "Word.__getitem__" (defArgs s_Word_getitem) (defBody s_Word_getitem) (defScope s_Word_getitem) .none kV_Word_getitem dc_Word_getitem pm_Word_getitem an_Word_getitem cd_Word_getitem ct_Word_getitem), sl_Word_getitem⟩)
    (c_cWord_getitem : PySem.W.codeIn K cd_Word_getitem "Word.__getitem__" = true)
    (k_Word_getitem : PySem.W.keepIn K (.ref f_Word_getitem) = true)
    (a__law_places_right : PySem.W.nsIn K mainGlobals "_law_places_right" = some (some (.ref f__law_places_right)))
    (l__law_places_right : K.lookup f__law_places_right = some ⟨oc__law_places_right, od__law_places_right, .func (PySem.W.fnOf "_law_places_right" "_law_places_right" (defArgs s__law_places_right) (defBody s__law_places_right) (defScope s__law_places_right) .none kV__law_places_right dc__law_places_right pm__law_places_right an__law_places_right (.ref c__law_places_right) ct__law_places_right), sl__law_places_right⟩)
    (c_c_law_places_right : PySem.W.codeIn K (.ref c__law_places_right) "_law_places_right" = true)
    (k__law_places_right : PySem.W.keepIn K (.ref f__law_places_right) = true)
    (a__law_times_right : PySem.W.nsIn K mainGlobals "_law_times_right" = some (some (.ref f__law_times_right)))
    (l__law_times_right : K.lookup f__law_times_right = some ⟨oc__law_times_right, od__law_times_right, .func (PySem.W.fnOf "_law_times_right" "_law_times_right" (defArgs s__law_times_right) (defBody s__law_times_right) (defScope s__law_times_right) .none kV__law_times_right dc__law_times_right pm__law_times_right an__law_times_right (.ref c__law_times_right) ct__law_times_right), sl__law_times_right⟩)
    (c_c_law_times_right : PySem.W.codeIn K (.ref c__law_times_right) "_law_times_right" = true)
    (k__law_times_right : PySem.W.keepIn K (.ref f__law_times_right) = true)
    (a_law : PySem.W.nsIn K mainGlobals "law" = some (some (.ref f_law)))
    (l_law : K.lookup f_law = some ⟨oc_law, od_law, .func (PySem.W.fnOf "law" "law" (defArgs s_law) (defBody s_law) (defScope s_law) .none kV_law dc_law pm_law an_law cd_law ct_law), sl_law⟩)
    (c_claw : PySem.W.codeIn K cd_law "law" = true)
    (k_law : PySem.W.keepIn K (.ref f_law) = true)
    (a_E_BadSize : PySem.W.findIn K (.ref q1) "__init__" = some (some (.ref f_E_BadSize)))
    (t_E_BadSize : PySem.W.typeIn K (.ref f_E_BadSize) = some (.type "function"))
    (l_E_BadSize : K.lookup f_E_BadSize = some ⟨oc_E_BadSize, od_E_BadSize, .func (PySem.W.fnOf "__init__" "BadSize.__init__" (defArgs sE_BadSize) (defBody sE_BadSize) (defScope sE_BadSize) .none kV_E_BadSize dc_E_BadSize pm_E_BadSize an_E_BadSize cd_E_BadSize ct_E_BadSize), sl_E_BadSize⟩)
    (c_cE_BadSize : PySem.W.codeIn K cd_E_BadSize "BadSize.__init__" = true)
    (k_E_BadSize : PySem.W.keepIn K (.ref f_E_BadSize) = true)
    (a_E_BadLetters : PySem.W.findIn K (.ref q2) "__init__" = some (some (.ref f_E_BadLetters)))
    (t_E_BadLetters : PySem.W.typeIn K (.ref f_E_BadLetters) = some (.type "function"))
    (l_E_BadLetters : K.lookup f_E_BadLetters = some ⟨oc_E_BadLetters, od_E_BadLetters, .func (PySem.W.fnOf "__init__" "BadLetters.__init__" (defArgs sE_BadLetters) (defBody sE_BadLetters) (defScope sE_BadLetters) .none kV_E_BadLetters dc_E_BadLetters pm_E_BadLetters an_E_BadLetters cd_E_BadLetters ct_E_BadLetters), sl_E_BadLetters⟩)
    (c_cE_BadLetters : PySem.W.codeIn K cd_E_BadLetters "BadLetters.__init__" = true)
    (k_E_BadLetters : PySem.W.keepIn K (.ref f_E_BadLetters) = true)
    (a_E_BadNumber : PySem.W.findIn K (.ref q4) "__init__" = some (some (.ref f_E_BadNumber)))
    (t_E_BadNumber : PySem.W.typeIn K (.ref f_E_BadNumber) = some (.type "function"))
    (l_E_BadNumber : K.lookup f_E_BadNumber = some ⟨oc_E_BadNumber, od_E_BadNumber, .func (PySem.W.fnOf "__init__" "BadNumber.__init__" (defArgs sE_BadNumber) (defBody sE_BadNumber) (defScope sE_BadNumber) .none kV_E_BadNumber dc_E_BadNumber pm_E_BadNumber an_E_BadNumber cd_E_BadNumber ct_E_BadNumber), sl_E_BadNumber⟩)
    (c_cE_BadNumber : PySem.W.codeIn K cd_E_BadNumber "BadNumber.__init__" = true)
    (k_E_BadNumber : PySem.W.keepIn K (.ref f_E_BadNumber) = true)
    (a_E_TooGreat : PySem.W.findIn K (.ref q13) "__init__" = some (some (.ref f_E_TooGreat)))
    (t_E_TooGreat : PySem.W.typeIn K (.ref f_E_TooGreat) = some (.type "function"))
    (l_E_TooGreat : K.lookup f_E_TooGreat = some ⟨oc_E_TooGreat, od_E_TooGreat, .func (PySem.W.fnOf "__init__" "TooGreat.__init__" (defArgs sE_TooGreat) (defBody sE_TooGreat) (defScope sE_TooGreat) .none kV_E_TooGreat dc_E_TooGreat pm_E_TooGreat an_E_TooGreat cd_E_TooGreat ct_E_TooGreat), sl_E_TooGreat⟩)
    (c_cE_TooGreat : PySem.W.codeIn K cd_E_TooGreat "TooGreat.__init__" = true)
    (k_E_TooGreat : PySem.W.keepIn K (.ref f_E_TooGreat) = true)
    (pg_Word : PySem.W.plainGet K w_Word Str.empty = true)
    (hd_Word : PySem.W.hasDictIn K w_Word = true)
    (po_Word : PySem.W.plainOver K w_Word = true)
    (sa_Word : PySem.W.findIn K (.ref w_Word) "__setattr__" = some (some (.builtin "object.__setattr__")))
    (mk_Word : PySem.W.makesIn K w_Word = true)
    (kc_Word : PySem.W.keepIn K (.ref w_Word) = true)
    (n_Word_letters : PySem.W.findIn K (.ref w_Word) "letters" = some none)
    (n_Word_size : PySem.W.findIn K (.ref w_Word) "size" = some none)
    (nq_Word : PySem.W.noSeq K w_Word = true)
    (sf_Word : PySem.W.selfFirst K w_Word = true)
    (rr_Word__add__ : PySem.W.findIn K (.ref w_Word) "__radd__" = some none)
    (rr_Word__mul__ : PySem.W.findIn K (.ref w_Word) "__rmul__" = some none)
    (ca_Word : PySem.W.findIn K (.ref w_Word) "__class__" = some (some (.builtin "object.__class__")))
    (cm_Word : PySem.W.mroIn K w_Word (.type "object") = some true)
    (ne_Word : PySem.W.findIn K (.ref w_Word) "__ne__" = some (some (.builtin "object.__ne__")))
    (ic_Word : PySem.W.isClsIn K w_Word = true)
    (ty_Word : PySem.W.typeIn K (.ref w_Word) = some (.type "type"))
    (sb_Word_bool : PySem.W.subIn K (.ref w_Word) (.type "bool") = some false)
    (sb_Word_int : PySem.W.subIn K (.ref w_Word) (.type "int") = some false)
    (sb_Word_str : PySem.W.subIn K (.ref w_Word) (.type "str") = some false)
    (sb_Word_tuple : PySem.W.subIn K (.ref w_Word) (.type "tuple") = some false)
    (sb_Word_list : PySem.W.subIn K (.ref w_Word) (.type "list") = some false)
    (sb_Word_dict : PySem.W.subIn K (.ref w_Word) (.type "dict") = some false)
    (cn : PySem.W.specialIn K (.builtin "object.__class__") "__get__" = some (some (.builtin "getset_descriptor.__get__")))
    (ct : PySem.W.takesIn K (.builtin "object.__class__") = some true)
    (num_LEAST_SIZE : PySem.W.nsIn K mainGlobals "LEAST_SIZE" = some (some (.int 2 tk_LEAST_SIZE)))
    (num_MOST_LETTERS : PySem.W.nsIn K mainGlobals "MOST_LETTERS" = some (some (.int 40 tk_MOST_LETTERS)))
    (num_MOST_SIZE : PySem.W.nsIn K mainGlobals "MOST_SIZE" = some (some (.int 6 tk_MOST_SIZE)))
    (z_isinstance : PySem.W.nsIn K mainGlobals "isinstance" = some none)
    (z_int : PySem.W.nsIn K mainGlobals "int" = some none)
    (z_bool : PySem.W.nsIn K mainGlobals "bool" = some none)
    (z_list : PySem.W.nsIn K mainGlobals "list" = some none)
    (z_tuple : PySem.W.nsIn K mainGlobals "tuple" = some none)
    (z_len : PySem.W.nsIn K mainGlobals "len" = some none)
    (z_range : PySem.W.nsIn K mainGlobals "range" = some none)
    (z_enumerate : PySem.W.nsIn K mainGlobals "enumerate" = some none)
    (z_sorted : PySem.W.nsIn K mainGlobals "sorted" = some none)
    (z_min : PySem.W.nsIn K mainGlobals "min" = some none)
    (z_repr : PySem.W.nsIn K mainGlobals "repr" = some none)
    (z_any : PySem.W.nsIn K mainGlobals "any" = some none)
    (z_max : PySem.W.nsIn K mainGlobals "max" = some none)
    (z_abs : PySem.W.nsIn K mainGlobals "abs" = some none)
    (z_zip : PySem.W.nsIn K mainGlobals "zip" = some none)
    (z_ValueError : PySem.W.nsIn K mainGlobals "ValueError" = some none)
    (z_str : PySem.W.nsIn K mainGlobals "str" = some none)
    (z_sum : PySem.W.nsIn K mainGlobals "sum" = some none)
    (z_all : PySem.W.nsIn K mainGlobals "all" = some none)
    (z_dict : PySem.W.nsIn K mainGlobals "dict" = some none)
    (ic0 : PySem.W.isClsIn K q0 = true)
    (ty0 : PySem.W.typeIn K (.ref q0) = some (.type "type"))
    (ic1 : PySem.W.isClsIn K q1 = true)
    (ty1 : PySem.W.typeIn K (.ref q1) = some (.type "type"))
    (ic2 : PySem.W.isClsIn K q2 = true)
    (ty2 : PySem.W.typeIn K (.ref q2) = some (.type "type"))
    (ic3 : PySem.W.isClsIn K q3 = true)
    (ty3 : PySem.W.typeIn K (.ref q3) = some (.type "type"))
    (ic4 : PySem.W.isClsIn K q4 = true)
    (ty4 : PySem.W.typeIn K (.ref q4) = some (.type "type"))
    (ic5 : PySem.W.isClsIn K q5 = true)
    (ty5 : PySem.W.typeIn K (.ref q5) = some (.type "type"))
    (ic6 : PySem.W.isClsIn K q6 = true)
    (ty6 : PySem.W.typeIn K (.ref q6) = some (.type "type"))
    (ic7 : PySem.W.isClsIn K q7 = true)
    (ty7 : PySem.W.typeIn K (.ref q7) = some (.type "type"))
    (ic8 : PySem.W.isClsIn K q8 = true)
    (ty8 : PySem.W.typeIn K (.ref q8) = some (.type "type"))
    (ic9 : PySem.W.isClsIn K q9 = true)
    (ty9 : PySem.W.typeIn K (.ref q9) = some (.type "type"))
    (ic10 : PySem.W.isClsIn K q10 = true)
    (ty10 : PySem.W.typeIn K (.ref q10) = some (.type "type"))
    (ic11 : PySem.W.isClsIn K q11 = true)
    (ty11 : PySem.W.typeIn K (.ref q11) = some (.type "type"))
    (ic12 : PySem.W.isClsIn K q12 = true)
    (ty12 : PySem.W.typeIn K (.ref q12) = some (.type "type"))
    (ic13 : PySem.W.isClsIn K q13 = true)
    (ty13 : PySem.W.typeIn K (.ref q13) = some (.type "type"))
    (eb0 : PySem.W.subIn K (.ref q0) (.type "BaseException") = some true)
    (eb1 : PySem.W.subIn K (.ref q1) (.type "BaseException") = some true)
    (eb2 : PySem.W.subIn K (.ref q2) (.type "BaseException") = some true)
    (eb4 : PySem.W.subIn K (.ref q4) (.type "BaseException") = some true)
    (eb10 : PySem.W.subIn K (.ref q10) (.type "BaseException") = some true)
    (eb12 : PySem.W.subIn K (.ref q12) (.type "BaseException") = some true)
    (eb13 : PySem.W.subIn K (.ref q13) (.type "BaseException") = some true)
    (xl1 : K.lookup q1 = some (excClassObj xn1 xq1 q1 xN1 xs1 [.ref q0, .type "ValueError", .type "Exception", .type "BaseException", .type "object"] true xm1 xu1 xb1 xc1 xd1 x01 x11 x21 x31 x51 "ValueError.__new__"))
    (sa1 : PySem.W.findIn K (.ref q1) "__setattr__" = some (some (.builtin "object.__setattr__")))
    (ga1 : PySem.W.findIn K (.ref q1) "__getattribute__" = some (some (.builtin "BaseException.__getattribute__")))
    (gg1 : PySem.W.findIn K (.ref q1) "__getattr__" = some none)
    (hd1 : PySem.W.hasDictIn K q1 = true)
    (ca1 : PySem.W.findIn K (.ref q1) "__class__" = some (some (.builtin "object.__class__")))
    (cm1 : PySem.W.mroIn K q1 (.type "object") = some true)
    (kq1 : PySem.W.keepIn K (.ref q1) = true)
    (no1 : PySem.W.findIn K (.ref q1) "value" = some none)
    (su1_0 : PySem.W.subIn K (.ref q1) (.ref q0) = some true)
    (su1_1 : PySem.W.subIn K (.ref q1) (.ref q1) = some true)
    (su1_2 : PySem.W.subIn K (.ref q1) (.ref q2) = some false)
    (su1_3 : PySem.W.subIn K (.ref q1) (.ref q3) = some false)
    (su1_4 : PySem.W.subIn K (.ref q1) (.ref q4) = some false)
    (su1_5 : PySem.W.subIn K (.ref q1) (.ref q5) = some false)
    (su1_6 : PySem.W.subIn K (.ref q1) (.ref q6) = some false)
    (su1_7 : PySem.W.subIn K (.ref q1) (.ref q7) = some false)
    (su1_8 : PySem.W.subIn K (.ref q1) (.ref q8) = some false)
    (su1_9 : PySem.W.subIn K (.ref q1) (.ref q9) = some false)
    (su1_10 : PySem.W.subIn K (.ref q1) (.ref q10) = some false)
    (su1_11 : PySem.W.subIn K (.ref q1) (.ref q11) = some false)
    (su1_12 : PySem.W.subIn K (.ref q1) (.ref q12) = some false)
    (su1_13 : PySem.W.subIn K (.ref q1) (.ref q13) = some false)
    (ve1 : PySem.W.subIn K (.ref q1) (.type "ValueError") = some true)
    (xl2 : K.lookup q2 = some (excClassObj xn2 xq2 q2 xN2 xs2 [.ref q0, .type "ValueError", .type "Exception", .type "BaseException", .type "object"] true xm2 xu2 xb2 xc2 xd2 x02 x12 x22 x32 x52 "ValueError.__new__"))
    (sa2 : PySem.W.findIn K (.ref q2) "__setattr__" = some (some (.builtin "object.__setattr__")))
    (ga2 : PySem.W.findIn K (.ref q2) "__getattribute__" = some (some (.builtin "BaseException.__getattribute__")))
    (gg2 : PySem.W.findIn K (.ref q2) "__getattr__" = some none)
    (hd2 : PySem.W.hasDictIn K q2 = true)
    (ca2 : PySem.W.findIn K (.ref q2) "__class__" = some (some (.builtin "object.__class__")))
    (cm2 : PySem.W.mroIn K q2 (.type "object") = some true)
    (kq2 : PySem.W.keepIn K (.ref q2) = true)
    (no2 : PySem.W.findIn K (.ref q2) "place" = some none)
    (su2_0 : PySem.W.subIn K (.ref q2) (.ref q0) = some true)
    (su2_1 : PySem.W.subIn K (.ref q2) (.ref q1) = some false)
    (su2_2 : PySem.W.subIn K (.ref q2) (.ref q2) = some true)
    (su2_3 : PySem.W.subIn K (.ref q2) (.ref q3) = some false)
    (su2_4 : PySem.W.subIn K (.ref q2) (.ref q4) = some false)
    (su2_5 : PySem.W.subIn K (.ref q2) (.ref q5) = some false)
    (su2_6 : PySem.W.subIn K (.ref q2) (.ref q6) = some false)
    (su2_7 : PySem.W.subIn K (.ref q2) (.ref q7) = some false)
    (su2_8 : PySem.W.subIn K (.ref q2) (.ref q8) = some false)
    (su2_9 : PySem.W.subIn K (.ref q2) (.ref q9) = some false)
    (su2_10 : PySem.W.subIn K (.ref q2) (.ref q10) = some false)
    (su2_11 : PySem.W.subIn K (.ref q2) (.ref q11) = some false)
    (su2_12 : PySem.W.subIn K (.ref q2) (.ref q12) = some false)
    (su2_13 : PySem.W.subIn K (.ref q2) (.ref q13) = some false)
    (ve2 : PySem.W.subIn K (.ref q2) (.type "ValueError") = some true)
    (xl4 : K.lookup q4 = some (excClassObj xn4 xq4 q4 xN4 xs4 [.ref q0, .type "ValueError", .type "Exception", .type "BaseException", .type "object"] true xm4 xu4 xb4 xc4 xd4 x04 x14 x24 x34 x54 "ValueError.__new__"))
    (sa4 : PySem.W.findIn K (.ref q4) "__setattr__" = some (some (.builtin "object.__setattr__")))
    (ga4 : PySem.W.findIn K (.ref q4) "__getattribute__" = some (some (.builtin "BaseException.__getattribute__")))
    (gg4 : PySem.W.findIn K (.ref q4) "__getattr__" = some none)
    (hd4 : PySem.W.hasDictIn K q4 = true)
    (ca4 : PySem.W.findIn K (.ref q4) "__class__" = some (some (.builtin "object.__class__")))
    (cm4 : PySem.W.mroIn K q4 (.type "object") = some true)
    (kq4 : PySem.W.keepIn K (.ref q4) = true)
    (no4 : PySem.W.findIn K (.ref q4) "value" = some none)
    (su4_0 : PySem.W.subIn K (.ref q4) (.ref q0) = some true)
    (su4_1 : PySem.W.subIn K (.ref q4) (.ref q1) = some false)
    (su4_2 : PySem.W.subIn K (.ref q4) (.ref q2) = some false)
    (su4_3 : PySem.W.subIn K (.ref q4) (.ref q3) = some false)
    (su4_4 : PySem.W.subIn K (.ref q4) (.ref q4) = some true)
    (su4_5 : PySem.W.subIn K (.ref q4) (.ref q5) = some false)
    (su4_6 : PySem.W.subIn K (.ref q4) (.ref q6) = some false)
    (su4_7 : PySem.W.subIn K (.ref q4) (.ref q7) = some false)
    (su4_8 : PySem.W.subIn K (.ref q4) (.ref q8) = some false)
    (su4_9 : PySem.W.subIn K (.ref q4) (.ref q9) = some false)
    (su4_10 : PySem.W.subIn K (.ref q4) (.ref q10) = some false)
    (su4_11 : PySem.W.subIn K (.ref q4) (.ref q11) = some false)
    (su4_12 : PySem.W.subIn K (.ref q4) (.ref q12) = some false)
    (su4_13 : PySem.W.subIn K (.ref q4) (.ref q13) = some false)
    (ve4 : PySem.W.subIn K (.ref q4) (.type "ValueError") = some true)
    (xl13 : K.lookup q13 = some (excClassObj xn13 xq13 q13 xN13 xs13 [.type "OverflowError", .type "ArithmeticError", .type "Exception", .type "BaseException", .type "object"] true xm13 xu13 xb13 xc13 xd13 x013 x113 x213 x313 x513 "OverflowError.__new__"))
    (sa13 : PySem.W.findIn K (.ref q13) "__setattr__" = some (some (.builtin "object.__setattr__")))
    (ga13 : PySem.W.findIn K (.ref q13) "__getattribute__" = some (some (.builtin "BaseException.__getattribute__")))
    (gg13 : PySem.W.findIn K (.ref q13) "__getattr__" = some none)
    (hd13 : PySem.W.hasDictIn K q13 = true)
    (ca13 : PySem.W.findIn K (.ref q13) "__class__" = some (some (.builtin "object.__class__")))
    (cm13 : PySem.W.mroIn K q13 (.type "object") = some true)
    (kq13 : PySem.W.keepIn K (.ref q13) = true)
    (no13 : PySem.W.findIn K (.ref q13) "most" = some none)
    (su13_0 : PySem.W.subIn K (.ref q13) (.ref q0) = some false)
    (su13_1 : PySem.W.subIn K (.ref q13) (.ref q1) = some false)
    (su13_2 : PySem.W.subIn K (.ref q13) (.ref q2) = some false)
    (su13_3 : PySem.W.subIn K (.ref q13) (.ref q3) = some false)
    (su13_4 : PySem.W.subIn K (.ref q13) (.ref q4) = some false)
    (su13_5 : PySem.W.subIn K (.ref q13) (.ref q5) = some false)
    (su13_6 : PySem.W.subIn K (.ref q13) (.ref q6) = some false)
    (su13_7 : PySem.W.subIn K (.ref q13) (.ref q7) = some false)
    (su13_8 : PySem.W.subIn K (.ref q13) (.ref q8) = some false)
    (su13_9 : PySem.W.subIn K (.ref q13) (.ref q9) = some false)
    (su13_10 : PySem.W.subIn K (.ref q13) (.ref q10) = some false)
    (su13_11 : PySem.W.subIn K (.ref q13) (.ref q11) = some false)
    (su13_12 : PySem.W.subIn K (.ref q13) (.ref q12) = some false)
    (su13_13 : PySem.W.subIn K (.ref q13) (.ref q13) = some true)
    (ve13 : PySem.W.subIn K (.ref q13) (.type "ValueError") = some false)
    (xi10 : PySem.W.excIn K q10 [.type "ValueError", .type "Exception", .type "BaseException", .type "object"] "ValueError.__new__" = true)
    (ga10 : PySem.W.findIn K (.ref q10) "__getattribute__" = some (some (.builtin "BaseException.__getattribute__")))
    (gg10 : PySem.W.findIn K (.ref q10) "__getattr__" = some none)
    (hd10 : PySem.W.hasDictIn K q10 = true)
    (ca10 : PySem.W.findIn K (.ref q10) "__class__" = some (some (.builtin "object.__class__")))
    (cm10 : PySem.W.mroIn K q10 (.type "object") = some true)
    (kq10 : PySem.W.keepIn K (.ref q10) = true)
    (su10_0 : PySem.W.subIn K (.ref q10) (.ref q0) = some true)
    (su10_1 : PySem.W.subIn K (.ref q10) (.ref q1) = some false)
    (su10_2 : PySem.W.subIn K (.ref q10) (.ref q2) = some false)
    (su10_3 : PySem.W.subIn K (.ref q10) (.ref q3) = some false)
    (su10_4 : PySem.W.subIn K (.ref q10) (.ref q4) = some false)
    (su10_5 : PySem.W.subIn K (.ref q10) (.ref q5) = some false)
    (su10_6 : PySem.W.subIn K (.ref q10) (.ref q6) = some false)
    (su10_7 : PySem.W.subIn K (.ref q10) (.ref q7) = some false)
    (su10_8 : PySem.W.subIn K (.ref q10) (.ref q8) = some false)
    (su10_9 : PySem.W.subIn K (.ref q10) (.ref q9) = some false)
    (su10_10 : PySem.W.subIn K (.ref q10) (.ref q10) = some true)
    (su10_11 : PySem.W.subIn K (.ref q10) (.ref q11) = some false)
    (su10_12 : PySem.W.subIn K (.ref q10) (.ref q12) = some false)
    (su10_13 : PySem.W.subIn K (.ref q10) (.ref q13) = some false)
    (ve10 : PySem.W.subIn K (.ref q10) (.type "ValueError") = some true)
    (nd : ([P__law_both_right, P__law_times_right, P__law_places_right] : List Addr).Nodup) (out_P__law_both_right : K.lookup P__law_both_right = none) (hdT_P__law_both_right : PySem.W.codeHdIn K c__law_both_right P__law_both_right = true) (out_P__law_times_right : K.lookup P__law_times_right = none) (hdT_P__law_times_right : PySem.W.codeHdIn K c__law_times_right P__law_times_right = true) (out_P__law_places_right : K.lookup P__law_places_right = none) (hdT_P__law_places_right : PySem.W.codeHdIn K c__law_places_right P__law_places_right = true) :
    TellsS l w K 10 "script" (fun cs => spLawD K (TlOf cs)) mg fa h := by
  have e0 := hfa.symm.trans (PySem.W.mg_of X G a_law)
  cases e0
  have B : Bare mg := ⟨PySem.W.mg_none_of X G z_isinstance, PySem.W.mg_none_of X G z_int, PySem.W.mg_none_of X G z_bool, PySem.W.mg_none_of X G z_list, PySem.W.mg_none_of X G z_tuple, PySem.W.mg_none_of X G z_len, PySem.W.mg_none_of X G z_range, PySem.W.mg_none_of X G z_enumerate, PySem.W.mg_none_of X G z_sorted, PySem.W.mg_none_of X G z_min, PySem.W.mg_none_of X G z_repr, PySem.W.mg_none_of X G z_any, PySem.W.mg_none_of X G z_max, PySem.W.mg_none_of X G z_abs, PySem.W.mg_none_of X G z_zip, PySem.W.mg_none_of X G z_ValueError, PySem.W.mg_none_of X G z_str, PySem.W.mg_none_of X G z_sum, PySem.W.mg_none_of X G z_all, PySem.W.mg_none_of X G z_dict⟩
  have F__law_mixed := fun_mk (st := sMixed) l__law_mixed c_c_law_mixed k__law_mixed
  have b__law_mixed := F__law_mixed.binds (ps := ["cell", "n"]) fun _ _ _ _ _ _ us hl => match us, hl with | [_, _], _ => rfl
  have F__law_folded := fun_mk (st := sFolded) l__law_folded c_c_law_folded k__law_folded
  have b__law_folded := F__law_folded.binds (ps := ["script"]) fun _ _ _ _ _ _ us hl => match us, hl with | [_], _ => rfl
  have F__law_draw := fun_mk (st := sDraw) l__law_draw c_c_law_draw k__law_draw
  have b__law_draw := F__law_draw.binds (ps := ["m", "limit"]) fun _ _ _ _ _ _ us hl => match us, hl with | [_, _], _ => rfl
  have F__law_begun := fun_mk (st := sBegun) l__law_begun c_c_law_begun k__law_begun
  have b__law_begun := F__law_begun.binds (ps := ["script"]) fun _ _ _ _ _ _ us hl => match us, hl with | [_], _ => rfl
  have F__law_heard := fun_mk (st := sHeard) l__law_heard c_c_law_heard k__law_heard
  have b__law_heard := F__law_heard.binds (ps := ["call"]) fun _ _ _ _ _ _ us hl => match us, hl with | [_], _ => rfl
  have F_Word_eq := fun_mk (st := s_Word_eq) l_Word_eq c_cWord_eq k_Word_eq
  have b_Word_eq := F_Word_eq.binds (ps := ["self", "other"]) fun _ _ _ _ _ _ us hl => match us, hl with | [_, _], _ => rfl
  have F__law_size := fun_mk (st := s__law_size) l__law_size c_c_law_size k__law_size
  have b__law_size := F__law_size.binds (ps := ["m"]) fun _ _ _ _ _ _ us hl => match us, hl with | [_], _ => rfl
  have F__law_letters := fun_mk (st := s__law_letters) l__law_letters c_c_law_letters k__law_letters
  have b__law_letters := F__law_letters.binds (ps := ["m", "size", "most"]) fun _ _ _ _ _ _ us hl => match us, hl with | [_, _, _], _ => rfl
  have F_is_between := fun_mk (st := s_is_between) l_is_between c_cis_between k_is_between
  have b_is_between := F_is_between.binds (ps := ["value", "least", "most"]) fun _ _ _ _ _ _ us hl => match us, hl with | [_, _, _], _ => rfl
  have F_check_size := fun_mk (st := s_check_size) l_check_size c_ccheck_size k_check_size
  have b_check_size := F_check_size.binds (ps := ["size"]) fun _ _ _ _ _ _ us hl => match us, hl with | [_], _ => rfl
  have F_is_listing := fun_mk (st := s_is_listing) l_is_listing c_cis_listing k_is_listing
  have b_is_listing := F_is_listing.binds (ps := ["value"]) fun _ _ _ _ _ _ us hl => match us, hl with | [_], _ => rfl
  have F_check_letters := fun_mk (st := s_check_letters) l_check_letters c_ccheck_letters k_check_letters
  have b_check_letters := F_check_letters.binds (ps := ["size", "letters"]) fun _ _ _ _ _ _ us hl => match us, hl with | [_, _], _ => rfl
  have F_Word_init := fun_mk (st := s_Word_init) l_Word_init c_cWord_init k_Word_init
  have b_Word_init := F_Word_init.binds (ps := ["self", "size", "letters"]) fun _ _ _ _ _ _ us hl => match us, hl with | [_, _, _], _ => rfl
  have F__law_is_word := fun_mk (st := s__law_is_word) l__law_is_word c_c_law_is_word k__law_is_word
  have b__law_is_word := F__law_is_word.binds (ps := ["told", "size", "letters"]) fun _ _ _ _ _ _ us hl => match us, hl with | [_, _, _], _ => rfl
  have F_Word_add := fun_mk (st := s_Word_add) l_Word_add c_cWord_add k_Word_add
  have b_Word_add := F_Word_add.binds (ps := ["self", "other"]) fun _ _ _ _ _ _ us hl => match us, hl with | [_, _], _ => rfl
  have F__law_both_right : FunC K "_law_both_right" "_law_both_right" s__law_both_right c__law_both_right f__law_both_right _ := ⟨⟨_, _, _, _, _, _, _, _, rfl, l__law_both_right, c_c_law_both_right⟩, k__law_both_right⟩
  have b__law_both_right := F__law_both_right.fn.binds (ps := ["one", "other", "sizes", "rows"]) fun _ _ _ _ _ _ us hl => match us, hl with | [_, _, _, _], _ => rfl
  have F__law_like := fun_mk (st := s__law_like) l__law_like c_c_law_like k__law_like
  have b__law_like := F__law_like.binds (ps := ["told", "due"]) fun _ _ _ _ _ _ us hl => match us, hl with | [_, _], _ => rfl
  have F_is_whole := fun_mk (st := s_is_whole) l_is_whole c_cis_whole k_is_whole
  have b_is_whole := F_is_whole.binds (ps := ["value"]) fun _ _ _ _ _ _ us hl => match us, hl with | [_], _ => rfl
  have F_Word_mul := fun_mk (st := s_Word_mul) l_Word_mul c_cWord_mul k_Word_mul
  have b_Word_mul := F_Word_mul.binds (ps := ["self", "other"]) fun _ _ _ _ _ _ us hl => match us, hl with | [_, _], _ => rfl
  have F_Word_len := fun_mk (st := s_Word_len) l_Word_len c_cWord_len k_Word_len
  have b_Word_len := F_Word_len.binds (ps := ["self"]) fun _ _ _ _ _ _ us hl => match us, hl with | [_], _ => rfl
  have F_Word_getitem := fun_mk (st := s_Word_getitem) l_Word_getitem c_cWord_getitem k_Word_getitem
  have b_Word_getitem := F_Word_getitem.binds (ps := ["self", "at"]) fun _ _ _ _ _ _ us hl => match us, hl with | [_, _], _ => rfl
  have F__law_places_right : FunC K "_law_places_right" "_law_places_right" s__law_places_right c__law_places_right f__law_places_right _ := ⟨⟨_, _, _, _, _, _, _, _, rfl, l__law_places_right, c_c_law_places_right⟩, k__law_places_right⟩
  have b__law_places_right := F__law_places_right.fn.binds (ps := ["m", "word", "letters"]) fun _ _ _ _ _ _ us hl => match us, hl with | [_, _, _], _ => rfl
  have F__law_times_right : FunC K "_law_times_right" "_law_times_right" s__law_times_right c__law_times_right f__law_times_right _ := ⟨⟨_, _, _, _, _, _, _, _, rfl, l__law_times_right, c_c_law_times_right⟩, k__law_times_right⟩
  have b__law_times_right := F__law_times_right.fn.binds (ps := ["m", "word", "size", "letters"]) fun _ _ _ _ _ _ us hl => match us, hl with | [_, _, _, _], _ => rfl
  have F_law := fun_mk (st := s_law) l_law c_claw k_law
  have b_law := F_law.binds (ps := ["script"]) fun _ _ _ _ _ _ us hl => match us, hl with | [_], _ => rfl
  have F_E_BadSize := fun_mk (st := sE_BadSize) l_E_BadSize c_cE_BadSize k_E_BadSize
  have b_E_BadSize := F_E_BadSize.binds (ps := ["self", "value"]) fun _ _ _ _ _ _ us hl => match us, hl with | [_, _], _ => rfl
  have F_E_BadLetters := fun_mk (st := sE_BadLetters) l_E_BadLetters c_cE_BadLetters k_E_BadLetters
  have b_E_BadLetters := F_E_BadLetters.binds (ps := ["self", "place"]) fun _ _ _ _ _ _ us hl => match us, hl with | [_, _], _ => rfl
  have F_E_BadNumber := fun_mk (st := sE_BadNumber) l_E_BadNumber c_cE_BadNumber k_E_BadNumber
  have b_E_BadNumber := F_E_BadNumber.binds (ps := ["self", "value"]) fun _ _ _ _ _ _ us hl => match us, hl with | [_, _], _ => rfl
  have F_E_TooGreat := fun_mk (st := sE_TooGreat) l_E_TooGreat c_cE_TooGreat k_E_TooGreat
  have b_E_TooGreat := F_E_TooGreat.binds (ps := ["self", "most"]) fun _ _ _ _ _ _ us hl => match us, hl with | [_, _], _ => rfl
  let e : Eca := { lift := q0, of := fun k => match k with | .size => q1 | .letters => q2 | .index => q3 | .number => q4 | .deed => q5 | .table => q6 | .move => q7 | .shape => q8 | .stuck => q12 | .great => q13 | .recd => q9 | .osize => q10 | .ohouse => q11 }
  have EC : Ec K mg e := ⟨PySem.W.mg_none_of X G z_isinstance, PySem.W.mg_none_of X G z_zip, PySem.W.mg_none_of X G z_len, PySem.W.mg_none_of X G z_ValueError, PySem.W.mg_of X G cl0, PySem.W.mg_of X G cl1, PySem.W.mg_of X G cl2, PySem.W.mg_of X G cl3, PySem.W.mg_of X G cl4, PySem.W.mg_of X G cl5, PySem.W.mg_of X G cl6, PySem.W.mg_of X G cl7, PySem.W.mg_of X G cl8, PySem.W.mg_of X G cl9, PySem.W.mg_of X G cl10, PySem.W.mg_of X G cl11, PySem.W.mg_of X G cl12, PySem.W.mg_of X G cl13, ⟨cn, ct⟩⟩
  have TE1 : OexG K q1 "ValueError.__new__" bmV := oexG_V ⟨⟨_, _, _, _, _, _, _, _, _, _, _, _, _, _, _, xl1, rfl⟩, sa1, eb1, ty1, kq1⟩
  have EK1 : Ek K e .size := ⟨⟨ga1, gg1, eb1, hd1, ca1, cm1⟩, fun _ => no1, exm3 (exm_is eb0 ic0 ty0 su1_0) (exm_is eb12 ic12 ty12 su1_12) (exm_is eb13 ic13 ty13 su1_13) rfl, fun k' => match k' with | .size => kit_self | .letters => kit_no su1_1 su1_2 ic2 ty2 | .index => kit_no su1_1 su1_3 ic3 ty3 | .number => kit_no su1_1 su1_4 ic4 ty4 | .deed => kit_no su1_1 su1_5 ic5 ty5 | .table => kit_no su1_1 su1_6 ic6 ty6 | .move => kit_no su1_1 su1_7 ic7 ty7 | .shape => kit_no su1_1 su1_8 ic8 ty8 | .stuck => kit_no su1_1 su1_12 ic12 ty12 | .great => kit_no su1_1 su1_13 ic13 ty13 | .recd => kit_no su1_1 su1_9 ic9 ty9 | .osize => kit_no su1_1 su1_10 ic10 ty10 | .ohouse => kit_no su1_1 su1_11 ic11 ty11, kit_ve ve1⟩
  have TE2 : OexG K q2 "ValueError.__new__" bmV := oexG_V ⟨⟨_, _, _, _, _, _, _, _, _, _, _, _, _, _, _, xl2, rfl⟩, sa2, eb2, ty2, kq2⟩
  have EK2 : Ek K e .letters := ⟨⟨ga2, gg2, eb2, hd2, ca2, cm2⟩, fun _ => no2, exm3 (exm_is eb0 ic0 ty0 su2_0) (exm_is eb12 ic12 ty12 su2_12) (exm_is eb13 ic13 ty13 su2_13) rfl, fun k' => match k' with | .size => kit_no su2_2 su2_1 ic1 ty1 | .letters => kit_self | .index => kit_no su2_2 su2_3 ic3 ty3 | .number => kit_no su2_2 su2_4 ic4 ty4 | .deed => kit_no su2_2 su2_5 ic5 ty5 | .table => kit_no su2_2 su2_6 ic6 ty6 | .move => kit_no su2_2 su2_7 ic7 ty7 | .shape => kit_no su2_2 su2_8 ic8 ty8 | .stuck => kit_no su2_2 su2_12 ic12 ty12 | .great => kit_no su2_2 su2_13 ic13 ty13 | .recd => kit_no su2_2 su2_9 ic9 ty9 | .osize => kit_no su2_2 su2_10 ic10 ty10 | .ohouse => kit_no su2_2 su2_11 ic11 ty11, kit_ve ve2⟩
  have TE4 : OexG K q4 "ValueError.__new__" bmV := oexG_V ⟨⟨_, _, _, _, _, _, _, _, _, _, _, _, _, _, _, xl4, rfl⟩, sa4, eb4, ty4, kq4⟩
  have EK4 : Ek K e .number := ⟨⟨ga4, gg4, eb4, hd4, ca4, cm4⟩, fun _ => no4, exm3 (exm_is eb0 ic0 ty0 su4_0) (exm_is eb12 ic12 ty12 su4_12) (exm_is eb13 ic13 ty13 su4_13) rfl, fun k' => match k' with | .size => kit_no su4_4 su4_1 ic1 ty1 | .letters => kit_no su4_4 su4_2 ic2 ty2 | .index => kit_no su4_4 su4_3 ic3 ty3 | .number => kit_self | .deed => kit_no su4_4 su4_5 ic5 ty5 | .table => kit_no su4_4 su4_6 ic6 ty6 | .move => kit_no su4_4 su4_7 ic7 ty7 | .shape => kit_no su4_4 su4_8 ic8 ty8 | .stuck => kit_no su4_4 su4_12 ic12 ty12 | .great => kit_no su4_4 su4_13 ic13 ty13 | .recd => kit_no su4_4 su4_9 ic9 ty9 | .osize => kit_no su4_4 su4_10 ic10 ty10 | .ohouse => kit_no su4_4 su4_11 ic11 ty11, kit_ve ve4⟩
  have TE13 : OexG K q13 "OverflowError.__new__" bmO := ⟨⟨_, _, _, _, _, _, _, _, _, _, _, _, _, _, _, xl13, pass_O, fun _ => rfl, by decide +kernel⟩, sa13, eb13, ty13, kq13⟩
  have EK13 : Ek K e .great := ⟨⟨ga13, gg13, eb13, hd13, ca13, cm13⟩, fun _ => no13, exm3 (exm_is eb0 ic0 ty0 su13_0) (exm_is eb12 ic12 ty12 su13_12) (exm_is eb13 ic13 ty13 su13_13) rfl, fun k' => match k' with | .size => kit_no su13_13 su13_1 ic1 ty1 | .letters => kit_no su13_13 su13_2 ic2 ty2 | .index => kit_no su13_13 su13_3 ic3 ty3 | .number => kit_no su13_13 su13_4 ic4 ty4 | .deed => kit_no su13_13 su13_5 ic5 ty5 | .table => kit_no su13_13 su13_6 ic6 ty6 | .move => kit_no su13_13 su13_7 ic7 ty7 | .shape => kit_no su13_13 su13_8 ic8 ty8 | .stuck => kit_no su13_13 su13_12 ic12 ty12 | .great => kit_self | .recd => kit_no su13_13 su13_9 ic9 ty9 | .osize => kit_no su13_13 su13_10 ic10 ty10 | .ohouse => kit_no su13_13 su13_11 ic11 ty11, kit_ve ve13⟩
  have R_OtherSize : RsN K mg "OtherSize" (q10) := ⟨⟨"ValueError", "ValueError.__new__", "ValueError.__init__", bmV, PySem.F.excBase_ValueError, xi10⟩, PySem.W.mg_of X G cl10, kq10, eb10, ty10⟩
  have EK10 : Ek K e .osize := ⟨⟨ga10, gg10, eb10, hd10, ca10, cm10⟩, (fun h => nomatch h), exm3 (exm_is eb0 ic0 ty0 su10_0) (exm_is eb12 ic12 ty12 su10_12) (exm_is eb13 ic13 ty13 su10_13) rfl, fun k' => match k' with | .size => kit_no su10_10 su10_1 ic1 ty1 | .letters => kit_no su10_10 su10_2 ic2 ty2 | .index => kit_no su10_10 su10_3 ic3 ty3 | .number => kit_no su10_10 su10_4 ic4 ty4 | .deed => kit_no su10_10 su10_5 ic5 ty5 | .table => kit_no su10_10 su10_6 ic6 ty6 | .move => kit_no su10_10 su10_7 ic7 ty7 | .shape => kit_no su10_10 su10_8 ic8 ty8 | .stuck => kit_no su10_10 su10_12 ic12 ty12 | .great => kit_no su10_10 su10_13 ic13 ty13 | .recd => kit_no su10_10 su10_9 ic9 ty9 | .osize => kit_self | .ohouse => kit_no su10_10 su10_11 ic11 ty11, kit_ve ve10⟩
  let a : Adr := ⟨e, w_Word, P__law_both_right, P__law_times_right, P__law_places_right⟩
  refine ⟨PySem.W.fnOf "law" "law" (defArgs s_law) (defBody s_law) (defScope s_law) .none kV_law dc_law pm_law an_law cd_law ct_law, [(c__law_both_right, P__law_both_right), (c__law_times_right, P__law_times_right), (c__law_places_right, P__law_places_right)], by simp only [List.forall_mem_cons]; exact ⟨tab_P__law_both_right, tab_P__law_times_right, tab_P__law_places_right, fun _ m => nomatch m⟩, by simp only [List.forall_mem_cons]; exact ⟨out_P__law_both_right, out_P__law_times_right, out_P__law_places_right, fun _ m => nomatch m⟩, by simp only [List.forall_mem_cons]; exact ⟨PySem.W.codeHd_of_K X hdT_P__law_both_right, PySem.W.codeHd_of_K X hdT_P__law_times_right, PySem.W.codeHd_of_K X hdT_P__law_places_right, fun _ m => nomatch m⟩, fun s v => .of_eq rfl, fun base KB _ SY TB => ?_⟩
  obtain ⟨TB_P__law_both_right, TB_P__law_times_right, TB_P__law_places_right, _⟩ : TabB base mg c__law_both_right P__law_both_right ∧ TabB base mg c__law_times_right P__law_times_right ∧ TabB base mg c__law_places_right P__law_places_right ∧ True := ⟨TB (c__law_both_right, P__law_both_right) (by simp), TB (c__law_times_right, P__law_times_right) (by simp), TB (c__law_places_right, P__law_places_right) (by simp), trivial⟩
  have oc1 : ∀ C ∈ ocs a, Oc K C := fun C hC => by
    have hC : C ∈ [w_Word] := hC
    simp only [List.mem_cons, List.not_mem_nil, or_false] at hC
    rcases hC with rfl <;> first | exact ⟨⟨pg_Word, hd_Word, po_Word, sa_Word⟩, ca_Word, cn, ct, cm_Word, ic_Word, ty_Word, fun T hT => by simp only [bts, List.mem_cons, List.not_mem_nil, or_false] at hT; rcases hT with rfl | rfl | rfl | rfl | rfl | rfl <;> first | exact sb_Word_bool | exact sb_Word_int | exact sb_Word_str | exact sb_Word_tuple | exact sb_Word_list | exact sb_Word_dict⟩
  have oc2 : ∀ C ∈ ocs a, ∀ D ∈ ocs a, C ≠ D → PySem.W.subIn K (.ref C) (.ref D) = some false := fun C hC D hD ne => absurd ((List.mem_singleton.mp hC).trans (List.mem_singleton.mp hD).symm) ne
  have HR : HrD K mg a.ec usd := ⟨EC, fun k hk => by cases k <;> first | (exact absurd hk (by decide)) | exact EK1 | exact EK2 | exact EK4 | exact EK13 | exact EK10, ⟨f__law_heard, _, F__law_heard, PySem.W.mg_of X G a__law_heard, b__law_heard⟩⟩
  have T : Tp K mg base a := ⟨B, SY, (fun C hC => by simp only [List.mem_cons, List.not_mem_nil, or_false] at hC; rcases hC with rfl <;> first | exact ⟨⟨pg_Word, hd_Word, po_Word, sa_Word⟩, n_Word_letters⟩), (fun C hC => by simp only [List.mem_cons, List.not_mem_nil, or_false] at hC; rcases hC with rfl <;> first | exact ⟨⟨pg_Word, hd_Word, po_Word, sa_Word⟩, n_Word_size⟩), ⟨_, PySem.W.mg_of X G num_LEAST_SIZE⟩, ⟨_, PySem.W.mg_of X G num_MOST_LETTERS⟩, ⟨_, PySem.W.mg_of X G num_MOST_SIZE⟩, PySem.W.mg_of X G aC_Word, ⟨pg_Word, hd_Word, po_Word, sa_Word⟩, ne_Word, cm_Word, ⟨oc1, oc2⟩, HR⟩
  have R_BadSize : RsD l.prog w K mg base "BadSize" (a.ec.of .size) "value" := ⟨"ValueError", "ValueError.__new__", "ValueError.__init__", bmV, f_E_BadSize, _, PySem.F.excBase_ValueError, TE1, PySem.W.mg_of X G cl1, a_E_BadSize, t_E_BadSize, okE_BadSize F_E_BadSize TE1 no1, b_E_BadSize⟩
  have R_BadLetters : RsD l.prog w K mg base "BadLetters" (a.ec.of .letters) "place" := ⟨"ValueError", "ValueError.__new__", "ValueError.__init__", bmV, f_E_BadLetters, _, PySem.F.excBase_ValueError, TE2, PySem.W.mg_of X G cl2, a_E_BadLetters, t_E_BadLetters, okE_BadLetters F_E_BadLetters TE2 no2, b_E_BadLetters⟩
  have R_BadNumber : RsD l.prog w K mg base "BadNumber" (a.ec.of .number) "value" := ⟨"ValueError", "ValueError.__new__", "ValueError.__init__", bmV, f_E_BadNumber, _, PySem.F.excBase_ValueError, TE4, PySem.W.mg_of X G cl4, a_E_BadNumber, t_E_BadNumber, okE_BadNumber F_E_BadNumber TE4 no4, b_E_BadNumber⟩
  have R_TooGreat : RsD l.prog w K mg base "TooGreat" (a.ec.of .great) "most" := ⟨"OverflowError", "OverflowError.__new__", "OverflowError.__init__", bmO, f_E_TooGreat, _, PySem.F.excBase_OverflowError, TE13, PySem.W.mg_of X G cl13, a_E_TooGreat, t_E_TooGreat, okE_TooGreat F_E_TooGreat TE13 no13, b_E_TooGreat⟩
  have FBm : Df K mg "_law_mixed" sMixed f__law_mixed _ := ⟨F__law_mixed, PySem.W.mg_of X G a__law_mixed⟩
  have FBf : Df K mg "_law_folded" sFolded f__law_folded _ := ⟨F__law_folded, PySem.W.mg_of X G a__law_folded⟩
  have FBd : Df K mg "_law_draw" sDraw f__law_draw _ := ⟨F__law_draw, PySem.W.mg_of X G a__law_draw⟩
  have FBb : Df K mg "_law_begun" sBegun f__law_begun _ := ⟨F__law_begun, PySem.W.mg_of X G a__law_begun⟩
  have Gmx := ok_mixedE (P := l.prog) (w := w) (base := base) B FBm
  have Gdr := ok_drawE (P := l.prog) (w := w) (base := base) B FBd FBm b__law_mixed Gmx
  have Gfo := ok_folded (P := l.prog) (w := w) (base := base) B FBf
  have Gbe := ok_begun (P := l.prog) (w := w) (base := base) FBb FBf b__law_folded Gfo
  have D__law_draw : Fd l.prog w K mg base "_law_draw" 2 ["m", "limit"] (S__law_draw a) := ⟨_, _, fnD_draw Gdr, FBd.g, FBd.fn.kp, b__law_draw⟩
  have D_Word_eq := d_Word_eq (P := l.prog) (w := w) T F_Word_eq a_Word_eq i_Word_eq b_Word_eq
  have D__law_size := d__law_size (P := l.prog) (w := w) T F__law_size (PySem.W.mg_of X G a__law_size) b__law_size D__law_draw
  have D__law_letters := d__law_letters (P := l.prog) (w := w) T F__law_letters (PySem.W.mg_of X G a__law_letters) b__law_letters D__law_draw
  have D_is_between := d_is_between (P := l.prog) (w := w) T F_is_between (PySem.W.mg_of X G a_is_between) b_is_between
  have D_check_size := d_check_size (P := l.prog) (w := w) T F_check_size (PySem.W.mg_of X G a_check_size) b_check_size R_BadSize D_is_between
  have D_is_listing := d_is_listing (P := l.prog) (w := w) T F_is_listing (PySem.W.mg_of X G a_is_listing) b_is_listing
  have D_check_letters := d_check_letters (P := l.prog) (w := w) T F_check_letters (PySem.W.mg_of X G a_check_letters) b_check_letters R_BadLetters R_TooGreat D_is_between D_is_listing
  have D_Word_init := d_Word_init (P := l.prog) (w := w) T F_Word_init ⟨mk_Word, a_Word_init, i_Word_init, kc_Word⟩ b_Word_init D_check_letters D_check_size
  have D__law_is_word := d__law_is_word (P := l.prog) (w := w) T F__law_is_word (PySem.W.mg_of X G a__law_is_word) b__law_is_word
  have D_Word_add := d_Word_add (P := l.prog) (w := w) T F_Word_add a_Word_add i_Word_add sf_Word rr_Word__add__ b_Word_add D_Word_init R_OtherSize R_TooGreat
  have D__law_both_right := d__law_both_right (P := l.prog) (w := w) T TB_P__law_both_right F__law_both_right (PySem.W.mg_of X G a__law_both_right) b__law_both_right D_Word_add D__law_is_word
  have D__law_like := d__law_like (P := l.prog) (w := w) T F__law_like (PySem.W.mg_of X G a__law_like) b__law_like
  have D_is_whole := d_is_whole (P := l.prog) (w := w) T F_is_whole (PySem.W.mg_of X G a_is_whole) b_is_whole
  have D_Word_mul := d_Word_mul (P := l.prog) (w := w) T F_Word_mul a_Word_mul i_Word_mul sf_Word rr_Word__mul__ b_Word_mul D_Word_init R_BadNumber R_TooGreat D_is_whole
  have D_Word_len := d_Word_len (P := l.prog) (w := w) T F_Word_len a_Word_len i_Word_len b_Word_len
  have D_Word_getitem := d_Word_getitem (P := l.prog) (w := w) T F_Word_getitem a_Word_getitem i_Word_getitem nq_Word b_Word_getitem R_BadNumber D_is_between
  have D__law_places_right := d__law_places_right (P := l.prog) (w := w) T TB_P__law_places_right F__law_places_right (PySem.W.mg_of X G a__law_places_right) b__law_places_right D_Word_getitem D_Word_len D__law_draw D__law_like
  have D__law_times_right := d__law_times_right (P := l.prog) (w := w) T TB_P__law_times_right F__law_times_right (PySem.W.mg_of X G a__law_times_right) b__law_times_right D_Word_len D_Word_mul D__law_draw D__law_is_word D__law_like
  exact d_law (P := l.prog) (w := w) T F_law b_law D_Word_add D_Word_eq D_Word_init D_Word_mul D__law_both_right D__law_draw D__law_is_word D__law_letters D__law_like D__law_places_right D__law_size D__law_times_right FBb b__law_begun Gbe (law_pass (a := a) (tabOk_of nd (List.mem_of_getElem? (i := 2) rfl)) (tabOk_of nd (List.mem_of_getElem? (i := 1) rfl)) (tabOk_of nd (List.mem_of_getElem? (i := 0) rfl)))
theorem walk {l : PySem.W.OpenLaw} {q : Program} {loose : List Str} {XP : (Str → Option Value) → Heap → Prop} {YP : World → Heap → Prop} {d : DefRec} {K : Params → PySem.W.Frag} (hn : l.most = some 63) (hdf : d.params.defaults = []) (hi : PyProof.Rows.importsNone q = true)
    (hY : ∀ (w : World) (h : Heap), YP w h → (K w.params).In h)
    (F : ∀ (w : World) (mg : Str → Option Value) (fa : Addr) (h : Heap), YP w h → (K w.params).In h → h.Ns mainGlobals mg → mg d.name = some (.ref fa) → TellsS l w (K w.params) 10 "script" (fun cs => spLawD (K w.params) (TlOf cs)) mg fa h) :
    PySem.W.WalkO q loose XP YP l.row.toRowW d [] (fun f vs => PySem.call f vs) :=
  LwE.walkGS (n := 63) (k := 10) (x := "script") (sp := fun w cs => spLawD (K w.params) (TlOf cs)) hn (by decide) hdf ⟨rfl, by decide, by decide⟩ hi hY F fun _ _ a cs ns hl hT hS => ⟨a, ns, rfl, hS.sq, hl, (fun p hp => by
    obtain ⟨c, hc, e⟩ := List.mem_map.mp (List.of_mem_zip hp).1
    rw [← e]
    exact TabS.nil (hT c hc)), fun _ => rfl⟩
end Dg
open PySem PySem.W PyProof.Rows
set_option maxRecDepth 100000 in
set_option maxHeartbeats 0 in
theorem PySem.Challenge.cw_liftwords_k02_words_as_rows_holds : PySem.Challenge.rw_liftwords_k02_words_as_rows.Holds := by
  w_on; o_law; k_head; (case hw => w_witness2)
  k_fill
  refine Dg.walk (l := PySem.Challenge.rw_liftwords_k02_words_as_rows) rfl rfl (by first | rfl | kernel_rfl | decide +kernel) (fun w h Y => PySem.W.km_in_of Y) ?F
  case F =>
    intro w mg fa h Y KX G hmg
    refine' Dg.all_mk KX G hmg ?tab_P__law_both_right ?tab_P__law_times_right ?tab_P__law_places_right ?aC_Word ?cl0 ?cl1 ?cl2 ?cl3 ?cl4 ?cl5 ?cl6 ?cl7 ?cl8 ?cl9 ?cl10 ?cl11 ?cl12 ?cl13 ?a__law_mixed ?l__law_mixed ?c_c_law_mixed ?k__law_mixed ?a__law_folded ?l__law_folded ?c_c_law_folded ?k__law_folded ?a__law_draw ?l__law_draw ?c_c_law_draw ?k__law_draw ?a__law_begun ?l__law_begun ?c_c_law_begun ?k__law_begun ?a__law_heard ?l__law_heard ?c_c_law_heard ?k__law_heard ?a_Word_eq ?i_Word_eq ?l_Word_eq ?c_cWord_eq ?k_Word_eq ?a__law_size ?l__law_size ?c_c_law_size ?k__law_size ?a__law_letters ?l__law_letters ?c_c_law_letters ?k__law_letters ?a_is_between ?l_is_between ?c_cis_between ?k_is_between ?a_check_size ?l_check_size ?c_ccheck_size ?k_check_size ?a_is_listing ?l_is_listing ?c_cis_listing ?k_is_listing ?a_check_letters ?l_check_letters ?c_ccheck_letters ?k_check_letters ?a_Word_init ?i_Word_init ?l_Word_init ?c_cWord_init ?k_Word_init ?a__law_is_word ?l__law_is_word ?c_c_law_is_word ?k__law_is_word ?a_Word_add ?i_Word_add ?l_Word_add ?c_cWord_add ?k_Word_add ?a__law_both_right ?l__law_both_right ?c_c_law_both_right ?k__law_both_right ?a__law_like ?l__law_like ?c_c_law_like ?k__law_like ?a_is_whole ?l_is_whole ?c_cis_whole ?k_is_whole ?a_Word_mul ?i_Word_mul ?l_Word_mul ?c_cWord_mul ?k_Word_mul ?a_Word_len ?i_Word_len ?l_Word_len ?c_cWord_len ?k_Word_len ?a_Word_getitem ?i_Word_getitem ?l_Word_getitem ?c_cWord_getitem ?k_Word_getitem ?a__law_places_right ?l__law_places_right ?c_c_law_places_right ?k__law_places_right ?a__law_times_right ?l__law_times_right ?c_c_law_times_right ?k__law_times_right ?a_law ?l_law ?c_claw ?k_law ?a_E_BadSize ?t_E_BadSize ?l_E_BadSize ?c_cE_BadSize ?k_E_BadSize ?a_E_BadLetters ?t_E_BadLetters ?l_E_BadLetters ?c_cE_BadLetters ?k_E_BadLetters ?a_E_BadNumber ?t_E_BadNumber ?l_E_BadNumber ?c_cE_BadNumber ?k_E_BadNumber ?a_E_TooGreat ?t_E_TooGreat ?l_E_TooGreat ?c_cE_TooGreat ?k_E_TooGreat ?pg_Word ?hd_Word ?po_Word ?sa_Word ?mk_Word ?kc_Word ?n_Word_letters ?n_Word_size ?nq_Word ?sf_Word ?rr_Word__add__ ?rr_Word__mul__ ?ca_Word ?cm_Word ?ne_Word ?ic_Word ?ty_Word ?sb_Word_bool ?sb_Word_int ?sb_Word_str ?sb_Word_tuple ?sb_Word_list ?sb_Word_dict ?cn ?ct ?num_LEAST_SIZE ?num_MOST_LETTERS ?num_MOST_SIZE ?z_isinstance ?z_int ?z_bool ?z_list ?z_tuple ?z_len ?z_range ?z_enumerate ?z_sorted ?z_min ?z_repr ?z_any ?z_max ?z_abs ?z_zip ?z_ValueError ?z_str ?z_sum ?z_all ?z_dict ?ic0 ?ty0 ?ic1 ?ty1 ?ic2 ?ty2 ?ic3 ?ty3 ?ic4 ?ty4 ?ic5 ?ty5 ?ic6 ?ty6 ?ic7 ?ty7 ?ic8 ?ty8 ?ic9 ?ty9 ?ic10 ?ty10 ?ic11 ?ty11 ?ic12 ?ty12 ?ic13 ?ty13 ?eb0 ?eb1 ?eb2 ?eb4 ?eb10 ?eb12 ?eb13 ?xl1 ?sa1 ?ga1 ?gg1 ?hd1 ?ca1 ?cm1 ?kq1 ?no1 ?su1_0 ?su1_1 ?su1_2 ?su1_3 ?su1_4 ?su1_5 ?su1_6 ?su1_7 ?su1_8 ?su1_9 ?su1_10 ?su1_11 ?su1_12 ?su1_13 ?ve1 ?xl2 ?sa2 ?ga2 ?gg2 ?hd2 ?ca2 ?cm2 ?kq2 ?no2 ?su2_0 ?su2_1 ?su2_2 ?su2_3 ?su2_4 ?su2_5 ?su2_6 ?su2_7 ?su2_8 ?su2_9 ?su2_10 ?su2_11 ?su2_12 ?su2_13 ?ve2 ?xl4 ?sa4 ?ga4 ?gg4 ?hd4 ?ca4 ?cm4 ?kq4 ?no4 ?su4_0 ?su4_1 ?su4_2 ?su4_3 ?su4_4 ?su4_5 ?su4_6 ?su4_7 ?su4_8 ?su4_9 ?su4_10 ?su4_11 ?su4_12 ?su4_13 ?ve4 ?xl13 ?sa13 ?ga13 ?gg13 ?hd13 ?ca13 ?cm13 ?kq13 ?no13 ?su13_0 ?su13_1 ?su13_2 ?su13_3 ?su13_4 ?su13_5 ?su13_6 ?su13_7 ?su13_8 ?su13_9 ?su13_10 ?su13_11 ?su13_12 ?su13_13 ?ve13 ?xi10 ?ga10 ?gg10 ?hd10 ?ca10 ?cm10 ?kq10 ?su10_0 ?su10_1 ?su10_2 ?su10_3 ?su10_4 ?su10_5 ?su10_6 ?su10_7 ?su10_8 ?su10_9 ?su10_10 ?su10_11 ?su10_12 ?su10_13 ?ve10 ?nd ?out_P__law_both_right ?hdT_P__law_both_right ?out_P__law_times_right ?hdT_P__law_times_right ?out_P__law_places_right ?hdT_P__law_places_right
    (case tab_P__law_both_right => exact (List.forall_mem_cons.mp (PySem.W.km_tabs_of Y)).1)
    (case tab_P__law_times_right => exact (List.forall_mem_cons.mp (List.forall_mem_cons.mp (PySem.W.km_tabs_of Y)).2).1)
    (case tab_P__law_places_right => exact (List.forall_mem_cons.mp (List.forall_mem_cons.mp (List.forall_mem_cons.mp (PySem.W.km_tabs_of Y)).2).2).1)
    (case aC_Word => k_is)
    (case cl0 => k_is)
    (case cl1 => k_is)
    (case cl2 => k_is)
    (case cl3 => k_is)
    (case cl4 => k_is)
    (case cl5 => k_is)
    (case cl6 => k_is)
    (case cl7 => k_is)
    (case cl8 => k_is)
    (case cl9 => k_is)
    (case cl10 => k_is)
    (case cl11 => k_is)
    (case cl12 => k_is)
    (case cl13 => k_is)
    (case a__law_mixed => k_is)
    (case l__law_mixed => k_is)
    (case c_c_law_mixed => k_is)
    (case k__law_mixed => k_is)
    (case a__law_folded => k_is)
    (case l__law_folded => k_is)
    (case c_c_law_folded => k_is)
    (case k__law_folded => k_is)
    (case a__law_draw => k_is)
    (case l__law_draw => k_is)
    (case c_c_law_draw => k_is)
    (case k__law_draw => k_is)
    (case a__law_begun => k_is)
    (case l__law_begun => k_is)
    (case c_c_law_begun => k_is)
    (case k__law_begun => k_is)
    (case a__law_heard => k_is)
    (case l__law_heard => k_is)
    (case c_c_law_heard => k_is)
    (case k__law_heard => k_is)
    (case a_Word_eq => k_is)
    (case i_Word_eq => k_is)
    (case l_Word_eq => k_is)
    (case c_cWord_eq => k_is)
    (case k_Word_eq => k_is)
    (case a__law_size => k_is)
    (case l__law_size => k_is)
    (case c_c_law_size => k_is)
    (case k__law_size => k_is)
    (case a__law_letters => k_is)
    (case l__law_letters => k_is)
    (case c_c_law_letters => k_is)
    (case k__law_letters => k_is)
    (case a_is_between => k_is)
    (case l_is_between => k_is)
    (case c_cis_between => k_is)
    (case k_is_between => k_is)
    (case a_check_size => k_is)
    (case l_check_size => k_is)
    (case c_ccheck_size => k_is)
    (case k_check_size => k_is)
    (case a_is_listing => k_is)
    (case l_is_listing => k_is)
    (case c_cis_listing => k_is)
    (case k_is_listing => k_is)
    (case a_check_letters => k_is)
    (case l_check_letters => k_is)
    (case c_ccheck_letters => k_is)
    (case k_check_letters => k_is)
    (case a_Word_init => k_is)
    (case i_Word_init => k_is)
    (case l_Word_init => k_is)
    (case c_cWord_init => k_is)
    (case k_Word_init => k_is)
    (case a__law_is_word => k_is)
    (case l__law_is_word => k_is)
    (case c_c_law_is_word => k_is)
    (case k__law_is_word => k_is)
    (case a_Word_add => k_is)
    (case i_Word_add => k_is)
    (case l_Word_add => k_is)
    (case c_cWord_add => k_is)
    (case k_Word_add => k_is)
    (case a__law_both_right => k_is)
    (case l__law_both_right => k_is)
    (case c_c_law_both_right => k_is)
    (case k__law_both_right => k_is)
    (case a__law_like => k_is)
    (case l__law_like => k_is)
    (case c_c_law_like => k_is)
    (case k__law_like => k_is)
    (case a_is_whole => k_is)
    (case l_is_whole => k_is)
    (case c_cis_whole => k_is)
    (case k_is_whole => k_is)
    (case a_Word_mul => k_is)
    (case i_Word_mul => k_is)
    (case l_Word_mul => k_is)
    (case c_cWord_mul => k_is)
    (case k_Word_mul => k_is)
    (case a_Word_len => k_is)
    (case i_Word_len => k_is)
    (case l_Word_len => k_is)
    (case c_cWord_len => k_is)
    (case k_Word_len => k_is)
    (case a_Word_getitem => k_is)
    (case i_Word_getitem => k_is)
    (case l_Word_getitem => k_is)
    (case c_cWord_getitem => k_is)
    (case k_Word_getitem => k_is)
    (case a__law_places_right => k_is)
    (case l__law_places_right => k_is)
    (case c_c_law_places_right => k_is)
    (case k__law_places_right => k_is)
    (case a__law_times_right => k_is)
    (case l__law_times_right => k_is)
    (case c_c_law_times_right => k_is)
    (case k__law_times_right => k_is)
    (case a_law => k_is)
    (case l_law => k_is)
    (case c_claw => k_is)
    (case k_law => k_is)
    (case a_E_BadSize => k_is)
    (case t_E_BadSize => k_is)
    (case l_E_BadSize => k_is)
    (case c_cE_BadSize => k_is)
    (case k_E_BadSize => k_is)
    (case a_E_BadLetters => k_is)
    (case t_E_BadLetters => k_is)
    (case l_E_BadLetters => k_is)
    (case c_cE_BadLetters => k_is)
    (case k_E_BadLetters => k_is)
    (case a_E_BadNumber => k_is)
    (case t_E_BadNumber => k_is)
    (case l_E_BadNumber => k_is)
    (case c_cE_BadNumber => k_is)
    (case k_E_BadNumber => k_is)
    (case a_E_TooGreat => k_is)
    (case t_E_TooGreat => k_is)
    (case l_E_TooGreat => k_is)
    (case c_cE_TooGreat => k_is)
    (case k_E_TooGreat => k_is)
    (case pg_Word => k_is)
    (case hd_Word => k_is)
    (case po_Word => k_is)
    (case sa_Word => k_is)
    (case mk_Word => k_is)
    (case kc_Word => k_is)
    (case n_Word_letters => k_is)
    (case n_Word_size => k_is)
    (case nq_Word => k_is)
    (case sf_Word => k_is)
    (case rr_Word__add__ => k_is)
    (case rr_Word__mul__ => k_is)
    (case ca_Word => k_is)
    (case cm_Word => k_is)
    (case ne_Word => k_is)
    (case ic_Word => k_is)
    (case ty_Word => k_is)
    (case sb_Word_bool => k_is)
    (case sb_Word_int => k_is)
    (case sb_Word_str => k_is)
    (case sb_Word_tuple => k_is)
    (case sb_Word_list => k_is)
    (case sb_Word_dict => k_is)
    (case cn => k_is)
    (case ct => k_is)
    (case num_LEAST_SIZE => k_is)
    (case num_MOST_LETTERS => k_is)
    (case num_MOST_SIZE => k_is)
    (case z_isinstance => k_is)
    (case z_int => k_is)
    (case z_bool => k_is)
    (case z_list => k_is)
    (case z_tuple => k_is)
    (case z_len => k_is)
    (case z_range => k_is)
    (case z_enumerate => k_is)
    (case z_sorted => k_is)
    (case z_min => k_is)
    (case z_repr => k_is)
    (case z_any => k_is)
    (case z_max => k_is)
    (case z_abs => k_is)
    (case z_zip => k_is)
    (case z_ValueError => k_is)
    (case z_str => k_is)
    (case z_sum => k_is)
    (case z_all => k_is)
    (case z_dict => k_is)
    (case ic0 => k_is)
    (case ty0 => k_is)
    (case ic1 => k_is)
    (case ty1 => k_is)
    (case ic2 => k_is)
    (case ty2 => k_is)
    (case ic3 => k_is)
    (case ty3 => k_is)
    (case ic4 => k_is)
    (case ty4 => k_is)
    (case ic5 => k_is)
    (case ty5 => k_is)
    (case ic6 => k_is)
    (case ty6 => k_is)
    (case ic7 => k_is)
    (case ty7 => k_is)
    (case ic8 => k_is)
    (case ty8 => k_is)
    (case ic9 => k_is)
    (case ty9 => k_is)
    (case ic10 => k_is)
    (case ty10 => k_is)
    (case ic11 => k_is)
    (case ty11 => k_is)
    (case ic12 => k_is)
    (case ty12 => k_is)
    (case ic13 => k_is)
    (case ty13 => k_is)
    (case eb0 => k_is)
    (case eb1 => k_is)
    (case eb2 => k_is)
    (case eb4 => k_is)
    (case eb10 => k_is)
    (case eb12 => k_is)
    (case eb13 => k_is)
    (case xl1 => k_is)
    (case sa1 => k_is)
    (case ga1 => k_is)
    (case gg1 => k_is)
    (case hd1 => k_is)
    (case ca1 => k_is)
    (case cm1 => k_is)
    (case kq1 => k_is)
    (case no1 => k_is)
    (case su1_0 => k_is)
    (case su1_1 => k_is)
    (case su1_2 => k_is)
    (case su1_3 => k_is)
    (case su1_4 => k_is)
    (case su1_5 => k_is)
    (case su1_6 => k_is)
    (case su1_7 => k_is)
    (case su1_8 => k_is)
    (case su1_9 => k_is)
    (case su1_10 => k_is)
    (case su1_11 => k_is)
    (case su1_12 => k_is)
    (case su1_13 => k_is)
    (case ve1 => k_is)
    (case xl2 => k_is)
    (case sa2 => k_is)
    (case ga2 => k_is)
    (case gg2 => k_is)
    (case hd2 => k_is)
    (case ca2 => k_is)
    (case cm2 => k_is)
    (case kq2 => k_is)
    (case no2 => k_is)
    (case su2_0 => k_is)
    (case su2_1 => k_is)
    (case su2_2 => k_is)
    (case su2_3 => k_is)
    (case su2_4 => k_is)
    (case su2_5 => k_is)
    (case su2_6 => k_is)
    (case su2_7 => k_is)
    (case su2_8 => k_is)
    (case su2_9 => k_is)
    (case su2_10 => k_is)
    (case su2_11 => k_is)
    (case su2_12 => k_is)
    (case su2_13 => k_is)
    (case ve2 => k_is)
    (case xl4 => k_is)
    (case sa4 => k_is)
    (case ga4 => k_is)
    (case gg4 => k_is)
    (case hd4 => k_is)
    (case ca4 => k_is)
    (case cm4 => k_is)
    (case kq4 => k_is)
    (case no4 => k_is)
    (case su4_0 => k_is)
    (case su4_1 => k_is)
    (case su4_2 => k_is)
    (case su4_3 => k_is)
    (case su4_4 => k_is)
    (case su4_5 => k_is)
    (case su4_6 => k_is)
    (case su4_7 => k_is)
    (case su4_8 => k_is)
    (case su4_9 => k_is)
    (case su4_10 => k_is)
    (case su4_11 => k_is)
    (case su4_12 => k_is)
    (case su4_13 => k_is)
    (case ve4 => k_is)
    (case xl13 => k_is)
    (case sa13 => k_is)
    (case ga13 => k_is)
    (case gg13 => k_is)
    (case hd13 => k_is)
    (case ca13 => k_is)
    (case cm13 => k_is)
    (case kq13 => k_is)
    (case no13 => k_is)
    (case su13_0 => k_is)
    (case su13_1 => k_is)
    (case su13_2 => k_is)
    (case su13_3 => k_is)
    (case su13_4 => k_is)
    (case su13_5 => k_is)
    (case su13_6 => k_is)
    (case su13_7 => k_is)
    (case su13_8 => k_is)
    (case su13_9 => k_is)
    (case su13_10 => k_is)
    (case su13_11 => k_is)
    (case su13_12 => k_is)
    (case su13_13 => k_is)
    (case ve13 => k_is)
    (case xi10 => k_exc)
    (case ga10 => k_is)
    (case gg10 => k_is)
    (case hd10 => k_is)
    (case ca10 => k_is)
    (case cm10 => k_is)
    (case kq10 => k_is)
    (case su10_0 => k_is)
    (case su10_1 => k_is)
    (case su10_2 => k_is)
    (case su10_3 => k_is)
    (case su10_4 => k_is)
    (case su10_5 => k_is)
    (case su10_6 => k_is)
    (case su10_7 => k_is)
    (case su10_8 => k_is)
    (case su10_9 => k_is)
    (case su10_10 => k_is)
    (case su10_11 => k_is)
    (case su10_12 => k_is)
    (case su10_13 => k_is)
    (case ve10 => k_is)
    (case nd => first | decide | simp)
    (case out_P__law_both_right => first | rfl | kernel_rfl)
    (case hdT_P__law_both_right => first | rfl | kernel_rfl)
    (case out_P__law_times_right => first | rfl | kernel_rfl)
    (case hdT_P__law_times_right => first | rfl | kernel_rfl)
    (case out_P__law_places_right => first | rfl | kernel_rfl)
    (case hdT_P__law_places_right => first | rfl | kernel_rfl)


