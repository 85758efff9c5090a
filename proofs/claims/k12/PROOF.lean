import PyProof.Rows.All
import Wide.All
import OpenK.AllK
import Wide.FinOn
import HandS.ForMost
import HandS.ForExc
import HandS.IsInst
import HandS.ExcField
import KE.KExcIs
import KE.KTryMore
import HandS.Conv
import HandS.Sort
import HandS.Style
import HandS.Flow
import HandS.Lambda
import HandS.TupAny
import HandS.TupMul
import HandS.SortInts
import KE.GoesEnum
import HandS.Exc
import HandS.ExcOwn
import HandS.WordsExc
import HandS.ExcInit
import KE.KExcInit
import PyProof.ExcBaseAll.OverflowError
import PyProof.ExcBaseAll.RuntimeError
import HandS.Zip
import KE.KDflt
import HandS.SlotsOwn
import PyProof.InstNe
import PyProof.ReprRoads
import HandS.SortRule
import PyProof.NeKinds
import PyProof.EqKinds
import KE.KEqDict
import PyProof.CallFns
import HandS.Wide
import HandS.Iter
import HandS.NoneIn
import HandS.EndTab
import HandS.SetFor
import HandS.More
import KE.GoesMore
import KE.GoesZip
import HandS.Codes
import KE.KTupSum
import HandS.OwnEq
import PyProof.P3Eq
import PySem.Challenge.RW_liftwords_k12_letters_inserted
set_option Elab.async false
set_option linter.all false
set_option maxRecDepth 100000
namespace LwE
open PySem PySem.Spec PyProof.Rows L2
def ExK (cls : Value) (d : Option Addr) (a : Addr) : HO := .ext fun h => ∃ (oe : Obj) (vs : Array Value), h.get? a = some oe ∧ Zc cls d oe ∧ oe.data = .fields vs
theorem exK_at {P : Program} {w : World} {H : Hp} {h : Heap} {a : Addr} {cls : Value} {d : Option Addr} (hok : HOk P w H h) (e : H a = some (ExK cls d a)) : ∃ (oe : Obj) (vs : Array Value), h.get? a = some oe ∧ Zc cls d oe ∧ oe.data = .fields vs :=
  (show ObjOk P w H h a (ExK cls d a) from hok a _ e).1
section
variable {X : Cx} {pins : List (Addr × Obj)} {σ : L2.St} {H : Hp} {s : Shared}
theorem inv_track {a : Addr} {o : HO} (I : Inv X pins σ H s) (ok : ObjOk X.prog X.w (upd H a o) s.heap a o) (na : H a = none) (nL : a ≠ X.env.locals) (nC : ∀ x c, X.env.cells.lookup x = some c → c ≠ a)
    (new : X.s_0.heap.get? a = none) (np : ∀ p ∈ X.pn ++ pins, p.1 ≠ a) : Inv X pins σ (upd H a o) s := by
  have old : ∀ {b u}, H b = some u → upd H a o b = some u := fun {b u} e => by
    rw [upd_ne (ne_of_none e na)]
    exact e
  have out : ∀ {b}, b ≠ a → H b = none → upd H a o b = none := fun {b} n e => by
    rw [upd_ne n]
    exact e
  have U : Un X.fs X.ex X.H_0 (upd H a o) X.s_0.heap s.heap :=
    { keep := I.base.keep, slot := I.base.slot, there := I.base.there
      free := fun b u e n hx => out (fun z => by rw [z, new] at e; cases e) (I.base.free b u e n hx)
      tups := fun b xs e => old (I.base.tups b xs e)
      frzs := fun b u v e => old (I.base.frzs b u v e)
      tbls := fun b ps e => let ⟨more, q⟩ := I.base.tbls b ps e; ⟨more, old q⟩ }
  refine ⟨I.ok, I.os, I.bare, U, I.loc, I.cell, out nL.symm I.free, fun x c e => out (nC x c e) (I.freeC x c e), fun p hp => ?_, fun b u e => ?_, I.len⟩
  · obtain ⟨h1, h2, h3⟩ := I.pin p hp
    exact ⟨h1, out (np p hp) h2, h3⟩
  · by_cases hb : b = a
    · rw [hb] at e ⊢
      rw [upd_same] at e
      cases e
      exact ok
    · rw [upd_ne hb] at e
      exact (I.hok b u e).stay (fun _ _ _ q => q) (fun _ q => old q) fun _ _ q => old q
theorem inv_hold {a : Addr} {oe : Obj} {vs : Array Value} {cls : Value} {d : Option Addr} (I : Inv X pins σ H s) (ha : s.heap.get? a = some oe) (hz : Zc cls d oe) (hd : oe.data = .fields vs) (na : H a = none)
    (nL : a ≠ X.env.locals) (new : X.s_0.heap.get? a = none) (np : ∀ p ∈ X.pn ++ pins, p.1 ≠ a) : Inv X pins σ (upd H a (ExK cls d a)) s := by
  refine inv_track I ⟨⟨oe, vs, ha, hz, hd⟩, ⟨oe, ha⟩, fun _ _ ⟨o, v, q, r⟩ k => ⟨o, v, k o q, r⟩⟩ na nL (fun x c e z => ?_) new np
  obtain ⟨v, o, ho, hv⟩ := I.cell x c e
  rw [z, ha] at ho
  cases ho
  rw [hd] at hv
  cases hv
theorem flyingZ_keeps {B h h' : Heap} {l : List Env} {a : Addr} {Z : Obj → Prop} (f : HandSPX.FlyingZ B l a Z h) (k : ∀ b o, h.get? b = some o → h'.get? b = some o) : HandSPX.FlyingZ B l a Z h' := by
  obtain ⟨f1, f2, f3, oe, vs, T, oT, ts, g1, g2, g3, g4, g5, g6, g7, g8⟩ := f
  exact ⟨fun b o q => k _ _ (f1 b o q), f2, f3.of_keeps fun b o q _ => ⟨o, k _ _ q, rfl⟩, oe, vs, T, oT, ts, k _ _ g1, g2, g3, g4, g5, g6, k _ _ g7, g8⟩
end
def wHold (K : PySem.W.Frag) (cs : List Value) (i : Nat) (ts : Addr → Value → Option Addr → TS) (D : Ends) : WX := fun cls d σ H =>
  PySem.W.exmAny K cls cs = some true ∧ ∀ a, H a = none → ts a cls d { nx := fun σ' H' => D.nx (σ'.set i none) (upd H' a (ExK cls d a)), rt := fun _ _ => False, bk := fun _ _ => False, ct := fun _ _ => False } (σ.set i (some (.ref a))) H
section
variable {X : Cx} {x1 x2 x3 n : Str} {c1 c2 c3 : Value} {i : Nat} {body suite : List Stmt} {b₀ : Stmt} {q1 q2 q3 tp pos pos' : Pos} {kk : Nat} {tb : WX → TS} {ts : Addr → Value → Option Addr → TS}
theorem tup3_ok {pins : List (Addr × Obj)} {σ : L2.St} {H : Hp} {s : Shared} {Q : Value → Shared → Prop} {E : Value → Shared → Prop} (I : Inv X pins σ H s) (n1 : Gl X x1 ∧ X.mg x1 = some c1) (n2 : Gl X x2 ∧ X.mg x2 = some c2) (n3 : Gl X x3 ∧ X.mg x3 = some c3)
    (d1 : (x1 == ("__debug__" : Str)) = false) (d2 : (x2 == ("__debug__" : Str)) = false) (d3 : (x3 == ("__debug__" : Str)) = false)
    (h : Q (.ref s.heap.objs.size) { s with heap := s.heap.push { cls := .type "tuple", data := .seq [c1, c2, c3].toArray } }) : wpAny (model X.prog X.w) X.A (eval (.Tuple [.Name x1 q1, .Name x2 q2, .Name x3 q3] kk tp) X.env) Q E s := by
  refine wpAny_Tuple (wpAny_items_cons (ld_glob I n1.1 n1.2 (wpAny_items_cons (ld_glob I n2.1 n2.2 (wpAny_items_cons (ld_glob I n3.1 n3.2 (wpAny_items_nil ⟨?_, h⟩) d3)) d2)) d1))
  show 3 ≤ sizeLine
  decide
theorem ps_try_hold (hs : X.stack = X.env :: X.outer) (hf : X.env.frame = some X.env.locals) (hex : X.ex = []) (hN : X.N.Nodup) (hi : X.N[i]? = some n) (hln : X.env.kindOf n = some .local)
    (n1 : Gl X x1 ∧ X.mg x1 = some c1) (n2 : Gl X x2 ∧ X.mg x2 = some c2) (n3 : Gl X x3 ∧ X.mg x3 = some c3)
    (hb : ∀ (W : WX) (pn : List (Addr × Obj)) (xe : Value → Shared → Prop), Takes (X.tr pn xe) W → PassesOwn (model X.prog X.w) X.A X.env xe → PSs (X.tr pn xe) body (tb W))
    (hsu : ∀ (a : Addr) (oe : Obj) (cls : Value) (d : Option Addr) (pn : List (Addr × Obj)), Zc cls d oe → (∃ vs, oe.data = .fields vs) → PSs (X.suite a ((a, oe) :: pn)) (b₀ :: suite) (ts a cls d))
    (d1 : (x1 == ("__debug__" : Str)) = false := by decide) (d2 : (x2 == ("__debug__" : Str)) = false := by decide) (d3 : (x3 == ("__debug__" : Str)) = false := by decide) :
    PS X (.Try body [.ExceptHandler (some (.Tuple [.Name x1 q1, .Name x2 q2, .Name x3 q3] kk tp)) (some n) (b₀ :: suite) pos'] [] [] pos) (fun D σ H => tb (wHold X.K [c1, c2, c3] i ts D) D σ H) := by
  constructor
  intro pins s σ H D I h
  have ok := I.ok
  refine wpAny_Try_except (wpAny_mono ((hb (wHold X.K [c1, c2, c3] i ts D) (X.pn ++ pins) (fun e r => wpAny (model X.prog X.w) X.A (noteFrame e X.env) (fun _ r => wpAny (model X.prog X.w) X.A (setFlight e none) (fun _ r =>
      wpAny (model X.prog X.w) X.A (handleBy e X.env [.ExceptHandler (some (.Tuple [.Name x1 q1, .Name x2 q2, .Name x3 q3] kk tp)) (some n) (b₀ :: suite) pos']) (SP X pins D) X.xe r) X.xe r) X.xe r) ?_ PassesOwn.looking).run [] s σ H D (I.toTry _) h)
      (fun f r hr => ?_) fun _ _ z => z)
  · rintro u r ⟨a, B, sI, pins', σ', H', cls, d, rfl, J', nb, up, sky, na, os, ag, hit, yes⟩
    have J : Inv X pins σ' H' sI := J'.ofTry ok
    rw [show (X.tr (X.pn ++ pins) _).stack = X.env :: X.outer from hs] at sky
    have hfr : X.A.frames = some (X.env :: X.outer) := by rw [ok.frames, hs]
    show wpAny (model X.prog X.w) X.A (noteFrame (.ref a) X.env) _ _ _
    refine Sky.land Zc.steady hfr hf sky fun h3 fl up3 => ?_
    have I3 : Inv X pins σ' H' { r with heap := h3 } := J.landed nb fl.1 (up.trans up3) os ag
    obtain ⟨oe, vs, ge, ze, de⟩ := fl.there
    -- where a stands not
    have nfr : a ∉ frs (X.env :: X.outer) := fun hm => by
      obtain ⟨_, o, e, no⟩ := fl.2.2.1.mem hm
      rw [ge] at e
      cases e
      exact no _ de
    have nL : a ≠ X.env.locals := fun z => nfr (List.mem_filterMap.mpr ⟨X.env, List.mem_cons_self, by rw [hf, z]⟩)
    have nF : a ∉ X.fs := fun hm => by
      obtain ⟨e, he, q⟩ := List.mem_filterMap.mp hm
      exact nfr (List.mem_filterMap.mpr ⟨e, List.mem_cons_of_mem _ he, q⟩)
    have gone : sI.heap.get? a = none := by
      cases e : sI.heap.get? a with
      | none => rfl
      | some o =>
        have z := nb a o e (by rw [hs]; exact nfr)
        rw [fl.2.1] at z
        cases z
    have new : X.s_0.heap.get? a = none := by
      cases e : X.s_0.heap.get? a with
      | none => rfl
      | some o =>
        obtain ⟨o', z⟩ := J.base.there a o e (by rw [hex]; simp)
        rw [gone] at z
        cases z
    have np : ∀ p ∈ X.pn ++ pins, p.1 ≠ a := fun p hp z => by
      have := (J.pin p hp).1
      rw [z, gone] at this
      cases this
    have S3 := I3.suite ge de na nL nF
    -- the test
    refine wpAny_handleBy_cons (codeAny_handlers_test ?_) (by intro q; cases q)
    refine tup3_ok (X := X.suite a ((a, oe) :: (X.pn ++ pins))) S3 n1 n2 n3 d1 d2 d3 ?_
    have kp : ∀ b o, h3.get? b = some o → (h3.push { cls := .type "tuple", data := .seq [c1, c2, c3].toArray }).get? b = some o := fun _ _ z => Heap.get?_push_of_some _ z
    have ty : PySem.W.Looks (model X.prog X.w) h3 (typeOf (.ref a)) cls := fun _ _ _ _ k q => wpAny_typeOf_ref (k _ _ ge) (by rw [ze.1]; exact q)
    refine (PySem.W.exm_tup3 (M := model X.prog X.w) (I3.kIn.keeps kp) (ty.keeps kp) (Heap.get?_push_size h3 rfl) hit).here ?_
    have fl4 := flyingZ_keeps fl kp
    have up4 : h3.UpToSlots (h3.push { cls := .type "tuple", data := .seq [c1, c2, c3].toArray }) := Heap.UpToSlots.of_keeps kp
    -- the suite
    refine codeAny_handlers_suite_as (HandSPX.lands_againZ fl4 fun h5 fl5 up5 => ?_)
    have I5 : Inv X pins σ' H' { r with heap := h5 } := J.landed nb fl5.1 (((up.trans up3).trans up4).trans up5) os ag
    obtain ⟨oe5, vs5, ge5, ze5, de5⟩ := fl5.there
    refine store_ok (X := X.suite a ((a, oe5) :: (X.pn ++ pins))) (v := .ref a) (I5.suite ge5 de5 na nL nF) hN hi (.inl hln) rfl (fun s6 S6 => ?_) (.inr hln)
    refine wpAny_mono ((hsu a oe5 cls d (X.pn ++ pins) ze5 ⟨_, de5⟩).run [] s6 _ H' _ S6 (yes a na)) (fun f s7 hr => ?_) fun _ _ z => z.elim
    cases f with
    | next =>
      obtain ⟨σ7, H7, S7, q7⟩ := hr
      obtain ⟨p1, p2, p3, p4, _⟩ := S7.pin (a, oe5) (List.mem_append_left _ List.mem_cons_self)
      exact gone_ok (inv_hold (S7.unsuite ok) p1 ze5 de5 p2 p3 new np) hN hi hln fun s8 J8 => ⟨_, _, J8, q7⟩
    | brk =>
      obtain ⟨_, _, _, z⟩ := hr
      exact z.elim
    | cont =>
      obtain ⟨_, _, _, z⟩ := hr
      exact z.elim
    | ret u =>
      obtain ⟨_, _, _, _, _, z⟩ := hr
      exact z.elim
  · cases f with
    | next =>
      obtain ⟨σ', H', J', q⟩ := hr
      exact wpAny_execs_nil ⟨σ', H', J'.ofTry ok, q⟩
    | brk =>
      obtain ⟨σ', H', J', q⟩ := hr
      exact ⟨σ', H', J'.ofTry ok, q⟩
    | cont =>
      obtain ⟨σ', H', J', q⟩ := hr
      exact ⟨σ', H', J'.ofTry ok, q⟩
    | ret u =>
      obtain ⟨v, σ', H', J', rv, q⟩ := hr
      exact ⟨v, σ', H', J'.ofTry ok, rv, q⟩
end
structure HeldC (K : PySem.W.Frag) (C : Addr) : Prop where
  ga : PySem.W.findIn K (.ref C) "__getattribute__" = some (some (.builtin "BaseException.__getattribute__"))
  gg : PySem.W.findIn K (.ref C) "__getattr__" = some none
  exC : PySem.W.subIn K (.ref C) (.type "BaseException") = some true
  hd : PySem.W.hasDictIn K C = true
  ca : PySem.W.findIn K (.ref C) "__class__" = some (some (.builtin "object.__class__"))
  cm : PySem.W.mroIn K C (.type "object") = some true
structure HeldK (K : PySem.W.Frag) : Prop where
  cn : PySem.W.specialIn K (.builtin "object.__class__") "__get__" = some (some (.builtin "getset_descriptor.__get__"))
  ct : PySem.W.takesIn K (.builtin "object.__class__") = some true
def rIsHeld (K : PySem.W.Frag) : List V → Hp → VK → Prop := fun xs H Q => ∃ (a C : Addr) (d : Addr) (fs : List (Str × V)) (c : V) (u : Value) (b : Bool), xs = [.ref a, c] ∧ HeldC K C ∧ H a = some (ExK (.ref C) (some d) a) ∧ H d = some (.xd fs) ∧ ClsV c u ∧
  PySem.W.kitOne K (.ref C) u = some b ∧ Q (.bl b) H
section
variable {X : Cx}
theorem held_inst {pins : List (Addr × Obj)} {σ : L2.St} {H : Hp} {s : Shared} {a C d : Addr} {fs : List (Str × V)} (I : Inv X pins σ H s) (ha : H a = some (ExK (.ref C) (some d) a)) (hd : H d = some (.xd fs)) :
    ∃ (oe od : Obj) (mA : Str → Option Value), PySem.W.InstAt s.heap a oe C (some od) ∧ (∀ y, PySem.W.lookIn y od = some (mA y)) ∧ ∀ f, RelO (fs.lookup f) (mA f) := by
  obtain ⟨oe, vs, ge, ze, de⟩ := exK_at I.hok ha
  obtain ⟨mA, hns, hr⟩ := (show ObjOk X.prog X.w H s.heap d (.xd fs) from I.hok d _ hd)
  obtain ⟨od, ho, hl⟩ := lookIn_ns hns
  exact ⟨oe, od, mA, ⟨ge, ze.1, by unfold PySem.W.notCls; rw [de] <;> rfl, by rw [ze.2]; exact ho⟩, hl, hr⟩
theorem call_isHeld (T : HeldK X.K) : CallR X (.builtin "isinstance") (rIsHeld X.K) := by
  intro pins s σ H xs us Q I r h
  obtain ⟨a, C, d, fs, c, u, b, rfl, Cl, ha, hd, k, e, q⟩ := h
  obtain ⟨u1, u2, rfl, r1, r2⟩ := vals2 r
  have e2 := k.eq r2
  subst e2
  obtain rfl : u1 = Value.ref a := r1
  obtain ⟨oe, od, mA, J, _, _⟩ := held_inst I ha hd
  have hcl : (PySem.W.clsIn X.K C).isSome = true := by
    obtain ⟨cd, hc, _⟩ := PySem.W.any_some Cl.hd
    rw [hc]
    rfl
  exact PySem.W.kia_one (PySem.W.kitx_exc hcl Cl.ga Cl.gg Cl.exC Cl.ca T.cn T.ct Cl.cm) I.kIn J e (fun z => nomatch z) fun tk => ⟨.bl b, H, I.tok tk, rfl, q⟩
def tFldHeld (K : PySem.W.Frag) (f : Str) (te : TE) : TE := fun σ H Q => te σ H fun x H1 => ∃ (a C d : Addr) (fs : List (Str × V)) (v : V), x = .ref a ∧ HeldC K C ∧ PySem.W.findIn K (.ref C) f = some none ∧ H1 a = some (ExK (.ref C) (some d) a) ∧ H1 d = some (.xd fs) ∧ fs.lookup f = some v ∧ Q v H1
theorem pe_fldHeld {e : Expr} {te : TE} {pos : Pos} {f : Str} (he : PE X e te) (hb : attributeBase e f X.env (eval e X.env) = eval e X.env := by rfl) : PE X (.Attribute e f pos) (tFldHeld X.K f te) := by
  constructor
  intro pins s σ H Q I h
  refine attr_of hb (thn (he.run pins s σ H _ I h) fun u s1 hh => ?_)
  obtain ⟨x, H1, I1, rx, a, C, d, fs, v, rfl, Cl, hno, ha, hd, l, q⟩ := hh
  obtain rfl : u = Value.ref a := rx
  obtain ⟨oe, od, mA, J, hl, hr⟩ := held_inst I1 ha hd
  obtain ⟨u, hu, ru⟩ := RelO.some_of (v := v) (o := mA f) (by rw [← l]; exact hr f)
  exact HandSPX.exc_get I1.kIn J Cl.ga Cl.gg Cl.exC (PySem.W.findObj_own Cl.hd hno rfl (by rw [hl, hu])) (handed_of ru) ⟨v, H1, I1.tok _, ru, q⟩
end
end LwE
namespace DL
open PySem L2
inductive Dt where
  | non | bl (b : Bool) | int (i : Int) | str (x : Str) | drw | any (v : V)
  | tup (l : List Dt) | lst (l : List Dt) | obj (C : Addr) (ns : List Str) (l : List Dt)
  | dK (ks : List Key) (l : List Dt) | dT (ks : List (List Key)) (l : List Dt)
  | opq | exc (C : Addr) (f : Str) (d : Dt) | scr (ns : List Int)
structure Ix where
  m : Addr
  g : Addr
  c : Addr
  T : List (Addr × Str)
  o : Addr
def G (i : Ix) (b : Addr) : Prop := b = i.m ∨ b = i.g ∨ b = i.c ∨ ∃ p ∈ i.T, b = p.1
mutual
def Rep (K : PySem.W.Frag) (i : Ix) (F : Hp) : Dt → V → Prop
  | .non, v => v = .non
  | .bl b, v => v = .bl b
  | .int z, v => v = .int z
  | .str x, v => v = .str x
  | .drw, v => v = .ref i.m
  | .any u, v => v = u
  | .opq, _ => True
  | .scr ns, v => ∃ a, v = .ref a ∧ SqL K F a (ns.map V.int)
  | .exc C f d, v => ∃ a dd w, v = .ref a ∧ F a = some (LwE.ExK (.ref C) (some dd) a) ∧ F dd = some (.xd [(f, w)]) ∧ Rep K i F d w
  | .tup l, v => ∃ a vs, v = .ref a ∧ SqT K F a vs ∧ Reps K i F l vs
  | .lst l, v => ∃ a vs, v = .ref a ∧ F a = some (.lst vs) ∧ Reps K i F l vs
  | .obj C ns l, v => ∃ a dx gs, v = .ref a ∧ F a = some (.ins C dx gs) ∧ gs.map Prod.fst = ns ∧ Reps K i F l (gs.map Prod.snd)
  | .dK ks l, v => ∃ a kvs, v = .ref a ∧ F a = some (.dK kvs) ∧ kvs.map Prod.fst = ks ∧ Reps K i F l (kvs.map Prod.snd)
  | .dT ks l, v => ∃ a kvs, v = .ref a ∧ F a = some (.dT kvs) ∧ kvs.map Prod.fst = ks ∧ Reps K i F l (kvs.map Prod.snd)
def Reps (K : PySem.W.Frag) (i : Ix) (F : Hp) : List Dt → List V → Prop
  | [], vs => vs = []
  | d :: ds, vs => ∃ v r, vs = v :: r ∧ Rep K i F d v ∧ Reps K i F ds r
end
section
variable {K : PySem.W.Frag} {i : Ix} {F F' : Hp}
theorem sqL_same {a : Addr} {xs : List V} (e : Same F F') (h : SqL K F a xs) : SqL K F' a xs := by
  rcases h with (h | ⟨o, h⟩) | h
  · exact .inl (.inl (e _ _ h))
  · exact .inl (.inr ⟨o, e _ _ h⟩)
  · exact .inr h
theorem sqT_same {a : Addr} {xs : List V} (e : Same F F') (h : SqT K F a xs) : SqT K F' a xs := by
  rcases h with (h | ⟨o, h⟩) | h
  · exact .inl (.inl (e _ _ h))
  · exact .inl (.inr ⟨o, e _ _ h⟩)
  · exact .inr h
mutual
theorem Rep.same (e : Same F F') : ∀ (d : Dt) {v : V}, Rep K i F d v → Rep K i F' d v
  | .non, _, h => h
  | .bl _, _, h => h
  | .int _, _, h => h
  | .str _, _, h => h
  | .drw, _, h => h
  | .any _, _, h => h
  | .opq, _, h => h
  | .scr ns, _, ⟨a, h1, h2⟩ => ⟨a, h1, sqL_same e h2⟩
  | .exc C f d, _, ⟨a, dd, w, h1, h2, h3, h4⟩ => ⟨a, dd, w, h1, e _ _ h2, e _ _ h3, Rep.same e d h4⟩
  | .tup l, _, ⟨a, vs, h1, h2, h3⟩ => ⟨a, vs, h1, sqT_same e h2, Reps.same e l h3⟩
  | .lst l, _, ⟨a, vs, h1, h2, h3⟩ => ⟨a, vs, h1, e _ _ h2, Reps.same e l h3⟩
  | .obj C ns l, _, ⟨a, dx, gs, h1, h2, h3, h4⟩ => ⟨a, dx, gs, h1, e _ _ h2, h3, Reps.same e l h4⟩
  | .dK ks l, _, ⟨a, kvs, h1, h2, h3, h4⟩ => ⟨a, kvs, h1, e _ _ h2, h3, Reps.same e l h4⟩
  | .dT ks l, _, ⟨a, kvs, h1, h2, h3, h4⟩ => ⟨a, kvs, h1, e _ _ h2, h3, Reps.same e l h4⟩
theorem Reps.same (e : Same F F') : ∀ (l : List Dt) {vs : List V}, Reps K i F l vs → Reps K i F' l vs
  | [], _, h => h
  | d :: ds, _, ⟨v, r, h1, h2, h3⟩ => ⟨v, r, h1, Rep.same e d h2, Reps.same e ds h3⟩
end
theorem Reps.nil : Reps K i F [] [] := rfl
theorem Reps.cons {d : Dt} {ds : List Dt} {v : V} {vs : List V} (h : Rep K i F d v) (r : Reps K i F ds vs) : Reps K i F (d :: ds) (v :: vs) := ⟨v, vs, rfl, h, r⟩
theorem Reps.len : ∀ {l : List Dt} {vs : List V}, Reps K i F l vs → vs.length = l.length
  | [], _, h => by rw [show _ = [] from h]; rfl
  | d :: ds, _, ⟨v, r, h1, _, h3⟩ => by rw [h1]; show r.length + 1 = ds.length + 1; rw [Reps.len h3]
theorem Reps.append : ∀ {l m : List Dt} {vs us : List V}, Reps K i F l vs → Reps K i F m us → Reps K i F (l ++ m) (vs ++ us)
  | [], _, _, _, h, h' => by rw [show _ = [] from h]; exact h'
  | d :: ds, _, _, _, ⟨v, r, h1, h2, h3⟩, h' => by rw [h1]; exact .cons h2 (Reps.append h3 h')
theorem Reps.get : ∀ {l : List Dt} {vs : List V} {k : Nat} {d : Dt}, Reps K i F l vs → l[k]? = some d → ∃ v, vs[k]? = some v ∧ Rep K i F d v
  | [], _, _, _, _, e => by cases e
  | d :: ds, _, 0, _, ⟨v, r, h1, h2, h3⟩, e => by cases e; exact ⟨v, by rw [h1]; rfl, h2⟩
  | d :: ds, _, k + 1, _, ⟨v, r, h1, h2, h3⟩, e => by
    obtain ⟨w, e1, e2⟩ := Reps.get (k := k) h3 e
    exact ⟨w, by rw [h1]; exact e1, e2⟩
theorem Reps.set : ∀ {l : List Dt} {vs : List V} (k : Nat) {d : Dt} {v : V}, Reps K i F l vs → Rep K i F d v → Reps K i F (l.set k d) (vs.set k v)
  | [], _, _, _, _, h, _ => by rw [show _ = [] from h]; exact rfl
  | x :: ds, _, 0, _, _, ⟨v, r, h1, h2, h3⟩, hd => by rw [h1]; exact .cons hd h3
  | x :: ds, _, k + 1, _, _, ⟨v, r, h1, h2, h3⟩, hd => by rw [h1]; exact .cons h2 (Reps.set k h3 hd)
theorem Reps.take : ∀ {l : List Dt} {vs : List V} (k : Nat), Reps K i F l vs → Reps K i F (l.take k) (vs.take k)
  | [], _, k, h => by rw [show _ = [] from h]; simp; exact rfl
  | x :: ds, _, 0, ⟨v, r, h1, h2, h3⟩ => by rw [h1]; exact rfl
  | x :: ds, _, k + 1, ⟨v, r, h1, h2, h3⟩ => by rw [h1]; exact .cons h2 (Reps.take k h3)
theorem Reps.drop : ∀ {l : List Dt} {vs : List V} (k : Nat), Reps K i F l vs → Reps K i F (l.drop k) (vs.drop k)
  | [], _, k, h => by rw [show _ = [] from h]; simp; exact rfl
  | x :: ds, _, 0, h => h
  | x :: ds, _, k + 1, ⟨v, r, h1, h2, h3⟩ => by rw [h1]; exact Reps.drop k h3
theorem Reps.reverse : ∀ {l : List Dt} {vs : List V}, Reps K i F l vs → Reps K i F l.reverse vs.reverse
  | [], _, h => by rw [show _ = [] from h]; exact rfl
  | x :: ds, _, ⟨v, r, h1, h2, h3⟩ => by
    rw [h1, List.reverse_cons, List.reverse_cons]
    exact (Reps.reverse h3).append (.cons h2 .nil)
theorem Reps.ints : ∀ (l : List Int), Reps K i F (l.map .int) (l.map .int)
  | [] => rfl
  | x :: l => .cons rfl (Reps.ints l)
theorem Reps.of_ints : ∀ {l : List Int} {vs : List V}, Reps K i F (l.map .int) vs → vs = l.map V.int
  | [], _, h => h
  | x :: l, _, ⟨v, r, h1, h2, h3⟩ => by
    rw [h1, Reps.of_ints h3, show v = .int x from h2]
    rfl
end
structure MS where
  n : Int
  gs : List Int
  cs : List Int
  tabs : List (Addr × Str)
structure Exn where
  tag : Nat
  C : Addr
  f : Option (Str × Dt)
inductive Rs (α : Type) where
  | ok (a : α) (s : MS) | ex (e : Exn) (s : MS) | no
abbrev M (α : Type) := MS → Rs α
def M.ret {α : Type} (a : α) : M α := fun s => .ok a s
def M.bnd {α β : Type} (x : M α) (f : α → M β) : M β := fun s => match x s with
  | .ok a s' => f a s'
  | .ex e s' => .ex e s'
  | .no => .no
def M.no {α : Type} : M α := fun _ => .no
def M.rse {α : Type} (e : Exn) : M α := fun s => .ex e s
theorem M.bnd_ok {α β : Type} {x : M α} {f : α → M β} {a : α} {s s' : MS} (h : x s = .ok a s') : M.bnd x f s = f a s' := by
  unfold M.bnd
  rw [h]
inductive R where
  | val (d : Dt) | new (l : List Dt)
def R.d : R → Dt
  | .val d => d
  | .new l => .lst l
inductive Sl where
  | non | val (d : Dt) | own (l : List Dt) | ins (C : Addr) (ns : List Str) (l : List Dt) | nst (ls : List (List Dt))
def R.sl : R → Sl
  | .val d => .val d
  | .new l => .own l
abbrev Cells (l : List Int) : Prop := l.length = 64 ∧ ∀ x ∈ l, 0 ≤ x ∧ x < 2147483647
abbrev kC : Key := Sum.inr "cells"
abbrev kG : Key := Sum.inr "great"
abbrev kS : Key := Sum.inr "spot"
structure MR (i : Ix) (s : MS) (H : Hp) : Prop where
  hm : H i.m = some (.dK [(kC, .ref i.c), (kG, .ref i.g), (kS, .int s.n)])
  hc : H i.c = some (.lst (s.cs.map V.int))
  hg : H i.g = some (.lst (s.gs.map V.int))
  cc : Cells s.cs
  gl : s.gs.length ≤ 63
  ne : i.c ≠ i.g
  n0 : 0 ≤ s.n
  tb : LamX.Tabs i.T H
  tq : i.T = s.tabs
theorem MR.there {i : Ix} {s : MS} {H : Hp} (h : MR i s H) {b : Addr} (g : G i b) : H b ≠ none := by
  rcases g with rfl | rfl | rfl | ⟨p, hp, rfl⟩
  · rw [h.hm]; exact fun z => nomatch z
  · rw [h.hg]; exact fun z => nomatch z
  · rw [h.hc]; exact fun z => nomatch z
  · obtain ⟨ps, e, _⟩ := h.tb p hp
    rw [e]; exact fun z => nomatch z
theorem MR.sm {i : Ix} {s : MS} {H H' : Hp} (h : MR i s H) (e : Same H H') : MR i s H' :=
  ⟨e _ _ h.hm, e _ _ h.hc, e _ _ h.hg, h.cc, h.gl, h.ne, h.n0, h.tb.ext e, h.tq⟩
theorem MR.put {i : Ix} {s : MS} {H : Hp} {p : Addr} {us : List V} (h : MR i s H) (hp : H p = none ∨ ∃ vs, H p = some (.lst vs)) (g : ¬ G i p) : MR i s (upd H p (.lst us)) := by
  have n1 : ∀ {b}, G i b → b ≠ p := fun gb (z : _ = p) => g (z ▸ gb)
  refine ⟨by rw [upd_ne (n1 (.inl rfl))]; exact h.hm, by rw [upd_ne (n1 (.inr (.inr (.inl rfl))))]; exact h.hc, by rw [upd_ne (n1 (.inr (.inl rfl)))]; exact h.hg, h.cc, h.gl, h.ne, h.n0, fun q hq => ?_, h.tq⟩
  obtain ⟨ps, e1, e2, e3⟩ := h.tb q hq
  refine ⟨ps, by rw [upd_ne (n1 (.inr (.inr (.inr ⟨q, hq, rfl⟩))))]; exact e1, e2, fun pos cv hc => ?_⟩
  obtain ⟨c, z1, z2⟩ := e3 pos cv hc
  refine ⟨c, z1, ?_⟩
  have : c ≠ p := fun z => by
    subst z
    rcases hp with hp | ⟨vs, hp⟩ <;> rw [hp] at z2 <;> cases z2
  rw [upd_ne this]
  exact z2

structure Ext (i : Ix) (F H F' H' : Hp) : Prop where
  ff : Same F F'
  fh : Same F' H'
  sb : ∀ b o, H b = some o → ¬ G i b → H' b = some o
  nw : ∀ b, H b ≠ none → F b = none → F' b = none
  al : ∀ b, H b ≠ none → H' b ≠ none
theorem Ext.refl {i : Ix} {F H : Hp} (h : Same F H) : Ext i F H F H := ⟨Same.refl _, h, fun _ _ e _ => e, fun _ _ e => e, fun _ e => e⟩
theorem Ext.trans {i : Ix} {F H F1 H1 F2 H2 : Hp} (a : Ext i F H F1 H1) (b : Ext i F1 H1 F2 H2) : Ext i F H F2 H2 :=
  ⟨a.ff.trans b.ff, b.fh, fun x o e g => b.sb x o (a.sb x o e g) g, fun x e n => b.nw x (a.al x e) (a.nw x e n), fun x e => b.al x (a.al x e)⟩
theorem Ext.same {i : Ix} {F H H' : Hp} (hf : Same F H) (s : Same H H') : Ext i F H F H' :=
  ⟨Same.refl _, hf.trans s, fun _ _ e _ => s _ _ e, fun _ _ e => e, fun b e => by
    cases h : H b with
    | none => exact absurd h e
    | some o => rw [s _ _ h]; exact fun z => nomatch z⟩
theorem Ext.know {i : Ix} {F H F' H' : Hp} {p : Addr} {o : HO} (x : Ext i F H F' H') (hp : H p = none) (h' : H' p = some o) (hf : F' p = none) : Ext i F H (upd F' p o) H' :=
  ⟨fun b u e => by rw [upd_ne (ne_of_none (x.ff _ _ e) hf)]; exact x.ff _ _ e,
   fun b u e => by
    by_cases hb : b = p
    · subst hb; rw [upd_same] at e; rw [h', e]
    · rw [upd_ne hb] at e; exact x.fh _ _ e,
   x.sb, fun b e n => by
    have hb : b ≠ p := fun z => by subst z; exact e hp
    rw [upd_ne hb]; exact x.nw b e n, x.al⟩
theorem same_know {F : Hp} {p : Addr} {o : HO} (hf : F p = none) : Same F (upd F p o) := fun b u e => by rw [upd_ne (ne_of_none e hf)]; exact e
structure Wf (i : Ix) (s : MS) (F H : Hp) : Prop where
  fh : Same F H
  gf : ∀ b, G i b → F b = none
  mr : MR i s H
theorem Wf.ext {i : Ix} {s s' : MS} {F H F' H' : Hp} (w : Wf i s F H) (x : Ext i F H F' H') (m : MR i s' H') : Wf i s' F' H' :=
  ⟨x.fh, fun b g => x.nw b (w.mr.there g) (w.gf b g), m⟩
theorem Wf.off {i : Ix} {s : MS} {F H : Hp} (w : Wf i s F H) {p : Addr} (hp : H p = none) : ¬ G i p := fun g => w.mr.there g hp
def RepR (K : PySem.W.Frag) (i : Ix) (H F' H' : Hp) : R → V → Prop
  | .val d, v => Rep K i F' d v
  | .new l, v => ∃ p vs, v = .ref p ∧ H' p = some (.lst vs) ∧ F' p = none ∧ H p = none ∧ Reps K i F' l vs
theorem RepR.freeze {K : PySem.W.Frag} {i : Ix} {H F F' H' : Hp} {r : R} {v : V} (h : RepR K i H F' H' r v) (x : Ext i F H F' H') : ∃ F2, Ext i F H F2 H' ∧ Same F' F2 ∧ Rep K i F2 r.d v := by
  cases r with
  | val d => exact ⟨F', x, Same.refl _, h⟩
  | new l =>
    obtain ⟨p, vs, e, h1, h2, h3, h4⟩ := h
    exact ⟨upd F' p (.lst vs), x.know h3 h1 h2, same_know h2, p, vs, e, upd_same, Reps.same (same_know h2) l h4⟩
def View (K : PySem.W.Frag) (i : Ix) (F H : Hp) (d : Dt) (v : V) : Prop :=
  Rep K i F d v ∨ ∃ p vs l, d = .lst l ∧ v = .ref p ∧ H p = some (.lst vs) ∧ ¬ G i p ∧ Reps K i F l vs
theorem View.ext {K : PySem.W.Frag} {i : Ix} {F H F' H' : Hp} {d : Dt} {v : V} (h : View K i F H d v) (x : Ext i F H F' H') : View K i F' H' d v := by
  rcases h with h | ⟨p, vs, l, e1, e2, h1, h2, h3⟩
  · exact .inl (Rep.same x.ff d h)
  · exact .inr ⟨p, vs, l, e1, e2, x.sb _ _ h1 h2, h2, Reps.same x.ff l h3⟩
def ExOk (K : PySem.W.Frag) (i : Ix) (E : XK) (F H : Hp) (e : Exn) : Prop :=
  match e.f with
  | none => E (.ref e.C) none H
  | some (x, d) => ∀ v dx, Rep K i F d v → H dx = none → E (.ref e.C) (some dx) (upd H dx (.xd [(x, v)]))
structure Kind (α β : Type) where
  rel : Hp → Hp → Hp → α → β → Prop
  mono : ∀ {H H' F2 H2 a v}, (∀ b, H b ≠ none → H' b ≠ none) → rel H' F2 H2 a v → rel H F2 H2 a v
def kR (K : PySem.W.Frag) (i : Ix) : Kind R V where
  rel := fun H F' H' r v => RepR K i H F' H' r v
  mono := fun {H H' F2 H2 a v} al h => by
    cases a with
    | val d => exact h
    | new l =>
      obtain ⟨p, vs, e, h1, h2, h3, h4⟩ := h
      refine ⟨p, vs, e, h1, h2, ?_, h4⟩
      cases z : H p with
      | none => rfl
      | some o => exact absurd h3 (al p (by rw [z]; exact fun z => nomatch z))
def kV (K : PySem.W.Frag) (i : Ix) : Kind Dt V where
  rel := fun _ F' H' d v => View K i F' H' d v
  mono := fun _ h => h
def kB (K : PySem.W.Frag) (i : Ix) : Kind Bool Bool where
  rel := fun _ _ _ b c => c = b
  mono := fun _ h => h
def kA (K : PySem.W.Frag) (i : Ix) : Kind (List Dt) (List V) where
  rel := fun _ F' _ ds vs => Reps K i F' ds vs
  mono := fun _ h => h
def kO (K : PySem.W.Frag) (i : Ix) : Kind (Option Int) (Option Int) where
  rel := fun _ _ _ a b => b = a
  mono := fun _ h => h
def Ok {α β : Type} (K : PySem.W.Frag) (k : Kind α β) (i : Ix) (E : XK) (F H : Hp) (Q : β → Hp → Prop) : Rs α → Prop
  | .ok a s' => ∀ v F' H', Ext i F H F' H' → MR i s' H' → k.rel H F' H' a v → Q v H'
  | .ex e s' => ∀ F' H', Ext i F H F' H' → MR i s' H' → ExOk K i E F' H' e
  | .no => False
theorem Ok.later {α β : Type} {K : PySem.W.Frag} {k : Kind α β} {i : Ix} {E : XK} {F H F' H' : Hp} {Q : β → Hp → Prop} : ∀ {r : Rs α}, Ok K k i E F H Q r → Ext i F H F' H' → Ok K k i E F' H' Q r
  | .ok a s', h, x => fun v F2 H2 x2 m q => h v F2 H2 (x.trans x2) m (k.mono x.al q)
  | .ex e s', h, x => fun F2 H2 x2 m => h F2 H2 (x.trans x2) m
  | .no, h, _ => h

structure NestAt (K : PySem.W.Frag) (i : Ix) (H0 F H : Hp) (p : Addr) (as : List Addr) (ls : List (List Dt)) : Prop where
  hp : H p = some (.lst (as.map V.ref))
  nd : (p :: as).Nodup
  len : as.length = ls.length
  fr : ∀ b ∈ p :: as, F b = none ∧ H0 b = none ∧ ¬ G i b
  at_ : ∀ (j : Nat) (q : Addr) (l : List Dt), as[j]? = some q → ls[j]? = some l → ∃ vs, H q = some (.lst vs) ∧ Reps K i F l vs
theorem NestAt.lst {K : PySem.W.Frag} {i : Ix} {H0 F H : Hp} {p : Addr} {as : List Addr} {ls : List (List Dt)} (A : NestAt K i H0 F H p as ls) : ∀ b ∈ p :: as, ∃ vs, H b = some (.lst vs) := fun b hb => by
  rcases List.mem_cons.mp hb with rfl | hb
  · exact ⟨_, A.hp⟩
  · obtain ⟨j, hj⟩ := List.mem_iff_getElem?.mp hb
    have hl : j < ls.length := by rw [← A.len]; exact (List.getElem?_eq_some_iff.mp hj).1
    obtain ⟨vs, h1, _⟩ := A.at_ j b ls[j] hj (List.getElem?_eq_getElem hl)
    exact ⟨vs, h1⟩
theorem NestAt.to {K : PySem.W.Frag} {i : Ix} {H0 F H H0' F' H' : Hp} {p : Addr} {as : List Addr} {ls : List (List Dt)} (A : NestAt K i H0 F H p as ls) (ff : Same F F') (h : ∀ b ∈ p :: as, H' b = H b ∧ F' b = none ∧ H0' b = none) : NestAt K i H0' F' H' p as ls :=
  ⟨(h p (List.mem_cons_self ..)).1.trans A.hp, A.nd, A.len, fun b hb => ⟨(h b hb).2.1, (h b hb).2.2, (A.fr b hb).2.2⟩, fun j q l e1 e2 => by
    obtain ⟨vs, h1, h2⟩ := A.at_ j q l e1 e2
    exact ⟨vs, (h q (List.mem_cons_of_mem _ (List.mem_of_getElem? e1))).1.trans h1, Reps.same ff l h2⟩⟩
def NstOwn (σ : L2.St) (δ : List Sl) (p : Addr) (as : List Addr) : Prop := ∀ (j : Nat) (m : List Dt) (q : Addr), δ[j]? = some (Sl.own m) → σ[j]? = some (some (V.ref q)) → q ∉ p :: as
def Nst (K : PySem.W.Frag) (i : Ix) (H0 F H : Hp) (σ : L2.St) (δ : List Sl) : Prop := ∀ (k : Nat) (ls : List (List Dt)), δ[k]? = some (Sl.nst ls) → ∃ p as, σ[k]? = some (some (V.ref p)) ∧ NestAt K i H0 F H p as ls ∧ NstOwn σ δ p as ∧ ∀ (j : Nat) (ms : List (List Dt)), δ[j]? = some (Sl.nst ms) → j = k
theorem Nst.to {K : PySem.W.Frag} {i : Ix} {H0 F H H0' F' H' : Hp} {σ σ' : L2.St} {δ δ' : List Sl} (N : Nst K i H0 F H σ δ) (ff : Same F F') (hδ : ∀ (k : Nat) (ls : List (List Dt)), δ'[k]? = some (Sl.nst ls) → δ[k]? = some (Sl.nst ls) ∧ σ'[k]? = σ[k]?)
    (h : ∀ (k : Nat) (ls : List (List Dt)) (p : Addr) (as : List Addr), δ[k]? = some (Sl.nst ls) → σ[k]? = some (some (V.ref p)) → NestAt K i H0 F H p as ls → NstOwn σ δ p as → (∀ b ∈ p :: as, H' b = H b ∧ F' b = none ∧ H0' b = none) ∧ NstOwn σ' δ' p as) : Nst K i H0' F' H' σ' δ' := fun k ls e => by
  obtain ⟨e1, e2⟩ := hδ k ls e
  obtain ⟨p, as, g1, A, O, one⟩ := N k ls e1
  obtain ⟨h1, h2⟩ := h k ls p as e1 g1 A O
  exact ⟨p, as, e2.trans g1, A.to ff h1, h2, fun j ms ej => one j ms (hδ j ms ej).1⟩
theorem Nst.none {K : PySem.W.Frag} {i : Ix} {H0 F H : Hp} {σ : L2.St} {δ : List Sl} (h : ∀ (k : Nat) (ls : List (List Dt)), δ[k]? ≠ some (Sl.nst ls)) : Nst K i H0 F H σ δ := fun k ls e => absurd e (h k ls)
def Foot (K : PySem.W.Frag) (i : Ix) (H0 F H : Hp) (σ : L2.St) (δ : List Sl) (b : Addr) : Prop := ∃ (k : Nat) (ls : List (List Dt)) (p : Addr) (as : List Addr), δ[k]? = some (Sl.nst ls) ∧ σ[k]? = some (some (V.ref p)) ∧ NestAt K i H0 F H p as ls ∧ b ∈ p :: as
theorem Foot.lst {K : PySem.W.Frag} {i : Ix} {H0 F H : Hp} {σ : L2.St} {δ : List Sl} {b : Addr} (f : Foot K i H0 F H σ δ b) : ∃ vs, H b = some (.lst vs) :=
  let ⟨_, _, _, _, _, _, A, hb⟩ := f
  A.lst b hb
theorem Foot.sub {K : PySem.W.Frag} {i : Ix} {H0 F H : Hp} {σ σ' : L2.St} {δ δ' : List Sl} {b : Addr} (hδ : ∀ (k : Nat) (ls : List (List Dt)), δ'[k]? = some (Sl.nst ls) → δ[k]? = some (Sl.nst ls) ∧ σ'[k]? = σ[k]?) (f : Foot K i H0 F H σ' δ' b) : Foot K i H0 F H σ δ b :=
  let ⟨k, ls, p, as, e1, e2, A, hb⟩ := f
  let ⟨h1, h2⟩ := hδ k ls e1
  ⟨k, ls, p, as, h1, h2.symm.trans e2, A, hb⟩
theorem nst_set {δ : List Sl} {σ : L2.St} {k : Nat} {x : Sl} {v : Option V} (hx : ∀ ls, x ≠ .nst ls) (j : Nat) (ls : List (List Dt)) (e : (δ.set k x)[j]? = some (Sl.nst ls)) : δ[j]? = some (Sl.nst ls) ∧ (List.set σ k v)[j]? = σ[j]? := by
  by_cases hj : j = k
  · subst hj
    by_cases hk : j < δ.length
    · rw [List.getElem?_set_self hk] at e
      exact absurd (Option.some.inj e) (hx ls)
    · rw [List.getElem?_eq_none (by simpa using hk)] at e
      cases e
  · rw [List.getElem?_set_ne (fun z => hj z.symm)] at e
    exact ⟨e, List.getElem?_set_ne (fun z => hj z.symm)⟩
structure Sinv (K : PySem.W.Frag) (i : Ix) (F0 H0 F H : Hp) (σ : L2.St) (δ : List Sl) (s : MS) : Prop where
  base : Ext i F0 H0 F H
  wf : Wf i s F H
  len : σ.length = δ.length
  slot : ∀ (k : Nat) (d : Dt), δ[k]? = some (Sl.val d) → ∃ v, σ[k]? = some (some v) ∧ Rep K i F d v
  own : ∀ (k : Nat) (l : List Dt), δ[k]? = some (Sl.own l) → ∃ p vs, σ[k]? = some (some (V.ref p)) ∧ H p = some (.lst vs) ∧ F p = none ∧ H0 p = none ∧ ¬ G i p ∧ Reps K i F l vs
  ins : ∀ (k : Nat) (C : Addr) (ns : List Str) (l : List Dt), δ[k]? = some (Sl.ins C ns l) → ∃ p dx gs, σ[k]? = some (some (V.ref p)) ∧ H p = some (.ins C dx gs) ∧ F p = none ∧ H0 p = none ∧ ¬ G i p ∧ gs.map Prod.fst = ns ∧ gs.length ≤ 100 ∧ Reps K i F l (gs.map Prod.snd) ∧ p = i.o
  sep : ∀ (k j : Nat) (l m : List Dt) (p : Addr), k ≠ j → δ[k]? = some (Sl.own l) → δ[j]? = some (Sl.own m) → σ[k]? = some (some (V.ref p)) → σ[j]? ≠ some (some (V.ref p))
  nst : Nst K i H0 F H σ δ
section
variable {K : PySem.W.Frag} {i : Ix} {F0 H0 F H F' H' : Hp} {σ : L2.St} {δ : List Sl} {s s' : MS}
theorem Sinv.ext (S : Sinv K i F0 H0 F H σ δ s) (x : Ext i F H F' H') (m : MR i s' H') : Sinv K i F0 H0 F' H' σ δ s' where
  base := S.base.trans x
  wf := S.wf.ext x m
  len := S.len
  slot := fun k d e => let ⟨v, h1, h2⟩ := S.slot k d e; ⟨v, h1, Rep.same x.ff d h2⟩
  own := fun k l e =>
    let ⟨p, vs, h1, h2, h3, h4, h5, h6⟩ := S.own k l e
    ⟨p, vs, h1, x.sb _ _ h2 h5, x.nw _ (by rw [h2]; exact fun z => nomatch z) h3, h4, h5, Reps.same x.ff l h6⟩
  ins := fun k C ns l e =>
    let ⟨p, dx, gs, h1, h2, h3, h4, h5, h6, h7, h8⟩ := S.ins k C ns l e
    ⟨p, dx, gs, h1, x.sb _ _ h2 h5, x.nw _ (by rw [h2]; exact fun z => nomatch z) h3, h4, h5, h6, h7, Reps.same x.ff l h8.1, h8.2⟩
  sep := S.sep
  nst := S.nst.to x.ff (fun k ls e => ⟨e, rfl⟩) fun k ls p as e1 e2 A O => ⟨fun b hb => by
    obtain ⟨vs, h⟩ := A.lst b hb
    obtain ⟨h1, h2, h3⟩ := A.fr b hb
    exact ⟨(x.sb b _ h h3).trans h.symm, x.nw b (by rw [h]; exact fun z => nomatch z) h1, h2⟩, O⟩
theorem Sinv.put (S : Sinv K i F0 H0 F H σ δ s) {H1 : Hp} {r : R} {v : V} (k : Nat) (hr : RepR K i H1 F H r v) (h0 : ∀ b, H0 b ≠ none → H1 b ≠ none) (hg : ∀ b, G i b → H1 b ≠ none)
    (hown : ∀ (j : Nat) (l : List Dt) (p : Addr), δ[j]? = some (Sl.own l) → σ[j]? = some (some (V.ref p)) → H1 p ≠ none)
    (hns : ∀ b, Foot K i H0 F H σ δ b → H1 b ≠ none) : Sinv K i F0 H0 F H (σ.set k (some v)) (δ.set k r.sl) s := by
  have getk : ∀ {j : Nat} {x : Sl}, (δ.set k r.sl)[j]? = some x → (j = k ∧ k < δ.length ∧ x = r.sl) ∨ (j ≠ k ∧ δ[j]? = some x) := by
    intro j x e
    by_cases hj : j = k
    · subst hj
      by_cases hk : j < δ.length
      · rw [List.getElem?_set_self hk] at e
        exact .inl ⟨rfl, hk, (Option.some.inj e).symm⟩
      · rw [List.getElem?_eq_none (by simpa using hk)] at e
        cases e
    · rw [List.getElem?_set_ne (fun z => hj z.symm)] at e
      exact .inr ⟨hj, e⟩
  have putk : k < δ.length → (σ.set k (some v))[k]? = some (some v) := fun hk => List.getElem?_set_self (by rw [S.len]; exact hk)
  have outk : ∀ {j : Nat}, j ≠ k → (σ.set k (some v))[j]? = σ[j]? := fun hj => List.getElem?_set_ne (fun z => hj z.symm)
  have nst' : Nst K i H0 F H (σ.set k (some v)) (δ.set k r.sl) := S.nst.to (Same.refl _) (fun j ls e => by
      rcases getk e with ⟨rfl, hk, e2⟩ | ⟨hj, e⟩
      · cases r <;> cases e2
      · exact ⟨e, outk hj⟩) fun k' ls p as e1 e2 A O => ⟨fun b hb => ⟨rfl, (A.fr b hb).1, (A.fr b hb).2.1⟩, fun j m q ej eq hq => by
      rcases getk ej with ⟨rfl, hk, e3⟩ | ⟨hj, e⟩
      · cases r with
        | val d' => cases e3
        | new l' =>
          obtain ⟨p', vs, rfl, h1, h2, h3, h4⟩ := hr
          rw [putk hk] at eq
          cases eq
          exact hns _ ⟨k', ls, p, as, e1, e2, A, hq⟩ h3
      · exact O j m q e ((outk hj).symm.trans eq) hq⟩
  refine ⟨S.base, S.wf, by rw [List.length_set, List.length_set]; exact S.len, fun j d e => ?_, fun j l e => ?_, fun j C ns l e => ?_, fun j j' l m p hne e e' q => ?_, nst'⟩
  · rcases getk e with ⟨rfl, hk, e2⟩ | ⟨hj, e⟩
    · cases r with
      | val d' => cases e2; exact ⟨v, putk hk, hr⟩
      | new l => cases e2
    · obtain ⟨w, h1, h2⟩ := S.slot j d e
      exact ⟨w, (outk hj).trans h1, h2⟩
  · rcases getk e with ⟨rfl, hk, e2⟩ | ⟨hj, e⟩
    · cases r with
      | val d' => cases e2
      | new l' =>
        cases e2
        obtain ⟨p, vs, rfl, h1, h2, h3, h4⟩ := hr
        refine ⟨p, vs, putk hk, h1, h2, ?_, fun g => hg _ g h3, h4⟩
        cases z : H0 p with
        | none => rfl
        | some o => exact absurd h3 (h0 p (by rw [z]; exact fun z => nomatch z))
    · obtain ⟨p, vs, h1, h⟩ := S.own j l e
      exact ⟨p, vs, (outk hj).trans h1, h⟩
  · rcases getk e with ⟨rfl, hk, e2⟩ | ⟨hj, e⟩
    · cases r <;> cases e2
    · obtain ⟨p, dx, gs, h1, h⟩ := S.ins j C ns l e
      exact ⟨p, dx, gs, (outk hj).trans h1, h⟩
  · rcases getk e with ⟨rfl, hk, e2⟩ | ⟨hj, e1⟩
    · rcases getk e' with ⟨rfl, _, _⟩ | ⟨hj', e3⟩
      · exact absurd rfl hne
      · rw [outk hj']
        intro q'
        cases r with
        | val d' => cases e2
        | new l' =>
          obtain ⟨p', vs, rfl, h1, h2, h3, h4⟩ := hr
          rw [putk hk] at q
          cases q
          exact hown _ _ _ e3 q' h3
    · rw [outk hj] at q
      rcases getk e' with ⟨rfl, hk, e2⟩ | ⟨hj', e3⟩
      · rw [putk hk]
        intro q'
        cases r with
        | val d' => cases e2
        | new l' =>
          obtain ⟨p', vs, rfl, h1, h2, h3, h4⟩ := hr
          cases q'
          exact hown _ _ _ e1 q h3
      · rw [outk hj']
        exact S.sep j j' l m p hne e1 e3 q
end
def J {α β : Type} (k : PySem.W.Frag → Ix → Kind α β) (K : PySem.W.Frag) (E : XK) (t : L2.St → Hp → (β → Hp → Prop) → Prop) (f : List Sl → M α) : Prop :=
  ∀ i F0 H0 F H σ δ s Q, Sinv K i F0 H0 F H σ δ s → Ok K (k K i) i E F H Q (f δ s) → t σ H Q
theorem J.use {α β α2 β2 : Type} {k : PySem.W.Frag → Ix → Kind α β} {k2 : Kind α2 β2} {K : PySem.W.Frag} {E : XK} {t : L2.St → Hp → (β → Hp → Prop) → Prop} {f : List Sl → M α} {g : α → M α2} {i : Ix} {F0 H0 F H : Hp} {σ : L2.St} {δ : List Sl} {s : MS}
    {Q : β2 → Hp → Prop} {Q1 : β → Hp → Prop} (h : J k K E t f) (S : Sinv K i F0 H0 F H σ δ s) (q : Ok K k2 i E F H Q (M.bnd (f δ) g s))
    (cont : ∀ a s' v F' H', f δ s = .ok a s' → Ext i F H F' H' → Sinv K i F0 H0 F' H' σ δ s' → (k K i).rel H F' H' a v → Ok K k2 i E F' H' Q (g a s') → Q1 v H') : t σ H Q1 := by
  refine h i F0 H0 F H σ δ s Q1 S ?_
  unfold M.bnd at q
  cases e : f δ s with
  | ok a s' =>
    rw [e] at q
    intro v F' H' x m r
    exact cont a s' v F' H' e x (S.ext x m) r (q.later x)
  | ex e' s' =>
    rw [e] at q
    exact q
  | no =>
    rw [e] at q
    exact q.elim
theorem J.use0 {α β α2 β2 : Type} {k : PySem.W.Frag → Ix → Kind α β} {k2 : Kind α2 β2} {K : PySem.W.Frag} {E : XK} {t : L2.St → Hp → (β → Hp → Prop) → Prop} {f : List Sl → M α} {g : α → M α2} {i : Ix} {F0 H0 F H : Hp} {σ : L2.St} {δ : List Sl} {s : MS}
    {Q : β2 → Hp → Prop} {Q1 : β → Hp → Prop} (h : J k K E t f) (S : Sinv K i F0 H0 F H σ δ s) (q : Ok K k2 i E F H Q (M.bnd (f δ) g s))
    (cont : ∀ a s' v F' H', f δ s = .ok a s' → Ext i F H F' H' → MR i s' H' → (k K i).rel H F' H' a v → Ok K k2 i E F H Q (g a s') → Q1 v H') : t σ H Q1 := by
  refine h i F0 H0 F H σ δ s Q1 S ?_
  unfold M.bnd at q
  cases e : f δ s with
  | ok a s' =>
    rw [e] at q
    intro v F' H' x m r
    exact cont a s' v F' H' e x m r q
  | ex e' s' =>
    rw [e] at q
    exact q
  | no =>
    rw [e] at q
    exact q.elim
theorem J.useR {α2 β2 : Type} {k2 : Kind α2 β2} {K : PySem.W.Frag} {E : XK} {t : L2.St → Hp → (V → Hp → Prop) → Prop} {f : List Sl → M R} {g : R → M α2} {i : Ix} {F0 H0 F H : Hp} {σ : L2.St} {δ : List Sl} {s : MS}
    {Q : β2 → Hp → Prop} {Q1 : V → Hp → Prop} (h : J kR K E t f) (S : Sinv K i F0 H0 F H σ δ s) (q : Ok K k2 i E F H Q (M.bnd (f δ) g s))
    (cont : ∀ r s' v F' H', f δ s = .ok r s' → Ext i F H F' H' → Sinv K i F0 H0 F' H' σ δ s' → Rep K i F' r.d v → Ok K k2 i E F' H' Q (g r s') → Q1 v H') : t σ H Q1 :=
  h.use0 S q fun r s' v F' H' e x m rel q' => let ⟨F2, x2, _, hr⟩ := RepR.freeze rel x; cont r s' v F2 H' e x2 (S.ext x2 m) hr (q'.later x2)
def DE (X : Cx) (E : XK) (e : Expr) (f : List Sl → M R) : Prop := ∃ t, PE X e t ∧ J kR X.K E t f
def DV (X : Cx) (E : XK) (e : Expr) (f : List Sl → M Dt) : Prop := ∃ t, PE X e t ∧ J kV X.K E t f
def DT (X : Cx) (E : XK) (e : Expr) (f : List Sl → M Bool) : Prop := ∃ t, PT X e t ∧ J kB X.K E t f
def DW (X : Cx) (E : XK) (e : Expr) (f : List Sl → M Bool) : Prop := ∃ t, PW X e t ∧ J kB X.K E t f
def DA (X : Cx) (E : XK) (es : List Expr) (f : List Sl → M (List Dt)) : Prop := ∃ t, PA X es t ∧ J kA X.K E t f
def DO (X : Cx) (E : XK) (e : Option Expr) (f : List Sl → M (Option Int)) : Prop := ∃ t, PO X e t ∧ J kO X.K E t f
end DL
namespace DL
open PySem L2
theorem ext_new {i : Ix} {F H : Hp} {p : Addr} {o : HO} (hf : Same F H) (hp : H p = none) : Ext i F H F (upd H p o) := .same hf (same_know hp)
theorem ext_newK {i : Ix} {F H : Hp} {p : Addr} {o : HO} (hf : Same F H) (hp : H p = none) : Ext i F H (upd F p o) (upd H p o) := (ext_new hf hp).know hp upd_same (hf.free hp)
theorem mr_new {i : Ix} {s : MS} {H : Hp} {p : Addr} {o : HO} (h : MR i s H) (hp : H p = none) : MR i s (upd H p o) := h.sm (same_know hp)
theorem le_line {n : Nat} (h : n ≤ 100000) : n ≤ sizeLine := Nat.le_trans h (by decide)
theorem lt_line {n : Nat} (h : n < 100000) : n < sizeLine := Nat.lt_of_lt_of_le h (by decide)
theorem ok_if {α β : Type} {K : PySem.W.Frag} {k : Kind α β} {i : Ix} {E : XK} {F H : Hp} {Q : β → Hp → Prop} {s : MS} {c : Prop} [Decidable c] {x : M α} (h : Ok K k i E F H Q ((if c then x else M.no) s)) : c ∧ Ok K k i E F H Q (x s) := by
  by_cases hc : c
  · rw [if_pos hc] at h
    exact ⟨hc, h⟩
  · rw [if_neg hc] at h
    exact h.elim
section
variable {K : PySem.W.Frag} {i : Ix} {F H : Hp} {v : V}
theorem View.tup {l : List Dt} (h : View K i F H (.tup l) v) : ∃ a vs, v = .ref a ∧ SqT K F a vs ∧ Reps K i F l vs := by
  rcases h with h | ⟨p, vs, l, e, _⟩
  · exact h
  · cases e
theorem View.lst {l : List Dt} (fh : Same F H) (h : View K i F H (.lst l) v) : ∃ a vs, v = .ref a ∧ H a = some (.lst vs) ∧ Reps K i F l vs := by
  rcases h with ⟨a, vs, h1, h2, h3⟩ | ⟨p, vs, l', e, e2, h1, _, h3⟩
  · exact ⟨a, vs, h1, fh _ _ h2, h3⟩
  · cases e
    exact ⟨p, vs, e2, h1, h3⟩
theorem View.rep {d : Dt} (h : View K i F H d v) (n : ∀ l, d ≠ .lst l) : Rep K i F d v := by
  rcases h with h | ⟨p, vs, l, e, _⟩
  · exact h
  · exact absurd e (n l)
theorem View.int {z : Int} (h : View K i F H (.int z) v) : v = .int z := h.rep fun _ e => nomatch e
theorem View.str {x : Str} (h : View K i F H (.str x) v) : v = .str x := h.rep fun _ e => nomatch e
theorem View.bl {x : Bool} (h : View K i F H (.bl x) v) : v = .bl x := h.rep fun _ e => nomatch e
theorem View.scr {ns : List Int} (h : View K i F H (.scr ns) v) : ∃ a, v = .ref a ∧ SqL K F a (ns.map V.int) := h.rep fun _ e => nomatch e
theorem reps_ints {F : Hp} : ∀ {ns : List Int}, Reps K i F (ns.map .int) (ns.map V.int)
  | [] => rfl
  | n :: ns => ⟨_, _, rfl, rfl, reps_ints⟩
theorem View.non (h : View K i F H .non v) : v = .non := h.rep fun _ e => nomatch e
theorem View.obj {C : Addr} {ns : List Str} {l : List Dt} (h : View K i F H (.obj C ns l) v) : ∃ a dx gs, v = .ref a ∧ F a = some (.ins C dx gs) ∧ gs.map Prod.fst = ns ∧ Reps K i F l (gs.map Prod.snd) := h.rep fun _ e => nomatch e
end
def cVar (k : Nat) : List Sl → M R := fun δ => match δ[k]? with
  | some (.val d) => M.ret (.val d)
  | _ => M.no
def vVar (k : Nat) : List Sl → M Dt := fun δ => match δ[k]? with
  | some (.val d) => M.ret d
  | some (.own l) => M.ret (.lst l)
  | _ => M.no
def cC (d : Dt) : List Sl → M R := fun _ => M.ret (.val d)
def toV (f : List Sl → M R) : List Sl → M Dt := fun δ => M.bnd (f δ) fun r => M.ret r.d
def bin (fa fb : List Sl → M Dt) (op : Dt → Dt → M R) : List Sl → M R := fun δ => M.bnd (fa δ) fun a => M.bnd (fb δ) fun b => op a b
def una (fa : List Sl → M Dt) (op : Dt → M R) : List Sl → M R := fun δ => M.bnd (fa δ) op
def aNil : List Sl → M (List Dt) := fun _ => M.ret []
def aCons (f : List Sl → M R) (g : List Sl → M (List Dt)) : List Sl → M (List Dt) := fun δ => M.bnd (f δ) fun r => M.bnd (g δ) fun ds => M.ret (r.d :: ds)
def cTup (f : List Sl → M (List Dt)) : List Sl → M R := fun δ => M.bnd (f δ) fun ds => if ds.length ≤ 100000 then M.ret (.val (.tup ds)) else M.no
def cLst (f : List Sl → M (List Dt)) : List Sl → M R := fun δ => M.bnd (f δ) fun ds => if ds.length ≤ 100000 then M.ret (.new ds) else M.no
def addD : Dt → Dt → M R
  | .int x, .int y => M.ret (.val (.int (x + y)))
  | .str x, .str y => if x.length + y.length ≤ 100000 then M.ret (.val (.str (x ++ y))) else M.no
  | .lst x, .lst y => if x.length + y.length ≤ 100000 then M.ret (.new (x ++ y)) else M.no
  | .tup x, .tup y => if x.length + y.length ≤ 100000 then M.ret (.val (.tup (x ++ y))) else M.no
  | _, _ => M.no
def subD : Dt → Dt → M R
  | .int x, .int y => M.ret (.val (.int (x - y)))
  | _, _ => M.no
def smallI (x : Int) : Bool := decide (-(2 ^ 64) < x ∧ x < 2 ^ 64)
def mulD : Dt → Dt → M R
  | .int x, .int y => if smallI x || smallI y then M.ret (.val (.int (x * y))) else M.no
  | .lst x, .int y => if y ≤ 2000 ∧ -1000 ≤ y ∧ x.length ≤ 1000 then M.ret (.new (List.replicate y.toNat x).flatten) else M.no
  | .tup x, .int y => if 2 ≤ y ∧ y ≤ 1000 ∧ x.length ≤ 1000 ∧ x ≠ [] then M.ret (.val (.tup (List.replicate y.toNat x).flatten)) else M.no
  | _, _ => M.no
def powD : Dt → Dt → M R
  | .int x, .int y => if 0 ≤ y ∧ y ≤ 1000000 ∧ x.natAbs < 2 ^ 64 then M.ret (.val (.int (x ^ y.toNat))) else M.no
  | _, _ => M.no
def negD : Dt → M R
  | .int x => M.ret (.val (.int (-x)))
  | _ => M.no
def cmpD (p : Int → Int → Bool) : Dt → Dt → M R
  | .int x, .int y => M.ret (.val (.bl (p x y)))
  | _, _ => M.no
mutual
def conv : Dt → Option PyData
  | .non => some .none
  | .bl b => some (.bool b)
  | .int i => some (.int i)
  | .str x => some (.str x)
  | .tup l => (convs l).map .tuple
  | .lst l => (convs l).map .list
  | _ => none
def convs : List Dt → Option (List PyData)
  | [] => some []
  | d :: ds => match conv d, convs ds with
    | some x, some xs => some (x :: xs)
    | _, _ => none
end
def eqD (neg : Bool) (a b : Dt) : M R := match conv a, conv b with
  | some x, some y => if SeqAt.shaped x && SeqAt.shaped y then M.ret (.val (.bl (neg ^^ PyData.eqv x y))) else M.no
  | _, _ => M.no
def ixD : Dt → Dt → M R
  | .lst l, .int k => (match atI l k with
    | some d => M.ret (.val d)
    | none => M.no)
  | .tup l, .int k => (match atI l k with
    | some d => M.ret (.val d)
    | none => M.no)
  | .str x, .int k => (match atI x.cps.toList k with
    | some c => if x.length ≤ 100000 then M.ret (.val (.str ⟨#[c]⟩)) else M.no
    | none => M.no)
  | _, _ => M.no
def cutD (l : List Dt) (lo hi : Option Int) : List Dt := (l.drop (HT.sIx l.length 0 lo)).take (HT.sIx l.length l.length hi - HT.sIx l.length 0 lo)
def slD (a : Dt) (lo hi : Option Int) : M R := match a with
  | .lst l => M.ret (.new (cutD l lo hi))
  | .tup l => M.ret (.val (.tup (cutD l lo hi)))
  | .str x => if x.length ≤ 100000 then M.ret (.val (.str (cutS x lo hi))) else M.no
  | .scr ns => M.ret (.new (cutD (ns.map .int) lo hi))
  | _ => M.no
def oNone : List Sl → M (Option Int) := fun _ => M.ret none
def oSome (f : List Sl → M Dt) : List Sl → M (Option Int) := fun δ => M.bnd (f δ) fun
  | .int z => M.ret (some z)
  | _ => M.no
def cSl (f : List Sl → M Dt) (lo hi : List Sl → M (Option Int)) : List Sl → M R := fun δ => M.bnd (f δ) fun a => M.bnd (lo δ) fun l => M.bnd (hi δ) fun h => slD a l h
def fldD (C : Addr) (f : Str) : Dt → M R
  | .obj C' ns l => if C' = C then (match (ns.zip l).lookup f with
    | some d => M.ret (.val d)
    | none => M.no) else M.no
  | _ => M.no
def notD : Dt → M R
  | .bl b => M.ret (.val (.bl (!b)))
  | _ => M.no
def truD : Dt → M Bool
  | .non => M.ret false
  | .bl b => M.ret b
  | .int z => M.ret (z != 0)
  | .str x => if x.length ≤ 100000 then M.ret ((x.length : Int) != 0) else M.no
  | .lst l => M.ret !l.isEmpty
  | .tup l => M.ret !l.isEmpty
  | .dK ks _ => M.ret !ks.isEmpty
  | _ => M.no
def tV (f : List Sl → M Dt) : List Sl → M Bool := fun δ => M.bnd (f δ) truD
def tNotD (f : List Sl → M Bool) : List Sl → M Bool := fun δ => M.bnd (f δ) fun b => M.ret !b
def tAndD (f g : List Sl → M Bool) : List Sl → M Bool := fun δ => M.bnd (f δ) fun b => if b = true then g δ else M.ret false
def tOrD (f g : List Sl → M Bool) : List Sl → M Bool := fun δ => M.bnd (f δ) fun b => if b = true then M.ret true else g δ
def andV (f : List Sl → M Dt) (g : List Sl → M R) : List Sl → M R := fun δ => M.bnd (f δ) fun
  | .bl b => if b = true then g δ else M.ret (.val (.bl false))
  | _ => M.no
def orV (f : List Sl → M Dt) (g : List Sl → M R) : List Sl → M R := fun δ => M.bnd (f δ) fun
  | .bl b => if b = true then M.ret (.val (.bl true)) else g δ
  | _ => M.no
def cIf (t : List Sl → M Bool) (f g : List Sl → M R) : List Sl → M R := fun δ => M.bnd (t δ) fun b => if b = true then f δ else g δ

section
variable {X : Cx} {E : XK} {a b c e : Expr} {es : List Expr} {pos : Pos}
theorem de_var (k : Nat) {x : Str} (hN : X.N[k]? = some x := by rfl) (hv : Vis X.env.scope x := by first | exact Or.inl rfl | exact Or.inr (Or.inl rfl) | exact Or.inr (Or.inr rfl)) (hd : (x == ("__debug__" : Str)) = false := by decide)
    (hcd : (x == ("__classdict__" : Str)) = false := by decide) : DE X E (.Name x pos) (cVar k) := by
  refine ⟨_, pe_var hN hv hd hcd, fun i F0 H0 F H σ δ s Q S q => ?_⟩
  unfold cVar at q
  cases h : δ[k]? with
  | none => rw [h] at q; exact q.elim
  | some z =>
    rw [h] at q
    cases z with
    | val d =>
      obtain ⟨v, h1, h2⟩ := S.slot k d h
      exact ⟨v, h1, q v F H (.refl S.wf.fh) S.wf.mr h2⟩
    | non => exact q.elim
    | own l => exact q.elim
    | ins C ns l => exact q.elim
    | nst ls => exact q.elim
theorem dv_var (k : Nat) {x : Str} (hN : X.N[k]? = some x := by rfl) (hv : Vis X.env.scope x := by first | exact Or.inl rfl | exact Or.inr (Or.inl rfl) | exact Or.inr (Or.inr rfl)) (hd : (x == ("__debug__" : Str)) = false := by decide)
    (hcd : (x == ("__classdict__" : Str)) = false := by decide) : DV X E (.Name x pos) (vVar k) := by
  refine ⟨_, pe_var hN hv hd hcd, fun i F0 H0 F H σ δ s Q S q => ?_⟩
  unfold vVar at q
  cases h : δ[k]? with
  | none => rw [h] at q; exact q.elim
  | some z =>
    rw [h] at q
    cases z with
    | val d =>
      obtain ⟨v, h1, h2⟩ := S.slot k d h
      exact ⟨v, h1, q v F H (.refl S.wf.fh) S.wf.mr (.inl h2)⟩
    | non => exact q.elim
    | ins C ns l => exact q.elim
    | nst ls => exact q.elim
    | own l =>
      obtain ⟨p, vs, h1, h2, h3, h4, h5, h6⟩ := S.own k l h
      exact ⟨_, h1, q _ F H (.refl S.wf.fh) S.wf.mr (.inr ⟨p, vs, l, rfl, rfl, h2, h5, h6⟩)⟩
theorem de_c {v : V} {d : Dt} (h : PE X e (tC v)) (r : ∀ K i F, Rep K i F d v) : DE X E e (cC d) :=
  ⟨_, h, fun i F0 H0 F H σ δ s Q S q => q v F H (.refl S.wf.fh) S.wf.mr (r _ _ _)⟩
theorem de_int {z : Int} {j : Nat} : DE X E (.Constant (.int z) j pos) (cC (.int z)) := de_c pe_int fun _ _ _ => rfl
theorem de_bl {z : Bool} {j : Nat} : DE X E (.Constant (.bool z) j pos) (cC (.bl z)) := de_c pe_bl fun _ _ _ => rfl
theorem de_non {j : Nat} : DE X E (.Constant .none j pos) (cC .non) := de_c pe_non fun _ _ _ => rfl
theorem de_str {z : Str} {j : Nat} : DE X E (.Constant (.str z) j pos) (cC (.str z)) := de_c pe_str fun _ _ _ => rfl
theorem de_globI {x : Str} {z : Int} {t : Tok} (hg : Gl X x) (hm : X.mg x = some (.int z t)) (hd : (x == ("__debug__" : Str)) = false := by decide) : DE X E (.Name x pos) (cC (.int z)) := de_c (v := .int z) (pe_glob hg hm ⟨t, rfl⟩ hd) fun _ _ _ => rfl
theorem dv_e {f : List Sl → M R} (h : DE X E e f) : DV X E e (toV f) := by
  obtain ⟨t, ht, hj⟩ := h
  exact ⟨t, ht, fun i F0 H0 F H σ δ s Q S q => hj.useR S q fun r s' v F' H' _ x S' rel q' => q' v F' H' (.refl S'.wf.fh) S'.wf.mr (.inl rel)⟩
theorem da_nil : DA X E [] aNil := ⟨_, pa_nil, fun i F0 H0 F H σ δ s Q S q => q [] F H (.refl S.wf.fh) S.wf.mr rfl⟩
theorem da_cons {f : List Sl → M R} {g : List Sl → M (List Dt)} (h : DE X E e f) (hr : DA X E es g) (hs : starEach (e :: es) X.env = (false, eval e X.env) :: starEach es X.env := by rfl) : DA X E (e :: es) (aCons f g) := by
  obtain ⟨t, ht, hj⟩ := h
  obtain ⟨u, hu, hk⟩ := hr
  refine ⟨_, pa_cons ht hu hs, fun i F0 H0 F H σ δ s Q S q => hj.useR S q fun r s1 v F1 H1 _ x1 S1 r1 q1 => hk.use S1 q1 fun ds s2 vs F2 H2 _ x2 S2 r2 q2 => ?_⟩
  exact q2 _ F2 H2 (.refl S2.wf.fh) S2.wf.mr (.cons (Rep.same x2.ff _ r1) r2)
theorem de_tup {f : List Sl → M (List Dt)} {x1} (h : DA X E es f) : DE X E (.Tuple es x1 pos) (cTup f) := by
  obtain ⟨t, ht, hj⟩ := h
  refine ⟨_, pe_tup ht, fun i F0 H0 F H σ δ s Q S q => hj.use S q fun ds s1 vs F1 H1 _ x1 S1 r1 q1 => ?_⟩
  by_cases hl : ds.length ≤ 100000
  · rw [if_pos hl] at q1
    exact ⟨le_line (by rw [r1.len]; exact hl), fun p hp => q1 _ _ _ (ext_newK S1.wf.fh hp) (mr_new S1.wf.mr hp) ⟨p, vs, rfl, .inl (.inl upd_same), Reps.same (same_know (S1.wf.fh.free hp)) _ r1⟩⟩
  · rw [if_neg hl] at q1
    exact q1.elim
theorem de_lst {f : List Sl → M (List Dt)} (h : DA X E es f) : DE X E (.List es pos) (cLst f) := by
  obtain ⟨t, ht, hj⟩ := h
  refine ⟨_, pe_lst ht, fun i F0 H0 F H σ δ s Q S q => hj.use S q fun ds s1 vs F1 H1 _ x1 S1 r1 q1 => ?_⟩
  by_cases hl : ds.length ≤ 100000
  · rw [if_pos hl] at q1
    exact ⟨le_line (by rw [r1.len]; exact hl), fun p hp => q1 _ _ _ (ext_new S1.wf.fh hp) (mr_new S1.wf.mr hp) ⟨p, vs, rfl, upd_same, S1.wf.fh.free hp, hp, r1⟩⟩
  · rw [if_neg hl] at q1
    exact q1.elim
def OpD (X : Cx) (E : XK) (g : Value → Value → Sem Value) (op : Dt → Dt → M R) : Prop := ∃ r, OpR X g r ∧ ∀ i s F H x y a b Q, Wf i s F H → View X.K i F H a x → View X.K i F H b y → Ok X.K (kR X.K i) i E F H Q (op a b s) → r x y H Q
theorem de_op {fa fb : List Sl → M Dt} {o : Operator} {op : Dt → Dt → M R} (ho : OpD X E (binaryOp o) op) (ha : DV X E a fa) (hb : DV X E b fb) : DE X E (.BinOp a o b pos) (bin fa fb op) := by
  obtain ⟨ta, pa, ja⟩ := ha
  obtain ⟨tb, pb, jb⟩ := hb
  obtain ⟨r, pr, jr⟩ := ho
  exact ⟨_, pe_op pr pa pb, fun i F0 H0 F H σ δ s Q S q => ja.use S q fun x s1 v F1 H1 _ x1 S1 r1 q1 => jb.use S1 q1 fun y s2 u F2 H2 _ x2 S2 r2 q2 => jr i s2 F2 H2 v u x y Q S2.wf (r1.ext x2) r2 q2⟩
theorem de_cmp {fa fb : List Sl → M Dt} {o : CmpOp} {op : Dt → Dt → M R} (ho : OpD X E (compareOp o) op) (ha : DV X E a fa) (hb : DV X E b fb) (hm : behindInMarks o b = false := by first | exact nomark _ | rfl) : DE X E (.Compare a [o] [b] pos) (bin fa fb op) := by
  obtain ⟨ta, pa, ja⟩ := ha
  obtain ⟨tb, pb, jb⟩ := hb
  obtain ⟨r, pr, jr⟩ := ho
  exact ⟨_, pe_cmpR pr pa pb hm, fun i F0 H0 F H σ δ s Q S q => ja.use S q fun x s1 v F1 H1 _ x1 S1 r1 q1 => jb.use S1 q1 fun y s2 u F2 H2 _ x2 S2 r2 q2 => jr i s2 F2 H2 v u x y Q S2.wf (r1.ext x2) r2 q2⟩
theorem op_addD : OpD X E (binaryOp .Add) addD := by
  refine ⟨_, op_add.or (op_add_str.or (op_cat.or op_catA)), fun i s F H x y a b Q W va vb q => ?_⟩
  cases a <;> cases b <;> first | exact q.elim | skip
  · exact .inl ⟨_, _, va.int, vb.int, q _ F H (.refl W.fh) W.mr rfl⟩
  · obtain ⟨h, q⟩ := ok_if q
    exact .inr (.inl ⟨_, _, va.str, vb.str, le_line h, q _ F H (.refl W.fh) W.mr rfl⟩)
  · obtain ⟨h, q⟩ := ok_if q
    · obtain ⟨p, vs, rfl, h1, h2⟩ := va.tup
      obtain ⟨p', vs', rfl, h1', h2'⟩ := vb.tup
      refine .inr (.inr (.inr ⟨p, p', vs, vs', rfl, rfl, sqT_same W.fh h1, sqT_same W.fh h1', le_line (by rw [h2.len, h2'.len]; exact h), fun e => ?_, fun e e' => ?_, fun _ _ z hz => ?_⟩))
      · exact q _ F H (.refl W.fh) W.mr ⟨p', vs', rfl, h1', by
          have := h2.append h2'
          rw [e] at this
          exact this⟩
      · exact q _ F H (.refl W.fh) W.mr ⟨p, vs, rfl, h1, by
          have := h2.append h2'
          rw [e', List.append_nil] at this
          exact this⟩
      · exact q _ _ _ (ext_newK W.fh hz) (mr_new W.mr hz) ⟨z, _, rfl, .inl (.inl upd_same), Reps.same (same_know (W.fh.free hz)) _ (h2.append h2')⟩
  · obtain ⟨h, q⟩ := ok_if q
    · obtain ⟨p, vs, rfl, h1, h2⟩ := va.lst W.fh
      obtain ⟨p', vs', rfl, h1', h2'⟩ := vb.lst W.fh
      exact .inr (.inr (.inl ⟨p, p', vs, vs', rfl, rfl, h1, h1', le_line (by rw [h2.len, h2'.len]; exact h), fun z hz => q _ _ _ (ext_new W.fh hz) (mr_new W.mr hz) ⟨z, _, rfl, upd_same, W.fh.free hz, hz, h2.append h2'⟩⟩))
theorem op_subD : OpD X E (binaryOp .Sub) subD := by
  refine ⟨_, op_sub, fun i s F H x y a b Q W va vb q => ?_⟩
  cases a <;> cases b <;> first | exact q.elim | skip
  exact ⟨_, _, va.int, vb.int, q _ F H (.refl W.fh) W.mr rfl⟩
theorem op_powD : OpD X E (binaryOp .Pow) powD := by
  refine ⟨_, op_pow, fun i s F H x y a b Q W va vb q => ?_⟩
  cases a <;> cases b <;> first | exact q.elim | skip
  obtain ⟨h, q⟩ := ok_if q
  exact ⟨_, _, va.int, vb.int, h, q _ F H (.refl W.fh) W.mr rfl⟩
theorem op_cmpD {o : CmpOp} {p : Int → Int → Bool} (h : OpR X (compareOp o) (rI0 fun x y => .bl (p x y))) : OpD X E (compareOp o) (cmpD p) := by
  refine ⟨_, h, fun i s F H x y a b Q W va vb q => ?_⟩
  cases a <;> cases b <;> first | exact q.elim | skip
  exact ⟨_, _, va.int, vb.int, q _ F H (.refl W.fh) W.mr rfl⟩
theorem op_ltD : OpD X E (compareOp .Lt) (cmpD fun x y => decide (x < y)) := op_cmpD op_lt
theorem op_leD : OpD X E (compareOp .LtE) (cmpD fun x y => decide (x ≤ y)) := op_cmpD op_le
theorem op_gtD : OpD X E (compareOp .Gt) (cmpD fun x y => decide (y < x)) := op_cmpD op_gt
end
end DL
namespace DL
open PySem L2
theorem Reps.flatten {K : PySem.W.Frag} {i : Ix} {F : Hp} {l : List Dt} {vs : List V} (h : Reps K i F l vs) : ∀ n : Nat, Reps K i F (List.replicate n l).flatten (List.replicate n vs).flatten
  | 0 => rfl
  | n + 1 => by
    rw [List.replicate_succ, List.replicate_succ, List.flatten_cons, List.flatten_cons]
    exact h.append (Reps.flatten h n)
theorem isEmp {α β : Type} {l : List α} {m : List β} (h : l.length = m.length) : l.isEmpty = m.isEmpty := by
  cases l <;> cases m <;> simp_all
mutual
theorem dp_of {K : PySem.W.Frag} {i : Ix} {F : Hp} : ∀ (d : Dt) {v : V} {x : PyData}, Rep K i F d v → conv d = some x → Dp K F v x
  | .non, _, _, h, e => by cases e; rw [show _ = V.non from h]; exact .non
  | .bl b, _, _, h, e => by cases e; rw [show _ = V.bl b from h]; exact .bl b
  | .int z, _, _, h, e => by cases e; rw [show _ = V.int z from h]; exact .int z
  | .str z, _, _, h, e => by cases e; rw [show _ = V.str z from h]; exact .str z
  | .tup l, _, _, ⟨a, vs, h1, h2, h3⟩, e => by
    unfold conv at e
    obtain ⟨xs, e1, e2⟩ := Option.map_eq_some_iff.mp e
    rw [h1, ← e2]
    exact .tup h2 (dps_of l h3 e1)
  | .lst l, _, _, ⟨a, vs, h1, h2, h3⟩, e => by
    unfold conv at e
    obtain ⟨xs, e1, e2⟩ := Option.map_eq_some_iff.mp e
    rw [h1, ← e2]
    exact .lst (SqL.of h2) (dps_of l h3 e1)
  | .drw, _, _, _, e => by unfold conv at e; cases e
  | .opq, _, _, _, e => by unfold conv at e; cases e
  | .scr _, _, _, _, e => by unfold conv at e; cases e
  | .exc _ _ _, _, _, _, e => by unfold conv at e; cases e
  | .any _, _, _, _, e => by unfold conv at e; cases e
  | .obj _ _ _, _, _, _, e => by unfold conv at e; cases e
  | .dK _ _, _, _, _, e => by unfold conv at e; cases e
  | .dT _ _, _, _, _, e => by unfold conv at e; cases e
theorem dps_of {K : PySem.W.Frag} {i : Ix} {F : Hp} : ∀ (l : List Dt) {vs : List V} {xs : List PyData}, Reps K i F l vs → convs l = some xs → DpAll K F vs xs
  | [], _, _, h, e => by
    unfold convs at e
    cases e
    rw [show _ = [] from h]
    exact .nil
  | d :: ds, _, _, ⟨v, r, h1, h2, h3⟩, e => by
    unfold convs at e
    cases e1 : conv d with
    | none => rw [e1] at e; cases e
    | some x =>
      cases e2 : convs ds with
      | none => rw [e1, e2] at e; cases e
      | some xs =>
        rw [e1, e2] at e
        cases e
        rw [h1]
        exact .cons (dp_of d h2 e1) (dps_of ds h3 e2)
end
mutual
theorem dp_same {K : PySem.W.Frag} {F F' : Hp} (s : Same F F') : ∀ (x : PyData) {v : V}, Dp K F v x → Dp K F' v x
  | .none, _, h => by cases h; exact .non
  | .bool _, _, h => by cases h; exact .bl _
  | .int _, _, h => by cases h; exact .int _
  | .str _, _, h => by cases h; exact .str _
  | .list xs, _, h => by cases h with | lst h1 h2 => exact .lst (s.seq h1) (dps_same s xs h2)
  | .tuple xs, _, h => by cases h with | tup h1 h2 => exact .tup (sqT_same s h1) (dps_same s xs h2)
  | .dict _, _, h => by cases h
theorem dps_same {K : PySem.W.Frag} {F F' : Hp} (s : Same F F') : ∀ (xs : List PyData) {vs : List V}, DpAll K F vs xs → DpAll K F' vs xs
  | [], _, h => by cases h; exact .nil
  | x :: xs, _, h => by cases h with | cons h1 h2 => exact .cons (dp_same s x h1) (dps_same s xs h2)
end
theorem dp_view {K : PySem.W.Frag} {i : Ix} {F H : Hp} (fh : Same F H) {d : Dt} {v : V} {x : PyData} (h : View K i F H d v) (e : conv d = some x) : Dp K H v x := by
  rcases h with h | ⟨p, vs, l, rfl, rfl, h1, _, h3⟩
  · exact dp_same fh x (dp_of d h e)
  · unfold conv at e
    obtain ⟨xs, e1, e2⟩ := Option.map_eq_some_iff.mp e
    rw [← e2]
    exact .lst (SqL.of h1) (dps_same fh xs (dps_of l h3 e1))
theorem Reps.at {K : PySem.W.Frag} {i : Ix} {F : Hp} {l : List Dt} {vs : List V} {z : Int} {d : Dt} (h : Reps K i F l vs) (e : atI l z = some d) : ∃ v, atI vs z = some v ∧ Rep K i F d v := by
  unfold atI at e ⊢
  rw [h.len]
  cases h1 : ixN l.length z with
  | none => rw [h1] at e; cases e
  | some j =>
    rw [h1] at e
    exact h.get e
theorem Reps.cut {K : PySem.W.Frag} {i : Ix} {F : Hp} {l : List Dt} {vs : List V} (h : Reps K i F l vs) (lo hi : Option Int) : Reps K i F (cutD l lo hi) (cutV vs lo hi) := by
  unfold cutD cutV
  rw [h.len]
  exact (h.drop _).take _
theorem cutD_whole {l : List Dt} {lo hi : Option Int} (h : HT.sIx l.length 0 lo = 0 ∧ HT.sIx l.length l.length hi = l.length) : cutD l lo hi = l := by
  unfold cutD
  rw [h.1, h.2, List.drop_zero, Nat.sub_zero, List.take_length]
theorem lookup_rep {K : PySem.W.Frag} {i : Ix} {F : Hp} {f : Str} : ∀ {ns : List Str} {l : List Dt} {gs : List (Str × V)} {d : Dt}, gs.map Prod.fst = ns → Reps K i F l (gs.map Prod.snd) → (ns.zip l).lookup f = some d → ∃ v, gs.lookup f = some v ∧ Rep K i F d v
  | [], _, _, _, _, _, e => by cases e
  | n :: ns, [], _, _, _, _, e => by cases e
  | n :: ns, d :: ds, [], _, h, _, _ => by cases h
  | n :: ns, d :: ds, (m, u) :: gs, x, h, ⟨v, r, h1, h2, h3⟩, e => by
    injection h with ha hb
    injection h1 with hc hd
    have ha : m = n := ha
    have hc : u = v := hc
    subst ha hc
    rw [List.zip_cons_cons, List.lookup_cons] at e
    rw [List.lookup_cons]
    cases q : f == m with
    | true => rw [q] at e; cases e; exact ⟨u, rfl, h2⟩
    | false => rw [q] at e; exact lookup_rep hb (by rw [show gs.map Prod.snd = r from hd]; exact h3) e
section
variable {X : Cx} {E : XK} {a b c e : Expr} {es : List Expr} {pos : Pos}
theorem op_mulD : OpD X E (binaryOp .Mult) mulD := by
  refine ⟨_, op_mul.or (op_rep.or op_repT), fun i s F H x y a b Q W va vb q => ?_⟩
  cases a <;> cases b <;> first | exact q.elim | skip
  · obtain ⟨h, q⟩ := ok_if q
    rw [Bool.or_eq_true] at h
    refine .inl ⟨_, _, va.int, vb.int, ?_, q _ F H (.refl W.fh) W.mr rfl⟩
    unfold smallI at h
    rcases h with h | h
    · exact .inl (of_decide_eq_true h)
    · exact .inr (of_decide_eq_true h)
  · obtain ⟨⟨h1, h2, h3, h4⟩, q⟩ := ok_if q
    obtain ⟨p, vs, rfl, e1, e2⟩ := va.tup
    refine .inr (.inr ⟨p, _, vs, rfl, vb.int, sqT_same W.fh e1, fun z => h4 ?_, h1, h2, by rw [e2.len]; exact h3, fun z hz => ?_⟩)
    · have := e2.len
      rw [z] at this
      exact List.length_eq_zero_iff.mp this.symm
    · exact q _ _ _ (ext_newK W.fh hz) (mr_new W.mr hz) ⟨z, _, rfl, .inl (.inl upd_same), Reps.same (same_know (W.fh.free hz)) _ (e2.flatten _)⟩
  · obtain ⟨⟨h1, h2, h3⟩, q⟩ := ok_if q
    obtain ⟨p, vs, rfl, e1, e2⟩ := va.lst W.fh
    refine .inr (.inl ⟨p, _, vs, rfl, vb.int, e1, by omega, by omega, ?_, fun z hz => ?_⟩)
    · rw [e2.len]
      exact Nat.le_trans (Nat.mul_le_mul h3 (show _ ≤ 2000 by omega)) (by decide)
    · exact q _ _ _ (ext_new W.fh hz) (mr_new W.mr hz) ⟨z, _, rfl, upd_same, W.fh.free hz, hz, e2.flatten _⟩
theorem de_neg {fa : List Sl → M Dt} (ha : DV X E a fa) : DE X E (.UnaryOp .USub a pos) (una fa negD) := by
  obtain ⟨ta, pa, ja⟩ := ha
  refine ⟨_, pe_un un_neg pa, fun i F0 H0 F H σ δ s Q S q => ja.use S q fun x s1 v F1 H1 e0 x1 S1 r1 q1 => ?_⟩
  clear e0
  cases x <;> first | exact q1.elim | skip
  exact ⟨_, r1.int, q1 _ F1 H1 (.refl S1.wf.fh) S1.wf.mr rfl⟩
theorem op_eqDD (hu : X.A.units + 64 < cLine) : OpD X E (compareOp .Eq) (eqD false) := by
  refine ⟨_, op_eqD hu, fun i s F H x y a b Q W va vb q => ?_⟩
  unfold eqD at q
  cases e1 : conv a with
  | none => rw [e1] at q; exact q.elim
  | some d =>
    cases e2 : conv b with
    | none => rw [e1, e2] at q; exact q.elim
    | some d' =>
      rw [e1, e2] at q
      obtain ⟨h, q⟩ := ok_if q
      rw [Bool.and_eq_true] at h
      exact ⟨d, d', dp_view W.fh va e1, dp_view W.fh vb e2, h.1, h.2, q _ F H (.refl W.fh) W.mr (by rw [Bool.false_xor]; rfl)⟩
theorem op_neDD (hu : X.A.units + 64 < cLine) : OpD X E (compareOp .NotEq) (eqD true) := by
  refine ⟨_, op_neD hu, fun i s F H x y a b Q W va vb q => ?_⟩
  unfold eqD at q
  cases e1 : conv a with
  | none => rw [e1] at q; exact q.elim
  | some d =>
    cases e2 : conv b with
    | none => rw [e1, e2] at q; exact q.elim
    | some d' =>
      rw [e1, e2] at q
      obtain ⟨h, q⟩ := ok_if q
      rw [Bool.and_eq_true] at h
      exact ⟨d, d', dp_view W.fh va e1, dp_view W.fh vb e2, h.1, h.2, q _ F H (.refl W.fh) W.mr (by rw [Bool.true_xor]; rfl)⟩
theorem de_ix {fa fb : List Sl → M Dt} (ha : DV X E a fa) (hb : DV X E b fb) (hs : PlainIx b := by exact fun _ _ => rfl) : DE X E (.Subscript a b pos) (bin fa fb ixD) := by
  obtain ⟨ta, pa, ja⟩ := ha
  obtain ⟨tb, pb, jb⟩ := hb
  refine ⟨_, pe_ix ix_seq pa pb hs, fun i F0 H0 F H σ δ s Q S q => ja.use S q fun x s1 v F1 H1 e0 x1 S1 r1 q1 => jb.use S1 q1 fun y s2 u F2 H2 e2 x2 S2 r2 q2 => ?_⟩
  clear e0 e2
  replace r1 := r1.ext x2
  cases x <;> cases y <;> first | exact q2.elim | skip
  · rename_i z k
    simp only [ixD] at q2
    cases e : atI z.cps.toList k with
    | none => rw [e] at q2; exact q2.elim
    | some c =>
      rw [e] at q2
      obtain ⟨h, q2⟩ := ok_if q2
      exact .inr (.inr ⟨z, k, c, r1.str, r2.int, le_line h, e, q2 _ F2 H2 (.refl S2.wf.fh) S2.wf.mr rfl⟩)
  · rename_i l k
    simp only [ixD] at q2
    cases e : atI l k with
    | none => rw [e] at q2; exact q2.elim
    | some d =>
      rw [e] at q2
      obtain ⟨p, vs, h0, h1, h2⟩ := r1.tup
      obtain ⟨w, e1, e2⟩ := h2.at e
      exact .inr (.inl ⟨p, vs, k, w, h0, r2.int, sqT_same S2.wf.fh h1, e1, q2 _ F2 H2 (.refl S2.wf.fh) S2.wf.mr e2⟩)
  · rename_i l k
    simp only [ixD] at q2
    cases e : atI l k with
    | none => rw [e] at q2; exact q2.elim
    | some d =>
      rw [e] at q2
      obtain ⟨p, vs, h0, h1, h2⟩ := r1.lst S2.wf.fh
      obtain ⟨w, e1, e2⟩ := h2.at e
      exact .inl ⟨p, vs, k, w, h0, r2.int, SqL.of h1, e1, q2 _ F2 H2 (.refl S2.wf.fh) S2.wf.mr e2⟩
theorem do_none : DO X E none oNone := ⟨_, po_none, fun i F0 H0 F H σ δ s Q S q => q none F H (.refl S.wf.fh) S.wf.mr rfl⟩
theorem do_some {f : List Sl → M Dt} (h : DV X E e f) : DO X E (some e) (oSome f) := by
  obtain ⟨t, pt, jt⟩ := h
  refine ⟨_, po_some pt, fun i F0 H0 F H σ δ s Q S q => jt.use S q fun x s1 v F1 H1 e0 x1 S1 r1 q1 => ?_⟩
  clear e0
  cases x <;> first | exact q1.elim | skip
  exact ⟨_, r1.int, q1 _ F1 H1 (.refl S1.wf.fh) S1.wf.mr rfl⟩
theorem de_sl {f : List Sl → M Dt} {fl fh : List Sl → M (Option Int)} {lo hi : Option Expr} {p2 : Pos} (h : DV X E e f) (hl : DO X E lo fl) (hh : DO X E hi fh) : DE X E (.Subscript e (.Slice lo hi none p2) pos) (cSl f fl fh) := by
  obtain ⟨t, pt, jt⟩ := h
  obtain ⟨tl, pl, jl⟩ := hl
  obtain ⟨th, ph, jh⟩ := hh
  refine ⟨_, pe_slice (sl_list.or (sl_tupA.or sl_str)) pt pl ph, fun i F0 H0 F H σ δ s Q S q => jt.use S q fun x s1 v F1 H1 e0 x1 S1 r1 q1 => jl.use S1 q1 fun lx s2 l' F2 H2 e2 x2 S2 r2 q2 => jh.use S2 q2 fun ux s3 u' F3 H3 e3 x3 S3 r3 q3 => ?_⟩
  clear e0 e2 e3
  replace r1 := (r1.ext x2).ext x3
  have r2 : l' = lx := r2
  have r3 : u' = ux := r3
  subst r2 r3
  cases x <;> first | exact q3.elim | skip
  · obtain ⟨h, q3⟩ := ok_if q3
    exact .inr (.inr ⟨_, r1.str, le_line h, q3 _ F3 H3 (.refl S3.wf.fh) S3.wf.mr rfl⟩)
  · rename_i l
    obtain ⟨p, vs, h0, h1, h2⟩ := r1.tup
    refine .inr (.inl ⟨p, vs, h0, sqT_same S3.wf.fh h1, fun hw => ?_, fun _ z hz => ?_⟩)
    · rw [h2.len] at hw
      exact q3 _ F3 H3 (.refl S3.wf.fh) S3.wf.mr ⟨p, vs, rfl, h1, by rw [cutD_whole hw]; exact h2⟩
    · exact q3 _ _ _ (ext_newK S3.wf.fh hz) (mr_new S3.wf.mr hz) ⟨z, _, rfl, .inl (.inl upd_same), Reps.same (same_know (S3.wf.fh.free hz)) _ (h2.cut l' u')⟩
  · obtain ⟨p, vs, h0, h1, h2⟩ := r1.lst S3.wf.fh
    exact .inl ⟨p, vs, h0, SqL.of h1, fun z hz => q3 _ _ _ (ext_new S3.wf.fh hz) (mr_new S3.wf.mr hz) ⟨z, _, rfl, upd_same, S3.wf.fh.free hz, hz, h2.cut l' u'⟩⟩
  · obtain ⟨p, h0, h1⟩ := r1.scr
    exact .inl ⟨p, _, h0, sqL_same S3.wf.fh h1, fun z hz => q3 _ _ _ (ext_new S3.wf.fh hz) (mr_new S3.wf.mr hz) ⟨z, _, rfl, upd_same, S3.wf.fh.free hz, hz, reps_ints.cut l' u'⟩⟩
theorem de_not {fa : List Sl → M Dt} (ha : DV X E a fa) : DE X E (.UnaryOp .Not a pos) (una fa notD) := by
  obtain ⟨ta, pa, ja⟩ := ha
  refine ⟨_, pe_not pa, fun i F0 H0 F H σ δ s Q S q => ja.use S q fun x s1 v F1 H1 e0 x1 S1 r1 q1 => ?_⟩
  clear e0
  cases x <;> first | exact q1.elim | skip
  exact ⟨_, r1.bl, q1 _ F1 H1 (.refl S1.wf.fh) S1.wf.mr rfl⟩
theorem de_one {o : BoolOp} {f : List Sl → M R} (h : DE X E a f) : DE X E (.BoolOp o [a] pos) f := let ⟨t, pt, jt⟩ := h; ⟨t, pe_one pt, jt⟩
theorem de_and {f : List Sl → M Dt} {g : List Sl → M R} (h : DV X E a f) (hr : DE X E (.BoolOp .And (b :: es) pos) g) : DE X E (.BoolOp .And (a :: b :: es) pos) (andV f g) := by
  obtain ⟨t, pt, jt⟩ := h
  obtain ⟨u, pu, ju⟩ := hr
  refine ⟨_, pe_and pt pu, fun i F0 H0 F H σ δ s Q S q => jt.use S q fun x s1 v F1 H1 e0 x1 S1 r1 q1 => ?_⟩
  clear e0
  cases x <;> first | exact q1.elim | skip
  rename_i z
  refine ⟨z, r1.bl, ?_⟩
  cases z with
  | true => exact ju i F0 H0 F1 H1 σ δ s1 Q S1 q1
  | false => exact q1 _ F1 H1 (.refl S1.wf.fh) S1.wf.mr rfl
theorem dt_v {f : List Sl → M Dt} (h : DV X E e f) (he : ∀ whole, isTrue e X.env whole = (do let v ← whole; standAt e.pos; holding [v] (truthy v)) := by intro _; rfl) : DT X E e (tV f) := by
  obtain ⟨t, pt, jt⟩ := h
  refine ⟨_, pt_truth pt he, fun i F0 H0 F H σ δ s Q S q => jt.use S q fun x s1 v F1 H1 e0 x1 S1 r1 q1 => ?_⟩
  clear e0
  have fin : ∀ {z : Bool}, Ok X.K (kB X.K i) i E F1 H1 Q (M.ret z s1) → Q z H1 := fun q => q _ F1 H1 (.refl S1.wf.fh) S1.wf.mr rfl
  cases x <;> first | exact q1.elim | skip
  · rw [r1.non]; exact ⟨_, rfl, fin q1⟩
  · rw [r1.bl]; exact ⟨_, rfl, fin q1⟩
  · rw [r1.int]; exact ⟨_, rfl, fin q1⟩
  · obtain ⟨h, q1⟩ := ok_if q1
    rw [r1.str]
    exact ⟨_, ⟨le_line h, rfl⟩, fin q1⟩
  · rename_i l
    obtain ⟨p, vs, h0, h1, h2⟩ := r1.tup
    rw [h0]
    have e : (!vs.isEmpty) = !l.isEmpty := by rw [isEmp h2.len]
    exact ⟨_, .inr (.inl ⟨vs, sqT_same S1.wf.fh h1, rfl⟩), by rw [e]; exact fin q1⟩
  · rename_i l
    obtain ⟨p, vs, h0, h1, h2⟩ := r1.lst S1.wf.fh
    rw [h0]
    have e : (!vs.isEmpty) = !l.isEmpty := by rw [isEmp h2.len]
    exact ⟨_, .inl ⟨vs, SqL.of h1, rfl⟩, by rw [e]; exact fin q1⟩
  · rename_i ks l
    obtain ⟨p, kvs, h0, h1, h2, h3⟩ := r1.rep fun _ e => nomatch e
    rw [h0]
    have e : (!kvs.isEmpty) = !ks.isEmpty := by rw [isEmp (show kvs.length = ks.length by rw [← h2, List.length_map])]
    exact ⟨_, .inr (.inr ⟨kvs, S1.wf.fh _ _ h1, rfl⟩), by rw [e]; exact fin q1⟩
theorem dt_not {f : List Sl → M Bool} (h : DT X E a f) : DT X E (.UnaryOp .Not a pos) (tNotD f) := by
  obtain ⟨t, pt, jt⟩ := h
  refine ⟨_, pt_not pt, fun i F0 H0 F H σ δ s Q S q => jt.use S q fun x s1 v F1 H1 e0 x1 S1 r1 q1 => ?_⟩
  clear e0
  have r1 : v = x := r1
  subst r1
  exact q1 _ F1 H1 (.refl S1.wf.fh) S1.wf.mr rfl
theorem dt_w {f : List Sl → M Bool} (h : DW X E e f) : DT X E e f := let ⟨t, pt, jt⟩ := h; ⟨t, pt.pt, jt⟩
theorem dw_and1 {f : List Sl → M Bool} (h : DT X E a f) : DW X E (.BoolOp .And [a] pos) f := let ⟨t, pt, jt⟩ := h; ⟨t, pw_and1 pt, jt⟩
theorem dw_or1 {f : List Sl → M Bool} (h : DT X E a f) : DW X E (.BoolOp .Or [a] pos) f := let ⟨t, pt, jt⟩ := h; ⟨t, pw_or1 pt, jt⟩
theorem dw_and {f g : List Sl → M Bool} (h : DT X E a f) (hr : DW X E (.BoolOp .And (b :: es) pos) g) : DW X E (.BoolOp .And (a :: b :: es) pos) (tAndD f g) := by
  obtain ⟨t, pt, jt⟩ := h
  obtain ⟨u, pu, ju⟩ := hr
  refine ⟨_, pw_and pt pu, fun i F0 H0 F H σ δ s Q S q => jt.use S q fun x s1 v F1 H1 e0 x1 S1 r1 q1 => ?_⟩
  clear e0
  have r1 : v = x := r1
  subst r1
  cases v with
  | true => exact ju i F0 H0 F1 H1 σ δ s1 Q S1 q1
  | false => exact q1 _ F1 H1 (.refl S1.wf.fh) S1.wf.mr rfl
theorem dw_or {f g : List Sl → M Bool} (h : DT X E a f) (hr : DW X E (.BoolOp .Or (b :: es) pos) g) : DW X E (.BoolOp .Or (a :: b :: es) pos) (tOrD f g) := by
  obtain ⟨t, pt, jt⟩ := h
  obtain ⟨u, pu, ju⟩ := hr
  refine ⟨_, pw_or pt pu, fun i F0 H0 F H σ δ s Q S q => jt.use S q fun x s1 v F1 H1 e0 x1 S1 r1 q1 => ?_⟩
  clear e0
  have r1 : v = x := r1
  subst r1
  cases v with
  | true => exact q1 _ F1 H1 (.refl S1.wf.fh) S1.wf.mr rfl
  | false => exact ju i F0 H0 F1 H1 σ δ s1 Q S1 q1
end
end DL
namespace DL
open PySem L2
def tOf {α β : Type} (k : PySem.W.Frag → Ix → Kind α β) (K : PySem.W.Frag) (E : XK) (f : List Sl → M α) : L2.St → Hp → (β → Hp → Prop) → Prop :=
  fun σ H Q => ∃ i F0 H0 F δ s, Sinv K i F0 H0 F H σ δ s ∧ Ok K (k K i) i E F H Q (f δ s)
theorem tOf_j {α β : Type} {k : PySem.W.Frag → Ix → Kind α β} {K : PySem.W.Frag} {E : XK} {f : List Sl → M α} : J k K E (tOf k K E f) f := fun i F0 H0 F H σ δ s Q S q => ⟨i, F0, H0, F, δ, s, S, q⟩
theorem DE.pe {X : Cx} {E : XK} {e : Expr} {f : List Sl → M R} (h : DE X E e f) : PE X e (tOf kR X.K E f) :=
  let ⟨_, pt, jt⟩ := h; ⟨fun pins s σ H Q I ⟨i, F0, H0, F, δ, s', S, q⟩ => pt.run pins s σ H Q I (jt i F0 H0 F H σ δ s' Q S q)⟩
theorem DT.pt {X : Cx} {E : XK} {e : Expr} {f : List Sl → M Bool} (h : DT X E e f) : PT X e (tOf kB X.K E f) :=
  let ⟨_, pt, jt⟩ := h; ⟨fun pins s σ H Q I ⟨i, F0, H0, F, δ, s', S, q⟩ => pt.run pins s σ H Q I (jt i F0 H0 F H σ δ s' Q S q)⟩

inductive Fl where
  | nx (δ : List Sl) | ret (r : R) | bk (δ : List Sl) | ct (δ : List Sl)
def OkF (K : PySem.W.Frag) (i : Ix) (F0 H0 : Hp) (D : Ends) (s' : MS) : Fl → Prop
  | .nx δ' => ∀ σ' F' H', Sinv K i F0 H0 F' H' σ' δ' s' → D.nx σ' H'
  | .bk δ' => ∀ σ' F' H', Sinv K i F0 H0 F' H' σ' δ' s' → D.bk σ' H'
  | .ct δ' => ∀ σ' F' H', Sinv K i F0 H0 F' H' σ' δ' s' → D.ct σ' H'
  | .ret r => ∀ v F' H', Ext i F0 H0 F' H' → MR i s' H' → RepR K i H0 F' H' r v → D.rt v H'
def OkS (K : PySem.W.Frag) (i : Ix) (E : XK) (F0 H0 : Hp) (D : Ends) : Rs Fl → Prop
  | .ok f s' => OkF K i F0 H0 D s' f
  | .ex e s' => ∀ F' H', Ext i F0 H0 F' H' → MR i s' H' → ExOk K i E F' H' e
  | .no => False
def JS (K : PySem.W.Frag) (E : XK) (t : TS) (g : List Sl → M Fl) : Prop := ∀ i F0 H0 F H σ δ s D, Sinv K i F0 H0 F H σ δ s → OkS K i E F0 H0 D (g δ s) → t D σ H
def DS (X : Cx) (E : XK) (st : Stmt) (g : List Sl → M Fl) : Prop := ∃ t, PS X st t ∧ JS X.K E t g
def DSs (X : Cx) (E : XK) (st : List Stmt) (g : List Sl → M Fl) : Prop := ∃ t, PSs X st t ∧ JS X.K E t g
theorem J.useS {α β : Type} {k : PySem.W.Frag → Ix → Kind α β} {K : PySem.W.Frag} {E : XK} {t : L2.St → Hp → (β → Hp → Prop) → Prop} {f : List Sl → M α} {g : α → M Fl} {i : Ix} {F0 H0 F H : Hp} {σ : L2.St} {δ : List Sl} {s : MS} {D : Ends}
    {Q1 : β → Hp → Prop} (h : J k K E t f) (S : Sinv K i F0 H0 F H σ δ s) (q : OkS K i E F0 H0 D (M.bnd (f δ) g s))
    (cont : ∀ a s' v F' H', Ext i F H F' H' → Sinv K i F0 H0 F' H' σ δ s' → (k K i).rel H F' H' a v → OkS K i E F0 H0 D (g a s') → Q1 v H') : t σ H Q1 := by
  refine h i F0 H0 F H σ δ s Q1 S ?_
  unfold M.bnd at q
  cases e : f δ s with
  | ok a s' =>
    rw [e] at q
    intro v F' H' x m r
    exact cont a s' v F' H' x (S.ext x m) r q
  | ex e' s' =>
    rw [e] at q
    intro F' H' x m
    exact q F' H' (S.base.trans x) m
  | no =>
    rw [e] at q
    exact q.elim
theorem J.useSR {K : PySem.W.Frag} {E : XK} {t : L2.St → Hp → (V → Hp → Prop) → Prop} {f : List Sl → M R} {g : R → M Fl} {i : Ix} {F0 H0 F H : Hp} {σ : L2.St} {δ : List Sl} {s : MS} {D : Ends}
    {Q1 : V → Hp → Prop} (h : J kR K E t f) (S : Sinv K i F0 H0 F H σ δ s) (q : OkS K i E F0 H0 D (M.bnd (f δ) g s))
    (cont : ∀ r s' v F' H', Ext i F H F' H' → Sinv K i F0 H0 F' H' σ δ s' → Rep K i F' r.d v → OkS K i E F0 H0 D (g r s') → Q1 v H') : t σ H Q1 :=
  h.useS S q fun r s' v F' H' x S' rel q' => let ⟨F2, x2, _, hr⟩ := RepR.freeze rel x; cont r s' v F2 H' x2 (S.ext x2 S'.wf.mr) hr q'
theorem oks_if {K : PySem.W.Frag} {i : Ix} {E : XK} {F0 H0 : Hp} {D : Ends} {s : MS} {c : Prop} [Decidable c] {x : M Fl} (h : OkS K i E F0 H0 D ((if c then x else M.no) s)) : c ∧ OkS K i E F0 H0 D (x s) := by
  by_cases hc : c
  · rw [if_pos hc] at h
    exact ⟨hc, h⟩
  · rw [if_neg hc] at h
    exact h.elim

section
variable {K : PySem.W.Frag} {i : Ix} {F0 H0 F H F' H' : Hp} {σ : L2.St} {δ : List Sl} {s s' : MS}
theorem Foot.back (S : Sinv K i F0 H0 F H σ δ s) (sb : ∀ b o, H b = some o → ¬ G i b → H' b = some o) {b : Addr} (f : Foot K i H0 F' H' σ δ b) : H b ≠ none := by
  obtain ⟨k, ls, p, as, e1, e2, A, hb⟩ := f
  obtain ⟨p2, as2, g1, A2, _⟩ := S.nst k ls e1
  rw [e2] at g1
  cases g1
  have h := sb p _ A2.hp (A2.fr p (List.mem_cons_self ..)).2.2
  rw [A.hp] at h
  have h := HO.lst.inj (Option.some.inj h)
  have e : as = as2 := by
    have := congrArg (List.map fun v => match v with | V.ref q => q | _ => 0) h
    simpa [List.map_map, Function.comp_def] using this
  subst e
  obtain ⟨vs, h3⟩ := A2.lst b hb
  rw [h3]
  exact fun z => nomatch z
theorem Sinv.putE (S : Sinv K i F0 H0 F H σ δ s) (S' : Sinv K i F0 H0 F' H' σ δ s') {r : R} {v : V} (k : Nat) (hr : RepR K i H F' H' r v) (sb : ∀ b o, H b = some o → ¬ G i b → H' b = some o) : Sinv K i F0 H0 F' H' (σ.set k (some v)) (δ.set k r.sl) s' :=
  S'.put k hr (fun b e => S.base.al b e) (fun b g => S.wf.mr.there g) (fun j l p e1 e2 => by
    obtain ⟨p', vs, h1, h2, _⟩ := S.own j l e1
    rw [h1] at e2
    cases e2
    rw [h2]
    exact fun z => nomatch z) fun b f => f.back S sb
theorem Sinv.putD (S : Sinv K i F0 H0 F H σ δ s) {d : Dt} {v : V} (k : Nat) (hr : Rep K i F d v) : Sinv K i F0 H0 F H (σ.set k (some v)) (δ.set k (.val d)) s :=
  S.putE S (r := .val d) k hr fun _ _ e _ => e
theorem Sinv.store (S : Sinv K i F0 H0 F H σ δ s) {k : Nat} {l l' : List Dt} {p : Addr} {vs' : List V} (hk : δ[k]? = some (.own l)) (hσ : σ[k]? = some (some (.ref p))) (hr : Reps K i F l' vs') :
    Sinv K i F0 H0 F (upd H p (.lst vs')) σ (δ.set k (.own l')) s := by
  obtain ⟨p', vs, e1, h1, h2, h3, h4, h5⟩ := S.own k l hk
  rw [hσ] at e1
  cases e1
  have hkl : k < δ.length := (List.getElem?_eq_some_iff.mp hk).1
  have ne : ∀ {b o}, F b = some o → b ≠ p := fun e => ne_of_none e h2
  have neg : ∀ b, G i b → b ≠ p := fun b g z => h4 (z ▸ g)
  refine ⟨⟨S.base.ff, fun b o e => by rw [upd_ne (ne e)]; exact S.base.fh _ _ e, fun b o e g => by rw [upd_ne (ne_of_none e h3)]; exact S.base.sb _ _ e g, S.base.nw, fun b e => ?_⟩,
    ⟨fun b o e => by rw [upd_ne (ne e)]; exact S.wf.fh _ _ e, S.wf.gf, S.wf.mr.put (.inr ⟨_, h1⟩) h4⟩, by rw [List.length_set]; exact S.len, fun j d e => ?_, fun j m e => ?_, fun j C ns m e => ?_, fun j j' m m' q hne e e' hq => ?_, S.nst.to (Same.refl _) (fun j ls e => by
      by_cases hj : j = k
      · subst hj
        rw [List.getElem?_set_self hkl] at e
        cases e
      · rw [List.getElem?_set_ne (fun z => hj z.symm)] at e
        exact ⟨e, rfl⟩) fun j ls p2 as e1' e2' A O => ⟨fun b hb => ⟨upd_ne fun (z : b = p) => O k l p hk hσ (z ▸ hb), (A.fr b hb).1, (A.fr b hb).2.1⟩, fun j' m q ej eq hq => by
      by_cases hj : j' = k
      · subst hj
        rw [hσ] at eq
        cases eq
        exact O j' l p hk hσ hq
      · rw [List.getElem?_set_ne (fun z => hj z.symm)] at ej
        exact O j' m q ej eq hq⟩⟩
  · by_cases hb : b = p
    · rw [hb, upd_same]; exact fun z => nomatch z
    · rw [upd_ne hb]; exact S.base.al b e
  · by_cases hj : j = k
    · subst hj
      rw [List.getElem?_set_self hkl] at e
      cases e
    · rw [List.getElem?_set_ne (fun z => hj z.symm)] at e
      exact S.slot j d e
  · by_cases hj : j = k
    · subst hj
      rw [List.getElem?_set_self hkl] at e
      cases e
      exact ⟨p, vs', hσ, upd_same, h2, h3, h4, hr⟩
    · rw [List.getElem?_set_ne (fun z => hj z.symm)] at e
      obtain ⟨q, us, g1, g2, g3, g4, g5, g6⟩ := S.own j m e
      have : q ≠ p := fun z => by
        subst z
        exact S.sep j k m l q hj e hk g1 hσ
      exact ⟨q, us, g1, by rw [upd_ne this]; exact g2, g3, g4, g5, g6⟩
  · by_cases hj : j = k
    · subst hj
      rw [List.getElem?_set_self hkl] at e
      cases e
    · rw [List.getElem?_set_ne (fun z => hj z.symm)] at e
      obtain ⟨q, dx, gs, g1, g2, g3⟩ := S.ins j C ns m e
      have : q ≠ p := fun z => by
        subst z
        rw [h1] at g2
        cases g2
      exact ⟨q, dx, gs, g1, by rw [upd_ne this]; exact g2, g3⟩
  · have look : ∀ {j : Nat} {m : List Dt}, (δ.set k (.own l'))[j]? = some (.own m) → ∃ m', δ[j]? = some (.own m') := by
      intro j m e
      by_cases hj : j = k
      · subst hj; exact ⟨l, hk⟩
      · rw [List.getElem?_set_ne (fun z => hj z.symm)] at e
        exact ⟨m, e⟩
    obtain ⟨a, e1⟩ := look e
    obtain ⟨b, e2⟩ := look e'
    exact S.sep j j' a b q hne e1 e2 hq
theorem Sinv.freeze (S : Sinv K i F0 H0 F H σ δ s) {k : Nat} {l : List Dt} (hk : δ[k]? = some (.own l)) : ∃ F', Sinv K i F0 H0 F' H σ (δ.set k (.val (.lst l))) s := by
  obtain ⟨p, vs, e1, h1, h2, h3, h4, h5⟩ := S.own k l hk
  have hkl : k < δ.length := (List.getElem?_eq_some_iff.mp hk).1
  have sf : Same F (upd F p (.lst vs)) := same_know h2
  refine ⟨upd F p (.lst vs), S.base.know h3 h1 h2, ⟨fun b o e => ?_, fun b g => ?_, S.wf.mr⟩, by rw [List.length_set]; exact S.len, fun j d e => ?_, fun j m e => ?_, fun j C ns m e => ?_, fun j j' m m' q hne e e' hq => ?_, S.nst.to sf (fun j ls e => by
      by_cases hj : j = k
      · subst hj
        rw [List.getElem?_set_self hkl] at e
        cases e
      · rw [List.getElem?_set_ne (fun z => hj z.symm)] at e
        exact ⟨e, rfl⟩) fun j ls p2 as e1' e2' A O => ⟨fun b hb => ⟨rfl, by rw [upd_ne fun (z : b = p) => O k l p hk e1 (z ▸ hb)]; exact (A.fr b hb).1, (A.fr b hb).2.1⟩, fun j' m q ej eq hq => by
      by_cases hj : j' = k
      · subst hj
        rw [List.getElem?_set_self hkl] at ej
        cases ej
      · rw [List.getElem?_set_ne (fun z => hj z.symm)] at ej
        exact O j' m q ej eq hq⟩⟩
  · by_cases hb : b = p
    · subst hb; rw [upd_same] at e; rw [h1, e]
    · rw [upd_ne hb] at e; exact S.wf.fh _ _ e
  · rw [upd_ne fun (z : b = p) => h4 (z ▸ g)]
    exact S.wf.gf b g
  · by_cases hj : j = k
    · subst hj
      rw [List.getElem?_set_self hkl] at e
      cases e
      exact ⟨_, e1, p, vs, rfl, upd_same, Reps.same sf l h5⟩
    · rw [List.getElem?_set_ne (fun z => hj z.symm)] at e
      obtain ⟨v, g1, g2⟩ := S.slot j d e
      exact ⟨v, g1, Rep.same sf d g2⟩
  · by_cases hj : j = k
    · subst hj
      rw [List.getElem?_set_self hkl] at e
      cases e
    · rw [List.getElem?_set_ne (fun z => hj z.symm)] at e
      obtain ⟨q, us, g1, g2, g3, g4, g5, g6⟩ := S.own j m e
      have : q ≠ p := fun z => by
        subst z
        exact S.sep j k m l q hj e hk g1 e1
      exact ⟨q, us, g1, g2, by rw [upd_ne this]; exact g3, g4, g5, Reps.same sf m g6⟩
  · by_cases hj : j = k
    · subst hj
      rw [List.getElem?_set_self hkl] at e
      cases e
    · rw [List.getElem?_set_ne (fun z => hj z.symm)] at e
      obtain ⟨q, dx, gs, g1, g2, g3, g4, g5, g6, g7, g8⟩ := S.ins j C ns m e
      have : q ≠ p := fun z => by
        subst z
        rw [h1] at g2
        cases g2
      exact ⟨q, dx, gs, g1, g2, by rw [upd_ne this]; exact g3, g4, g5, g6, g7, Reps.same sf m g8.1, g8.2⟩
  · have look : ∀ {j : Nat} {m : List Dt}, (δ.set k (.val (.lst l)))[j]? = some (.own m) → δ[j]? = some (.own m) := by
      intro j m e
      by_cases hj : j = k
      · subst hj
        rw [List.getElem?_set_self hkl] at e
        cases e
      · rw [List.getElem?_set_ne (fun z => hj z.symm)] at e
        exact e
    exact S.sep j j' m m' q hne (look e) (look e') hq
theorem reps_rows {K : PySem.W.Frag} {i : Ix} {F : Hp} : ∀ (as : List Addr) (ls : List (List Dt)), as.length = ls.length → (∀ (j : Nat) (q : Addr) (l : List Dt), as[j]? = some q → ls[j]? = some l → ∃ vs, F q = some (.lst vs) ∧ Reps K i F l vs) → Reps K i F (ls.map .lst) (as.map V.ref)
  | [], [], _, _ => rfl
  | [], _ :: _, h, _ => by cases h
  | _ :: _, [], h, _ => by cases h
  | q :: as, l :: ls, h, g => by
    obtain ⟨vs, h1, h2⟩ := g 0 q l rfl rfl
    exact .cons ⟨q, vs, rfl, h1, h2⟩ (reps_rows as ls (by simpa using h) fun j b m e1 e2 => g (j + 1) b m e1 e2)
theorem Sinv.freezeN (S : Sinv K i F0 H0 F H σ δ s) {k : Nat} {ls : List (List Dt)} (hk : δ[k]? = some (.nst ls)) : ∃ F', Sinv K i F0 H0 F' H σ (δ.set k (.val (.lst (ls.map .lst)))) s := by
  obtain ⟨p, as, e1, A, O, one⟩ := S.nst k ls hk
  have hkl : k < δ.length := (List.getElem?_eq_some_iff.mp hk).1
  have out : ∀ {b : Addr}, b ∉ p :: as → (if b ∈ p :: as then H b else F b) = F b := fun h => if_neg h
  have inn : ∀ {b : Addr}, b ∈ p :: as → (if b ∈ p :: as then H b else F b) = H b := fun h => if_pos h
  have sf : Same F (fun b => if b ∈ p :: as then H b else F b) := fun b o e => by
    show (if b ∈ p :: as then H b else F b) = some o
    rw [out fun h => by rw [(A.fr b h).1] at e; cases e]
    exact e
  have look : ∀ {j : Nat} {x : Sl}, (∀ d, x ≠ .val d) → (δ.set k (.val (.lst (ls.map .lst))))[j]? = some x → j ≠ k ∧ δ[j]? = some x := fun {j x} hx e => by
    by_cases hj : j = k
    · subst hj
      rw [List.getElem?_set_self hkl] at e
      exact absurd (Option.some.inj e).symm (hx _)
    · rw [List.getElem?_set_ne (fun z => hj z.symm)] at e
      exact ⟨hj, e⟩
  refine ⟨fun b => if b ∈ p :: as then H b else F b, ⟨S.base.ff.trans sf, fun b o e => ?_, S.base.sb, fun b e n => ?_, S.base.al⟩, ⟨fun b o e => ?_, fun b g => ?_, S.wf.mr⟩, by rw [List.length_set]; exact S.len, fun j d e => ?_, fun j m e => ?_, fun j C ns m e => ?_, fun j j' m m' q hne e e' hq => ?_, .none fun j ms e => ?_⟩
  · by_cases hb : b ∈ p :: as
    · exact (inn hb).symm.trans e
    · exact S.wf.fh b o ((out hb).symm.trans e)
  · have hb : b ∉ p :: as := fun h => e (A.fr b h).2.1
    exact (out hb).trans (S.base.nw b e n)
  · by_cases hb : b ∈ p :: as
    · exact (inn hb).symm.trans e
    · exact S.wf.fh b o ((out hb).symm.trans e)
  · have hb : b ∉ p :: as := fun h => (A.fr b h).2.2 g
    exact (out hb).trans (S.wf.gf b g)
  · by_cases hj : j = k
    · subst hj
      rw [List.getElem?_set_self hkl] at e
      cases e
      refine ⟨_, e1, p, as.map V.ref, rfl, (inn (List.mem_cons_self ..)).trans A.hp, reps_rows as ls A.len fun j q l g1 g2 => ?_⟩
      obtain ⟨vs, h1, h2⟩ := A.at_ j q l g1 g2
      exact ⟨vs, (inn (List.mem_cons_of_mem _ (List.mem_of_getElem? g1))).trans h1, Reps.same sf l h2⟩
    · rw [List.getElem?_set_ne (fun z => hj z.symm)] at e
      obtain ⟨v, g1, g2⟩ := S.slot j d e
      exact ⟨v, g1, Rep.same sf d g2⟩
  · obtain ⟨hj, e⟩ := look (by intro d z; cases z) e
    obtain ⟨q, us, g1, g2, g3, g4, g5, g6⟩ := S.own j m e
    exact ⟨q, us, g1, g2, (out (O j m q e g1)).trans g3, g4, g5, Reps.same sf m g6⟩
  · obtain ⟨hj, e⟩ := look (by intro d z; cases z) e
    obtain ⟨q, dx, gs, g1, g2, g3, g4, g5, g6, g7, g8⟩ := S.ins j C ns m e
    have hq : q ∉ p :: as := fun h => by
      obtain ⟨vs, z⟩ := A.lst q h
      rw [g2] at z
      cases z
    exact ⟨q, dx, gs, g1, g2, (out hq).trans g3, g4, g5, g6, g7, Reps.same sf m g8.1, g8.2⟩
  · exact S.sep j j' m m' q hne (look (by intro d z; cases z) e).2 (look (by intro d z; cases z) e').2 hq
  · obtain ⟨hj, e⟩ := look (by intro d z; cases z) e
    exact hj (one j ms e)
theorem Ext.rebase {F1 : Hp} (b : Ext i F0 H0 F1 H) (x : Ext i F1 H0 F' H') : Ext i F0 H0 F' H' :=
  ⟨b.ff.trans x.ff, x.fh, x.sb, fun c e n => x.nw c e (b.nw c e n), x.al⟩
theorem Ext.self (b : Ext i F0 H0 F H) : Ext i F H0 F H := ⟨Same.refl _, b.fh, b.sb, fun _ _ n => n, b.al⟩
theorem Sinv.self (S : Sinv K i F0 H0 F H σ δ s) : Sinv K i F H0 F H σ δ s := ⟨S.base.self, S.wf, S.len, S.slot, S.own, S.ins, S.sep, S.nst⟩
theorem Sinv.rebase {F1 H1 : Hp} (b : Ext i F0 H0 F1 H1) (S : Sinv K i F1 H0 F H σ δ s) : Sinv K i F0 H0 F H σ δ s := ⟨b.rebase S.base, S.wf, S.len, S.slot, S.own, S.ins, S.sep, S.nst⟩
theorem OkS.rebase {E : XK} {F1 H1 : Hp} {D : Ends} (b : Ext i F0 H0 F1 H1) : ∀ {r : Rs Fl}, OkS K i E F0 H0 D r → OkS K i E F1 H0 D r
  | .ok (.nx δ') s', q => fun σ' F' H' S => q σ' F' H' (S.rebase b)
  | .ok (.bk δ') s', q => fun σ' F' H' S => q σ' F' H' (S.rebase b)
  | .ok (.ct δ') s', q => fun σ' F' H' S => q σ' F' H' (S.rebase b)
  | .ok (.ret r) s', q => fun v F' H' x m h => q v F' H' (b.rebase x) m h
  | .ex e s', q => fun F' H' x m => q F' H' (b.rebase x) m
  | .no, q => q
end
def gSeq (g1 g2 : List Sl → M Fl) : List Sl → M Fl := fun δ => M.bnd (g1 δ) fun
  | .nx δ' => g2 δ'
  | f => M.ret f
def gNx : List Sl → M Fl := fun δ => M.ret (.nx δ)
def gSet (k : Nat) (f : List Sl → M R) : List Sl → M Fl := fun δ => M.bnd (f δ) fun r => M.ret (.nx (δ.set k r.sl))
def gDrop (f : List Sl → M R) : List Sl → M Fl := fun δ => M.bnd (f δ) fun _ => M.ret (.nx δ)
def gRet (f : List Sl → M R) : List Sl → M Fl := fun δ => M.bnd (f δ) fun r => M.ret (.ret r)
def gRetV (k : Nat) : List Sl → M Fl := fun δ => match δ[k]? with
  | some (.val d) => M.ret (.ret (.val d))
  | some (.own l) => M.ret (.ret (.new l))
  | _ => M.no
def gRetN : List Sl → M Fl := fun _ => M.ret (.ret (.val .non))
def gIf (t : List Sl → M Bool) (f g : List Sl → M Fl) : List Sl → M Fl := fun δ => M.bnd (t δ) fun b => if b = true then f δ else g δ
def gBk : List Sl → M Fl := fun δ => M.ret (.bk δ)
def gCt : List Sl → M Fl := fun δ => M.ret (.ct δ)
def frz (k : Nat) (δ : List Sl) : List Sl := match δ[k]? with
  | some (.own l) => δ.set k (.val (.lst l))
  | some (.nst ls) => δ.set k (.val (.lst (ls.map .lst)))
  | _ => δ
def gFrz (k : Nat) (g : List Sl → M Fl) : List Sl → M Fl := fun δ => g (frz k δ)
def gApp (k : Nat) (f : List Sl → M R) : List Sl → M Fl := fun δ => match δ[k]? with
  | some (.own l) => M.bnd (f δ) fun r => if l.length < 100000 then M.ret (.nx (δ.set k (.own (l ++ [r.d])))) else M.no
  | _ => M.no
def gExt (k : Nat) (f : List Sl → M Dt) : List Sl → M Fl := fun δ => match δ[k]? with
  | some (.own l) => M.bnd (f δ) fun
    | .lst m => if l.length + m.length ≤ 100000 then M.ret (.nx (δ.set k (.own (l ++ m)))) else M.no
    | _ => M.no
  | _ => M.no
def gSetI (k : Nat) (f : List Sl → M R) (fi : List Sl → M Dt) : List Sl → M Fl := fun δ => match δ[k]? with
  | some (.own l) => M.bnd (f δ) fun r => M.bnd (fi δ) fun
    | .int j => (match ixN l.length j with
      | some n => M.ret (.nx (δ.set k (.own (l.set n r.d))))
      | none => M.no)
    | _ => M.no
  | _ => M.no
def tgN (k : Nat) : Dt → List Sl → Option (List Sl) := fun d δ => some (δ.set k (.val d))
def tgs : List (Dt → List Sl → Option (List Sl)) → List Dt → List Sl → Option (List Sl)
  | [], [], δ => some δ
  | g :: gs, d :: ds, δ => match g d δ with
    | some δ' => tgs gs ds δ'
    | none => none
  | _, _, _ => none
def tgT (gs : List (Dt → List Sl → Option (List Sl))) : Dt → List Sl → Option (List Sl) := fun d δ => match d with
  | .tup l => tgs gs l δ
  | _ => none
def gAsg (f : List Sl → M R) (g : Dt → List Sl → Option (List Sl)) : List Sl → M Fl := fun δ => M.bnd (f δ) fun r => match g r.d δ with
  | some δ' => M.ret (.nx δ')
  | none => M.no

section
variable {X : Cx} {E : XK} {a b c e : Expr} {st : Stmt} {sts rest : List Stmt} {pos : Pos}
theorem dss_nil : DSs X E [] gNx := ⟨_, pss_nil, fun i F0 H0 F H σ δ s D S q => q σ F H S⟩
theorem dss_one {g : List Sl → M Fl} (h : DS X E st g) : DSs X E [st] g := let ⟨t, pt, jt⟩ := h; ⟨t, pss_one pt, jt⟩
theorem dss_cons {g g2 : List Sl → M Fl} (h : DS X E st g) (hr : DSs X E rest g2) : DSs X E (st :: rest) (gSeq g g2) := by
  obtain ⟨t, pt, jt⟩ := h
  obtain ⟨u, pu, ju⟩ := hr
  refine ⟨_, pss_cons pt pu, fun i F0 H0 F H σ δ s D S q => jt i F0 H0 F H σ δ s _ S ?_⟩
  unfold gSeq M.bnd at q
  cases e : g δ s with
  | ok f s' =>
    rw [e] at q
    cases f with
    | nx δ' => exact fun σ' F' H' S' => ju i F0 H0 F' H' σ' δ' s' D S' q
    | ret r => exact q
    | bk δ' => exact q
    | ct δ' => exact q
  | ex e' s' => rw [e] at q; exact q
  | no => rw [e] at q; exact q.elim
theorem ds_set (k : Nat) {x : Str} {f : List Sl → M R} {pos' : Pos} (hN : X.N.Nodup) (he : DE X E e f) (hi : X.N[k]? = some x := by rfl) (hx : Loc X.env.scope x := by first | exact Or.inl rfl | exact Or.inr rfl) (hs : swapsWith e (some (.Name x pos')) pos.line X.env = pure false := by rfl)
    (hf : X.fn x = true ∨ X.env.scope.names.lookup x = some .local := by first | exact .inl rfl | exact .inr rfl | assumption) : DS X E (.Assign [.Name x pos'] e pos) (gSet k f) := by
  obtain ⟨t, pt, jt⟩ := he
  exact ⟨_, ps_set hN hi hx pt hs hf, fun i F0 H0 F H σ δ s D S q => jt.useS S q fun r s1 v F1 H1 x1 S1 r1 q1 => q1 _ F1 H1 (S.putE S1 k r1 x1.sb)⟩
theorem ds_expr {f : List Sl → M R} (he : DE X E e f) (hs : swapsWith e none pos.line X.env = pure false := by rfl) : DS X E (.Expr e pos) (gDrop f) := by
  obtain ⟨t, pt, jt⟩ := he
  exact ⟨_, ps_expr pt hs, fun i F0 H0 F H σ δ s D S q => jt.useSR S q fun r s1 v F1 H1 x1 S1 r1 q1 => q1 _ F1 H1 S1⟩
theorem ds_ret {f : List Sl → M R} (he : DE X E e f) : DS X E (.Return (some e) pos) (gRet f) := by
  obtain ⟨t, pt, jt⟩ := he
  exact ⟨_, ps_ret pt, fun i F0 H0 F H σ δ s D S q => jt.useS S q fun r s1 v F1 H1 x1 S1 r1 q1 => q1 v F1 H1 S1.base S1.wf.mr ((kR X.K i).mono (fun b e => S.base.al b e) r1)⟩
theorem ds_if {t : List Sl → M Bool} {f g : List Sl → M Fl} (hc : DT X E c t) (ha : DSs X E sts f) (hb : DSs X E rest g) : DS X E (.If c sts rest pos) (gIf t f g) := by
  obtain ⟨t, pt, jt⟩ := hc
  obtain ⟨u, pu, ju⟩ := ha
  obtain ⟨w, pw, jw⟩ := hb
  refine ⟨_, ps_if pt pu pw, fun i F0 H0 F H σ δ s D S q => jt.useS S q fun x s1 v F1 H1 x1 S1 r1 q1 => ?_⟩
  have r1 : v = x := r1
  subst r1
  cases v with
  | true => exact ju i F0 H0 F1 H1 σ δ s1 D S1 q1
  | false => exact jw i F0 H0 F1 H1 σ δ s1 D S1 q1
theorem ds_frz (k : Nat) {g : List Sl → M Fl} (h : DS X E st g) : DS X E st (gFrz k g) := by
  obtain ⟨t, pt, jt⟩ := h
  refine ⟨t, pt, fun i F0 H0 F H σ δ s D S q => ?_⟩
  unfold gFrz frz at q
  cases h : δ[k]? with
  | none => rw [h] at q; exact jt i F0 H0 F H σ δ s D S q
  | some z =>
    rw [h] at q
    cases z with
    | val d => exact jt i F0 H0 F H σ δ s D S q
    | non => exact jt i F0 H0 F H σ δ s D S q
    | ins C ns l => exact jt i F0 H0 F H σ δ s D S q
    | nst ls =>
      obtain ⟨F', S'⟩ := S.freezeN h
      exact jt i F0 H0 F' H σ _ s D S' q
    | own l =>
      obtain ⟨F', S'⟩ := S.freeze h
      exact jt i F0 H0 F' H σ _ s D S' q
theorem ds_app (k : Nat) {f : List Sl → M R} (h : ∀ t, PE X e t → PS X st (tDrop (tBM X.K "list" rAppend (tVar k) (tCons t tNil)))) (he : DE X E e f) : DS X E st (gApp k f) := by
  obtain ⟨t, pt, jt⟩ := he
  refine ⟨_, h t pt, fun i F0 H0 F H σ δ s D S q => ?_⟩
  unfold gApp at q
  cases hk : δ[k]? with
  | none => rw [hk] at q; exact q.elim
  | some z =>
    rw [hk] at q
    cases z with
    | val d => exact q.elim
    | non => exact q.elim
    | ins C ns l => exact q.elim
    | nst ls => exact q.elim
    | own l =>
      obtain ⟨p, vs, h1, h2, h3, h4, h5, h6⟩ := S.own k l hk
      refine ⟨_, h1, .inl ⟨rfl, vs, SqL.of h2⟩, jt.useSR S q fun r s1 v F1 H1 x1 S1 r1 q1 => ?_⟩
      obtain ⟨hl, q1⟩ := oks_if q1
      obtain ⟨p', vs', g1, g2, g3, g4, g5, g6⟩ := S1.own k l hk
      rw [h1] at g1
      cases g1
      exact ⟨p, vs', v, rfl, rfl, g2, lt_line (by rw [g6.len]; exact hl), q1 _ F1 _ (S1.store hk h1 (g6.append (.cons r1 .nil)))⟩
theorem ds_setI (k : Nat) {f : List Sl → M R} {fi : List Sl → M Dt} (h : ∀ t u, PE X e t → PE X a u → PS X st (tAsg t (gSub (tVar k) u rSetL))) (he : DE X E e f) (hi : DV X E a fi) : DS X E st (gSetI k f fi) := by
  obtain ⟨t, pt, jt⟩ := he
  obtain ⟨u, pu, ju⟩ := hi
  refine ⟨_, h t u pt pu, fun i F0 H0 F H σ δ s D S q => ?_⟩
  unfold gSetI at q
  cases hk : δ[k]? with
  | none => rw [hk] at q; exact q.elim
  | some z =>
    rw [hk] at q
    cases z with
    | val d => exact q.elim
    | non => exact q.elim
    | ins C ns l => exact q.elim
    | nst ls => exact q.elim
    | own l =>
      refine jt.useSR S q fun r s1 v F1 H1 x1 S1 r1 q1 => ?_
      obtain ⟨p, vs, h1, h2, h3, h4, h5, h6⟩ := S1.own k l hk
      refine ⟨_, h1, ju.useS S1 q1 fun z s2 w F2 H2 x2 S2 r2 q2 => ?_⟩
      cases z <;> first | exact q2.elim | skip
      rename_i j
      obtain ⟨p', vs', g1, g2, g3, g4, g5, g6⟩ := S2.own k l hk
      rw [h1] at g1
      cases g1
      cases ej : ixN l.length j with
      | none => simp only [ej] at q2; exact q2.elim
      | some n =>
        simp only [ej] at q2
        refine ⟨p, vs', j, n, rfl, View.int r2, g2, by rw [g6.len]; exact ej, q2 _ F2 _ (S2.store hk h1 (g6.set n (Rep.same x2.ff _ r1)))⟩
def JG (K : PySem.W.Frag) (t : TG) (g : Dt → List Sl → Option (List Sl)) : Prop := ∀ i F0 H0 F H σ δ s d v δ' (Q : L2.St → Hp → Prop), Sinv K i F0 H0 F H σ δ s → Rep K i F d v → g d δ = some δ' → (∀ σ', Sinv K i F0 H0 F H σ' δ' s → Q σ' H) → t v σ H Q
def JGs (K : PySem.W.Frag) (t : TGs) (gs : List (Dt → List Sl → Option (List Sl))) : Prop := ∀ i F0 H0 F H σ δ s ds vs δ' (Q : L2.St → Hp → Prop), Sinv K i F0 H0 F H σ δ s → Reps K i F ds vs → tgs gs ds δ = some δ' → (∀ σ', Sinv K i F0 H0 F H σ' δ' s → Q σ' H) → t vs σ H Q
def DG (X : Cx) (tg : Expr) (g : Dt → List Sl → Option (List Sl)) : Prop := ∃ t, PG X tg t ∧ JG X.K t g
def DGs (X : Cx) (tg : List Expr) (gs : List (Dt → List Sl → Option (List Sl))) : Prop := ∃ t, PGs X tg t ∧ JGs X.K t gs
theorem dg_name (k : Nat) {x : Str} {p : Pos} (hN : X.N.Nodup) (hi : X.N[k]? = some x := by rfl) (hx : Loc X.env.scope x := by first | exact Or.inl rfl | exact Or.inr rfl) (hf : X.fn x = true ∨ X.env.scope.names.lookup x = some .local := by first | exact .inl rfl | exact .inr rfl | assumption) : DG X (.Name x p) (tgN k) :=
  ⟨_, pg_name hN hi hx hf, fun i F0 H0 F H σ δ s d v δ' Q S r e q => by
    cases e
    exact q _ (S.putD k r)⟩
theorem dgs_nil : DGs X [] [] := ⟨_, pgs_nil, fun i F0 H0 F H σ δ s ds vs δ' Q S r e q => by
  cases ds with
  | nil => cases e; exact ⟨r, q _ S⟩
  | cons d ds => cases e⟩
theorem dgs_cons {g : Dt → List Sl → Option (List Sl)} {gs : List (Dt → List Sl → Option (List Sl))} {ts : List Expr} (h1 : DG X e g) (h2 : DGs X ts gs) (hs : (assignEach (e :: ts) X.env).map (·.2) = assign e X.env :: (assignEach ts X.env).map (·.2) := by rfl) : DGs X (e :: ts) (g :: gs) := by
  obtain ⟨t, pt, jt⟩ := h1
  obtain ⟨u, pu, ju⟩ := h2
  refine ⟨_, pgs_cons pt pu hs, fun i F0 H0 F H σ δ s ds vs δ' Q S r e q => ?_⟩
  cases ds with
  | nil => cases e
  | cons d ds =>
    obtain ⟨v, vr, e1, r1, r2⟩ := r
    unfold tgs at e
    cases e2 : g d δ with
    | none => rw [e2] at e; cases e
    | some δ1 =>
      rw [e2] at e
      exact ⟨v, vr, e1, jt i F0 H0 F H σ δ s d v δ1 _ S r1 e2 fun σ' S' => ju i F0 H0 F H σ' δ1 s ds vr δ' Q S' r2 e q⟩
theorem tgs_len : ∀ {gs : List (Dt → List Sl → Option (List Sl))} {ds : List Dt} {δ δ' : List Sl}, tgs gs ds δ = some δ' → ds.length = gs.length
  | [], [], _, _, _ => rfl
  | [], _ :: _, _, _, e => by cases e
  | _ :: _, [], _, _, e => by cases e
  | g :: gs, d :: ds, δ, δ', e => by
    unfold tgs at e
    cases e2 : g d δ with
    | none => rw [e2] at e; cases e
    | some δ1 => rw [e2] at e; rw [List.length_cons, List.length_cons, tgs_len e]
theorem ds_asg {g : Dt → List Sl → Option (List Sl)} {f : List Sl → M R} {tg : Expr} (he : DE X E e f) (hg : DG X tg g) (hs : swapsWithSole [tg] e pos.line X.env = pure false := by rfl) (hw : swappedStores [tg] e X.env = pure none := by rfl)
    (h1 : (assignEach [tg] X.env).map (·.2) = [assign tg X.env] := by rfl) : DS X E (.Assign [tg] e pos) (gAsg f g) := by
  obtain ⟨t, pt, jt⟩ := he
  obtain ⟨u, pu, ju⟩ := hg
  refine ⟨_, ps_asg pt pu hs hw h1, fun i F0 H0 F H σ δ s D S q => jt.useSR S q fun r s1 v F1 H1 x1 S1 r1 q1 => ?_⟩
  cases e2 : g r.d δ with
  | none => simp only [e2] at q1; exact q1.elim
  | some δ' =>
    simp only [e2] at q1
    exact ju i F0 H0 F1 H1 σ δ s1 r.d v δ' _ S1 r1 e2 fun σ' S' => q1 σ' F1 H1 S'
end
end DL
namespace LwE
open PySem PySem.Spec PyProof.Rows L2
set_option maxHeartbeats 1000000 in
theorem enum_new1 {v : Value} {o : Obj} {H : Heap → Prop} (B : Begins v o H) :
    Meets (Builtin.«enumerate.__new__» ⟨[.type "enumerate", v], []⟩) (fun _ R s => H s.heap ∧
      R (.ok (.ret (.ref (s.heap.push o).objs.size)))
        { s with heap := (s.heap.push o).push { cls := .type "enumerate", data := .fields #[.none, .bool false, .ref s.heap.objs.size, rawInt 0, .none, .none] } }) :=
  .of_wp fun prog w A R s z => by
    obtain ⟨hp, gn, dr, tk, os⟩ := s
    obtain ⟨z1, z2⟩ := z
    have hsub := sub_enumerate
    have start : ∀ {A' : Around} {E : Value → Shared → Prop} {Q : Value → Shared → Prop}, Q (.ref hp.objs.size) ⟨hp.push o, gn, dr, tk, os⟩ →
        wpAny (model prog w) A' (pyIter v) Q E ⟨hp, gn, dr, tk, os⟩ := fun q => B.iter prog w _ _ ⟨hp, gn, dr, tk, os⟩ _ z1 q
    wp_walk using start
    refine wpAny_stack_any fun st => wpAny_pure ?_
    split
    next c _ _ _ _ _ =>
      cases (c == Value.type "enumerate") <;> (wp_walk using start; exact ⟨_, rfl, z2⟩)
    next =>
      wp_walk using start
      exact ⟨_, rfl, z2⟩
section
variable {prog : Program} {w : World} {A : Around} {E : Value → Shared → Prop} {s : Shared}
theorem enum_begins1 {v : Value} {o : Obj} {H : Heap → Prop} {Q : Value → Shared → Prop} (B : Begins v o H) (z : H s.heap)
    (q : ∀ h', IsEnum h' (s.heap.objs.size + 1) s.heap.objs.size 0 .none → h'.get? s.heap.objs.size = some o →
      (∀ b u, s.heap.get? b = some u → h'.get? b = some u) → Q (.ref (s.heap.objs.size + 1)) { s with heap := h' }) :
    wpAny (model prog w) A (call (.type "enumerate") [v]) Q E s := by
  refine callType_new F.called_enumerate (by decide) (F.typeCall_enumerate_1 _) (F.newCall_enumerate_1 _) (fun obj => F.args_object_init_2 obj _) F.entry_enumerate_new (enum_new1 B) ⟨z, ?_⟩
  have ez : (s.heap.push o).objs.size = s.heap.objs.size + 1 := by rw [Heap.size_push]
  show _ ∧ _
  rw [ez]
  have ee : IsEnum ((s.heap.push o).push { cls := .type "enumerate", data := .fields #[.none, .bool false, .ref s.heap.objs.size, rawInt 0, .none, .none] })
      (s.heap.objs.size + 1) s.heap.objs.size 0 .none := by
    have u := Heap.get?_push_size (s.heap.push o) (o := { cls := .type "enumerate", data := .fields #[.none, .bool false, .ref s.heap.objs.size, rawInt 0, .none, .none] }) rfl
    rw [ez] at u
    exact u
  exact ⟨⟨_, ee, rfl⟩, q _ ee (Heap.get?_push_of_some _ (Heap.get?_push_size _ B.free)) fun b u x => Heap.get?_push_of_some _ (Heap.get?_push_of_some _ x)⟩
end
def Ien (K : PySem.W.Frag) (a : Addr) : It where
  go := fun i H => ∃ (xs : List V) (x : V), SqT K H a xs ∧ xs[i]? = some x
  yld := fun i H v H' => ∃ T x, v = .ref T ∧ H T = none ∧ H' = upd H T (.tup [.int (i : Nat), x]) ∧ ∀ xs, SqT K H a xs → xs[i]? = some x
  stop := fun i H => ∃ xs : List V, SqT K H a xs ∧ xs.length ≤ i
theorem apart_it {h : Heap} {it a : Addr} {i : Nat} {its : Array Value} (st : h.IsTupleIter it a i) (p : h.IsTuple a its) : a ≠ it := fun z => by
  obtain ⟨o, e1, c1, _⟩ := st
  obtain ⟨o2, e2, c2, _⟩ := p
  rw [z, e1] at e2
  cases e2
  rw [c1] at c2
  exact absurd c2 (by decide)
theorem turn_ien {P : Program} {w : World} {K : PySem.W.Frag} {elts : List Expr} {kk : Nat} {tpos : Pos} (a e it : Addr) :
    Turn P w K (.Tuple elts kk tpos) (Ien K a) [e, it] e (fun i h => (∃ old, IsEnum h e it ((i : Nat) : Int) old) ∧ h.IsTupleIter it a i ∧ e ≠ it ∧ e ≠ a) where
  mem := by simp
  obj := fun i h st b hb => by
    obtain ⟨⟨old, he⟩, ⟨o, ho, hc, hd⟩, _⟩ := st
    rcases (show b = e ∨ b = it by simpa using hb) with z | z <;> subst z
    · exact ⟨_, he, fun v q => nomatch q⟩
    · exact ⟨o, ho, fun v q => by rw [hd] at q; cases q⟩
  keep := fun i h h' st k => by
    obtain ⟨⟨old, he⟩, hi, n1, n2⟩ := st
    exact ⟨⟨old, k e (by simp) _ he⟩, hi.at fun o q => k it (by simp) o q, n1, n2⟩
  item := by
    intro X hP hw hK hc i pins s σ H E I hf st hg
    subst hP hw hK
    obtain ⟨⟨old, he⟩, hit, n1, n2⟩ := st
    obtain ⟨xs, x, hq, hx⟩ := hg
    obtain ⟨its, rv, p, hz⟩ := I.tuple hq
    obtain ⟨u, hu, ru⟩ := rv.get hx
    have lt1 : e < s.heap.objs.size := Heap.lt_size he
    have lt2 : it < s.heap.objs.size := by
      obtain ⟨_, q, _⟩ := hit
      exact Heap.lt_size q
    have pT : s.heap.IsTuple a its.toArray := p
    have hlt : i < its.toArray.size := by
      have q := (List.getElem?_eq_some_iff.mp hu).1
      simpa using q
    have D := Draws.tuple (prog := X.prog) (w := X.w) (A := X.A.in1) (I.ok.hd hc) it a (apart_it hit pT) its.toArray
    refine wpAny_pyNext_enum_itemC D he ⟨hit, pT⟩ hlt n1 (by simp [n1, n2]) fun y h' tk hy ho hs' hT hsz hk => ?_
    have ey : y = u := by
      have q : its.toArray[i]? = some y := hy
      rw [show its.toArray[i]? = its[i]? from by simp, hu] at q
      exact (Option.some.inj q).symm
    subst ey
    refine ⟨_, rfl, wpAny_letOwnedTupleGo_enum (s := { s with heap := h', toks := tk + 1 }) ho fun h'' he' sb => ?_⟩
    have hT2 := (sb.2 _ (Nat.ne_of_gt lt1)).trans hT
    have made : ObjOk X.prog X.w (upd H s.heap.objs.size (.tup [.int (i : Nat), x])) h'' s.heap.objs.size (.tup [.int (i : Nat), x]) :=
      ⟨(by decide : 2 ≤ sizeLine), [.int i tk, y], .cons ⟨_, rfl⟩ (.cons ru .nil), _, hT2, rfl, _, rfl⟩
    have J : Inv X pins σ (upd H s.heap.objs.size (.tup [.int (i : Nat), x])) { s with heap := h'', toks := tk + 1 } :=
      I.turnedNew (ch := [e, it]) (fun b ob hb q => (sb.2 b (fun z => hb (by simp [z]))).trans (hk b ob (fun z => hb (by simp [z])) (fun z => hb (by simp [z])) q)) hf (Nat.le_refl _) made
    refine ⟨.ref s.heap.objs.size, _, J, rfl, ⟨_, x, rfl, I.hok.fresh (Nat.le_refl _), rfl, fun ys hy2 => by rw [I.tuple_inj hy2 hq]; exact hx⟩,
      ⟨⟨y, ?_⟩, hs'.1.at fun o q => (sb.2 it (Ne.symm n1)).trans q, n1, n2⟩, fun b hb => ?_⟩
    · rw [show ((i + 1 : Nat) : Int) = (i : Int) + 1 by omega]
      exact he'
    · have hlt3 : b < s.heap.objs.size := by
        rcases (show b = e ∨ b = it by simpa using hb) with z | z <;> (rw [z]; assumption)
      rw [upd_ne (Nat.ne_of_lt hlt3)]
      exact (hf b hb).1
  done := by
    intro X hP hw hK hc i pins s σ H E I hf st hg
    subst hP hw hK
    obtain ⟨⟨old, he⟩, hit, n1, n2⟩ := st
    obtain ⟨xs, hq, hx⟩ := hg
    obtain ⟨its, rv, p, hz⟩ := I.tuple hq
    obtain ⟨f0, f1, f2, f3, f4, f5⟩ := hf it (by simp)
    have pT : s.heap.IsTuple a its.toArray := p
    have hT : s.TypeIs (.ref e) "enumerate" := ⟨_, he, rfl⟩
    unfold pyNext
    refine wpAny_bind (wpAny_attempt (wpAny_callSpecial?_slot (name := Str.ofString "__next__") hT F.slot_enumerate_next
      (wpAny_call_entry F.slot_enumerate_next hT F.entry_enumerate_next ?_ (F.args_enumerate_next_1 _))))
    show wpAny _ _ (field (.ref e) 2 >>= _) _ _ _
    refine wpAny_bind (wpAny_field he rfl (x := .ref it) rfl ?_)
    have hl := rv.length
    refine wpAny_bind (wpAny_nextOf_tuple_end (I.ok.hd hc) hit pT (by simp; omega) fun h' x he' hx' => ?_)
    obtain ⟨o, ho, hcl⟩ := hx'
    refine wpAny_bind (wpAny_isInstance (T := "StopIteration") (b := true) ⟨o, ho, hcl⟩ isSubtype_stop ?_)
    exact wpAny_pure ⟨rfl, I.turned (t' := s.toks) (fun b o hb q => he' b o hb q) f0 f1 f3 f4 f5⟩
  self := fun A i s Q E st h => by
    obtain ⟨⟨_, he⟩, _⟩ := st
    exact wpAny_pyIter_enum he h
def iEnT (K : PySem.W.Frag) (ta : TA) : TI := fun σ H R => ta σ H fun vs H1 => ∃ a xs, vs = [.ref a] ∧ SqT K H1 a xs ∧ R (Ien K a) H1
theorem pi_enT {X : Cx} {e : Expr} {ta : TA} {p pos tpos : Pos} {elts : List Expr} {kk : Nat} (hg : Gl X "enumerate") (hm : X.mg "enumerate" = none) (ha : PA X [e] ta)
    (hs : starEach [e] X.env = [(false, eval e X.env)] := by rfl) : PI X (.Tuple elts kk tpos) (.Call (.Name "enumerate" p) [e] [] pos) (iEnT X.K ta) := by
  refine ⟨fun pins s σ H R I h => ?_⟩
  refine Call_ (ld_blt I hg hm boot_enumerate (PyProof.Rows.callWith_type1 (thn (ha.run pos pins s σ H _ I h) fun us s1 ⟨vs, H1, I1, r1, q1⟩ => ?_) hs rfl))
  obtain ⟨a, xs, rfl, hq, q⟩ := q1
  obtain ⟨u, rfl, ru⟩ : ∃ u, us = [u] ∧ RelV (.ref a) u := by
    cases r1 with
    | cons r rr =>
      cases rr
      exact ⟨_, rfl, r⟩
  obtain rfl : u = Value.ref a := ru
  obtain ⟨its, rv, p', hz⟩ := I1.tuple hq
  have pT : s1.heap.IsTuple a its.toArray := p'
  refine enum_begins1 (begins_tuple a its.toArray) pT fun h' he hit hk => wpAny_pyIter_enum he ?_
  have I2 : Inv X pins σ H1 { s1 with heap := h' } := I1.kept (t' := s1.toks) hk
  have lta : a < s1.heap.objs.size := by
    obtain ⟨o, e1, _⟩ := pT
    exact Heap.lt_size e1
  refine ⟨s1.heap.objs.size + 1, [s1.heap.objs.size + 1, s1.heap.objs.size], _, _, H1, rfl, I2, turn_ien a (s1.heap.objs.size + 1) s1.heap.objs.size,
    ⟨⟨.none, he⟩, ⟨_, hit, rfl, rfl⟩, Nat.succ_ne_self _, Nat.ne_of_gt (Nat.lt_succ_of_lt lta)⟩, fun b hb => ?_, q⟩
  have le1 : s1.heap.objs.size ≤ b := by
    rcases (show b = s1.heap.objs.size + 1 ∨ b = s1.heap.objs.size by simpa using hb) with z | z
    · rw [z]
      exact Nat.le_succ _
    · rw [z]
      exact Nat.le_refl _
  exact I1.fpOk le1 (I1.hok.fresh le1)
theorem for_enL {K : PySem.W.Frag} {a : Addr} {xs : List V} {g : TG} {tb : TS} {D : Ends} {σ : L2.St} {H : Hp} (Pv : Nat → L2.St → Hp → Prop) (h0 : Pv 0 σ H) (hl : ∀ i σ H, i ≤ xs.length → Pv i σ H → SqL K H a xs)
    (hs : ∀ i x T σ H, xs[i]? = some x → Pv i σ H → H T = none → g (.ref T) σ (upd H T (.tup [.int (i : Nat), x])) fun σ2 H2 => tb { D with nx := Pv (i + 1), ct := Pv (i + 1), bk := D.nx } σ2 H2)
    (hd : ∀ σ H, Pv xs.length σ H → D.nx σ H) :
    ∃ W : Nat → Nat → L2.St → Hp → Prop, (∃ m, W 0 m σ H) ∧ ∀ i m σ H, W i m σ H →
      ((Ite K a).stop i H ∧ D.nx σ H) ∨ ((Ite K a).go i H ∧ ∃ N : L2.St → Hp → Prop, (∀ σ' H', N σ' H' → ∃ m', m' < m ∧ W (i + 1) m' σ' H') ∧
        ∀ x H', (Ite K a).yld i H x H' → g x σ H' fun σ2 H2 => tb { D with nx := N, ct := N, bk := D.nx } σ2 H2) := by
  refine ⟨fun i m σ H => m = xs.length - i ∧ i ≤ xs.length ∧ Pv i σ H, ⟨xs.length, by simp, Nat.zero_le _, h0⟩, ?_⟩
  intro i m σ H hW
  obtain ⟨rfl, hi, p⟩ := hW
  have q := hl i σ H hi p
  by_cases hlt : i < xs.length
  · refine .inr ⟨⟨xs, xs[i], q, by simp [hlt]⟩, Pv (i + 1), fun σ' H' p' => ⟨xs.length - (i + 1), by omega, rfl, hlt, p'⟩, fun x H' y => ?_⟩
    obtain ⟨T, v, rfl, hT, rfl, y2⟩ := y
    exact hs i v T σ H (y2 xs q) p hT
  · obtain rfl : i = xs.length := by omega
    exact .inl ⟨⟨xs, q, Nat.le_refl _⟩, hd σ H p⟩
end LwE
namespace DL
open PySem L2
def Walks (K : PySem.W.Frag) (i : Ix) (J : It) (F1 : Hp) (l : List Dt) : Prop := ∀ n F H, Same F1 F → Same F H →
  (∀ d, l[n]? = some d → J.go n H ∧ ∀ x H', J.yld n H x H' → ∃ F', Same F F' ∧ Same F' H' ∧ Same H H' ∧ (∀ b, H b ≠ none → F b = none → F' b = none) ∧ Rep K i F' d x) ∧ (l.length ≤ n → J.stop n H)
theorem walk_ext {i : Ix} {F H F' H' : Hp} (ff : Same F F') (fh : Same F' H') (hh : Same H H') (nw : ∀ b, H b ≠ none → F b = none → F' b = none) : Ext i F H F' H' :=
  ⟨ff, fh, fun b o e _ => hh b o e, nw, fun b e => by
    cases h : H b with
    | none => exact absurd h e
    | some o => rw [hh _ _ h]; exact fun z => nomatch z⟩
def WalksV (K : PySem.W.Frag) (i : Ix) (J : It) (F1 H1 : Hp) (l : List Dt) : Prop := ∀ n F H, Ext i F1 H1 F H →
  (∀ d, l[n]? = some d → J.go n H ∧ ∀ x H', J.yld n H x H' → ∃ F', Same F F' ∧ Same F' H' ∧ Same H H' ∧ (∀ b, H b ≠ none → F b = none → F' b = none) ∧ Rep K i F' d x) ∧ (l.length ≤ n → J.stop n H)
theorem Walks.v {K : PySem.W.Frag} {i : Ix} {J : It} {F1 H1 : Hp} {l : List Dt} (w : Walks K i J F1 l) : WalksV K i J F1 H1 l := fun n F H x => w n F H x.ff x.fh
def kW (K : PySem.W.Frag) (i : Ix) : Kind (List Dt) It where
  rel := fun _ F' _ l J => Walks K i J F' l
  mono := fun _ h => h
def kWV (K : PySem.W.Frag) (i : Ix) : Kind (List Dt) It where
  rel := fun _ F' H' l J => WalksV K i J F' H' l
  mono := fun _ h => h
def DI (X : Cx) (E : XK) (tg e : Expr) (f : List Sl → M (List Dt)) : Prop := ∃ w, PI X tg e w ∧ J kW X.K E w f
def DIV (X : Cx) (E : XK) (tg e : Expr) (f : List Sl → M (List Dt)) : Prop := ∃ w, PI X tg e w ∧ J kWV X.K E w f
def wSeq (f : List Sl → M Dt) : List Sl → M (List Dt) := fun δ => M.bnd (f δ) fun
  | .lst l => M.ret l
  | .tup l => M.ret l
  | _ => M.no
def wLst (f : List Sl → M Dt) : List Sl → M (List Dt) := fun δ => M.bnd (f δ) fun
  | .lst l => M.ret l
  | _ => M.no
def wTup (f : List Sl → M Dt) : List Sl → M (List Dt) := fun δ => M.bnd (f δ) fun
  | .tup l => M.ret l
  | _ => M.no
def enumD : Nat → List Dt → List Dt
  | _, [] => []
  | n, d :: ds => .tup [.int (n : Int), d] :: enumD (n + 1) ds
theorem enumD_get : ∀ {l : List Dt} {m n : Nat}, (enumD m l)[n]? = l[n]?.map fun d => .tup [.int ((m + n : Nat) : Int), d]
  | [], _, _ => rfl
  | d :: ds, m, 0 => rfl
  | d :: ds, m, n + 1 => by
    show (enumD (m + 1) ds)[n]? = _
    rw [enumD_get, show m + 1 + n = m + (n + 1) by omega]
    rfl
theorem enumD_len : ∀ (l : List Dt) (m : Nat), (enumD m l).length = l.length
  | [], _ => rfl
  | d :: ds, m => by show (enumD (m + 1) ds).length + 1 = _; rw [enumD_len ds]; rfl
def rngD (lo : Int) (n : Nat) : List Dt := (List.range n).map fun (k : Nat) => .int (lo + (k : Int))
def wRng1 (f : List Sl → M Dt) : List Sl → M (List Dt) := fun δ => M.bnd (f δ) fun
  | .int z => if -100000 ≤ z ∧ z ≤ 100000 then M.ret (rngD 0 z.toNat) else M.no
  | _ => M.no
theorem walks_l {K : PySem.W.Frag} {i : Ix} {F1 : Hp} {a : Addr} {vs : List V} {l : List Dt} (h : F1 a = some (.lst vs)) (r : Reps K i F1 l vs) : Walks K i (Itl K a) F1 l := fun n F H s1 s2 => by
  have h' : SqL K H a vs := SqL.of (s2 _ _ (s1 _ _ h))
  refine ⟨fun d e => ?_, fun hn => ⟨vs, h', by rw [r.len]; exact hn⟩⟩
  obtain ⟨v, e1, e2⟩ := r.get e
  refine ⟨⟨vs, v, h', e1⟩, fun x H' y => ?_⟩
  obtain ⟨rfl, y⟩ := y
  have := y vs h'
  rw [e1] at this
  cases this
  exact ⟨F, Same.refl _, s2, Same.refl _, fun _ _ n => n, Rep.same s1 d e2⟩
theorem walks_t {K : PySem.W.Frag} {i : Ix} {F1 : Hp} {a : Addr} {vs : List V} {l : List Dt} (h : SqT K F1 a vs) (r : Reps K i F1 l vs) : Walks K i (Itt K a) F1 l := fun n F H s1 s2 => by
  have h' : SqT K H a vs := sqT_same (s1.trans s2) h
  refine ⟨fun d e => ?_, fun hn => ⟨vs, h', by rw [r.len]; exact hn⟩⟩
  obtain ⟨v, e1, e2⟩ := r.get e
  refine ⟨⟨vs, v, h', e1⟩, fun x H' y => ?_⟩
  obtain ⟨rfl, y⟩ := y
  have := y vs h'
  rw [e1] at this
  cases this
  exact ⟨F, Same.refl _, s2, Same.refl _, fun _ _ n => n, Rep.same s1 d e2⟩
theorem walks_own {K : PySem.W.Frag} {i : Ix} {F1 H1 : Hp} {a : Addr} {vs : List V} {l : List Dt} (h : H1 a = some (.lst vs)) (g : ¬ G i a) (r : Reps K i F1 l vs) : WalksV K i (Itl K a) F1 H1 l := fun n F H x => by
  have h' : SqL K H a vs := SqL.of (x.sb _ _ h g)
  refine ⟨fun d e => ?_, fun hn => ⟨vs, h', by rw [r.len]; exact hn⟩⟩
  obtain ⟨v, e1, e2⟩ := r.get e
  refine ⟨⟨vs, v, h', e1⟩, fun y H' q => ?_⟩
  obtain ⟨rfl, q⟩ := q
  have := q vs h'
  rw [e1] at this
  cases this
  exact ⟨F, Same.refl _, x.fh, Same.refl _, fun _ _ n => n, Rep.same x.ff d e2⟩
theorem walks_r {K : PySem.W.Frag} {i : Ix} {F1 : Hp} (lo : Int) (n : Nat) : Walks K i (Itr lo n) F1 (rngD lo n) := fun k F H s1 s2 => by
  refine ⟨fun d e => ?_, fun hn => ?_⟩
  · unfold rngD at e
    rw [List.getElem?_map] at e
    obtain ⟨j, e1, e2⟩ := Option.map_eq_some_iff.mp e
    obtain ⟨h1, h2⟩ := List.getElem?_eq_some_iff.mp e1
    rw [List.getElem_range] at h2
    rw [List.length_range] at h1
    subst h2 e2
    refine ⟨h1, fun x H' y => ?_⟩
    obtain ⟨rfl, rfl⟩ := y
    exact ⟨F, Same.refl _, s2, Same.refl _, fun _ _ n => n, rfl⟩
  · unfold rngD at hn
    rw [List.length_map, List.length_range] at hn
    exact hn
theorem same_up {F H : Hp} {T : Addr} {o : HO} (fh : Same F H) (hT : H T = none) : Same F (upd F T o) ∧ Same (upd F T o) (upd H T o) ∧ Same H (upd H T o) ∧ ∀ b, H b ≠ none → F b = none → upd F T o b = none :=
  ⟨same_know (fh.free hT), fun b u e => by
    by_cases hb : b = T
    · subst hb; rw [upd_same] at e ⊢; exact e
    · rw [upd_ne hb] at e ⊢; exact fh _ _ e, same_know hT, fun b e n => by rw [upd_ne (fun (z : b = T) => e (z ▸ hT))]; exact n⟩
theorem walks_e {K : PySem.W.Frag} {i : Ix} {F1 : Hp} {a : Addr} {vs : List V} {l : List Dt} (h : F1 a = some (.lst vs)) (r : Reps K i F1 l vs) : Walks K i (Ite K a) F1 (enumD 0 l) := fun n F H s1 s2 => by
  have h' : SqL K H a vs := SqL.of (s2 _ _ (s1 _ _ h))
  refine ⟨fun d e => ?_, fun hn => ⟨vs, h', by rw [r.len]; rw [enumD_len] at hn; exact hn⟩⟩
  rw [enumD_get] at e
  obtain ⟨d0, e0, rfl⟩ := Option.map_eq_some_iff.mp e
  obtain ⟨v, e1, e2⟩ := r.get e0
  refine ⟨⟨vs, v, h', e1⟩, fun x H' y => ?_⟩
  obtain ⟨T, x', rfl, hT, rfl, y⟩ := y
  have := y vs h'
  rw [e1] at this
  cases this
  obtain ⟨a1, a2, a3, a4⟩ := same_up (o := .tup [.int (n : Int), v]) s2 hT
  refine ⟨_, a1, a2, a3, a4, T, [.int (n : Int), v], rfl, .inl (.inl upd_same), .cons ?_ (.cons (Rep.same (s1.trans a1) d0 e2) .nil)⟩
  rw [Nat.zero_add]
  exact rfl

def gForL (tg : Dt → List Sl → Option (List Sl)) (body : List Sl → M Fl) : List Dt → List Sl → M Fl
  | [], δ => M.ret (.nx δ)
  | d :: ds, δ => match tg d δ with
    | some δ1 => M.bnd (body δ1) fun
      | .nx δ2 => gForL tg body ds δ2
      | .ct δ2 => gForL tg body ds δ2
      | .bk δ2 => M.ret (.nx δ2)
      | .ret r => M.ret (.ret r)
    | none => M.no
def gFor (src : List Sl → M (List Dt)) (tg : Dt → List Sl → Option (List Sl)) (body : List Sl → M Fl) : List Sl → M Fl := fun δ => M.bnd (src δ) fun l => gForL tg body l δ
def whileN (t : List Sl → M Bool) (body : List Sl → M Fl) : Nat → List Sl → M Fl
  | 0, _ => M.no
  | n + 1, δ => M.bnd (t δ) fun b => if b = true then M.bnd (body δ) fun
      | .nx δ2 => whileN t body n δ2
      | .ct δ2 => whileN t body n δ2
      | .bk δ2 => M.ret (.nx δ2)
      | .ret r => M.ret (.ret r)
    else M.ret (.nx δ)
open Classical in
noncomputable def gWhile (t : List Sl → M Bool) (body : List Sl → M Fl) : List Sl → M Fl := fun δ s => if h : ∃ n, whileN t body n δ s ≠ .no then whileN t body (choose h) δ s else .no
theorem whileN_mono {t : List Sl → M Bool} {body : List Sl → M Fl} : ∀ {n : Nat} {δ : List Sl} {s : MS}, whileN t body n δ s ≠ .no → whileN t body (n + 1) δ s = whileN t body n δ s
  | 0, δ, s, h => absurd rfl h
  | n + 1, δ, s, h => by
    unfold whileN M.bnd at h ⊢
    cases e : t δ s with
    | no => rfl
    | ex a b => rfl
    | ok b s1 =>
      rw [e] at h
      cases b with
      | false => rfl
      | true =>
        simp only [if_true] at h ⊢
        cases e2 : body δ s1 with
        | no => rfl
        | ex a b => rfl
        | ok f s2 =>
          rw [e2] at h
          cases f with
          | nx δ2 => exact whileN_mono h
          | ct δ2 => exact whileN_mono h
          | bk δ2 => rfl
          | ret r => rfl
theorem whileN_le {t : List Sl → M Bool} {body : List Sl → M Fl} {n : Nat} {δ : List Sl} {s : MS} (h : whileN t body n δ s ≠ .no) : ∀ k, whileN t body (n + k) δ s = whileN t body n δ s
  | 0 => rfl
  | k + 1 => by
    rw [← Nat.add_assoc, whileN_mono (by rw [whileN_le h k]; exact h), whileN_le h k]
theorem gWhile_eq {t : List Sl → M Bool} {body : List Sl → M Fl} {n : Nat} {δ : List Sl} {s : MS} (h : whileN t body n δ s ≠ .no) : gWhile t body δ s = whileN t body n δ s := by
  have hx : ∃ n, whileN t body n δ s ≠ .no := ⟨n, h⟩
  unfold gWhile
  rw [dif_pos hx]
  have h2 := Classical.choose_spec hx
  generalize Classical.choose hx = m at h2
  rcases Nat.le_total n m with z | z
  · have := whileN_le h (m - n)
    rw [show n + (m - n) = m by omega] at this
    exact this
  · have := whileN_le h2 (n - m)
    rw [show m + (n - m) = n by omega] at this
    exact this.symm
theorem gWhile_of {t : List Sl → M Bool} {body : List Sl → M Fl} {n : Nat} {δ : List Sl} {s : MS} {r : Rs Fl} (h : whileN t body n δ s = r) (hr : r ≠ .no) : gWhile t body δ s = r := by
  rw [← h]
  exact gWhile_eq (by rw [h]; exact hr)
section
variable {X : Cx} {E : XK} {a b c e tgE : Expr} {st : Stmt} {sts rest : List Stmt} {pos : Pos}
theorem forL_core {K : PySem.W.Frag} {i : Ix} {H0 F1 : Hp} {D : Ends} {tg : Dt → List Sl → Option (List Sl)} {g : TG} {body : List Sl → M Fl} {tb : TS} {l : List Dt} {J : It} (hg : JG K g tg) (hb : JS K E tb body) (hw : Walks K i J F1 l) :
    ∀ (n : Nat) (m : Nat) (σ : L2.St) (H : Hp), (m = l.length - n ∧ n ≤ l.length ∧ ∃ F δ s, Sinv K i F1 H0 F H σ δ s ∧ OkS K i E F1 H0 D (gForL tg body (l.drop n) δ s)) →
      (J.stop n H ∧ D.nx σ H) ∨ (J.go n H ∧ ∃ N : L2.St → Hp → Prop, (∀ σ' H', N σ' H' → ∃ m', m' < m ∧ (m' = l.length - (n + 1) ∧ n + 1 ≤ l.length ∧ ∃ F δ s, Sinv K i F1 H0 F H' σ' δ s ∧ OkS K i E F1 H0 D (gForL tg body (l.drop (n + 1)) δ s))) ∧
        ∀ x H', J.yld n H x H' → g x σ H' fun σ2 H2 => tb { D with nx := N, ct := N, bk := D.nx } σ2 H2) := by
  rintro n m σ H ⟨rfl, hn, F, δ, s, S, q⟩
  obtain ⟨w1, w2⟩ := hw n F H S.base.ff S.wf.fh
  by_cases hlt : n < l.length
  · have ed : l[n]? = some l[n] := List.getElem?_eq_getElem hlt
    obtain ⟨hgo, hy⟩ := w1 _ ed
    rw [List.drop_eq_getElem_cons hlt] at q
    unfold gForL at q
    refine .inr ⟨hgo, fun σ' H' => ∃ F δ s, Sinv K i F1 H0 F H' σ' δ s ∧ OkS K i E F1 H0 D (gForL tg body (l.drop (n + 1)) δ s), fun σ' H' h => ⟨_, by omega, rfl, hlt, h⟩, fun x H' y => ?_⟩
    obtain ⟨F', ff, fh, hh, nw, hr⟩ := hy x H' y
    have x' : Ext i F H F' H' := walk_ext ff fh hh nw
    have S' := S.ext x' (S.wf.mr.sm hh)
    cases e2 : tg l[n] δ with
    | none => rw [e2] at q; exact q.elim
    | some δ1 =>
      rw [e2] at q
      refine hg i F1 H0 F' H' σ δ s _ x δ1 _ S' hr e2 fun σ1 S1 => hb i F1 H0 F' H' σ1 δ1 s _ S1 ?_
      simp only [M.bnd] at q
      cases e3 : body δ1 s with
      | no => rw [e3] at q; exact q.elim
      | ex a b => rw [e3] at q; exact q
      | ok f s2 =>
        rw [e3] at q
        cases f with
        | nx δ2 => exact fun σ2 F2 H2 S2 => ⟨F2, δ2, s2, S2, q⟩
        | ct δ2 => exact fun σ2 F2 H2 S2 => ⟨F2, δ2, s2, S2, q⟩
        | bk δ2 => exact q
        | ret r => exact q
  · have e0 : n = l.length := by omega
    subst e0
    rw [List.drop_length] at q
    exact .inl ⟨w2 (Nat.le_refl _), q σ F H S⟩
theorem ds_for {src : List Sl → M (List Dt)} {tg : Dt → List Sl → Option (List Sl)} {body : List Sl → M Fl} (hp : PassesOwn (model X.prog X.w) X.A X.env X.xe) (hc : X.calm = true) (hi : DI X E tgE e src) (hg : DG X tgE tg) (hb : DSs X E sts body)
    (hs : ∀ x, foldedSetIterable e X.env x = pure x := by intro _; rfl) : DS X E (.For tgE e sts [] pos) (gFor src tg body) := by
  obtain ⟨w, pw, jw⟩ := hi
  obtain ⟨g, pg, jg⟩ := hg
  obtain ⟨tb, pb, jb⟩ := hb
  refine ⟨_, ps_for hp hc pw pg pb hs, fun i F0 H0 F H σ δ s D S q => jw.useS S q fun l s1 J F1 H1 x1 S1 r1 q1 => ?_⟩
  refine ⟨_, ⟨_, rfl, Nat.zero_le _, F1, δ, s1, S1.self, ?_⟩, forL_core jg jb r1⟩
  rw [List.drop_zero]
  exact q1.rebase S1.base
theorem ds_while {t : List Sl → M Bool} {body : List Sl → M Fl} (hp : PassesOwn (model X.prog X.w) X.A X.env X.xe) (hc : DT X E c t) (hb : DSs X E sts body) : DS X E (.While c sts [] pos) (gWhile t body) := by
  obtain ⟨tt, pt, jt⟩ := hc
  obtain ⟨tb, pb, jb⟩ := hb
  refine ⟨_, ps_while hp pt pb, fun i F0 H0 F H σ δ s D S q => ?_⟩
  refine ⟨fun m σ H => ∃ F δ s, Sinv X.K i F0 H0 F H σ δ s ∧ OkS X.K i E F0 H0 D (whileN t body m δ s), ?_, ?_⟩
  · have h : ∃ n, whileN t body n δ s ≠ .no := by
      refine Classical.byContradiction fun h => ?_
      unfold gWhile at q
      rw [dif_neg h] at q
      exact q
    obtain ⟨n, hn⟩ := h
    rw [gWhile_eq hn] at q
    exact ⟨n, F, δ, s, S, q⟩
  · rintro m σ H ⟨F, δ, s, S, q⟩
    cases m with
    | zero => exact q.elim
    | succ m =>
      unfold whileN at q
      refine jt.useS S q fun x s1 v F1 H1 x1 S1 r1 q1 => ?_
      have r1 : v = x := r1
      subst r1
      cases v with
      | false => exact q1 σ F1 H1 S1
      | true =>
        refine iteT ⟨fun σ' H' => ∃ F δ s, Sinv X.K i F0 H0 F H' σ' δ s ∧ OkS X.K i E F0 H0 D (whileN t body m δ s), fun σ' H' h => ⟨m, Nat.lt_succ_self m, h⟩, jb i F0 H0 F1 H1 σ δ s1 _ S1 ?_⟩
        rw [if_pos rfl] at q1
        unfold M.bnd at q1
        cases e3 : body δ s1 with
        | no => rw [e3] at q1; exact q1.elim
        | ex a b => rw [e3] at q1; exact q1
        | ok f s2 =>
          rw [e3] at q1
          cases f with
          | nx δ2 => exact fun σ2 F2 H2 S2 => ⟨F2, δ2, s2, S2, q1⟩
          | ct δ2 => exact fun σ2 F2 H2 S2 => ⟨F2, δ2, s2, S2, q1⟩
          | bk δ2 => exact q1
          | ret r => exact q1
theorem di_lst {f : List Sl → M R} (h : DE X E e f) : DI X E tgE e (wLst (toV f)) := by
  obtain ⟨t, pt, jt⟩ := h
  refine ⟨_, pi_list pt, fun i F0 H0 F H σ δ s Q S q => ?_⟩
  have q : Ok X.K (kW X.K i) i E F H Q (M.bnd (f δ) (fun r => match r.d with | .lst l => M.ret l | _ => M.no) s) := by
    unfold wLst toV at q
    unfold M.bnd at q ⊢
    cases e : f δ s <;> rw [e] at q <;> exact q
  refine jt.useR S q fun r s1 v F1 H1 e0 x1 S1 r1 q1 => ?_
  clear e0
  cases e : r.d <;> rw [e] at q1 r1 <;> first | exact q1.elim | skip
  obtain ⟨p, vs, h0, h1, h2⟩ := r1
  exact ⟨p, h0, ⟨vs, SqL.of (S1.wf.fh _ _ h1)⟩, q1 _ F1 H1 (.refl S1.wf.fh) S1.wf.mr (walks_l h1 h2)⟩
theorem di_tup {f : List Sl → M R} (h : DE X E e f) : DI X E tgE e (wTup (toV f)) := by
  obtain ⟨t, pt, jt⟩ := h
  refine ⟨_, pi_tup pt, fun i F0 H0 F H σ δ s Q S q => ?_⟩
  have q : Ok X.K (kW X.K i) i E F H Q (M.bnd (f δ) (fun r => match r.d with | .tup l => M.ret l | _ => M.no) s) := by
    unfold wTup toV at q
    unfold M.bnd at q ⊢
    cases e : f δ s <;> rw [e] at q <;> exact q
  refine jt.useR S q fun r s1 v F1 H1 e0 x1 S1 r1 q1 => ?_
  clear e0
  cases e : r.d <;> rw [e] at q1 r1 <;> first | exact q1.elim | skip
  obtain ⟨p, vs, h0, h1, h2⟩ := r1
  exact ⟨p, h0, ⟨vs, sqT_same S1.wf.fh h1⟩, q1 _ F1 H1 (.refl S1.wf.fh) S1.wf.mr (walks_t h1 h2)⟩
theorem DI.v {f : List Sl → M (List Dt)} (h : DI X E tgE e f) : DIV X E tgE e f := by
  obtain ⟨w, pw, jw⟩ := h
  refine ⟨w, pw, fun i F0 H0 F H σ δ s Q S q => jw i F0 H0 F H σ δ s Q S ?_⟩
  cases e2 : f δ s <;> rw [e2] at q
  · exact fun J F' H' x m r => q J F' H' x m r.v
  · exact q
  · exact q
theorem div_lst {f : List Sl → M Dt} (h : DV X E e f) : DIV X E tgE e (wLst f) := by
  obtain ⟨t, pt, jt⟩ := h
  refine ⟨_, pi_list pt, fun i F0 H0 F H σ δ s Q S q => jt.use S q fun d s1 v F1 H1 e0 x1 S1 r1 q1 => ?_⟩
  clear e0
  cases d <;> first | exact q1.elim | skip
  rename_i l
  rcases r1 with ⟨p, vs, h0, h1, h2⟩ | ⟨p, vs, l', e1, h0, h1, h2, h3⟩
  · exact ⟨p, h0, ⟨vs, SqL.of (S1.wf.fh _ _ h1)⟩, q1 _ F1 H1 (.refl S1.wf.fh) S1.wf.mr (walks_l h1 h2).v⟩
  · cases e1
    exact ⟨p, h0, ⟨vs, SqL.of h1⟩, q1 _ F1 H1 (.refl S1.wf.fh) S1.wf.mr (walks_own h1 h2 h3)⟩
theorem di_range1 {f : List Sl → M Dt} {p : Pos} (h : DV X E a f) (hg : Gl X "range" := by rfl) (hm : X.mg "range" = none) (hs : starEach [a] X.env = [(false, eval a X.env)] := by rfl) : DI X E tgE (.Call (.Name "range" p) [a] [] pos) (wRng1 f) := by
  obtain ⟨t, pt, jt⟩ := h
  refine ⟨_, pi_range1 hg hm (pa_cons pt pa_nil hs) hs, fun i F0 H0 F H σ δ s Q S q => jt.use S q fun d s1 v F1 H1 e0 x1 S1 r1 q1 => ?_⟩
  clear e0
  cases d <;> first | exact q1.elim | skip
  obtain ⟨h, q1⟩ := ok_if q1
  exact ⟨_, by rw [View.int r1], by omega, by omega, q1 _ F1 H1 (.refl S1.wf.fh) S1.wf.mr (walks_r 0 _)⟩
end
end DL
namespace DL
open PySem L2
def wipeD (δ : List Sl) : List Nat → List Sl
  | [] => δ
  | v :: vs => (wipeD δ vs).set v .non
section
variable {K : PySem.W.Frag} {i : Ix} {F0 H0 F H F' H' : Hp} {σ : L2.St} {δ : List Sl} {s s' : MS}
theorem Sinv.del (S : Sinv K i F0 H0 F H σ δ s) (k : Nat) : Sinv K i F0 H0 F H (σ.set k none) (δ.set k .non) s := by
  have look : ∀ {j : Nat} {x : Sl}, x ≠ .non → (δ.set k Sl.non)[j]? = some x → j ≠ k ∧ δ[j]? = some x := by
    intro j x hx e
    by_cases hj : j = k
    · subst hj
      by_cases hk : j < δ.length
      · rw [List.getElem?_set_self hk] at e
        exact absurd (Option.some.inj e).symm hx
      · rw [List.getElem?_eq_none (by simpa using hk)] at e
        cases e
    · rw [List.getElem?_set_ne (fun z => hj z.symm)] at e
      exact ⟨hj, e⟩
  have out : ∀ {j : Nat}, j ≠ k → (σ.set k none)[j]? = σ[j]? := fun hj => List.getElem?_set_ne (fun z => hj z.symm)
  refine ⟨S.base, S.wf, by rw [List.length_set, List.length_set]; exact S.len, fun j d e => ?_, fun j l e => ?_, fun j C ns l e => ?_, fun j j' l m p hne e e' q => ?_, S.nst.to (Same.refl _) (fun j ls e => by
      obtain ⟨h1, h2⟩ := look (x := .nst ls) (by intro z; cases z) e
      exact ⟨h2, out h1⟩) fun j ls p as e1 e2 A O => ⟨fun b hb => ⟨rfl, (A.fr b hb).1, (A.fr b hb).2.1⟩, fun j' m q ej eq hq => by
      obtain ⟨h1, h2⟩ := look (x := .own m) (by intro z; cases z) ej
      rw [out h1] at eq
      exact O j' m q h2 eq hq⟩⟩
  · obtain ⟨h1, h2⟩ := look (x := .val d) (by intro z; cases z) e
    rw [out h1]
    exact S.slot j d h2
  · obtain ⟨h1, h2⟩ := look (x := .own l) (by intro z; cases z) e
    rw [out h1]
    exact S.own j l h2
  · obtain ⟨h1, h2⟩ := look (x := .ins C ns l) (by intro z; cases z) e
    rw [out h1]
    exact S.ins j C ns l h2
  · obtain ⟨h1, h2⟩ := look (x := .own l) (by intro z; cases z) e
    obtain ⟨h3, h4⟩ := look (x := .own m) (by intro z; cases z) e'
    rw [out h1] at q
    rw [out h3]
    exact S.sep j j' l m p hne h2 h4 q
theorem Sinv.wipe (S : Sinv K i F0 H0 F H σ δ s) : ∀ vs : List Nat, Sinv K i F0 H0 F H (L2.wipe σ vs) (wipeD δ vs) s
  | [] => S
  | v :: vs => (S.wipe vs).del v
theorem Sinv.side {p : Addr} {us : List V} (S : Sinv K i F0 H0 F H σ δ s) (hp : H p = none ∨ ∃ vs, H p = some (.lst vs)) (hF : F p = none) (h0 : H0 p = none) (g : ¬ G i p) (hn : ∀ (j : Nat) (l : List Dt), δ[j]? = some (Sl.own l) → σ[j]? ≠ some (some (V.ref p))) (hf : ¬ Foot K i H0 F H σ δ p) : Sinv K i F0 H0 F (upd H p (.lst us)) σ δ s := by
  have ne : ∀ {b o}, F b = some o → b ≠ p := fun e => ne_of_none e hF
  refine ⟨⟨S.base.ff, fun b o e => by rw [upd_ne (ne e)]; exact S.base.fh _ _ e, fun b o e _ => by rw [upd_ne (ne_of_none e h0)]; exact S.base.sb _ _ e (by assumption), S.base.nw, fun b e => ?_⟩,
    ⟨fun b o e => by rw [upd_ne (ne e)]; exact S.wf.fh _ _ e, S.wf.gf, S.wf.mr.put hp g⟩, S.len, S.slot, fun j l e => ?_, fun j C ns l e => ?_, S.sep, S.nst.to (Same.refl _) (fun j ls e => ⟨e, rfl⟩) fun j ls p2 as e1 e2 A O => ⟨fun b hb => ⟨upd_ne fun (z : b = p) => hf ⟨j, ls, p2, as, e1, e2, A, z ▸ hb⟩, (A.fr b hb).1, (A.fr b hb).2.1⟩, O⟩⟩
  · by_cases hb : b = p
    · rw [hb, upd_same]; exact fun z => nomatch z
    · rw [upd_ne hb]; exact S.base.al b e
  · obtain ⟨q, us, g1, g2, g3⟩ := S.own j l e
    exact ⟨q, us, g1, by rw [upd_ne fun (z : q = p) => hn j l e (by rw [← z]; exact g1)]; exact g2, g3⟩
  · obtain ⟨q, dx, gs, g1, g2, g3⟩ := S.ins j C ns l e
    refine ⟨q, dx, gs, g1, ?_, g3⟩
    rw [upd_ne fun (z : q = p) => ?_]
    · exact g2
    · subst z
      rcases hp with hp | ⟨vs, hp⟩ <;> rw [hp] at g2 <;> cases g2
theorem Ext.side {p : Addr} {o : HO} (x : Ext i F H F' H') (hp : H p = none) (hF : F' p = none) : Ext i F H F' (upd H' p o) :=
  ⟨x.ff, fun b u e => by rw [upd_ne (ne_of_none e hF)]; exact x.fh _ _ e, fun b u e g => by rw [upd_ne (ne_of_none e hp)]; exact x.sb _ _ e g, x.nw, fun b e => by
    by_cases hb : b = p
    · rw [hb, upd_same]; exact fun z => nomatch z
    · rw [upd_ne hb]; exact x.al b e⟩
end
def M.nx {α : Type} (x : M α) : M α := fun s => match x s with
  | .ok a s' => .ok a s'
  | _ => .no
def compL (tg : Dt → List Sl → Option (List Sl)) (tt : List Sl → M Bool) (fe : List Sl → M R) (δ : List Sl) : List Dt → M (List Dt)
  | [] => M.ret []
  | d :: ds => match tg d δ with
    | some δ1 => M.bnd (tt δ1) fun b => if b = true then M.bnd (fe δ1) fun r => M.bnd (compL tg tt fe δ ds) fun rest => M.ret (r.d :: rest) else compL tg tt fe δ ds
    | none => M.no
def cLc (src : List Sl → M (List Dt)) (tg : Dt → List Sl → Option (List Sl)) (tt : List Sl → M Bool) (fe : List Sl → M R) (vs : List Nat) : List Sl → M R := fun δ => M.bnd (src δ) fun l =>
  if l.length ≤ 100000 then M.bnd (M.nx (compL tg tt fe (wipeD δ vs) l)) fun ds => M.ret (.new ds) else M.no
def tYesD : List Sl → M Bool := fun _ => M.ret true
def JGw (K : PySem.W.Frag) (t : TG) (g : Dt → List Sl → Option (List Sl)) (vs : List Nat) : Prop := ∀ i F0 H0 F H σ δ s d v δ' (Q : L2.St → Hp → Prop), Sinv K i F0 H0 F H (L2.wipe σ vs) (wipeD δ vs) s → Rep K i F d v → g d (wipeD δ vs) = some δ' →
  (∀ σ', Sinv K i F0 H0 F H σ' δ' s → Q σ' H) → t v (L2.wipe σ vs) H fun σ2 H2 => L2.wipe σ2 vs = L2.wipe σ vs ∧ Q σ2 H2
def E1 : XK := fun _ _ _ => False
theorem nx_of {α : Type} {x : M α} {s : MS} : (∃ a s', x s = .ok a s' ∧ M.nx x s = .ok a s') ∨ M.nx x s = .no := by
  unfold M.nx
  cases e : x s with
  | ok a s' => exact .inl ⟨a, s', rfl, rfl⟩
  | ex a b => exact .inr rfl
  | no => exact .inr rfl
def restG (tg : Dt → List Sl → Option (List Sl)) (tt : List Sl → M Bool) (fe : List Sl → M R) (δ : List Sl) (acc : List Dt) (l : List Dt) : M R := M.bnd (M.nx (compL tg tt fe δ l)) fun ds => M.ret (.new (acc ++ ds))
theorem restG_cons {tg : Dt → List Sl → Option (List Sl)} {tt : List Sl → M Bool} {fe : List Sl → M R} {δ δ1 : List Sl} {acc : List Dt} {d : Dt} {ds : List Dt} {s : MS} {K : PySem.W.Frag} {k : Kind R V} {i : Ix} {E : XK} {F H : Hp} {Q : VK} (ht : tg d δ = some δ1)
    (q : Ok K k i E F H Q (restG tg tt fe δ acc (d :: ds) s)) : ∃ b s1, tt δ1 s = .ok b s1 ∧ ((b = false ∧ Ok K k i E F H Q (restG tg tt fe δ acc ds s1)) ∨ (b = true ∧ ∃ r s2, fe δ1 s1 = .ok r s2 ∧ Ok K k i E F H Q (restG tg tt fe δ (acc ++ [r.d]) ds s2))) := by
  unfold restG M.bnd at q
  rcases nx_of (x := compL tg tt fe δ (d :: ds)) (s := s) with ⟨a, s', e1, e2⟩ | e
  · rw [e2] at q
    unfold compL at e1
    rw [ht] at e1
    simp only [M.bnd] at e1
    cases et : tt δ1 s with
    | no => rw [et] at e1; cases e1
    | ex a b => rw [et] at e1; cases e1
    | ok b s1 =>
      rw [et] at e1
      refine ⟨b, s1, rfl, ?_⟩
      cases b with
      | false =>
        refine .inl ⟨rfl, ?_⟩
        have e1 : compL tg tt fe δ ds s1 = .ok a s' := e1
        unfold restG M.bnd M.nx
        rw [e1]
        exact q
      | true =>
        refine .inr ⟨rfl, ?_⟩
        have e1 : M.bnd (fe δ1) (fun r => M.bnd (compL tg tt fe δ ds) fun rest => M.ret (r.d :: rest)) s1 = .ok a s' := e1
        unfold M.bnd at e1
        cases ef : fe δ1 s1 with
        | no => simp only [ef] at e1; cases e1
        | ex a b => simp only [ef] at e1; cases e1
        | ok r s2 =>
          simp only [ef] at e1
          cases ec : compL tg tt fe δ ds s2 with
          | no => rw [ec] at e1; cases e1
          | ex a b => rw [ec] at e1; cases e1
          | ok rest s3 =>
            rw [ec] at e1
            cases e1
            refine ⟨r, s2, rfl, ?_⟩
            unfold restG M.bnd M.nx
            rw [ec]
            simp only [List.append_assoc, List.singleton_append]
            exact q
  · rw [e] at q
    exact q.elim
theorem lc_j {K : PySem.W.Frag} {E : XK} {w : TI} {g : TG} {src : List Sl → M (List Dt)} {tg : Dt → List Sl → Option (List Sl)} {tt : List Sl → M Bool} {fe : List Sl → M R} {vs : List Nat} (jw : J kWV K E w src) (jg : JGw K g tg vs) :
    J kR K E (tLc w g (tOf kB K E1 tt) (tOf kR K E1 fe) vs) (cLc src tg tt fe vs) := fun i F0 H0 F H σ δ s Q S q => by
  refine jw.use0 S q fun l s1 It F1 H1 e0 x1 m1 r1 q1 => ?_
  have S1 := S.ext x1 m1
  obtain ⟨hl, q1⟩ := ok_if q1
  intro D hD
  have hD0 : H0 D = none := by
    cases z : H0 D with
    | none => rfl
    | some o => exact absurd hD (S1.base.al D (by rw [z]; exact fun z => nomatch z))
  have hDs : H D = none := by
    cases z : H D with
    | none => rfl
    | some o => exact absurd hD (x1.al D (by rw [z]; exact fun z => nomatch z))
  have gD : ¬ G i D := S1.wf.off hD
  have own1 : ∀ (j : Nat) (l : List Dt), (wipeD δ vs)[j]? = some (Sl.own l) → (L2.wipe σ vs)[j]? ≠ some (some (V.ref D)) := fun j l e z => by
    obtain ⟨p, us, g1, g2, _⟩ := (S1.wipe vs).own j l e
    rw [z] at g1
    cases g1
    rw [hD] at g2
    cases g2
  have F1D : F1 D = none := S1.wf.fh.free hD
  refine ⟨fun n m H3 => m = l.length - n ∧ n ≤ l.length ∧ ∃ F3 s3 acc us, Sinv K i F0 H0 F3 H3 (L2.wipe σ vs) (wipeD δ vs) s3 ∧ Ext i F1 H1 F3 H3 ∧ H3 D = some (.lst us) ∧ F3 D = none ∧ Reps K i F3 acc us ∧ acc.length ≤ n ∧ Ok K (kR K i) i E F H Q (restG tg tt fe (wipeD δ vs) acc (l.drop n) s3),
    ⟨_, rfl, Nat.zero_le _, F1, s1, [], [], (S1.wipe vs).side (.inl hD) F1D hD0 gD own1 (fun f => by obtain ⟨us, g⟩ := f.lst; rw [hD] at g; cases g), (Ext.refl S1.wf.fh).side hD F1D, upd_same, F1D, rfl, Nat.zero_le _, ?_⟩, ?_⟩
  · rw [List.drop_zero]
    unfold restG
    simp only [List.nil_append]
    exact q1
  rintro n m H3 ⟨rfl, hn, F3, s3, acc, us, S3, x3, hd3, hf3, r3, ha, q3⟩
  obtain ⟨w1, w2⟩ := r1 n F3 H3 x3
  by_cases hlt : n < l.length
  · have ed : l[n]? = some l[n] := List.getElem?_eq_getElem hlt
    obtain ⟨hgo, hy⟩ := w1 _ ed
    rw [List.drop_eq_getElem_cons hlt] at q3
    refine .inr ⟨hgo, fun H4 => ∃ F3 s3 acc us, Sinv K i F0 H0 F3 H4 (L2.wipe σ vs) (wipeD δ vs) s3 ∧ Ext i F1 H1 F3 H4 ∧ H4 D = some (.lst us) ∧ F3 D = none ∧ Reps K i F3 acc us ∧ acc.length ≤ n + 1 ∧ Ok K (kR K i) i E F H Q (restG tg tt fe (wipeD δ vs) acc (l.drop (n + 1)) s3),
      fun H4 h => ⟨_, by omega, rfl, hlt, h⟩, fun x H4 y => ?_⟩
    obtain ⟨F4, ff, fh, hh, nw, hr⟩ := hy x H4 y
    have x4 : Ext i F3 H3 F4 H4 := walk_ext ff fh hh nw
    have S4 := S3.ext x4 (S3.wf.mr.sm hh)
    have hd4 : H4 D = some (.lst us) := hh _ _ hd3
    have hf4 : F4 D = none := x4.nw D (by rw [hd3]; exact fun z => nomatch z) hf3
    cases et : tg l[n] (wipeD δ vs) with
    | none =>
      exfalso
      unfold restG M.bnd M.nx compL at q3
      rw [et] at q3
      exact q3
    | some δ1 =>
      obtain ⟨b, s5, e5, q5⟩ := restG_cons et q3
      refine jg i F0 H0 F4 H4 σ δ s3 _ x δ1 _ S4 hr et fun σ1 T4 => ⟨i, F0, H0, F4, δ1, s3, T4, ?_⟩
      rw [e5]
      intro b' F5 H5 x5 m5 rb
      have rb : b' = b := rb
      subst rb
      have S5 := S4.ext x5 m5
      have T5 := T4.ext x5 m5
      have hd5 : H5 D = some (.lst us) := x5.sb _ _ hd4 gD
      have hf5 : F5 D = none := x5.nw D (by rw [hd4]; exact fun z => nomatch z) hf4
      rcases q5 with ⟨rfl, q5⟩ | ⟨rfl, r, s6, e6, q6⟩
      · exact iteF ⟨F5, s5, acc, us, S5, (x3.trans x4).trans x5, hd5, hf5, Reps.same (x4.ff.trans x5.ff) _ r3, by omega, q5⟩
      · refine iteT ⟨i, F0, H0, F5, δ1, s5, T5, ?_⟩
        rw [e6]
        intro v F6 H6 x6 m6 rv
        obtain ⟨F7, x7, ff7, rv7⟩ := RepR.freeze rv x6
        have S7 := S5.ext x7 m6
        have hd7 : H6 D = some (.lst us) := x7.sb _ _ hd5 gD
        have hf7 : F7 D = none := x7.nw D (by rw [hd5]; exact fun z => nomatch z) hf5
        have r7 := (Reps.same ((x4.ff.trans x5.ff).trans x7.ff) _ r3).append (Reps.cons rv7 .nil)
        refine ⟨us, hd7, lt_line ?_, F7, s6, acc ++ [r.d], us ++ [v], S7.side (.inr ⟨_, hd7⟩) hf7 hD0 gD own1 (fun f => f.back (S1.wipe vs) (((x3.trans x4).trans x5).trans x7).sb hD), (((x3.trans x4).trans x5).trans x7).side hD hf7, upd_same, hf7, r7, by rw [List.length_append, List.length_singleton]; omega, q6⟩
        rw [r3.len]
        omega
  · have e1 : n = l.length := by omega
    subst e1
    rw [List.drop_length] at q3
    refine .inl ⟨w2 (Nat.le_refl _), ?_⟩
    unfold restG M.bnd M.nx compL at q3
    simp only [M.ret, List.append_nil] at q3
    exact q3 _ F3 H3 (x1.trans x3) S3.wf.mr ⟨D, us, rfl, hd3, hf3, hDs, r3⟩
section
variable {X : Cx} {E : XK} {elt tgE iter : Expr} {ifs : List Expr} {scope : Scope} {own : List (Str × Nat)} {pos : Pos}
def DTs (X : Cx) (E : XK) (ifs : List Expr) (f : List Sl → M Bool) : Prop := PTs X ifs (tOf kB X.K E f)
theorem dts_nil : DTs X E [] tYesD := ⟨fun pins s σ H Q I ⟨i, F0, H0, F, δ, s', S, q⟩ => pts_nil.run pins s σ H Q I (q true F H (.refl S.wf.fh) S.wf.mr rfl)⟩
theorem dts_one {c : Expr} {f : List Sl → M Bool} (h : DT X E c f) : DTs X E [c] f := pts_one h.pt
theorem de_lc {vs : List Nat} {src : List Sl → M (List Dt)} {g : TG} {tg : Dt → List Sl → Option (List Sl)} {tt : List Sl → M Bool} {fe : List Sl → M R} (hc : X.calm = true) (hN : X.N.Nodup) (hi : DIV X E tgE iter src) (ok : BlkOk X.N X.env.scope scope own) (jg : JGw X.K g tg (own.map (·.2)))
    (hg : ∀ (s : Shared) (H : Hp) (C : Addr) (cl : List (Str × Addr)) (fp : List Addr), PG (X.blk s H scope (compEnvC scope cl C X.env) fp) tgE g) (ht : ∀ (s : Shared) (H : Hp) (C : Addr) (cl : List (Str × Addr)) (fp : List Addr), DTs (X.blk s H scope (compEnvC scope cl C X.env) fp) E1 ifs tt)
    (he : ∀ (s : Shared) (H : Hp) (C : Addr) (cl : List (Str × Addr)) (fp : List Addr), DE (X.blk s H scope (compEnvC scope cl C X.env) fp) E1 elt fe) (hs : ∀ x, foldedSetIterable iter X.env x = pure x := by intro _; rfl) (hvs : own.map (·.2) = vs := by rfl) :
    DE X E (.ListComp elt [⟨tgE, iter, ifs, 0⟩] scope pos) (cLc src tg tt fe vs) := by
  subst hvs
  obtain ⟨w, pw, jw⟩ := hi
  exact ⟨_, pe_lc hc hN pw ok hg (tt := tOf kB X.K E1 tt) ht (te := tOf kR X.K E1 fe) (fun s H C cl fp => (he s H C cl fp).pe) hs, lc_j jw jg⟩
theorem ds_setLc (k : Nat) {vs : List Nat} {y : Str} {py spos : Pos} {src : List Sl → M (List Dt)} {g : TG} {tg : Dt → List Sl → Option (List Sl)} {tt : List Sl → M Bool} {fe : List Sl → M R} (hc : X.calm = true) (hN : X.N.Nodup) (hi : DIV X E tgE iter src) (ok : BlkOk X.N X.env.scope scope own) (jg : JGw X.K g tg (own.map (·.2)))
    (hg : ∀ (s : Shared) (H : Hp) (C : Addr) (cl : List (Str × Addr)) (fp : List Addr), PG (X.blk s H scope (compEnvC scope cl C X.env) fp) tgE g) (ht : ∀ (s : Shared) (H : Hp) (C : Addr) (cl : List (Str × Addr)) (fp : List Addr), DTs (X.blk s H scope (compEnvC scope cl C X.env) fp) E1 ifs tt)
    (he : ∀ (s : Shared) (H : Hp) (C : Addr) (cl : List (Str × Addr)) (fp : List Addr), DE (X.blk s H scope (compEnvC scope cl C X.env) fp) E1 elt fe) (hs : ∀ x, foldedSetIterable iter X.env x = pure x := by intro _; rfl)
    (hy : X.N[k]? = some y := by rfl) (hyl : X.env.scope.names.lookup y = some .local := by rfl) (hsw : swapsWith (.ListComp elt [⟨tgE, iter, ifs, 0⟩] scope pos) (some (.Name y py)) spos.line X.env = pure true := by exact sw_true rfl rfl rfl (by decide +kernel)) (hvs : own.map (·.2) = vs := by rfl) :
    DS X E (.Assign [.Name y py] (.ListComp elt [⟨tgE, iter, ifs, 0⟩] scope pos) spos) (gSet k (cLc src tg tt fe vs)) := by
  subst hvs
  obtain ⟨w, pw, jw⟩ := hi
  refine ⟨_, ps_setLc hc hN hy hyl hsw pw ok hg (tt := tOf kB X.K E1 tt) ht (te := tOf kR X.K E1 fe) (fun s H C cl fp => (he s H C cl fp).pe) hs, fun i F0 H0 F H σ δ s D S q => ?_⟩
  exact J.useS (lc_j jw jg) S q fun r s1 v F1 H1 x1 S1 r1 q1 => q1 _ F1 H1 (S.putE S1 k r1 x1.sb)
end
theorem wipe_get {σ : L2.St} {j : Nat} : ∀ {vs : List Nat}, (L2.wipe σ vs)[j]? = if j ∈ vs then (σ[j]?.map fun _ => none) else σ[j]?
  | [] => by simp [L2.wipe]
  | v :: vs => by
    unfold L2.wipe
    by_cases hj : v = j
    · subst hj
      rw [if_pos (List.mem_cons_self ..), List.getElem?_set, if_pos rfl, wipe_length]
      by_cases hv : v < σ.length
      · rw [if_pos hv, List.getElem?_eq_getElem hv]
        rfl
      · rw [if_neg hv, List.getElem?_eq_none (by omega)]
        rfl
    · rw [List.getElem?_set_ne hj, wipe_get]
      have : (j ∈ v :: vs) ↔ j ∈ vs := by
        rw [List.mem_cons]
        exact ⟨fun h => h.elim (fun e => absurd e.symm hj) id, .inr⟩
      simp only [this]
theorem wipe_set {σ : L2.St} {k : Nat} {v : Option V} {vs : List Nat} (h : k ∈ vs) : L2.wipe (σ.set k v) vs = L2.wipe σ vs := by
  refine List.ext_getElem? fun j => ?_
  rw [wipe_get, wipe_get]
  by_cases hj : j ∈ vs
  · rw [if_pos hj, if_pos hj]
    by_cases e : k = j
    · subst e
      rw [List.getElem?_set, if_pos rfl]
      by_cases hv : k < σ.length
      · rw [if_pos hv, List.getElem?_eq_getElem hv]
        rfl
      · rw [if_neg hv, List.getElem?_eq_none (by omega)]
    · rw [List.getElem?_set_ne e]
  · rw [if_neg hj, if_neg hj, List.getElem?_set_ne]
    intro e
    exact hj (e ▸ h)
theorem wipe_wipe {σ : L2.St} {vs : List Nat} : L2.wipe (L2.wipe σ vs) vs = L2.wipe σ vs := by
  refine List.ext_getElem? fun j => ?_
  rw [wipe_get, wipe_get]
  split
  · cases σ[j]? <;> rfl
  · rfl
theorem jgw_name (K : PySem.W.Frag) (k : Nat) : JGw K (gName k) (tgN k) [k] := fun i F0 H0 F H σ δ s d v δ' Q S r e q => by
  cases e
  refine ⟨?_, q _ (S.putD k r)⟩
  rw [wipe_set (List.mem_cons_self ..), wipe_wipe]
theorem jgw_two (K : PySem.W.Frag) (a b : Nat) : JGw K (gTup K 2 (gCons (gName a) (gCons (gName b) gNil))) (tgT [tgN a, tgN b]) [a, b] := fun i F0 H0 F H σ δ s d v δ' Q S r e q => by
  cases d <;> first | (cases e; done) | skip
  rename_i l
  obtain ⟨p, vs, h0, h1, h2⟩ := r
  match l, e, h2 with
  | [x, y], e, h2 =>
    obtain ⟨v1, r1, e1, hx, v2, r2, e2, hy, e3⟩ := h2
    cases e
    have e3 : r2 = [] := e3
    subst e3 e2 e1
    refine ⟨p, _, h0, sqT_same S.wf.fh h1, rfl, _, _, rfl, _, _, rfl, ⟨rfl, ?_, q _ ((S.putD a hx).putD b hy)⟩⟩
    rw [wipe_set (by simp), wipe_set (by simp), wipe_wipe]
  | [], e, _ => cases e
  | [_], e, _ => cases e
  | _ :: _ :: _ :: _, e, _ => cases e
end DL
namespace DL
open PySem PySem.Spec PyProof.Rows L2
def spD (K : PySem.W.Frag) (n : Nat) (sem : List Dt → M R) : Sp := fun vs H Q E => ∃ i F s ds, Wf i s F H ∧ Reps K i F ds vs ∧ ds.length = n ∧ Ok K (kR K i) i E F H Q (sem ds s)
structure FnX (P : Program) (w : World) (K : PySem.W.Frag) (mg : Str → Option Value) (base : Heap) (CX : CXT) (k : Nat) (f : Addr) (fd : FuncData) (ps : List Str) (sp : Sp) : Prop where
  len : ∀ vs H Q E, sp vs H Q E → vs.length = ps.length
  run : ∀ (A : Around) (outer : List Env) (s : Shared) (H : Hp) (args : Args) (us : List Value) (vs : List V) (Q : VK) (E : XK), A.guards = some [] → Room k A →
    Env0 P w K mg base A outer s H → BindsTo s fd args (ps.zip us) → Vals vs us → sp vs H Q E → codeAny (model P w) A (.call (.ref f) args) (CR CX outer P w H s Q E) s
theorem FnOk.cx {P : Program} {w : World} {K : PySem.W.Frag} {mg : Str → Option Value} {base : Heap} {CX : CXT} {k : Nat} {f : Addr} {fd : FuncData} {ps : List Str} {sp : Sp} (F : FnOk P w K mg base CX0 k f fd ps sp) : FnOk P w K mg base CX k f fd ps sp :=
  ⟨F.len, fun A outer s H args us vs Q E hr he hb hv hs => codeAny_mono (F.run A outer s H args us vs Q E hr he hb hv hs) fun r s' q => by
    cases r with
    | error e => exact (show False from q).elim
    | ok fl => cases fl <;> exact q⟩
theorem FnOk.x {P : Program} {w : World} {K : PySem.W.Frag} {mg : Str → Option Value} {base : Heap} {CX : CXT} {k : Nat} {f : Addr} {fd : FuncData} {ps : List Str} {sp : Sp} (F : FnOk P w K mg base CX k f fd ps sp) : FnX P w K mg base CX k f fd ps sp :=
  ⟨F.len, fun A outer s H args us vs Q E _ hr => F.run A outer s H args us vs Q E hr⟩
theorem FnX.imp {P : Program} {w : World} {K : PySem.W.Frag} {mg : Str → Option Value} {base : Heap} {CX : CXT} {k : Nat} {f : Addr} {fd : FuncData} {ps : List Str} {sp sp' : Sp} (F : FnX P w K mg base CX k f fd ps sp)
    (h : ∀ vs H Q E, sp' vs H Q E → sp vs H Q E) : FnX P w K mg base CX k f fd ps sp' :=
  ⟨fun vs H Q E q => F.len vs H Q E (h _ _ _ _ q), fun A outer s H args us vs Q E hg hr he hb hv hs => F.run A outer s H args us vs Q E hg hr he hb hv (h _ _ _ _ hs)⟩
theorem FnX.mono {P : Program} {w : World} {K : PySem.W.Frag} {mg : Str → Option Value} {base : Heap} {CX : CXT} {j k : Nat} {f : Addr} {fd : FuncData} {ps : List Str} {sp : Sp} (F : FnX P w K mg base CX j f fd ps sp) (h : j ≤ k) : FnX P w K mg base CX k f fd ps sp :=
  ⟨F.len, fun A outer s H args us vs Q E hg hr => F.run A outer s H args us vs Q E hg (hr.mono h)⟩
section
variable {X : Cx} {CX : CXT} {k : Nat} {f C : Addr} {fd : FuncData} {ps : List Str} {sp : Sp} {E : XK} {x m : Str} {p pos apos : Pos} {e o : Expr} {es : List Expr} {ta : TE} {t : TA}
theorem run_fnX {pins : List (Addr × Obj)} {σ : L2.St} {H : Hp} {s : Shared} {Q : VK} {us : List Value} {vs : List V} (F : FnX X.prog X.w X.K X.mg X.base CX k f fd ps sp) (hg : X.A.guards = some []) (hr : Room k X.A) (hb : Binds X.K fd ps []) (hx : Passes CX X E)
    (I : Inv X pins σ H s) (r : Vals vs us) (h : sp vs H Q E) : wpAny (model X.prog X.w) X.A (call (.ref f) us) (EP X pins σ Q) X.xe s := by
  have hl : (us ++ []).length = ps.length := by rw [List.append_nil, ← r.length]; exact F.len _ _ _ _ h
  have b0 := hb s us I.kIn hl
  rw [List.append_nil] at b0
  refine wpAny_call (codeAny_mono (F.run X.A X.stack s H ⟨us, []⟩ us vs Q E hg hr I.env0 b0 r h) fun r s' hq => ?_)
  cases r with
  | error e => exact hx pins σ H s e s' I hq
  | ok fl =>
    cases fl with
    | ret u => exact I.after hq
    | next => exact False.elim hq
    | brk => exact False.elim hq
    | cont => exact False.elim hq
theorem pe_callX (F : FnX X.prog X.w X.K X.mg X.base CX k f fd ps sp) (hgu : X.A.guards = some []) (hr : Room k X.A) (hg : Gl X x) (hm : X.mg x = some (.ref f)) (hk : PySem.W.keepIn X.K (.ref f) = true) (hb : Binds X.K fd ps []) (hx : Passes CX X E)
    (ha : PA X (e :: es) t) (hdb : (x == ("__debug__" : Str)) = false := by decide) (he : starEach (e :: es) X.env = (false, eval e X.env) :: starEach es X.env := by rfl) (hpl : (backTo pos (starEach es X.env)).any (·.1) = false := by rfl) :
    PE X (.Call (.Name x p) (e :: es) [] pos) (tCall sp [] E t) := by
  refine ⟨fun pins s σ H Q I h => ?_⟩
  refine wpAny_Call_Name_kw (ld_glob I hg hm ?_ hdb)
  refine PySem.W.callWith_K (h₀ := X.base) I.ok.mod.kin hk (thn (ha.run pos pins s σ H _ I h) fun us s1 ⟨vs, H1, I1, r, q⟩ => ⟨I1.kIn, ?_⟩) he hpl
  exact run_fnX F hgu hr hb hx I1 r (by have z : sp (vs ++ []) H1 Q E := q; rw [List.append_nil] at z; exact z)
end
def FnD (P : Program) (w : World) (K : PySem.W.Frag) (mg : Str → Option Value) (base : Heap) (k : Nat) (f : Addr) (fd : FuncData) (ps : List Str) (sem : List Dt → M R) : Prop := FnX P w K mg base (L2.CX P w) k f fd ps (spD K ps.length sem)
theorem FnD.imp {P : Program} {w : World} {K : PySem.W.Frag} {mg : Str → Option Value} {base : Heap} {k : Nat} {f : Addr} {fd : FuncData} {ps : List Str} {sem sem' : List Dt → M R} (F : FnD P w K mg base k f fd ps sem) (h : ∀ ds s, sem' ds s ≠ .no → ds.length = ps.length → sem ds s = sem' ds s) : FnD P w K mg base k f fd ps sem' :=
  FnX.imp F fun vs H Q E ⟨i, F, s, ds, W, r, hl, q⟩ => ⟨i, F, s, ds, W, r, hl, by
    rw [h ds s (fun e => by rw [e] at q; exact q) hl]
    exact q⟩
theorem sinv_start {K : PySem.W.Frag} {i : Ix} {F H : Hp} {s : MS} {ds : List Dt} {vs : List V} (W : Wf i s F H) (r : Reps K i F ds vs) (N : List Str) : Sinv K i F H F H (L2.start N vs) (ds.map Sl.val ++ List.replicate (N.length - ds.length) .non) s := by
  have look : ∀ {j : Nat} {x : Sl}, (ds.map Sl.val ++ List.replicate (N.length - ds.length) Sl.non)[j]? = some x → (∃ d, x = .val d ∧ ds[j]? = some d) ∨ x = .non := by
    intro j x e
    rw [List.getElem?_append] at e
    split at e
    · rw [List.getElem?_map] at e
      obtain ⟨d, e1, e2⟩ := Option.map_eq_some_iff.mp e
      exact .inl ⟨d, e2.symm, e1⟩
    · rw [List.getElem?_replicate] at e
      split at e
      · exact .inr (Option.some.inj e).symm
      · cases e
  refine ⟨.refl W.fh, W, ?_, fun j d e => ?_, fun j l e => ?_, fun j C ns l e => ?_, fun j j' l m p hne e => ?_, .none fun j ls e => by rcases look e with ⟨d', e1, e2⟩ | e1 <;> cases e1⟩
  · unfold L2.start
    rw [List.length_append, List.length_append, List.length_map, List.length_map, List.length_replicate, List.length_replicate, r.len]
  · rcases look e with ⟨d', e1, e2⟩ | e1
    · cases e1
      obtain ⟨v, g1, g2⟩ := r.get e2
      refine ⟨v, ?_, g2⟩
      unfold L2.start
      rw [List.getElem?_append_left (by rw [List.length_map]; exact (List.getElem?_eq_some_iff.mp g1).1), List.getElem?_map, g1]
      rfl
    · cases e1
  · rcases look e with ⟨d', e1, e2⟩ | e1 <;> cases e1
  · rcases look e with ⟨d', e1, e2⟩ | e1 <;> cases e1
  · rcases look e with ⟨d', e1, e2⟩ | e1 <;> cases e1
def semOf (n : Nat) (g : List Sl → M Fl) (ds : List Dt) : M R := M.bnd (g (ds.map Sl.val ++ List.replicate (n - ds.length) .non)) fun
  | .nx _ => M.ret (.val .non)
  | .ret r => M.ret r
  | _ => M.no
section
variable {P : Program} {w : World} {K : PySem.W.Frag} {mg : Str → Option Value} {base : Heap}
theorem okX {CX : CXT} {x qual : Str} {st : Stmt} {f : Addr} {fd : FuncData} {N ps : List Str} {k : Nat} {sp : Sp} (F : Fun K x qual st f fd) (S : FnScope N ps (defScope st)) (len : ∀ vs H Q E, sp vs H Q E → vs.length = ps.length)
    (hbody : ∀ (cdv : Value) (A : Around) (outer : List Env) (s : Shared) (H : Hp) (vs : List V) (Q : VK) (E : XK), PySem.W.codeIn K cdv qual = true → A.guards = some [] → Room k (A.deeper (PyProof.Rows.envOfC qual (defScope st) s.heap.objs.size f cdv)) → sp vs H Q E →
      ∃ t, PSs (cxOf CX P w K mg base N qual (defScope st) f cdv A outer s H E) (defBody st) t ∧ t { nx := fun _ H' => Q .non H', rt := Q } (L2.start N vs) H) : FnX P w K mg base CX (k + 1) f fd ps sp := by
  obtain ⟨oc, od, kV, doc, pm, an, cdv, ct, osl, rfl, lk, hcd⟩ := F.ex
  refine ⟨len, fun A outer s H args us vs Q E hg hr e0 hb r h => ?_⟩
  have old : ∀ b o, base.get? b = some o → s.heap.get? b = some o := fun b o e => (e0.bs b o e).1
  have Ks : K.In s.heap := e0.mod.kin.keeps old
  have free : s.heap.NoLimit := e0.mod.nolimit.keeps old
  have kinds : ∀ y ∈ ps.zip us, (defScope st).names.lookup y.1 = some .local ∨
      ((defScope st).names.lookup y.1 = some .cell ∧ ((cellsFrom (s.heap.objs.size + 1) (defScope st).names []).lookup y.1).isSome = true) := by
    rintro ⟨n, v⟩ hy
    rcases S.par n (List.of_mem_zip hy).1 with z | z
    · exact .inl z
    · exact .inr ⟨z, PySem.W.cellsFrom_some _ _ _ (.inl z)⟩
  refine codeAny_call_function hr.depth (Ks _ _ lk) rfl S.co S.gen rfl (PySem.W.codeRec_of Ks hcd) (hb _ _ _ _ ?_)
  refine wpAny_newFunctionEnv_cells S.kind kinds fun env eq s1 entry => ?_
  subst eq
  refine ⟨free.keeps entry.toInCall.keep, codeAny_func ?_⟩
  obtain ⟨t, ht, q⟩ := hbody cdv A outer s H vs Q E hcd hg (hr.deeper _) h
  have I := inv_start (CX := CX) (E := E) S hr.hd e0 (len _ _ _ _ h) r entry
  refine wpAny_mono (ht.run [] s1 (L2.start N vs) H _ I q) (fun fl s' z => ?_) fun _ _ z => z
  cases fl with
  | brk =>
    obtain ⟨_, _, _, z⟩ := z
    exact z.elim
  | cont =>
    obtain ⟨_, _, _, z⟩ := z
    exact z.elim
  | next =>
    obtain ⟨σ', H', J, z⟩ := z
    exact ⟨.non, H', J.os, J.bare, J.base, J.hok, rfl, z⟩
  | ret u =>
    obtain ⟨v, σ', H', J, rv, z⟩ := z
    exact ⟨v, H', J.os, J.bare, J.base, J.hok, rv, z⟩
theorem fnD_of {x qual : Str} {st : Stmt} {f : Addr} {fd : FuncData} {N ps : List Str} {k : Nat} {g : List Sl → M Fl} (F : Fun K x qual st f fd) (S : FnScope N ps (defScope st))
    (hbody : ∀ (cdv : Value) (A : Around) (outer : List Env) (s : Shared) (H : Hp) (E : XK), PySem.W.codeIn K cdv qual = true → A.guards = some [] → Room k (A.deeper (PyProof.Rows.envOfC qual (defScope st) s.heap.objs.size f cdv)) → DSs (cxOf (L2.CX P w) P w K mg base N qual (defScope st) f cdv A outer s H E) E (defBody st) g) :
    FnD P w K mg base (k + 1) f fd ps (semOf N.length g) := by
  refine okX F S (fun vs H Q E ⟨i, F, s, ds, W, r, hl, q⟩ => by rw [r.len]; exact hl) (fun cdv A outer s H vs Q E hcd hg hr ⟨i, F, s', ds, W, r, hl, q⟩ => ?_)
  obtain ⟨t, pt, jt⟩ := hbody cdv A outer s H E hcd hg hr
  refine ⟨t, pt, jt i F H F H _ _ s' _ (sinv_start W r N) ?_⟩
  unfold semOf M.bnd at q
  cases e : g (ds.map Sl.val ++ List.replicate (N.length - ds.length) .non) s' with
  | no => rw [e] at q; exact q.elim
  | ex a b => rw [e] at q; exact q
  | ok fl s2 =>
    rw [e] at q
    cases fl with
    | nx δ => exact fun σ' F' H' S' => q .non F' H' S'.base S'.wf.mr rfl
    | ret r => exact q
    | bk δ => exact q.elim
    | ct δ => exact q.elim
end
def cCall (n : Nat) (fa : List Sl → M (List Dt)) (sem : List Dt → M R) : List Sl → M R := fun δ => M.bnd (fa δ) fun ds => if ds.length = n then sem ds else M.no
def recvD (C : Addr) (m : Str) : Dt → Bool
  | .obj C' ns _ => decide (C' = C) && !ns.contains m
  | _ => false
def cMeth (C : Addr) (m : Str) (n : Nat) (fo : List Sl → M R) (fa : List Sl → M (List Dt)) (sem : List Dt → M R) : List Sl → M R := fun δ => M.bnd (fo δ) fun r => if recvD C m r.d = true then M.bnd (fa δ) fun ds => if ds.length + 1 = n then sem (r.d :: ds) else M.no else M.no
def cMeth0 (C : Addr) (m : Str) (n : Nat) (fo : List Sl → M R) (sem : List Dt → M R) : List Sl → M R := fun δ => M.bnd (fo δ) fun r => if recvD C m r.d = true ∧ 1 = n then sem [r.d] else M.no
section
variable {X : Cx} {E : XK} {a b c e : Expr} {es : List Expr} {pos : Pos}
theorem de_call {k : Nat} {f : Addr} {fd : FuncData} {ps : List Str} {sem : List Dt → M R} {x : Str} {p : Pos} {fa : List Sl → M (List Dt)} (F : FnD X.prog X.w X.K X.mg X.base k f fd ps sem) (hgu : X.A.guards = some []) (hr : Room k X.A) (hm : X.mg x = some (.ref f)) (hk : PySem.W.keepIn X.K (.ref f) = true) (hb : Binds X.K fd ps [])
    (px : Passes (L2.CX X.prog X.w) X E) (ha : DA X E (e :: es) fa) (hn : (e :: es).length = ps.length := by rfl) (hg : Gl X x := by rfl) (hdb : (x == ("__debug__" : Str)) = false := by decide) (he : starEach (e :: es) X.env = (false, eval e X.env) :: starEach es X.env := by rfl) (hpl : (backTo pos (starEach es X.env)).any (·.1) = false := by rfl) :
    DE X E (.Call (.Name x p) (e :: es) [] pos) (cCall ps.length fa sem) := by
  obtain ⟨t, pt, jt⟩ := ha
  refine ⟨_, pe_callX F hgu hr hg hm hk hb px pt hdb he hpl, fun i F0 H0 F1 H σ δ s Q S q => jt.use S q fun ds s1 vs F2 H2 e0 x1 S1 r1 q1 => ?_⟩
  obtain ⟨hl, q1⟩ := ok_if q1
  exact ⟨i, F2, s1, ds, S1.wf, by rw [List.append_nil]; exact r1, hl, q1⟩
def lenD : Dt → M R
  | .lst l => M.ret (.val (.int (l.length : Nat)))
  | .tup l => M.ret (.val (.int (l.length : Nat)))
  | .str x => if x.length ≤ 100000 then M.ret (.val (.int (x.length : Nat))) else M.no
  | _ => M.no
def listD : Dt → M R
  | .lst l => M.ret (.new l)
  | .tup l => M.ret (.new l)
  | _ => M.no
def tupleD : Dt → M R
  | .lst l => M.ret (.val (.tup l))
  | .tup l => M.ret (.val (.tup l))
  | _ => M.no
def intsD : List Dt → Option (List Int)
  | [] => some []
  | .int z :: ds => (intsD ds).map (z :: ·)
  | _ => none
theorem intsD_map : ∀ l : List Int, intsD (l.map .int) = some l
  | [] => rfl
  | x :: l => by
    show (intsD (l.map .int)).map _ = _
    rw [intsD_map l]
    rfl
theorem intsD_eq : ∀ {l : List Dt} {ns : List Int}, intsD l = some ns → l = ns.map .int
  | [], _, e => by cases e; rfl
  | d :: ds, ns, e => by
    cases d <;> first | (cases e; done) | skip
    obtain ⟨r, e1, e2⟩ := Option.map_eq_some_iff.mp (show (intsD ds).map _ = some ns from e)
    rw [← e2, intsD_eq e1]
    rfl
def blsD : List Dt → Option (List Bool)
  | [] => some []
  | .bl z :: ds => (blsD ds).map (z :: ·)
  | _ => none
theorem blsD_rep {K : PySem.W.Frag} {i : Ix} {F : Hp} : ∀ {l : List Dt} {ns : List Bool} {vs : List V}, blsD l = some ns → Reps K i F l vs → vs = ns.map V.bl
  | [], _, _, e, h => by cases e; exact h
  | d :: ds, ns, _, e, ⟨v, r, h1, h2, h3⟩ => by
    cases d <;> first | (cases e; done) | skip
    obtain ⟨r', e1, e2⟩ := Option.map_eq_some_iff.mp (show (blsD ds).map _ = some ns from e)
    rw [← e2, h1, blsD_rep e1 h3, show v = _ from h2]
    rfl
def sumD : Dt → M R
  | .lst l => (match intsD l with
    | some ns => M.ret (.val (.int ns.sum))
    | none => M.no)
  | _ => M.no
def allD : Dt → M R
  | .lst l => (match blsD l with
    | some ns => M.ret (.val (.bl (ns.all id)))
    | none => M.no)
  | _ => M.no
def CallD (X : Cx) (E : XK) (f : Value) (op : Dt → M R) : Prop := ∃ r, CallR X f r ∧ ∀ i s F H x a Q, Wf i s F H → View X.K i F H a x → Ok X.K (kR X.K i) i E F H Q (op a s) → r [x] H Q
theorem de_b1 {id : String} {x : Str} {p : Pos} {f : List Sl → M Dt} {op : Dt → M R} (hc : CallD X E (.builtin id) op) (ha : DV X E e f) (hm : X.mg x = none) (hv : bootBuiltins x = some (.builtin id) := by decide +kernel) (hg : Gl X x := by rfl) (hn : x ≠ "__name__" := by decide) (hdb : (x == ("__debug__" : Str)) = false := by decide)
    (he : starEach [e] X.env = (false, eval e X.env) :: starEach [] X.env := by rfl) (hpl : (backTo pos (starEach [] X.env)).any (·.1) = false := by rfl) : DE X E (.Call (.Name x p) [e] [] pos) (una f op) := by
  obtain ⟨t, pt, jt⟩ := ha
  obtain ⟨r, pr, jr⟩ := hc
  exact ⟨_, pe_callB pr hg hm hv (pa_cons pt pa_nil he) hn hdb he hpl, fun i F0 H0 F H σ δ s Q S q => jt.use S q fun d s1 v F1 H1 e0 x1 S1 r1 q1 => jr i s1 F1 H1 v d Q S1.wf r1 q1⟩
theorem de_t1 {T : String} {x : Str} {p : Pos} {f : List Sl → M Dt} {op : Dt → M R} (hc : CallD X E (.type T) op) (ha : DV X E e f) (hm : X.mg x = none) (hv : bootBuiltins x = some (.type T) := by decide +kernel) (hg : Gl X x := by rfl) (hn : x ≠ "__name__" := by decide) (hdb : (x == ("__debug__" : Str)) = false := by decide)
    (he : starEach [e] X.env = (false, eval e X.env) :: starEach [] X.env := by rfl) (hpl : (backTo pos (starEach [] X.env)).any (·.1) = false := by rfl) : DE X E (.Call (.Name x p) [e] [] pos) (una f op) := by
  obtain ⟨t, pt, jt⟩ := ha
  obtain ⟨r, pr, jr⟩ := hc
  exact ⟨_, pe_callTy pr hg hm hv (pa_cons pt pa_nil he) hn hdb he hpl, fun i F0 H0 F H σ δ s Q S q => jt.use S q fun d s1 v F1 H1 e0 x1 S1 r1 q1 => jr i s1 F1 H1 v d Q S1.wf r1 q1⟩
theorem cd_len : CallD X E (.builtin "len") lenD := by
  refine ⟨_, call_len_seq.or call_len_str, fun i s F H x a Q W v q => ?_⟩
  cases a <;> first | exact q.elim | skip
  · obtain ⟨h, q⟩ := ok_if q
    exact .inr ⟨_, by rw [v.str], le_line h, q _ F H (.refl W.fh) W.mr rfl⟩
  · obtain ⟨p, vs, h0, h1, h2⟩ := v.tup
    exact .inl ⟨p, vs, by rw [h0], .inr (sqT_same W.fh h1), q _ F H (.refl W.fh) W.mr (by rw [h2.len]; rfl)⟩
  · obtain ⟨p, vs, h0, h1, h2⟩ := v.lst W.fh
    exact .inl ⟨p, vs, by rw [h0], .inl (SqL.of h1), q _ F H (.refl W.fh) W.mr (by rw [h2.len]; rfl)⟩
theorem cd_list : CallD X E (.type "list") listD := by
  refine ⟨_, call_list_of, fun i s F H x a Q W v q => ?_⟩
  cases a <;> first | exact q.elim | skip
  · obtain ⟨p, vs, h0, h1, h2⟩ := v.tup
    exact ⟨p, vs, by rw [h0], .inr (sqT_same W.fh h1), fun z hz => q _ _ _ (ext_new W.fh hz) (mr_new W.mr hz) ⟨z, _, rfl, upd_same, W.fh.free hz, hz, h2⟩⟩
  · obtain ⟨p, vs, h0, h1, h2⟩ := v.lst W.fh
    exact ⟨p, vs, by rw [h0], .inl (SqL.of h1), fun z hz => q _ _ _ (ext_new W.fh hz) (mr_new W.mr hz) ⟨z, _, rfl, upd_same, W.fh.free hz, hz, h2⟩⟩
theorem cd_tuple : CallD X E (.type "tuple") tupleD := by
  refine ⟨_, call_tuple_of, fun i s F H x a Q W v q => ?_⟩
  cases a <;> first | exact q.elim | skip
  · obtain ⟨p, vs, h0, h1, h2⟩ := v.tup
    exact ⟨p, vs, by rw [h0], .inr ⟨sqT_same W.fh h1, q _ F H (.refl W.fh) W.mr ⟨p, vs, rfl, h1, h2⟩⟩⟩
  · obtain ⟨p, vs, h0, h1, h2⟩ := v.lst W.fh
    exact ⟨p, vs, by rw [h0], .inl ⟨SqL.of h1, fun z hz => q _ _ _ (ext_newK W.fh hz) (mr_new W.mr hz) ⟨z, _, rfl, .inl (.inl upd_same), Reps.same (same_know (W.fh.free hz)) _ h2⟩⟩⟩
theorem cd_sum (hc : X.calm = true) : CallD X E (.builtin "sum") sumD := by
  refine ⟨_, cr_sum hc, fun i s F H x a Q W v q => ?_⟩
  cases a <;> first | exact q.elim | skip
  rename_i l
  obtain ⟨p, vs, h0, h1, h2⟩ := v.lst W.fh
  cases e : intsD l with
  | none => simp only [sumD, e] at q; exact q.elim
  | some ns =>
    simp only [sumD, e] at q
    rw [intsD_eq e] at h2
    rw [h2.of_ints] at h1
    exact ⟨p, ns, by rw [h0], SqL.of h1, q _ F H (.refl W.fh) W.mr rfl⟩
theorem cd_all (hc : X.calm = true) : CallD X E (.builtin "all") allD := by
  refine ⟨_, cr_all hc, fun i s F H x a Q W v q => ?_⟩
  cases a <;> first | exact q.elim | skip
  rename_i l
  obtain ⟨p, vs, h0, h1, h2⟩ := v.lst W.fh
  cases e : blsD l with
  | none => simp only [allD, e] at q; exact q.elim
  | some ns =>
    simp only [allD, e] at q
    rw [blsD_rep e h2] at h1
    exact ⟨p, ns, by rw [h0], SqL.of h1, q _ F H (.refl W.fh) W.mr rfl⟩
end
end DL
namespace LwE
open PySem PySem.Spec PyProof.Rows L2
structure OexG (K : PySem.W.Frag) (C : Addr) (newId : String) (bmB : List Value) : Prop where
  cls : ∃ nm q N bs bm sn sub ab col dd k0 k1 k2 k3 k5, K.lookup C = some (excClassObj nm q C N bs bm true sn sub ab col dd k0 k1 k2 k3 k5 newId) ∧
    (∀ self : Value, refuseLoop self "__setattr__" bm = pure ()) ∧ (∀ Y : String, bm.contains (.type Y) = bmB.contains (.type Y)) ∧ bm.contains (.type "object") = true
  sa : PySem.W.findIn K (.ref C) "__setattr__" = some (some (.builtin "object.__setattr__"))
  exC : PySem.W.subIn K (.ref C) (.type "BaseException") = some true
  tyC : PySem.W.typeIn K (.ref C) = some (.type "type")
  kC : PySem.W.keepIn K (.ref C) = true
abbrev bmV : List Value := [.type "ValueError", .type "Exception", .type "BaseException", .type "object"]
abbrev bmO : List Value := [.type "OverflowError", .type "ArithmeticError", .type "Exception", .type "BaseException", .type "object"]
theorem oexG_V {K : PySem.W.Frag} {C : Addr} (T : OexC K C) : OexG K C "ValueError.__new__" bmV := by
  obtain ⟨nm, q, N, bs, bm, sn, sub, ab, col, dd, k0, k1, k2, k3, k5, h, hb⟩ := T.cls
  exact ⟨⟨nm, q, N, bs, bm, sn, sub, ab, col, dd, k0, k1, k2, k3, k5, h, fun self => PySem.HandSPX.refsVE_pass self bm hb, fun Y => PySem.HandSPX.refsVE_contains Y bm hb, (PySem.HandSPX.refsVE_contains "object" bm hb).trans (by decide +kernel)⟩, T.sa, T.exC, T.tyC, T.kC⟩
section
open Builtin Builtin.ObjectAttr PySem.W PySem.HandSPX
variable {prog : Program} {w : World} {A : Around} {R : Result → Shared → Prop} {hp : Heap} {g : Array GenState} {d : Drawn} {t : Nat} {os : OsState} {K : Frag} {name : Str} {tk : Tok} {v : Value} {x C : Addr} {fv : Array Value} {cd : ClassData}
theorem first_field (X : K.In hp) (hx : hp.get? x = some { cls := .ref C, data := .fields fv }) (hcd : clsIn K C = some cd) (hpass : ∀ self : Value, refuseLoop self "__setattr__" cd.mro = pure ()) (hne : cd.mro.isEmpty = false) (hob : cd.mro.contains (.type "object") = true)
    (hh : cd.hasDict = true) (ha : findIn K (.ref C) name = some none)
    (hq : ∀ h' tk' dx, (∀ b o, b ≠ x → hp.get? b = some o → h'.get? b = some o) → hp.objs.size ≤ dx → dx ≠ x → h'.get? x = some { cls := .ref C, dict := some dx, data := .fields fv } → h'.Ns1 dx (fun y => if y = name then some v else none) → R (.ok (.ret .none)) ⟨h', g, d, tk', os⟩) :
    codeAny (model prog w) A (.call (.builtin "object.__setattr__") ⟨[.ref x, .str name tk, v], []⟩) R ⟨hp, g, d, t, os⟩ := by
  have inst : InstAt hp x { cls := .ref C, data := .fields fv } C none := ⟨hx, rfl, rfl, trivial⟩
  have far : hp.objs.size ≠ x := Nat.ne_of_gt (Heap.lt_size hx)
  have mro1 : mroIn K C (.type "object") = some true := by
    unfold mroIn
    rw [hcd, Option.bind_some, hne, hob]
    rfl
  have mro2 : Looks (model prog w) hp (mroOf (.ref C)) cd.mro := (looks_clsIn X hcd).andThen .now
  have cls2 : Looks (model prog w) hp (classData C) cd := looks_clsIn X hcd
  have taker : Looks (model prog w) hp (storeTaker? none) none := .now
  have S := F.store_object
  refine codeAny_call_builtin S.slot.plain S.entry (@check_slot (model prog w) _ _ ⟨hp, g, d, t, os⟩ _ _ _ (.ref x) [.str name tk, v] [] _ S.kind S.split (inst.type.andThen (looks_mroIn X mro1)) (S.args (.ref x) (.str name tk) v) ?_)
  rw [osa_eq, refuse_eq]
  refine wpAny_bind (wpAny_bind (inst.type.at (wpAny_bind (mro2.at ?_))))
  rw [hpass]
  refine wpAny_pure (wpAny_bind (inst.type.at (wpAny_bind ((looks_findIn X ha).at (wpAny_bind (taker.at ?_))))))
  change wpAny _ _ (storeInOwnDict (.ref x) (.ref C) (.str name tk) name v false) _ _ _
  obtain ⟨_, _, _, _, _, hd, _, _, _, _, _⟩ := cd
  obtain rfl : hd = true := hh
  unfold storeInOwnDict ownDictForStores
  repeat (first | with_reducible refine store_in_new ?_ ?_ | with_reducible refine wpAny_loadPart_at hx ?_ | with_reducible refine cls2.at ?_ | wp_step)
  · exact ⟨_, #[], _, (Heap.get?_update_ne _ _ _ _ far).trans (Heap.get?_push_at rfl rfl), rfl, fun e he => absurd he (by simp), fun _ => rfl⟩
  · intro h' tk' ns sb
    have keep : ∀ {b o}, b ≠ hp.objs.size → (hp.push { cls := .type "dict", data := .dict #[] }).get? b = some o → b ≠ x → h'.get? b = some o := fun {b o} n e nx => (sb.2 b n).trans ((Heap.get?_update_ne _ _ _ _ nx).trans e)
    refine hq h' tk' hp.objs.size (fun b o nx e => keep (Nat.ne_of_lt (Heap.lt_size e)) (Heap.get?_push_of_some _ e) nx) (Nat.le_refl _) far ?_ ns
    exact (sb.2 x far.symm).trans (Heap.get?_update_self _ (Heap.get?_push_of_some _ hx) rfl)
end
section
variable {X : Cx} {pins : List (Addr × Obj)} {σ : L2.St} {H : Hp} {s : Shared} {a C : Addr} {f : Str} {y : V} {u : Value} {newId : String} {bmB : List Value}
theorem note_first {Q : Unit → Shared → Prop} {E : Value → Shared → Prop} {A : Around} (hex : X.ex = []) (T : OexG X.K C newId bmB) (I : Inv X pins σ H s) (e : H a = some (exo a C none)) (hno : PySem.W.findIn X.K (.ref C) f = some none) (ry : RelV y u)
    (h : ∀ dx s', H dx = none → dx ≠ a → Inv X pins σ (upd (upd H dx (exd dx [(f, y)])) a (exo a C (some dx))) s' → Q () s') : wpAny (model X.prog X.w) A (setAttr (.ref a) f u) Q E s := by
  obtain ⟨nm, q, N, bs, bm, sn, sub, ab, col, dd, k0, k1, k2, k3, k5, hC, hpass, hcon, hob⟩ := T.cls
  have hcl : PySem.W.clsIn X.K C = some { name := nm, bases := bs, mro := .ref C :: bm, ns := N, qualname := q, hasDict := true, slotNames := sn, subclasses := sub, abstract := ab, collection := col, hasDel := false } := by
    unfold PySem.W.clsIn
    rw [hC] <;> rfl
  obtain ⟨t1, ho⟩ := exo_at I.hok e
  obtain ⟨hp, g, d, t, os⟩ := s
  refine PySem.W.set_plain I.kIn (od := none) ⟨ho, rfl, rfl, trivial⟩ T.sa (first_field I.kIn ho hcl (fun self => by rw [refuseLoop_ref]; exact hpass self) rfl (by rw [List.contains_cons, hob, Bool.or_true]) rfl hno fun h' tk' dx k dn dne hx hn => ?_)
  have hnd : H dx = none := I.hok.fresh dn
  have I1 : Inv X pins σ (upd H a (exo a C (some dx))) ⟨h', g, d, tk', os⟩ := I.write (t' := tk') (x := a) (e := a) (by rw [e]; exact True.intro) (.inl rfl) k ⟨_, hx⟩ (exo_ok hx)
  have old : ∀ {b o}, hp.get? b = some o → b ≠ dx := fun {b o} q => Nat.ne_of_lt (Nat.lt_of_lt_of_le (Heap.lt_size q) dn)
  have I2 : Inv X pins σ (upd (upd H a (exo a C (some dx))) dx (exd dx [(f, y)])) ⟨h', g, d, tk', os⟩ := by
    refine inv_track I1 (exd_ok hn (relO_put (fs := []) ry fun _ => True.intro)) (by rw [upd_ne dne]; exact hnd) ?_ (fun x c q => ?_) ?_ fun p hp' => ?_
    · obtain ⟨m, ⟨o, _, _, z, _⟩, _⟩ := I.loc
      exact (old z).symm
    · obtain ⟨w, o, z, _⟩ := I.cell x c q
      exact old z
    · cases z : X.s_0.heap.get? dx with
      | none => rfl
      | some o =>
        obtain ⟨o', z'⟩ := I.base.there dx o z (by rw [hex]; simp)
        exact absurd rfl (old z')
    · exact old (I.pin p hp').1
  refine h dx _ hnd dne ?_
  have sw : upd (upd H a (exo a C (some dx))) dx (exd dx [(f, y)]) = upd (upd H dx (exd dx [(f, y)])) a (exo a C (some dx)) := by
    funext b
    by_cases h1 : b = a
    · rw [h1, upd_same, upd_ne dne.symm, upd_same]
    · by_cases h2 : b = dx
      · rw [h2, upd_same, upd_ne dne, upd_same]
      · rw [upd_ne h2, upd_ne h1, upd_ne h1, upd_ne h2]
  rw [sw] at I2
  exact I2
def tNote (K : PySem.W.Frag) (f : Str) (to te : TE) : TS := fun D σ H => te σ H fun y H1 => to σ H1 fun x H2 => ∃ (a C : Addr) (newId : String) (bmB : List Value), x = .ref a ∧ OexG K C newId bmB ∧ PySem.W.findIn K (.ref C) f = some none ∧ H2 a = some (exo a C none) ∧
  ∀ dx, H2 dx = none → dx ≠ a → D.nx σ (upd (upd H2 dx (exd dx [(f, y)])) a (exo a C (some dx)))
theorem ps_note {o e : Expr} {to te : TE} {p' pos : Pos} (hex : X.ex = []) (ho : PE X o to) (he : PE X e te) (hs : swapsWith e (some (.Attribute o f p')) pos.line X.env = pure false := by rfl) : PS X (.Assign [.Attribute o f p'] e pos) (tNote X.K f to te) := by
  constructor
  intro pins s σ H D I h
  refine plainObj_wpAny_Assign_Attribute (thn (he.run pins s σ H _ I h) fun v s1 ⟨y, H1, I1, r1, q1⟩ => thn (ho.run pins s1 σ H1 _ I1 q1) fun u s2 ⟨x, H2, I2, r2, a, C, newId, bmB, ex, T, hno, ea, q⟩ => ?_) hs
  subst ex
  obtain rfl : u = Value.ref a := r2
  exact note_first hex T I2 ea hno r1 fun dx s' n ne J => ⟨σ, _, J, q dx n ne⟩
theorem pmk_note {B initId : String} {CX : CXT} {x : Str} {fI : Addr} {k : Nat} {fd : FuncData} {ps : List Str} {sp : Sp} {e : Expr} {es : List Expr} {ta : TA} {p pos : Pos} (Fa : ExcBaseFacts B newId initId bmB) (T : OexG X.K C newId bmB)
    (iC : PySem.W.findIn X.K (.ref C) "__init__" = some (some (.ref fI))) (tI : PySem.W.typeIn X.K (.ref fI) = some (.type "function")) (F1 : FnOk X.prog X.w X.K X.mg X.base CX k fI fd ps sp) (hr : Room (k + 1) X.A) (hb : Binds X.K fd ps [])
    (hx : Passes CX X (fun _ _ _ => False)) (hg : Gl X x) (hm : X.mg x = some (.ref C)) (ha : PA X (e :: es) ta) (hdb : (x == ("__debug__" : Str)) = false := by decide)
    (he : starEach (e :: es) X.env = (false, eval e X.env) :: starEach es X.env := by rfl) (hpl : (backTo pos (starEach es X.env)).any (·.1) = false := by rfl) :
    PMk X (.Call (.Name x p) (e :: es) [] pos) (tMkO C sp [] ta) := by
  intro pins s σ H Q I h
  obtain ⟨nm, q, N, bs, bm, sn, sub, ab, col, dd, k0, k1, k2, k3, k5, hC, hpass, hcon, hob⟩ := T.cls
  refine wpAny_Call_Name_kw (ld_glob I hg hm (PySem.W.callWith_K (h₀ := X.base) I.ok.mod.kin T.kC (thn (ha.run pos pins s σ H _ I h) fun us s1 ⟨vs, H1, I1, r1, hz, q1⟩ => ⟨I1.kIn, ?_⟩) he hpl) hdb)
  obtain ⟨hp, g, dr, tk, os⟩ := s1
  have keep : ∀ b o, hp.get? b = some o → ((hp.push (PySem.W.kdv_tup us)).push (PySem.HandSPX.excO C hp.objs.size)).get? b = some o := fun b o e => Heap.get?_push_of_some _ (Heap.get?_push_of_some _ e)
  have here : ((hp.push (PySem.W.kdv_tup us)).push (PySem.HandSPX.excO C hp.objs.size)).get? (hp.objs.size + 1) = some (PySem.HandSPX.excO C hp.objs.size) := by heap_get
  have hn : H1 (hp.objs.size + 1) = none := I1.hok.fresh (Nat.le_succ _)
  have sp1 := q1 _ hn
  have I2 := I1.laid (t' := tk) (o := exo (hp.objs.size + 1) C none) keep (Nat.le_succ _) (exo_ok here)
  have len : us.length ≤ sizeLine := by
    rw [← Paired.length r1, sizeLine_eq]
    omega
  rw [List.append_nil] at sp1
  have r2 : Vals (V.ref (hp.objs.size + 1) :: vs) (Value.ref (hp.objs.size + 1) :: us) := .cons rfl r1
  have lp : ((Value.ref (hp.objs.size + 1) :: us) ++ ([] : List Value)).length = ps.length := by
    rw [List.append_nil, ← r2.length]
    exact F1.len _ _ _ _ sp1
  have bd := hb _ (Value.ref (hp.objs.size + 1) :: us) I2.kIn lp
  rw [List.append_nil] at bd
  show wpAny _ _ (call (.ref C) us) _ _ _
  refine wpAny_call (PySem.HandSPX.call_own Fa hcon (I1.kIn _ _ hC) (PySem.W.looks_findIn I1.kIn iC) (fun self => PySem.W.bind_fn I1.kIn self tI) len
    (codeAny_mono (F1.run _ X.stack _ _ ⟨Value.ref (hp.objs.size + 1) :: us, []⟩ _ _ _ (fun _ _ _ => False) (hr.make C us []) (I2.env0.make C us []) bd r2 sp1) fun r s' hq => ?_))
  cases r with
  | error er => exact hx pins σ _ _ er s' I2 hq
  | ok fl =>
    cases fl with
    | ret u =>
      obtain ⟨v, H2, os2, bare2, un2, hok2, rv, ev, d, fs, ea, ed, hd1, q2⟩ := hq
      subst ev
      obtain ⟨h2, g2, d2, t2, os'⟩ := s'
      exact ⟨rv, mk_end (raises_own T.exC T.tyC) I1 (Nat.le_succ _) keep un2 hok2 os2 bare2 ea ed hd1 q2⟩
    | next => exact hq.elim
    | brk => exact hq.elim
    | cont => exact hq.elim
end
end LwE
namespace DL
open PySem L2 LwE
section
variable {P : Program} {w : World} {K : PySem.W.Frag} {mg : Str → Option Value} {base : Heap}
def spENote (C : Addr) (f : Str) : Sp := fun vs H Q _ => ∃ (a : Addr) (x : V), vs = [.ref a, x] ∧ H a = some (exo a C none) ∧ ∀ dx, H dx = none → dx ≠ a → Q .non (upd (upd H dx (exd dx [(f, x)])) a (exo a C (some dx)))
theorem raise_read {C : Addr} {f : Str} {H : Hp} {x : V} {Q : XK} (h : ∀ d, H d = none → Q (.ref C) (some d) (upd H d (.xd [(f, x)]))) : [x].length ≤ 1000 ∧ ∀ a, H a = none → spENote C f (.ref a :: ([x] ++ [])) (upd H a (exo a C none))
    (fun v H2 => v = .non ∧ ∃ (d : Addr) (fs : List (Str × V)), H2 a = some (exo a C (some d)) ∧ H2 d = some (exd d fs) ∧ H d = none ∧ Q (.ref C) (some d) (upd (del H2 a) d (.xd fs))) (fun _ _ _ => False) := by
  refine ⟨by show 1 ≤ 1000; decide, fun a ha => ⟨a, x, rfl, upd_same, fun dx hdx ne => ⟨rfl, dx, [(f, x)], upd_same, ?_, ?_, ?_⟩⟩⟩
  · rw [upd_ne ne, upd_same]
  · rw [upd_ne ne] at hdx
    exact hdx
  · have hd : H dx = none := by
      rw [upd_ne ne] at hdx
      exact hdx
    have e : upd (del (upd (upd (upd H a (exo a C none)) dx (exd dx [(f, x)])) a (exo a C (some dx))) a) dx (.xd [(f, x)]) = upd H dx (.xd [(f, x)]) := by
      funext b
      by_cases h1 : b = dx
      · rw [h1, upd_same, upd_same]
      · rw [upd_ne h1, upd_ne h1]
        by_cases h2 : b = a
        · rw [h2, del_same, ha]
        · rw [del_ne h2, upd_ne h2, upd_ne h1, upd_ne h2]
    rw [e]
    exact h dx hd
structure Er (P : Program) (w : World) (K : PySem.W.Frag) (mg : Str → Option Value) (base : Heap) (x : Str) (C : Addr) (B newId initId : String) (bmB : List Value) (f : Str) (fI : Addr) (dI : FuncData) : Prop where
  Fa : ExcBaseFacts B newId initId bmB
  T : OexG K C newId bmB
  g : mg x = some (.ref C)
  iC : PySem.W.findIn K (.ref C) "__init__" = some (some (.ref fI))
  tI : PySem.W.typeIn K (.ref fI) = some (.type "function")
  ok : FnOk P w K mg base CX0 1 fI dI ["self", f] (spENote C f)
  b : Binds K dI ["self", f] []
theorem pass00 {X : Cx} : Passes CX0 X (fun _ _ _ => False) := fun _ _ _ _ _ _ _ h => h.elim
theorem ok_note {fI C : Addr} {dI : FuncData} {st : Stmt} {q x newId : String} {qual fld : Str} {bm : List Value} (F : Fun K "__init__" qual st fI dI) (T : OexG K C newId bm) (no : PySem.W.findIn K (.ref C) fld = some none) (sc : FnScope ["self", fld] ["self", fld] (defScope st))
    (hb : ∀ (cdv : Value) (A : Around) (outer : List Env) (s : Shared) (H : Hp) (E : XK), ∃ t, PSs (cxOf CX0 P w K mg base ["self", fld] qual (defScope st) fI cdv A outer s H E).nox (defBody st) t ∧ ∀ D σ H1, tNote K fld (tVar 0) (tVar 1) D σ H1 → t D σ H1) :
    FnOk P w K mg base CX0 1 fI dI ["self", fld] (spENote C fld) := by
  refine F.ok sc (fun vs H Q E h => ?_) (fun cdv A outer s H vs Q E hr h => ?_)
  · obtain ⟨a, x, rfl, _⟩ := h
    rfl
  · obtain ⟨a, x, rfl, ha, k⟩ := h
    obtain ⟨t, pt, jt⟩ := hb cdv A outer s H E
    exact ⟨t, pt, jt _ _ _ ⟨_, rfl, _, rfl, a, C, _, _, rfl, T, no, ha, fun dx h1 h2 => k dx h1 h2⟩⟩
end
end DL
namespace DL
open PySem PySem.Spec PyProof.Rows L2 LwE
structure RsD (P : Program) (w : World) (K : PySem.W.Frag) (mg : Str → Option Value) (base : Heap) (x : Str) (C : Addr) (fld : Str) : Prop where
  ex : ∃ B newId initId bm fI dI, Er P w K mg base x C B newId initId bm fld fI dI
def gRaise (tag : Nat) (C : Addr) (fld : Str) (f : List Sl → M R) : List Sl → M Fl := fun δ => M.bnd (f δ) fun r => M.rse ⟨tag, C, some (fld, r.d)⟩
section
variable {X : Cx} {E : XK} {a b c e : Expr} {es : List Expr} {pos : Pos}
theorem ds_raise (tag : Nat) {x : Str} {C : Addr} {fld : Str} {f : List Sl → M R} {p p2 : Pos} (hc : X.calm = true) (T : RsD X.prog X.w X.K X.mg X.base x C fld) (tk : Takes X fun cls d _ H => E cls d H) (hr : Room 2 X.A) (he : DE X E e f) (hg : Gl X x := by rfl) (hdb : (x == ("__debug__" : Str)) = false := by decide)
    (hst : starEach [e] X.env = (false, eval e X.env) :: starEach [] X.env := by rfl) (hpl : (backTo p2 (starEach [] X.env)).any (·.1) = false := by rfl) : DS X E (.Raise (some (.Call (.Name x p) [e] [] p2)) none pos) (gRaise tag C fld f) := by
  obtain ⟨B, newId, initId, bm, fI, dI, R⟩ := T.ex
  obtain ⟨t, pt, jt⟩ := he
  refine ⟨_, ps_raise hc tk (pmk_note R.Fa R.T R.iC R.tI R.ok hr R.b pass00 hg R.g (pa_cons pt pa_nil hst) hdb hst hpl), fun i F0 H0 F H σ δ s D S q => jt.useSR S q fun r s1 v F1 H1 x1 S1 r1 q1 => ?_⟩
  exact raise_read fun d hd => q1 F1 H1 S1.base S1.wf.mr v d r1 hd
def fldAt (ns : List Str) (l : List Dt) (f : Str) : Option Dt := (ns.zip l).lookup f
def Sl.isIns : Sl → Bool
  | .ins _ _ _ => true
  | _ => false
def oneIns (k : Nat) (δ : List Sl) : Bool := (δ.set k .non).all fun x => !x.isIns
theorem oneIns_of {k j : Nat} {δ : List Sl} {C : Addr} {ns : List Str} {l : List Dt} (h : oneIns k δ = true) (hj : j ≠ k) (e : δ[j]? = some (.ins C ns l)) : False := by
  unfold oneIns at h
  rw [List.all_eq_true] at h
  have : Sl.ins C ns l ∈ δ.set k .non := List.mem_of_getElem? (i := j) (by rw [List.getElem?_set_ne (fun z => hj z.symm)]; exact e)
  have := h _ this
  cases this
def gFld (k : Nat) (C : Addr) (f : Str) (fe : List Sl → M R) : List Sl → M Fl := fun δ => match δ[k]? with
  | some (.ins C' ns l) => if C' = C ∧ ns.contains f = false ∧ ns.length < 100 ∧ oneIns k δ = true then M.bnd (fe δ) fun r => M.ret (.nx (δ.set k (.ins C' (ns ++ [f]) (l ++ [r.d])))) else M.no
  | _ => M.no
def cFldI (k : Nat) (C : Addr) (f : Str) : List Sl → M R := fun δ => match δ[k]? with
  | some (.ins C' ns l) => if C' = C then (match fldAt ns l f with
    | some d => M.ret (.val d)
    | none => M.no) else M.no
  | some (.val d) => fldD C f d
  | _ => M.no
theorem putF_new {f : Str} {v : V} : ∀ {gs : List (Str × V)}, f ∉ gs.map Prod.fst → putF f v gs = gs ++ [(f, v)]
  | [], _ => rfl
  | (g, x) :: r, h => by
    have h1 : g ≠ f := fun e => h (by rw [e]; exact List.mem_cons_self ..)
    unfold putF
    rw [if_neg h1, putF_new fun m => h (List.mem_cons_of_mem _ m)]
    rfl
theorem Sinv.fld {K : PySem.W.Frag} {i : Ix} {F0 H0 F H : Hp} {σ : L2.St} {δ : List Sl} {s : MS} (S : Sinv K i F0 H0 F H σ δ s) {k : Nat} {C : Addr} {ns : List Str} {l : List Dt} {p dx : Addr} {gs : List (Str × V)} {f : Str} {d : Dt} {v : V} (hk : δ[k]? = some (.ins C ns l)) (hσ : σ[k]? = some (some (.ref p)))
    (hp : H p = some (.ins C dx gs)) (hd : Rep K i F d v) (hn : ns.contains f = false) (hl : ns.length < 100) (h1i : oneIns k δ = true) : Sinv K i F0 H0 F (upd H p (.ins C dx (putF f v gs))) σ (δ.set k (.ins C (ns ++ [f]) (l ++ [d]))) s := by
  obtain ⟨p', dx', gs', e1, h1, h2, h3, h4, h5, h6, h7⟩ := S.ins k C ns l hk
  rw [hσ] at e1
  cases e1
  rw [hp] at h1
  cases h1
  have hkl : k < δ.length := (List.getElem?_eq_some_iff.mp hk).1
  have ne : ∀ {b o}, F b = some o → b ≠ p := fun e => ne_of_none e h2
  have nf : f ∉ gs.map Prod.fst := fun m => by
    rw [h5] at m
    rw [List.contains_iff_mem.mpr m] at hn
    cases hn
  have mr : MR i s (upd H p (.ins C dx (putF f v gs))) := by
    have m := S.wf.mr
    have n1 : ∀ {b}, G i b → b ≠ p := fun gb (z : _ = p) => h4 (z ▸ gb)
    refine ⟨by rw [upd_ne (n1 (.inl rfl))]; exact m.hm, by rw [upd_ne (n1 (.inr (.inr (.inl rfl))))]; exact m.hc, by rw [upd_ne (n1 (.inr (.inl rfl)))]; exact m.hg, m.cc, m.gl, m.ne, m.n0, fun q hq => ?_, m.tq⟩
    obtain ⟨ps, z1, z2, z3⟩ := m.tb q hq
    refine ⟨ps, by rw [upd_ne (n1 (.inr (.inr (.inr ⟨q, hq, rfl⟩))))]; exact z1, z2, fun pos cv hc => ?_⟩
    obtain ⟨c, y1, y2⟩ := z3 pos cv hc
    refine ⟨c, y1, ?_⟩
    have : c ≠ p := fun z => by
      subst z
      rw [hp] at y2
      cases y2
    rw [upd_ne this]
    exact y2
  refine ⟨⟨S.base.ff, fun b o e => by rw [upd_ne (ne e)]; exact S.base.fh _ _ e, fun b o e g => by rw [upd_ne (ne_of_none e h3)]; exact S.base.sb _ _ e g, S.base.nw, fun b e => ?_⟩,
    ⟨fun b o e => by rw [upd_ne (ne e)]; exact S.wf.fh _ _ e, S.wf.gf, mr⟩, by rw [List.length_set]; exact S.len, fun j d e => ?_, fun j m e => ?_, fun j C' ns' m e => ?_, fun j j' m m' q hne e e' hq => ?_, S.nst.to (Same.refl _) (fun j ls e => by
      have := nst_set (σ := σ) (v := none) (by intro ls z; cases z) j ls e
      exact ⟨this.1, rfl⟩) fun j ls p2 as e1' e2' A O => ⟨fun b hb => ⟨upd_ne (fun (z : b = p) => by
        obtain ⟨vs, h⟩ := A.lst b hb
        rw [z, hp] at h
        cases h), (A.fr b hb).1, (A.fr b hb).2.1⟩, fun j' m q ej eq hq => by
      by_cases hj : j' = k
      · subst hj
        rw [List.getElem?_set_self hkl] at ej
        cases ej
      · rw [List.getElem?_set_ne (fun z => hj z.symm)] at ej
        exact O j' m q ej eq hq⟩⟩
  · by_cases hb : b = p
    · rw [hb, upd_same]; exact fun z => nomatch z
    · rw [upd_ne hb]; exact S.base.al b e
  · by_cases hj : j = k
    · subst hj
      rw [List.getElem?_set_self hkl] at e
      cases e
    · rw [List.getElem?_set_ne (fun z => hj z.symm)] at e
      exact S.slot j d e
  · by_cases hj : j = k
    · subst hj
      rw [List.getElem?_set_self hkl] at e
      cases e
    · rw [List.getElem?_set_ne (fun z => hj z.symm)] at e
      obtain ⟨q, us, g1, g2, g3⟩ := S.own j m e
      have : q ≠ p := fun z => by
        subst z
        rw [hp] at g2
        cases g2
      exact ⟨q, us, g1, by rw [upd_ne this]; exact g2, g3⟩
  · by_cases hj : j = k
    · subst hj
      rw [List.getElem?_set_self hkl] at e
      cases e
      refine ⟨p, dx, _, hσ, upd_same, h2, h3, h4, ?_, ?_, ?_⟩
      · rw [putF_new nf, List.map_append, h5]
        rfl
      · rw [putF_new nf, List.length_append, List.length_singleton]
        have : gs.length = ns.length := by rw [← h5, List.length_map]
        omega
      · rw [putF_new nf, List.map_append]
        exact ⟨h7.1.append (.cons hd .nil), h7.2⟩
    · rw [List.getElem?_set_ne (fun z => hj z.symm)] at e
      exact (oneIns_of h1i hj e).elim
  · have look : ∀ {j : Nat} {m : List Dt}, (δ.set k (.ins C (ns ++ [f]) (l ++ [d])))[j]? = some (.own m) → δ[j]? = some (.own m) := by
      intro j m e
      by_cases hj : j = k
      · subst hj
        rw [List.getElem?_set_self hkl] at e
        cases e
      · rw [List.getElem?_set_ne (fun z => hj z.symm)] at e
        exact e
    exact S.sep j j' m m' q hne (look e) (look e') hq
theorem ds_fld (k : Nat) {C : Addr} {f : Str} {fe : List Sl → M R} {o : Expr} {pos' : Pos} (h : ∀ t, PE X e t → PS X (.Assign [.Attribute o f pos'] e pos) (sFld X.K (tVar k) t f)) (cl : Cls X.K C) (na : NoAttr X.K C f) (he : DE X E e fe) : DS X E (.Assign [.Attribute o f pos'] e pos) (gFld k C f fe) := by
  obtain ⟨t, pt, jt⟩ := he
  refine ⟨_, h t pt, fun i F0 H0 F H σ δ s D S q => ?_⟩
  unfold gFld at q
  cases hk : δ[k]? with
  | none => rw [hk] at q; exact q.elim
  | some z =>
    rw [hk] at q
    cases z with
    | val d => exact q.elim
    | non => exact q.elim
    | own l => exact q.elim
    | nst ls => exact q.elim
    | ins C' ns l =>
      replace q : OkS X.K i E F0 H0 D ((if C' = C ∧ ns.contains f = false ∧ ns.length < 100 ∧ oneIns k δ = true then M.bnd (fe δ) fun r => M.ret (.nx (δ.set k (.ins C' (ns ++ [f]) (l ++ [r.d])))) else M.no) s) := q
      obtain ⟨⟨h1, h2, h3, h4⟩, q2⟩ := oks_if q
      clear q
      subst h1
      refine jt.useSR S q2 fun r s1 v F1 H1 x1 S1 r1 q1 => ?_
      obtain ⟨p, dx, gs, e1, g1, g2, g3, g4, g5, g6, g7⟩ := S1.ins k C' ns l hk
      exact ⟨_, e1, p, C', dx, gs, rfl, g1, cl, na, by omega, q1 _ F1 _ (S1.fld hk e1 g1 r1 h2 h3 h4)⟩
theorem de_fldI (k : Nat) {C : Addr} {f : Str} {o : Expr} (cl : Cls X.K C) (n : NoAttr X.K C f) (h : PE X (.Attribute o f pos) (tFld X.K (tVar k) f)) : DE X E (.Attribute o f pos) (cFldI k C f) := by
  refine ⟨_, h, fun i F0 H0 F H σ δ s Q S q => ?_⟩
  unfold cFldI at q
  cases hk : δ[k]? with
  | none => rw [hk] at q; exact q.elim
  | some z =>
    rw [hk] at q
    cases z with
    | non => exact q.elim
    | own l => exact q.elim
    | nst ls => exact q.elim
    | ins C' ns l =>
      by_cases hC : C' = C
      rotate_left
      · simp only [if_neg hC] at q
        exact q.elim
      subst hC
      simp only [if_pos] at q
      obtain ⟨p, dx, gs, e1, g1, g2, g3, g4, g5, g6, g7⟩ := S.ins k C' ns l hk
      cases e : fldAt ns l f with
      | none => rw [e] at q; exact q.elim
      | some d =>
        rw [e] at q
        obtain ⟨w, y1, y2⟩ := lookup_rep g5 g7.1 e
        exact ⟨_, e1, p, C', dx, gs, w, rfl, g1, cl, n, y1, q _ F H (.refl S.wf.fh) S.wf.mr y2⟩
    | val d =>
      obtain ⟨v, e1, r1⟩ := S.slot k d hk
      refine ⟨v, e1, ?_⟩
      cases d <;> first | exact q.elim | skip
      rename_i C' ns l
      simp only [fldD] at q
      by_cases hC : C' = C
      rotate_left
      · rw [if_neg hC] at q
        exact q.elim
      subst hC
      rw [if_pos rfl] at q
      obtain ⟨p, dx, gs, h0, h1, h2, h3⟩ := r1
      cases e : (ns.zip l).lookup f with
      | none => rw [e] at q; exact q.elim
      | some d =>
        rw [e] at q
        obtain ⟨w, y1, y2⟩ := lookup_rep h2 h3 e
        exact ⟨p, C', dx, gs, w, h0, S.wf.fh _ _ h1, cl, n, y1, q _ F H (.refl S.wf.fh) S.wf.mr y2⟩
end
def OkI (K : PySem.W.Frag) (i : Ix) (E : XK) (F Hp : L2.Hp) (x : Addr) (Q : VK) : Rs R → Prop
  | .ok r s' => ∃ C ns l, r = .val (.obj C ns l) ∧ ∀ F' H' dx gs, Ext i F Hp F' H' → MR i s' H' → H' x = some (.ins C dx gs) → F' x = none → gs.map Prod.fst = ns → Reps K i F' l (gs.map Prod.snd) → Q .non H'
  | .ex e s' => ∀ F' H', Ext i F Hp F' H' → MR i s' H' → ExOk K i E F' H' e
  | .no => False
def spI (K : PySem.W.Frag) (C : Addr) (n : Nat) (sem : List Dt → M R) : Sp := fun vs H Q E => ∃ i F s ds x dx us Hp, vs = .ref x :: us ∧ H = upd (upd Hp dx (.own x)) x (.ins C dx []) ∧ Hp x = none ∧ Hp dx = none ∧ dx ≠ x ∧ i.o = x ∧ Wf i s F Hp ∧ Reps K i F ds us ∧ ds.length + 1 = n ∧ OkI K i E F Hp x Q (sem ds s)
structure MkD (P : Program) (w : World) (K : PySem.W.Frag) (mg : Str → Option Value) (base : Heap) (x : Str) (C : Addr) (ps : List Str) (k : Nat) (sem : List Dt → M R) : Prop where
  g : mg x = some (.ref C)
  ex : ∃ f fd, Mk K C f ∧ Binds K fd ps [] ∧ FnX P w K mg base (L2.CX P w) k f fd ps (spI K C ps.length sem)
theorem sinv_init {K : PySem.W.Frag} {i : Ix} {F Hp : L2.Hp} {s : MS} {C : Addr} {ds : List Dt} {us : List V} {x dx : Addr} (W : Wf i s F Hp) (r : Reps K i F ds us) (hx : Hp x = none) (hdx : Hp dx = none) (ne : dx ≠ x) (ho : i.o = x) (N : List Str) :
    Sinv K i F Hp F (upd (upd Hp dx (.own x)) x (.ins C dx [])) (L2.start N (.ref x :: us)) (.ins C [] [] :: (ds.map Sl.val ++ List.replicate (N.length - (ds.length + 1)) .non)) s := by
  have s1 : Same Hp (upd (upd Hp dx (.own x)) x (.ins C dx [])) := (same_know hdx).trans (same_know (by rw [upd_ne ne.symm]; exact hx))
  have look : ∀ {j : Nat} {y : Sl}, (Sl.ins C [] [] :: (ds.map Sl.val ++ List.replicate (N.length - (ds.length + 1)) Sl.non))[j]? = some y → (j = 0 ∧ y = .ins C [] []) ∨ (∃ m d, j = m + 1 ∧ y = .val d ∧ ds[m]? = some d) ∨ y = .non := by
    intro j y e
    cases j with
    | zero => cases e; exact .inl ⟨rfl, rfl⟩
    | succ m =>
      rw [List.getElem?_cons_succ, List.getElem?_append] at e
      split at e
      · rw [List.getElem?_map] at e
        obtain ⟨d, e1, e2⟩ := Option.map_eq_some_iff.mp e
        exact .inr (.inl ⟨m, d, rfl, e2.symm, e1⟩)
      · rw [List.getElem?_replicate] at e
        split at e
        · exact .inr (.inr (Option.some.inj e).symm)
        · cases e
  refine ⟨.same W.fh s1, ⟨W.fh.trans s1, W.gf, W.mr.sm s1⟩, ?_, fun j d e => ?_, fun j l e => ?_, fun j C' ns l e => ?_, fun j j' l m p hne e => ?_, .none fun j ls e => by rcases look e with ⟨_, e1⟩ | ⟨m, d', _, e1, e2⟩ | e1 <;> cases e1⟩
  · unfold L2.start
    simp only [List.length_append, List.length_map, List.length_replicate, List.length_cons, r.len]
    omega
  · rcases look e with ⟨_, e1⟩ | ⟨m, d', rfl, e1, e2⟩ | e1
    · cases e1
    · cases e1
      obtain ⟨v, g1, g2⟩ := r.get e2
      refine ⟨v, ?_, g2⟩
      unfold L2.start
      rw [List.map_cons, List.cons_append, List.getElem?_cons_succ, List.getElem?_append_left (by rw [List.length_map]; exact (List.getElem?_eq_some_iff.mp g1).1), List.getElem?_map, g1]
      rfl
    · cases e1
  · rcases look e with ⟨_, e1⟩ | ⟨m, d', rfl, e1, e2⟩ | e1 <;> cases e1
  · rcases look e with ⟨rfl, e1⟩ | ⟨m, d', rfl, e1, e2⟩ | e1
    · cases e1
      exact ⟨x, dx, [], rfl, upd_same, W.fh.free hx, hx, W.off hx, rfl, by decide, rfl, ho.symm⟩
    · cases e1
    · cases e1
  · rcases look e with ⟨_, e1⟩ | ⟨m, d', rfl, e1, e2⟩ | e1 <;> cases e1
def selfD : Option Sl → M R
  | some (.ins C ns l) => M.ret (.val (.obj C ns l))
  | _ => M.no
def semI (C : Addr) (n : Nat) (g : List Sl → M Fl) (ds : List Dt) : M R := M.bnd (g (.ins C [] [] :: (ds.map Sl.val ++ List.replicate (n - (ds.length + 1)) .non))) fun
  | .nx δ => selfD δ[0]?
  | _ => M.no
section
variable {P : Program} {w : World} {K : PySem.W.Frag} {mg : Str → Option Value} {base : Heap}
theorem fnI_of {C : Addr} {x qual : Str} {st : Stmt} {f : Addr} {fd : FuncData} {N ps : List Str} {k : Nat} {g : List Sl → M Fl} (F : Fun K x qual st f fd) (S : FnScope N ps (defScope st))
    (hbody : ∀ (cdv : Value) (A : Around) (outer : List Env) (s : Shared) (H : Hp) (E : XK), PySem.W.codeIn K cdv qual = true → A.guards = some [] → Room k (A.deeper (PyProof.Rows.envOfC qual (defScope st) s.heap.objs.size f cdv)) → DSs (cxOf (L2.CX P w) P w K mg base N qual (defScope st) f cdv A outer s H E) E (defBody st) g) :
    FnX P w K mg base (L2.CX P w) (k + 1) f fd ps (spI K C ps.length (semI C N.length g)) := by
  refine okX F S (fun vs H Q E ⟨i, F, s, ds, x, dx, us, Hp, e1, e2, e3, e4, e5, e6, W, r, hl, q⟩ => by rw [e1, List.length_cons, r.len]; exact hl) (fun cdv A outer s H vs Q E hcd hg hr ⟨i, F, s', ds, x, dx, us, Hp, e1, e2, e3, e4, e5, e6, W, r, hl, q⟩ => ?_)
  obtain ⟨t, pt, jt⟩ := hbody cdv A outer s H E hcd hg hr
  subst e1 e2
  refine ⟨t, pt, jt i F Hp F _ _ _ s' _ (sinv_init W r e3 e4 e5 e6 N) ?_⟩
  unfold semI M.bnd at q
  cases e : g (.ins C [] [] :: (ds.map Sl.val ++ List.replicate (N.length - (ds.length + 1)) .non)) s' with
  | no => rw [e] at q; exact q.elim
  | ex a b => rw [e] at q; exact q
  | ok fl s2 =>
    rw [e] at q
    cases fl with
    | nx δ =>
      intro σ' F' H' S'
      cases e0 : δ[0]? with
      | none => simp only [e0] at q; exact q.elim
      | some z =>
        simp only [e0] at q
        cases z with
        | val d => exact q.elim
        | non => exact q.elim
        | own l => exact q.elim
        | nst ls => exact q.elim
        | ins C' ns l =>
          obtain ⟨C2, ns2, l2, y1, y2⟩ := q
          cases y1
          obtain ⟨p, dx', gs, g1, g2, g3, g4, g5, g6, g7, g8, g9⟩ := S'.ins 0 _ _ _ e0
          rw [e6] at g9
          subst g9
          exact y2 F' H' dx' gs S'.base S'.wf.mr g2 g3 g6 g8
    | ret r => exact q.elim
    | bk δ => exact q.elim
    | ct δ => exact q.elim
end
end DL
namespace Lw
open PySem L2
def top (i : Nat) : Stmt := PySem.Challenge.pw_liftwords_k12_letters_inserted.main.body.getD i (.Pass ⟨0, 0, 0, 0⟩)
abbrev sMixed : Stmt := top 40
abbrev sFolded : Stmt := top 41
abbrev sDraw : Stmt := top 42
abbrev sBegun : Stmt := top 43
abbrev sHeard : Stmt := top 49
abbrev sRows : Stmt := top 44
structure Bare (mg : Str → Option Value) : Prop where
  isinstance : mg "isinstance" = none
  int : mg "int" = none
  bool : mg "bool" = none
  list : mg "list" = none
  tuple : mg "tuple" = none
  len : mg "len" = none
  range : mg "range" = none
  enumerate : mg "enumerate" = none
  sorted : mg "sorted" = none
  min : mg "min" = none
  repr : mg "repr" = none
  any : mg "any" = none
  max : mg "max" = none
  abs : mg "abs" = none
  zip : mg "zip" = none
  ve : mg "ValueError" = none
  str : mg "str" = none
  sum : mg "sum" = none
  all : mg "all" = none
  dict : mg "dict" = none
structure Df (K : PySem.W.Frag) (mg : Str → Option Value) (x : Str) (st : Stmt) (f : Addr) (fd : FuncData) : Prop where
  fn : Fun K x x st f fd
  g : mg x = some (.ref f)
end Lw
namespace LwE
open PySem PySem.Spec PyProof.Rows L2
theorem lc_zipL {K : PySem.W.Frag} {a b : Addr} {xs ys : List V} {g : TG} {tt : TT} {te : TE} {vs : List Nat} {σ : L2.St} {H1 : Hp} {D : Addr} {Qd : Hp → Prop} (hlen : xs.length = ys.length) (Pv : Nat → Hp → Prop) (h0 : Pv 0 (upd H1 D (.lst [])))
    (hl : ∀ i H, i ≤ xs.length → Pv i H → SqL K H a xs ∧ SqL K H b ys)
    (hs : ∀ i x y T H, xs[i]? = some x → ys[i]? = some y → Pv i H → H T = none → g (.ref T) (wipe σ vs) (upd H T (.tup [x, y])) fun σ2 H2 => wipe σ2 vs = wipe σ vs ∧ tt σ2 H2 fun b H3 =>
      if b = true then te σ2 H3 fun y H4 => ∃ acc, H4 D = some (.lst acc) ∧ acc.length < sizeLine ∧ Pv (i + 1) (upd H4 D (.lst (acc ++ [y]))) else Pv (i + 1) H3) (hd : ∀ H, Pv xs.length H → Qd H) :
    ∃ W : Nat → Nat → Hp → Prop, (∃ m, W 0 m (upd H1 D (.lst []))) ∧ ∀ i m H, W i m H →
      ((Itz K a b).stop i H ∧ Qd H) ∨ ((Itz K a b).go i H ∧ ∃ Nx : Hp → Prop, (∀ H', Nx H' → ∃ m', m' < m ∧ W (i + 1) m' H') ∧ ∀ x H', (Itz K a b).yld i H x H' → g x (wipe σ vs) H' fun σ2 H2 => wipe σ2 vs = wipe σ vs ∧ tt σ2 H2 fun b H3 =>
        if b = true then te σ2 H3 fun y H4 => ∃ acc, H4 D = some (.lst acc) ∧ acc.length < sizeLine ∧ Nx (upd H4 D (.lst (acc ++ [y]))) else Nx H3) := by
  refine ⟨fun i m H => m + i = xs.length ∧ Pv i H, ⟨xs.length, Nat.add_zero _, h0⟩, fun i m H ⟨hm, p⟩ => ?_⟩
  obtain ⟨q1, q2⟩ := hl i H (by omega) p
  cases m with
  | zero =>
    have e : i = xs.length := by omega
    rw [e] at p
    exact .inl ⟨⟨xs, ys, q1, q2, .inl (by omega)⟩, hd H p⟩
  | succ m =>
    have h1 : i < xs.length := by omega
    refine .inr ⟨⟨xs, ys, xs[i], ys[i]'(by omega), q1, q2, List.getElem?_eq_getElem h1, List.getElem?_eq_getElem (by omega)⟩, Pv (i + 1), fun H' p' => ⟨m, Nat.lt_succ_self m, by omega, p'⟩, fun v H' y => ?_⟩
    obtain ⟨T, x, z, rfl, hT, rfl, y1, y2⟩ := y
    exact hs i x z T H (y1 xs q1) (y2 ys q2) p hT
theorem takes_len {X : Cx} {W : WX} (t : Takes X W) : Takes X fun c d σ H => σ.length = X.N.length → W c d σ H := fun u s' ⟨a, B, sI, pins, σ, H, cls, d, e, I, nb, up, sky, na, os, ag, w⟩ =>
  t u s' ⟨a, B, sI, pins, σ, H, cls, d, e, I, nb, up, sky, na, os, ag, w I.len⟩
theorem pe_weak {X : Cx} {e : Expr} {te : TE} (he : PE X e te) : PE X e fun σ H Q => ∃ Qm : VK, te σ H Qm ∧ ∀ v H', Qm v H' → Q v H' :=
  ⟨fun pins s σ H Q I ⟨Qm, h, i⟩ => wpAny_mono (he.run pins s σ H Qm I h) (fun u s1 ⟨v, H1, I1, r, q⟩ => ⟨v, H1, I1, r, i _ _ q⟩) fun _ _ z => z⟩
theorem sameN {H : Hp} {p : Addr} {o : HO} (h : H p = none) : Same H (upd H p o) := fun b u e => by
  rw [upd_ne (ne_of_none e h)]
  exact e
theorem look_one (f : Str) (v : V) : List.lookup f [(f, v)] = some v := by simp [List.lookup]
end LwE
namespace Lw
open PySem L2 LwE LamX
inductive Kd
  | size | letters | index | number | deed | table | move | shape | stuck | great
  deriving DecidableEq
def Kd.word : Kd → Str
  | .size => "size" | .letters => "letters" | .index => "index" | .number => "number" | .deed => "deed" | .table => "table" | .move => "move" | .shape => "shape" | .stuck => "stuck" | .great => "great"
def Kd.field : Kd → Str
  | .size => "value" | .letters => "place" | .index => "value" | .number => "value" | .deed => "place" | .table => "row" | .move => "place" | .shape => "value" | .stuck => "place" | .great => "most"
def Kd.ve : Kd → Bool
  | .stuck => false | .great => false | _ => true
structure Eca where
  lift : Addr
  of : Kd → Addr
  recd : Addr
  osize : Addr
  ohouse : Addr
structure Ec (K : PySem.W.Frag) (mg : Str → Option Value) (e : Eca) : Prop where
  isinstance : mg "isinstance" = none
  zip : mg "zip" = none
  len : mg "len" = none
  ve : mg "ValueError" = none
  lift : mg "LiftError" = some (.ref e.lift)
  size : mg "BadSize" = some (.ref (e.of .size))
  letters : mg "BadLetters" = some (.ref (e.of .letters))
  index : mg "BadIndex" = some (.ref (e.of .index))
  number : mg "BadNumber" = some (.ref (e.of .number))
  deed : mg "BadDeed" = some (.ref (e.of .deed))
  table : mg "BadTable" = some (.ref (e.of .table))
  move : mg "BadMove" = some (.ref (e.of .move))
  shape : mg "BadShape" = some (.ref (e.of .shape))
  recd : mg "BadRecording" = some (.ref e.recd)
  osize : mg "OtherSize" = some (.ref e.osize)
  ohouse : mg "OtherHouse" = some (.ref e.ohouse)
  stuck : mg "Stuck" = some (.ref (e.of .stuck))
  great : mg "TooGreat" = some (.ref (e.of .great))
  K_ : HeldK K
structure Ek (K : PySem.W.Frag) (e : Eca) (k : Kd) : Prop where
  held : HeldC K (e.of k)
  no : PySem.W.findIn K (.ref (e.of k)) k.field = some none
  exm : PySem.W.exmAny K (.ref (e.of k)) [.ref e.lift, .ref (e.of .stuck), .ref (e.of .great)] = some true
  is_ : ∀ k', PySem.W.kitOne K (.ref (e.of k)) (.ref (e.of k')) = some (decide (k = k'))
  recd : PySem.W.kitOne K (.ref (e.of k)) (.ref e.recd) = some false
  osize : PySem.W.kitOne K (.ref (e.of k)) (.ref e.osize) = some false
  ohouse : PySem.W.kitOne K (.ref (e.of k)) (.ref e.ohouse) = some false
  ve : PySem.W.kitOne K (.ref (e.of k)) (.type "ValueError") = some k.ve
def Rf (K : PySem.W.Frag) (e : Eca) (Q : VK) : XK := fun cls d H => ∃ (k : Kd) (dd : Addr) (v : V), Ek K e k ∧ cls = .ref (e.of k) ∧ d = some dd ∧ H dd = some (.xd [(k.field, v)]) ∧ ∀ p H', Same H H' → H p = none → H' p = some (.tup [.str k.word, v]) → Q (.ref p) H'
def TTheard (K : PySem.W.Frag) (e : Eca) : (XK → Hp → VK → Prop) → Hp → VK → Prop := fun tl H Q =>
  ∀ l, H l = none → tl (Rf K e Q) (upd H l (.lst [])) fun v H1 => ∀ p, H1 p = none → Q (.ref p) (upd H1 p (.lst [v]))
abbrev Nhd : List Str := ["call", "told", "error", "e", "valued", "kinds", "words", "found", "word", "is_so"]
theorem scHeard : FnScope Nhd ["call"] (defScope sHeard) := ⟨rfl, rfl, rfl, by decide +kernel, rfl, by decide +kernel, by decide +kernel⟩
def wds : List Str := ["size", "letters", "index", "number", "deed", "table", "move", "shape", "recording", "othersize", "otherhouse"]
def kbs (k : Kd) : List Bool := [decide (k = .size), decide (k = .letters), decide (k = .index), decide (k = .number), decide (k = .deed), decide (k = .table), decide (k = .move), decide (k = .shape), false, false, false]
def kept (k : Kd) (i : Nat) : List Str := (((wds.zip (kbs k)).take i).filter (·.2)).map (·.1)
theorem kept_len (k : Kd) (i : Nat) : (kept k i).length ≤ 11 := by
  unfold kept
  rw [List.length_map]
  refine Nat.le_trans (List.length_filter_le _ _) ?_
  rw [List.length_take]
  have : (wds.zip (kbs k)).length = 11 := rfl
  omega
theorem kept_succ {k : Kd} {i : Nat} {x : Str} {b : Bool} (h1 : wds[i]? = some x) (h2 : (kbs k)[i]? = some b) : kept k (i + 1) = kept k i ++ if b then [x] else [] := by
  have hz : (wds.zip (kbs k))[i]? = some (x, b) := by
    rw [List.getElem?_zip_eq_some]
    exact ⟨h1, h2⟩
  unfold kept
  rw [List.take_succ, hz]
  cases b <;> simp
theorem kept_all {k : Kd} (h1 : k ≠ .stuck) (h2 : k ≠ .great) : kept k 11 = [k.word] := by
  cases k <;> first | rfl | exact absurd rfl h1 | exact absurd rfl h2
section
variable {X : Cx} {g : Addr} {cdg : Value} {q : Str} {e : Eca}
set_option maxHeartbeats 4000000 in
theorem heard_rest (F : Ec X.K X.mg e) (s : Shared) (H : Hp) : ∃ tr : TS, PSs (cxOf C8.CX0 X.prog X.w X.K X.mg X.base Nhd "_law_heard" (defScope sHeard) g cdg X.A X.stack s H C8.E0).nox ((defBody sHeard).drop 6) tr ∧
    ∀ (D : Ends) (o0 o1 o3 o5 o6 o7 o8 o9 : Option V) (a dd : Addr) (k : Kd) (v : V) (vb : Bool) (H1 : Hp), Ek X.K e k → k ≠ .stuck → k ≠ .great → vb = (decide (k = .size) || (decide (k = .index) || decide (k = .number))) →
      H1 a = some (ExK (.ref (e.of k)) (some dd) a) → H1 dd = some (.xd [(k.field, v)]) → (∀ p H', Same H1 H' → H1 p = none → H' p = some (.tup [.str k.word, v]) → D.rt (.ref p) H') → tr D [o0, o1, some (.ref a), o3, some (.bl vb), o5, o6, o7, o8, o9] H1 := by
  refine ⟨_, pss_cons (ps_set (i := 5) scHeard.nd rfl (Or.inl rfl) (pe_lst (pa_cons (pe_callB (call_isHeld F.K_) (by rfl) F.isinstance (by decide +kernel) (pa_cons (pv 2) (pa_cons (pe_glob (v := .ref (e.of .size)) (by rfl) F.size rfl) pa_nil)))
      (pa_cons (pe_callB (call_isHeld F.K_) (by rfl) F.isinstance (by decide +kernel) (pa_cons (pv 2) (pa_cons (pe_glob (v := .ref (e.of .letters)) (by rfl) F.letters rfl) pa_nil)))
      (pa_cons (pe_callB (call_isHeld F.K_) (by rfl) F.isinstance (by decide +kernel) (pa_cons (pv 2) (pa_cons (pe_glob (v := .ref (e.of .index)) (by rfl) F.index rfl) pa_nil))) pa_nil)))))
    (pss_cons (ps_set (i := 5) scHeard.nd rfl (Or.inl rfl) (pe_op op_cat (pv 5) (pe_lst (pa_cons (pe_callB (call_isHeld F.K_) (by rfl) F.isinstance (by decide +kernel) (pa_cons (pv 2) (pa_cons (pe_glob (v := .ref (e.of .number)) (by rfl) F.number rfl) pa_nil)))
      (pa_cons (pe_callB (call_isHeld F.K_) (by rfl) F.isinstance (by decide +kernel) (pa_cons (pv 2) (pa_cons (pe_glob (v := .ref (e.of .deed)) (by rfl) F.deed rfl) pa_nil)))
      (pa_cons (pe_callB (call_isHeld F.K_) (by rfl) F.isinstance (by decide +kernel) (pa_cons (pv 2) (pa_cons (pe_glob (v := .ref (e.of .table)) (by rfl) F.table rfl) pa_nil))) pa_nil))))))
    (pss_cons (ps_set (i := 5) scHeard.nd rfl (Or.inl rfl) (pe_op op_cat (pv 5) (pe_lst (pa_cons (pe_callB (call_isHeld F.K_) (by rfl) F.isinstance (by decide +kernel) (pa_cons (pv 2) (pa_cons (pe_glob (v := .ref (e.of .move)) (by rfl) F.move rfl) pa_nil)))
      (pa_cons (pe_callB (call_isHeld F.K_) (by rfl) F.isinstance (by decide +kernel) (pa_cons (pv 2) (pa_cons (pe_glob (v := .ref (e.of .shape)) (by rfl) F.shape rfl) pa_nil)))
      (pa_cons (pe_callB (call_isHeld F.K_) (by rfl) F.isinstance (by decide +kernel) (pa_cons (pv 2) (pa_cons (pe_glob (v := .ref e.recd) (by rfl) F.recd rfl) pa_nil))) pa_nil))))))
    (pss_cons (ps_set (i := 5) scHeard.nd rfl (Or.inl rfl) (pe_op op_cat (pv 5) (pe_lst (pa_cons (pe_callB (call_isHeld F.K_) (by rfl) F.isinstance (by decide +kernel) (pa_cons (pv 2) (pa_cons (pe_glob (v := .ref e.osize) (by rfl) F.osize rfl) pa_nil)))
      (pa_cons (pe_callB (call_isHeld F.K_) (by rfl) F.isinstance (by decide +kernel) (pa_cons (pv 2) (pa_cons (pe_glob (v := .ref e.ohouse) (by rfl) F.ohouse rfl) pa_nil))) pa_nil)))))
    (pss_cons (ps_set (i := 6) scHeard.nd rfl (Or.inl rfl) (pe_lst (pa_cons pe_str (pa_cons pe_str (pa_cons pe_str (pa_cons pe_str (pa_cons pe_str (pa_cons pe_str (pa_cons pe_str (pa_cons pe_str (pa_cons pe_str pa_nil)))))))))))
    (pss_cons (ps_set (i := 6) scHeard.nd rfl (Or.inl rfl) (pe_op op_cat (pv 6) (pe_lst (pa_cons pe_str (pa_cons pe_str pa_nil)))))
    (pss_cons (ps_setLc (i := 7) (own := [("word", 8), ("is_so", 9)]) (g := gTup X.K 2 (gCons (gName 8) (gCons (gName 9) gNil))) rfl scHeard.nd rfl rfl (sw_true rfl rfl rfl (by decide +kernel)) (pi_zip (by rfl) F.zip (pa_cons (pv 6) (pa_cons (pv 5) pa_nil)))
      (blkOk_by (N := Nhd) (sc := defScope sHeard) (by decide +kernel)) (fun _ _ _ _ _ => pg_tup rfl (pgs_cons (pg_name (i := 8) scHeard.nd rfl (Or.inl rfl)) (pgs_cons (pg_name (i := 9) scHeard.nd rfl (Or.inl rfl)) pgs_nil)))
      (fun _ _ _ _ _ => pts_one (pt_val (pv 9))) (fun _ _ _ _ _ => pv 8))
    (pss_cons (ps_if (PW.pt (pw_or (pt_cmpR op_ne (pe_callB call_len_seq (by rfl) F.len PySem.boot_len (pa_cons (pv 7) pa_nil)) pe_int (nomark _))
        (pw_or1 (pt_not (pt_val (pe_callB (call_isHeld F.K_) (by rfl) F.isinstance (by decide +kernel) (pa_cons (pv 2) (pa_cons (pe_bltn (v := .ty "ValueError") (by rfl) F.ve (by decide +kernel) rfl) pa_nil)))))))) (pss_one (ps_ret pe_str)) pss_nil)
    (pss_cons (ps_if (PW.pt (pw_or (pt_val (pv 4)) (pw_or1 (pt_cmpR op_eq (pe_ix ix_list (pv 7) pe_int (fun _ _ => rfl)) pe_str (nomark _))))) (pss_one (ps_ret (pe_tup (pa_cons (pe_ix ix_list (pv 7) pe_int (fun _ _ => rfl)) (pa_cons (pe_fldHeld (pv 2)) pa_nil))))) pss_nil)
    (pss_cons (ps_if (pt_cmpR op_in_seq (pe_ix ix_list (pv 7) pe_int (fun _ _ => rfl)) (pe_tup (pa_cons pe_str (pa_cons pe_str (pa_cons pe_str pa_nil)))) (by rfl)) (pss_one (ps_ret (pe_tup (pa_cons (pe_ix ix_list (pv 7) pe_int (fun _ _ => rfl)) (pa_cons (pe_fldHeld (pv 2)) pa_nil))))) pss_nil)
    (pss_one (ps_ret (pe_ifExp (pt_cmpR op_eq (pe_ix ix_list (pv 7) pe_int (fun _ _ => rfl)) pe_str (nomark _)) (pe_tup (pa_cons pe_str (pa_cons (pe_fldHeld (pv 2)) pa_nil))) (pe_ix ix_list (pv 7) pe_int (fun _ _ => rfl)))))))))))))), ?_⟩
  intro D o0 o1 o3 o5 o6 o7 o8 o9 a dd k v vb H0 E_ hk1 hk2 hvb ha hda kq
  have sA : Same H0 H0 := Same.refl _
  refine ⟨_, rfl, a, _, dd, _, _, _, _, rfl, E_.held, ha, hda, ClsV.own _, E_.is_ .size, _, rfl, a, _, dd, _, _, _, _, rfl, E_.held, ha, hda, ClsV.own _, E_.is_ .letters, _, rfl, a, _, dd, _, _, _, _, rfl, E_.held, ha, hda, ClsV.own _, E_.is_ .index, (by show 3 ≤ sizeLine; decide), fun l1 hl1 => ?_⟩
  have s_l1 : Same H0 (upd H0 l1 (HO.lst [V.bl (decide (k = Kd.size)), V.bl (decide (k = Kd.letters)), V.bl (decide (k = Kd.index))])) := sameN hl1
  have e_l1 : (upd H0 l1 (HO.lst [V.bl (decide (k = Kd.size)), V.bl (decide (k = Kd.letters)), V.bl (decide (k = Kd.index))])) l1 = some (HO.lst [V.bl (decide (k = Kd.size)), V.bl (decide (k = Kd.letters)), V.bl (decide (k = Kd.index))]) := upd_same
  generalize upd H0 l1 (HO.lst [V.bl (decide (k = Kd.size)), V.bl (decide (k = Kd.letters)), V.bl (decide (k = Kd.index))]) = H1 at s_l1 e_l1 ⊢
  replace ha := s_l1 _ _ ha
  replace hda := s_l1 _ _ hda
  replace sA := sA.trans s_l1
  refine ⟨_, rfl, _, rfl, a, _, dd, _, _, _, _, rfl, E_.held, ha, hda, ClsV.own _, E_.is_ .number, _, rfl, a, _, dd, _, _, _, _, rfl, E_.held, ha, hda, ClsV.own _, E_.is_ .deed, _, rfl, a, _, dd, _, _, _, _, rfl, E_.held, ha, hda, ClsV.own _, E_.is_ .table, (by show 3 ≤ sizeLine; decide), fun l2 hl2 => ?_⟩
  have s_l2 : Same H1 (upd H1 l2 (HO.lst [V.bl (decide (k = Kd.number)), V.bl (decide (k = Kd.deed)), V.bl (decide (k = Kd.table))])) := sameN hl2
  have e_l2 : (upd H1 l2 (HO.lst [V.bl (decide (k = Kd.number)), V.bl (decide (k = Kd.deed)), V.bl (decide (k = Kd.table))])) l2 = some (HO.lst [V.bl (decide (k = Kd.number)), V.bl (decide (k = Kd.deed)), V.bl (decide (k = Kd.table))]) := upd_same
  generalize upd H1 l2 (HO.lst [V.bl (decide (k = Kd.number)), V.bl (decide (k = Kd.deed)), V.bl (decide (k = Kd.table))]) = H2 at s_l2 e_l2 ⊢
  replace ha := s_l2 _ _ ha
  replace hda := s_l2 _ _ hda
  replace e_l1 := s_l2 _ _ e_l1
  replace sA := sA.trans s_l2
  refine ⟨l1, l2, _, _, rfl, rfl, e_l1, e_l2, (by rw [sizeLine_eq]; simp), fun l3 hl3 => ?_⟩
  have s_l3 : Same H2 (upd H2 l3 (HO.lst ([V.bl (decide (k = Kd.size)), V.bl (decide (k = Kd.letters)), V.bl (decide (k = Kd.index))] ++ [V.bl (decide (k = Kd.number)), V.bl (decide (k = Kd.deed)), V.bl (decide (k = Kd.table))]))) := sameN hl3
  have e_l3 : (upd H2 l3 (HO.lst ([V.bl (decide (k = Kd.size)), V.bl (decide (k = Kd.letters)), V.bl (decide (k = Kd.index))] ++ [V.bl (decide (k = Kd.number)), V.bl (decide (k = Kd.deed)), V.bl (decide (k = Kd.table))]))) l3 = some (HO.lst ([V.bl (decide (k = Kd.size)), V.bl (decide (k = Kd.letters)), V.bl (decide (k = Kd.index))] ++ [V.bl (decide (k = Kd.number)), V.bl (decide (k = Kd.deed)), V.bl (decide (k = Kd.table))])) := upd_same
  generalize upd H2 l3 (HO.lst ([V.bl (decide (k = Kd.size)), V.bl (decide (k = Kd.letters)), V.bl (decide (k = Kd.index))] ++ [V.bl (decide (k = Kd.number)), V.bl (decide (k = Kd.deed)), V.bl (decide (k = Kd.table))])) = H3 at s_l3 e_l3 ⊢
  replace ha := s_l3 _ _ ha
  replace hda := s_l3 _ _ hda
  replace sA := sA.trans s_l3
  refine ⟨_, rfl, _, rfl, a, _, dd, _, _, _, _, rfl, E_.held, ha, hda, ClsV.own _, E_.is_ .move, _, rfl, a, _, dd, _, _, _, _, rfl, E_.held, ha, hda, ClsV.own _, E_.is_ .shape, _, rfl, a, _, dd, _, _, _, _, rfl, E_.held, ha, hda, ClsV.own _, E_.recd, (by show 3 ≤ sizeLine; decide), fun l4 hl4 => ?_⟩
  have s_l4 : Same H3 (upd H3 l4 (HO.lst [V.bl (decide (k = Kd.move)), V.bl (decide (k = Kd.shape)), V.bl false])) := sameN hl4
  have e_l4 : (upd H3 l4 (HO.lst [V.bl (decide (k = Kd.move)), V.bl (decide (k = Kd.shape)), V.bl false])) l4 = some (HO.lst [V.bl (decide (k = Kd.move)), V.bl (decide (k = Kd.shape)), V.bl false]) := upd_same
  generalize upd H3 l4 (HO.lst [V.bl (decide (k = Kd.move)), V.bl (decide (k = Kd.shape)), V.bl false]) = H4 at s_l4 e_l4 ⊢
  replace ha := s_l4 _ _ ha
  replace hda := s_l4 _ _ hda
  replace e_l3 := s_l4 _ _ e_l3
  replace sA := sA.trans s_l4
  refine ⟨l3, l4, _, _, rfl, rfl, e_l3, e_l4, (by rw [sizeLine_eq]; simp), fun l5 hl5 => ?_⟩
  have s_l5 : Same H4 (upd H4 l5 (HO.lst ([V.bl (decide (k = Kd.size)), V.bl (decide (k = Kd.letters)), V.bl (decide (k = Kd.index))] ++ [V.bl (decide (k = Kd.number)), V.bl (decide (k = Kd.deed)), V.bl (decide (k = Kd.table))] ++ [V.bl (decide (k = Kd.move)), V.bl (decide (k = Kd.shape)), V.bl false]))) := sameN hl5
  have e_l5 : (upd H4 l5 (HO.lst ([V.bl (decide (k = Kd.size)), V.bl (decide (k = Kd.letters)), V.bl (decide (k = Kd.index))] ++ [V.bl (decide (k = Kd.number)), V.bl (decide (k = Kd.deed)), V.bl (decide (k = Kd.table))] ++ [V.bl (decide (k = Kd.move)), V.bl (decide (k = Kd.shape)), V.bl false]))) l5 = some (HO.lst ([V.bl (decide (k = Kd.size)), V.bl (decide (k = Kd.letters)), V.bl (decide (k = Kd.index))] ++ [V.bl (decide (k = Kd.number)), V.bl (decide (k = Kd.deed)), V.bl (decide (k = Kd.table))] ++ [V.bl (decide (k = Kd.move)), V.bl (decide (k = Kd.shape)), V.bl false])) := upd_same
  generalize upd H4 l5 (HO.lst ([V.bl (decide (k = Kd.size)), V.bl (decide (k = Kd.letters)), V.bl (decide (k = Kd.index))] ++ [V.bl (decide (k = Kd.number)), V.bl (decide (k = Kd.deed)), V.bl (decide (k = Kd.table))] ++ [V.bl (decide (k = Kd.move)), V.bl (decide (k = Kd.shape)), V.bl false])) = H5 at s_l5 e_l5 ⊢
  replace ha := s_l5 _ _ ha
  replace hda := s_l5 _ _ hda
  replace sA := sA.trans s_l5
  refine ⟨_, rfl, _, rfl, a, _, dd, _, _, _, _, rfl, E_.held, ha, hda, ClsV.own _, E_.osize, _, rfl, a, _, dd, _, _, _, _, rfl, E_.held, ha, hda, ClsV.own _, E_.ohouse, (by show 2 ≤ sizeLine; decide), fun l6 hl6 => ?_⟩
  have s_l6 : Same H5 (upd H5 l6 (HO.lst [V.bl false, V.bl false])) := sameN hl6
  have e_l6 : (upd H5 l6 (HO.lst [V.bl false, V.bl false])) l6 = some (HO.lst [V.bl false, V.bl false]) := upd_same
  generalize upd H5 l6 (HO.lst [V.bl false, V.bl false]) = H6 at s_l6 e_l6 ⊢
  replace ha := s_l6 _ _ ha
  replace hda := s_l6 _ _ hda
  replace e_l5 := s_l6 _ _ e_l5
  replace sA := sA.trans s_l6
  refine ⟨l5, l6, _, _, rfl, rfl, e_l5, e_l6, (by rw [sizeLine_eq]; simp), fun l7 hl7 => ?_⟩
  have s_l7 : Same H6 (upd H6 l7 (HO.lst ([V.bl (decide (k = Kd.size)), V.bl (decide (k = Kd.letters)), V.bl (decide (k = Kd.index))] ++ [V.bl (decide (k = Kd.number)), V.bl (decide (k = Kd.deed)), V.bl (decide (k = Kd.table))] ++ [V.bl (decide (k = Kd.move)), V.bl (decide (k = Kd.shape)), V.bl false] ++ [V.bl false, V.bl false]))) := sameN hl7
  have e_l7 : (upd H6 l7 (HO.lst ([V.bl (decide (k = Kd.size)), V.bl (decide (k = Kd.letters)), V.bl (decide (k = Kd.index))] ++ [V.bl (decide (k = Kd.number)), V.bl (decide (k = Kd.deed)), V.bl (decide (k = Kd.table))] ++ [V.bl (decide (k = Kd.move)), V.bl (decide (k = Kd.shape)), V.bl false] ++ [V.bl false, V.bl false]))) l7 = some (HO.lst ([V.bl (decide (k = Kd.size)), V.bl (decide (k = Kd.letters)), V.bl (decide (k = Kd.index))] ++ [V.bl (decide (k = Kd.number)), V.bl (decide (k = Kd.deed)), V.bl (decide (k = Kd.table))] ++ [V.bl (decide (k = Kd.move)), V.bl (decide (k = Kd.shape)), V.bl false] ++ [V.bl false, V.bl false])) := upd_same
  generalize upd H6 l7 (HO.lst ([V.bl (decide (k = Kd.size)), V.bl (decide (k = Kd.letters)), V.bl (decide (k = Kd.index))] ++ [V.bl (decide (k = Kd.number)), V.bl (decide (k = Kd.deed)), V.bl (decide (k = Kd.table))] ++ [V.bl (decide (k = Kd.move)), V.bl (decide (k = Kd.shape)), V.bl false] ++ [V.bl false, V.bl false])) = H7 at s_l7 e_l7 ⊢
  replace ha := s_l7 _ _ ha
  replace hda := s_l7 _ _ hda
  replace sA := sA.trans s_l7
  refine ⟨(by show 9 ≤ sizeLine; decide), fun w1 hw1 => ?_⟩
  have s_w1 : Same H7 (upd H7 w1 (HO.lst [V.str "size", V.str "letters", V.str "index", V.str "number", V.str "deed", V.str "table", V.str "move", V.str "shape", V.str "recording"])) := sameN hw1
  have e_w1 : (upd H7 w1 (HO.lst [V.str "size", V.str "letters", V.str "index", V.str "number", V.str "deed", V.str "table", V.str "move", V.str "shape", V.str "recording"])) w1 = some (HO.lst [V.str "size", V.str "letters", V.str "index", V.str "number", V.str "deed", V.str "table", V.str "move", V.str "shape", V.str "recording"]) := upd_same
  generalize upd H7 w1 (HO.lst [V.str "size", V.str "letters", V.str "index", V.str "number", V.str "deed", V.str "table", V.str "move", V.str "shape", V.str "recording"]) = H8 at s_w1 e_w1 ⊢
  replace ha := s_w1 _ _ ha
  replace hda := s_w1 _ _ hda
  replace e_l7 := s_w1 _ _ e_l7
  replace sA := sA.trans s_w1
  refine ⟨_, rfl, (by show 2 ≤ sizeLine; decide), fun w2 hw2 => ?_⟩
  have s_w2 : Same H8 (upd H8 w2 (HO.lst [V.str "othersize", V.str "otherhouse"])) := sameN hw2
  have e_w2 : (upd H8 w2 (HO.lst [V.str "othersize", V.str "otherhouse"])) w2 = some (HO.lst [V.str "othersize", V.str "otherhouse"]) := upd_same
  generalize upd H8 w2 (HO.lst [V.str "othersize", V.str "otherhouse"]) = H9 at s_w2 e_w2 ⊢
  replace ha := s_w2 _ _ ha
  replace hda := s_w2 _ _ hda
  replace e_l7 := s_w2 _ _ e_l7
  replace e_w1 := s_w2 _ _ e_w1
  replace sA := sA.trans s_w2
  refine ⟨w1, w2, _, _, rfl, rfl, e_w1, e_w2, (by rw [sizeLine_eq]; simp), fun w3 hw3 => ?_⟩
  have s_w3 : Same H9 (upd H9 w3 (HO.lst ([V.str "size", V.str "letters", V.str "index", V.str "number", V.str "deed", V.str "table", V.str "move", V.str "shape", V.str "recording"] ++ [V.str "othersize", V.str "otherhouse"]))) := sameN hw3
  have e_w3 : (upd H9 w3 (HO.lst ([V.str "size", V.str "letters", V.str "index", V.str "number", V.str "deed", V.str "table", V.str "move", V.str "shape", V.str "recording"] ++ [V.str "othersize", V.str "otherhouse"]))) w3 = some (HO.lst ([V.str "size", V.str "letters", V.str "index", V.str "number", V.str "deed", V.str "table", V.str "move", V.str "shape", V.str "recording"] ++ [V.str "othersize", V.str "otherhouse"])) := upd_same
  generalize upd H9 w3 (HO.lst ([V.str "size", V.str "letters", V.str "index", V.str "number", V.str "deed", V.str "table", V.str "move", V.str "shape", V.str "recording"] ++ [V.str "othersize", V.str "otherhouse"])) = HA at s_w3 e_w3 ⊢
  replace ha := s_w3 _ _ ha
  replace hda := s_w3 _ _ hda
  replace e_l7 := s_w3 _ _ e_l7
  replace sA := sA.trans s_w3
  have eW : HA w3 = some (.lst (wds.map V.str)) := e_w3
  have eK : HA l7 = some (.lst ((kbs k).map V.bl)) := e_l7
  refine ⟨_, rfl, _, rfl, w3, l7, _, _, rfl, SqL.of eW, SqL.of eK, fun R hR => lc_zipL (K := X.K) (a := w3) (b := l7) (xs := wds.map V.str) (ys := (kbs k).map V.bl) rfl (fun i H' => Same HA H' ∧ H' R = some (.lst ((kept k i).map V.str))) ⟨sameN hR, by rw [upd_same]; rfl⟩
    (fun i H' _ ⟨s, _⟩ => ⟨SqL.of (s _ _ eW), SqL.of (s _ _ eK)⟩) ?_ ?_⟩
  · rintro i x y T H' hx hy ⟨s2, e2⟩ hT
    rw [List.getElem?_map, Option.map_eq_some_iff] at hx hy
    obtain ⟨x, hx, rfl⟩ := hx
    obtain ⟨y, hy, rfl⟩ := hy
    have ks := kept_succ hx hy
    have s3 : Same H' (upd H' T (.tup [.str x, .bl y])) := sameN hT
    have eT : (upd H' T (.tup [.str x, .bl y])) T = some (.tup [.str x, .bl y]) := upd_same
    generalize upd H' T (.tup [.str x, .bl y]) = HB at s3 eT ⊢
    refine ⟨T, _, rfl, SqT.of eT, rfl, _, _, rfl, _, _, rfl, rfl, rfl, ?_⟩
    refine ⟨_, rfl, _, rfl, ?_⟩
    cases y with
    | true =>
      refine iteT ⟨_, rfl, _, s3 _ _ e2, ?_, fun b o q => ?_, ?_⟩
      · have := kept_len k i
        rw [List.length_map, sizeLine_eq]
        omega
      · rw [upd_ne (ne_of_none q hR)]
        exact s3 _ _ (s2 _ _ q)
      · rw [upd_same, ks]
        simp
    | false =>
      refine iteF ⟨s2.trans s3, ?_⟩
      rw [ks]
      simpa using s3 _ _ e2
  · rintro HB ⟨s2, e2⟩
    rw [show ((wds.map V.str).length) = 11 from rfl, kept_all hk1 hk2] at e2
    replace sA := sA.trans s2
    replace ha := s2 _ _ ha
    replace hda := s2 _ _ hda
    have eR : HB R = some (.lst [.str k.word]) := e2
    have ve : k.ve = true := by
      cases k <;> first | rfl | exact absurd rfl hk1 | exact absurd rfl hk2
    refine ⟨_, rfl, R, _, rfl, .inl (SqL.of eR), rfl, _, rfl, iteF ⟨_, rfl, a, _, dd, _, _, _, _, rfl, E_.held, ha, hda, ClsV.ty _, E_.ve, _, rfl, ?_⟩⟩
    rw [ve]
    refine iteF ⟨_, rfl, _, rfl, ?_⟩
    have fin : ∀ (p : Addr) (H' : Hp) (h : H' p = none), Same HB H' → D.rt (.ref p) (upd H' p (.tup [.str k.word, v])) := fun p H' h s => kq p _ ((sA.trans s).trans (sameN h)) ((sA.trans s).free h) upd_same
    subst hvb
    cases k
    case size =>
      exact iteT ⟨_, rfl, R, _, _, _, rfl, rfl, SqL.of (eR), at_of (j := 0) rfl rfl, _, rfl, a, _, dd, _, v, rfl, E_.held, E_.no, ha, hda, look_one _ _, (by show 2 ≤ sizeLine; decide), fun p hp => fin p _ hp (Same.refl _)⟩
    case letters =>
      refine iteF ⟨_, rfl, R, _, _, _, rfl, rfl, SqL.of (eR), at_of (j := 0) rfl rfl, rfl, _, rfl, ?_⟩
      rw [decide_eq_false (by decide +kernel)]
      refine iteF ⟨_, rfl, R, _, _, _, rfl, rfl, SqL.of (eR), at_of (j := 0) rfl rfl, (by show 3 ≤ sizeLine; decide), fun q hq => ?_⟩
      have sQ : Same HB (upd HB q (.tup [.str "letters", .str "deed", .str "move"])) := sameN hq
      refine ⟨q, _, rfl, .inr (SqT.of upd_same), rfl, rfl, _, rfl, ?_⟩
      rw [if_neg Bool.false_ne_true]
      rw [show inV (V.str (Kd.word .letters)) [V.str "letters", V.str "deed", V.str "move"] = true by decide +kernel]
      exact iteT ⟨_, rfl, R, _, _, _, rfl, rfl, SqL.of (sQ _ _ eR), at_of (j := 0) rfl rfl, _, rfl, a, _, dd, _, v, rfl, E_.held, E_.no, sQ _ _ ha, sQ _ _ hda, look_one _ _, (by show 2 ≤ sizeLine; decide), fun p hp => fin p _ hp sQ⟩
    case index =>
      exact iteT ⟨_, rfl, R, _, _, _, rfl, rfl, SqL.of (eR), at_of (j := 0) rfl rfl, _, rfl, a, _, dd, _, v, rfl, E_.held, E_.no, ha, hda, look_one _ _, (by show 2 ≤ sizeLine; decide), fun p hp => fin p _ hp (Same.refl _)⟩
    case number =>
      exact iteT ⟨_, rfl, R, _, _, _, rfl, rfl, SqL.of (eR), at_of (j := 0) rfl rfl, _, rfl, a, _, dd, _, v, rfl, E_.held, E_.no, ha, hda, look_one _ _, (by show 2 ≤ sizeLine; decide), fun p hp => fin p _ hp (Same.refl _)⟩
    case deed =>
      refine iteF ⟨_, rfl, R, _, _, _, rfl, rfl, SqL.of (eR), at_of (j := 0) rfl rfl, rfl, _, rfl, ?_⟩
      rw [decide_eq_false (by decide +kernel)]
      refine iteF ⟨_, rfl, R, _, _, _, rfl, rfl, SqL.of (eR), at_of (j := 0) rfl rfl, (by show 3 ≤ sizeLine; decide), fun q hq => ?_⟩
      have sQ : Same HB (upd HB q (.tup [.str "letters", .str "deed", .str "move"])) := sameN hq
      refine ⟨q, _, rfl, .inr (SqT.of upd_same), rfl, rfl, _, rfl, ?_⟩
      rw [if_neg Bool.false_ne_true]
      rw [show inV (V.str (Kd.word .deed)) [V.str "letters", V.str "deed", V.str "move"] = true by decide +kernel]
      exact iteT ⟨_, rfl, R, _, _, _, rfl, rfl, SqL.of (sQ _ _ eR), at_of (j := 0) rfl rfl, _, rfl, a, _, dd, _, v, rfl, E_.held, E_.no, sQ _ _ ha, sQ _ _ hda, look_one _ _, (by show 2 ≤ sizeLine; decide), fun p hp => fin p _ hp sQ⟩
    case table =>
      refine iteF ⟨_, rfl, R, _, _, _, rfl, rfl, SqL.of (eR), at_of (j := 0) rfl rfl, rfl, _, rfl, ?_⟩
      rw [decide_eq_false (by decide +kernel)]
      refine iteF ⟨_, rfl, R, _, _, _, rfl, rfl, SqL.of (eR), at_of (j := 0) rfl rfl, (by show 3 ≤ sizeLine; decide), fun q hq => ?_⟩
      have sQ : Same HB (upd HB q (.tup [.str "letters", .str "deed", .str "move"])) := sameN hq
      refine ⟨q, _, rfl, .inr (SqT.of upd_same), rfl, rfl, _, rfl, ?_⟩
      rw [if_neg Bool.false_ne_true]
      rw [show inV (V.str (Kd.word .table)) [V.str "letters", V.str "deed", V.str "move"] = false by decide +kernel]
      refine iteF ⟨_, rfl, R, _, _, _, rfl, rfl, SqL.of (sQ _ _ eR), at_of (j := 0) rfl rfl, rfl, _, rfl, ?_⟩
      rw [decide_eq_true (show V.str (Kd.word .table) = V.str "table" from rfl)]
      exact iteT ⟨_, rfl, a, _, dd, _, v, rfl, E_.held, E_.no, sQ _ _ ha, sQ _ _ hda, look_one _ _, (by show 2 ≤ sizeLine; decide), fun p hp => fin p _ hp sQ⟩
    case move =>
      refine iteF ⟨_, rfl, R, _, _, _, rfl, rfl, SqL.of (eR), at_of (j := 0) rfl rfl, rfl, _, rfl, ?_⟩
      rw [decide_eq_false (by decide +kernel)]
      refine iteF ⟨_, rfl, R, _, _, _, rfl, rfl, SqL.of (eR), at_of (j := 0) rfl rfl, (by show 3 ≤ sizeLine; decide), fun q hq => ?_⟩
      have sQ : Same HB (upd HB q (.tup [.str "letters", .str "deed", .str "move"])) := sameN hq
      refine ⟨q, _, rfl, .inr (SqT.of upd_same), rfl, rfl, _, rfl, ?_⟩
      rw [if_neg Bool.false_ne_true]
      rw [show inV (V.str (Kd.word .move)) [V.str "letters", V.str "deed", V.str "move"] = true by decide +kernel]
      exact iteT ⟨_, rfl, R, _, _, _, rfl, rfl, SqL.of (sQ _ _ eR), at_of (j := 0) rfl rfl, _, rfl, a, _, dd, _, v, rfl, E_.held, E_.no, sQ _ _ ha, sQ _ _ hda, look_one _ _, (by show 2 ≤ sizeLine; decide), fun p hp => fin p _ hp sQ⟩
    case shape =>
      refine iteF ⟨_, rfl, R, _, _, _, rfl, rfl, SqL.of (eR), at_of (j := 0) rfl rfl, rfl, _, rfl, ?_⟩
      rw [decide_eq_true (show V.str (Kd.word .shape) = V.str "shape" from rfl)]
      exact iteT ⟨_, rfl, R, _, _, _, rfl, rfl, SqL.of (eR), at_of (j := 0) rfl rfl, _, rfl, a, _, dd, _, v, rfl, E_.held, E_.no, ha, hda, look_one _ _, (by show 2 ≤ sizeLine; decide), fun p hp => fin p _ hp (Same.refl _)⟩
    case stuck =>
      exact absurd rfl hk1
    case great =>
      exact absurd rfl hk2
set_option maxHeartbeats 4000000 in
theorem heard_gives (F : Ec X.K X.mg e) : GivesTo X Nhd "_law_heard" (defScope sHeard) g cdg (defBody sHeard) "call" q (TTheard X.K e) := by
  intro f c' s H Q tl act hc h
  let X1 : Cx := (cxOf C8.CX0 X.prog X.w X.K X.mg X.base Nhd "_law_heard" (defScope sHeard) g cdg X.A X.stack s H C8.E0).nox
  obtain ⟨tr, htr, hrest⟩ := heard_rest (g := g) (cdg := cdg) F s H
  refine ⟨_, pss_cons (ps_par (i := 1) (j := 2) (by rfl) scHeard.nd rfl rfl (by decide) rfl rfl (pa_cons (pe_lst pa_nil) (pa_cons pe_non pa_nil)) (by rfl))
    (pss_cons (ps_try_hold (X := X1) (i := 3) (c1 := .ref e.lift) (c2 := .ref (e.of .stuck)) (c3 := .ref (e.of .great))
      (tb := fun W D σ H => ∃ Ech : XK, (∀ cls d σ' H', σ'.length = 10 → Ech cls d H' → W cls d σ' H') ∧ σ[0]? = some (some (.ref f)) ∧ H c' = some (CodeO c' q) ∧ ∃ Qm : VK, tl Ech H Qm ∧ ∀ v H1, Qm v H1 → [v].length ≤ sizeLine ∧ ∀ p, H1 p = none → D.nx (σ.set 1 (some (.ref p))) (upd H1 p (.lst [v])))
      rfl rfl rfl scHeard.nd rfl rfl ⟨rfl, F.lift⟩ ⟨rfl, F.stuck⟩ ⟨rfl, F.great⟩ (fun W pn xe tk _ => ?body) (fun a oe cls d pn _ _ => pss_one (ps_set (i := 2) scHeard.nd rfl (Or.inl rfl) (pv 3))))
    (pss_cons (ps_if (pt_cmpR op_isN (pv 2) pe_non (nomark _)) (pss_one (ps_ret (pv 1))) pss_nil)
    (pss_cons (ps_if (pt_val (pe_callB (call_isHeld F.K_) (by rfl) F.isinstance (by decide +kernel) (pa_cons (pv 2) (pa_cons (pe_glob (v := .ref (e.of .stuck)) (by rfl) F.stuck rfl) pa_nil))))
      (pss_one (ps_ret (pe_ifExp (pt_not (pt_val (pe_callB (call_isHeld F.K_) (by rfl) F.isinstance (by decide +kernel) (pa_cons (pv 2) (pa_cons (pe_bltn (v := .ty "ValueError") (by rfl) F.ve (by decide +kernel) rfl) pa_nil)))))
        (pe_tup (pa_cons pe_str (pa_cons (pe_fldHeld (pv 2)) pa_nil))) pe_str))) pss_nil)
    (pss_cons (ps_if (pt_val (pe_callB (call_isHeld F.K_) (by rfl) F.isinstance (by decide +kernel) (pa_cons (pv 2) (pa_cons (pe_glob (v := .ref (e.of .great)) (by rfl) F.great rfl) pa_nil))))
      (pss_one (ps_ret (pe_ifExp (pt_not (pt_val (pe_callB (call_isHeld F.K_) (by rfl) F.isinstance (by decide +kernel) (pa_cons (pv 2) (pa_cons (pe_bltn (v := .ty "ValueError") (by rfl) F.ve (by decide +kernel) rfl) pa_nil)))))
        (pe_tup (pa_cons pe_str (pa_cons (pe_fldHeld (pv 2)) pa_nil))) pe_str))) pss_nil)
    (pss_cons (ps_set (i := 4) scHeard.nd rfl (Or.inl rfl) (pe_or (pe_callB (call_isHeld F.K_) (by rfl) F.isinstance (by decide +kernel) (pa_cons (pv 2) (pa_cons (pe_glob (v := .ref (e.of .size)) (by rfl) F.size rfl) pa_nil)))
      (pe_or (pe_callB (call_isHeld F.K_) (by rfl) F.isinstance (by decide +kernel) (pa_cons (pv 2) (pa_cons (pe_glob (v := .ref (e.of .index)) (by rfl) F.index rfl) pa_nil)))
      (pe_one (pe_callB (call_isHeld F.K_) (by rfl) F.isinstance (by decide +kernel) (pa_cons (pv 2) (pa_cons (pe_glob (v := .ref (e.of .number)) (by rfl) F.number rfl) pa_nil)))))))
    htr))))), ?_⟩
  case body =>
    refine ⟨fun pins s' σ H' D I h' => ?_⟩
    obtain ⟨Ech, hW, h1, h2, Qm, h3, h4⟩ := h'
    refine PSs.run (X := X1.tr pn xe) (pss_one (ps_set (i := 1) scHeard.nd rfl (Or.inl rfl) (pe_lst (pa_cons (pe_weak (act (fun cls d σ H => σ.length = 10 → W cls d σ H) pn xe Ech _ _ (takes_len tk) fun cls d σ' H' h z => hW cls d σ' H' z h)) pa_nil)))) pins s' σ H' D I ?_
    exact ⟨Qm, ⟨h1, h2, h3⟩, h4⟩
  refine ⟨Nat.zero_le _, fun l hl => ⟨_, _, rfl, Rf X.K e Q, fun cls d σ' H' hσ hR => ?_, rfl, ?_, _, h l hl, fun v H1 hv => ⟨(by show 1 ≤ sizeLine; decide), fun p hp => ?_⟩⟩⟩
  · -- a refusal
    obtain ⟨k, dd, v, E_, rfl, rfl, hd, kq⟩ := hR
    match σ', hσ with
    | [o0, o1, o2, o3, o4, o5, o6, o7, o8, o9], _ =>
    refine ⟨E_.exm, fun a na => ⟨_, rfl, ?_⟩⟩
    have hda : (upd H' a (ExK (.ref (e.of k)) (some dd) a)) dd = some (.xd [(k.field, v)]) := by
      rw [upd_ne (ne_of_none hd na)]
      exact hd
    have ha : (upd H' a (ExK (.ref (e.of k)) (some dd) a)) a = some (ExK (.ref (e.of k)) (some dd) a) := upd_same
    have s1 : Same H' (upd H' a (ExK (.ref (e.of k)) (some dd) a)) := fun b o q => by
      rw [upd_ne (ne_of_none q na)]
      exact q
    refine ⟨_, rfl, rfl, _, rfl, ?_⟩
    rw [decide_eq_false (by intro z; cases z)]
    refine iteF ⟨_, rfl, a, _, dd, _, _, _, _, rfl, E_.held, ha, hda, ClsV.own _, E_.is_ .stuck, _, rfl, ?_⟩
    by_cases hk1 : k = .stuck
    · subst hk1
      refine iteT ⟨_, rfl, a, _, dd, _, _, _, _, rfl, E_.held, ha, hda, ClsV.ty _, E_.ve, _, rfl, iteT ?_⟩
      exact ⟨_, rfl, a, _, dd, _, v, rfl, E_.held, E_.no, ha, hda, look_one _ _, (by show 2 ≤ sizeLine; decide), fun p hp => kq p _ (s1.trans (sameN hp)) (s1.free hp) upd_same⟩
    rw [decide_eq_false hk1]
    refine iteF ⟨_, rfl, a, _, dd, _, _, _, _, rfl, E_.held, ha, hda, ClsV.own _, E_.is_ .great, _, rfl, ?_⟩
    by_cases hk2 : k = .great
    · subst hk2
      refine iteT ⟨_, rfl, a, _, dd, _, _, _, _, rfl, E_.held, ha, hda, ClsV.ty _, E_.ve, _, rfl, iteT ?_⟩
      exact ⟨_, rfl, a, _, dd, _, v, rfl, E_.held, E_.no, ha, hda, look_one _ _, (by show 2 ≤ sizeLine; decide), fun p hp => kq p _ (s1.trans (sameN hp)) (s1.free hp) upd_same⟩
    rw [decide_eq_false hk2]
    refine iteF ?_
    -- one of the ValueErrors
    refine ⟨_, rfl, a, _, dd, _, _, _, _, rfl, E_.held, ha, hda, ClsV.own _, E_.is_ .size, _, rfl, ite2 (fun h1 => ?_) fun h1 => ⟨_, rfl, a, _, dd, _, _, _, _, rfl, E_.held, ha, hda, ClsV.own _, E_.is_ .index, _, rfl, ite2 (fun h2 => ?_) fun h2 => ⟨_, rfl, a, _, dd, _, _, _, _, rfl, E_.held, ha, hda, ClsV.own _, E_.is_ .number, ?_⟩⟩⟩
    · exact hrest _ _ _ _ _ _ _ _ _ a dd k v _ _ E_ hk1 hk2 (by rw [h1]; rfl) ha hda fun p H2 s2 n2 e2 => kq p H2 (s1.trans s2) (s1.free n2) e2
    · exact hrest _ _ _ _ _ _ _ _ _ a dd k v _ _ E_ hk1 hk2 (by rw [h2]; simp) ha hda fun p H2 s2 n2 e2 => kq p H2 (s1.trans s2) (s1.free n2) e2
    · exact hrest _ _ _ _ _ _ _ _ _ a dd k v _ _ E_ hk1 hk2 (by rw [Bool.eq_false_iff.mpr h1, Bool.eq_false_iff.mpr h2]; rfl) ha hda fun p H2 s2 n2 e2 => kq p H2 (s1.trans s2) (s1.free n2) e2
  · rw [upd_ne (ne_of_none hc hl)]
    exact hc
  · exact ⟨_, rfl, rfl, _, rfl, iteT ⟨_, rfl, hv p hp⟩⟩
end
end Lw
namespace DL
open PySem PySem.Spec PyProof.Rows L2 LwE Lw
mutual
theorem Rep.ix {K : PySem.W.Frag} {i j : Ix} {F : Hp} (h : i.m = j.m) : ∀ (d : Dt) {v : V}, Rep K i F d v → Rep K j F d v
  | .non, _, h => h
  | .bl _, _, h => h
  | .int _, _, h => h
  | .str _, _, h => h
  | .drw, v, q => by
    have q : v = .ref i.m := q
    show v = .ref j.m
    rw [q, h]
  | .any _, _, h => h
  | .opq, _, h => h
  | .scr _, _, h => h
  | .exc C f d, _, ⟨a, dd, w, h1, h2, h3, h4⟩ => ⟨a, dd, w, h1, h2, h3, Rep.ix h d h4⟩
  | .tup l, _, ⟨a, vs, h1, h2, h3⟩ => ⟨a, vs, h1, h2, Reps.ix h l h3⟩
  | .lst l, _, ⟨a, vs, h1, h2, h3⟩ => ⟨a, vs, h1, h2, Reps.ix h l h3⟩
  | .obj C ns l, _, ⟨a, dx, gs, h1, h2, h3, h4⟩ => ⟨a, dx, gs, h1, h2, h3, Reps.ix h l h4⟩
  | .dK ks l, _, ⟨a, kvs, h1, h2, h3, h4⟩ => ⟨a, kvs, h1, h2, h3, Reps.ix h l h4⟩
  | .dT ks l, _, ⟨a, kvs, h1, h2, h3, h4⟩ => ⟨a, kvs, h1, h2, h3, Reps.ix h l h4⟩
theorem Reps.ix {K : PySem.W.Frag} {i j : Ix} {F : Hp} (h : i.m = j.m) : ∀ (l : List Dt) {vs : List V}, Reps K i F l vs → Reps K j F l vs
  | [], _, h => h
  | d :: ds, _, ⟨v, r, h1, h2, h3⟩ => ⟨v, r, h1, Rep.ix h d h2, Reps.ix h ds h3⟩
end
def Ix.at (i : Ix) (x : Addr) : Ix := { i with o := x }
theorem MR.at {i : Ix} {s : MS} {H : Hp} {x : Addr} (h : MR i s H) : MR (i.at x) s H := ⟨h.hm, h.hc, h.hg, h.cc, h.gl, h.ne, h.n0, h.tb, h.tq⟩
theorem MR.un {i : Ix} {s : MS} {H : Hp} {x : Addr} (h : MR (i.at x) s H) : MR i s H := ⟨h.hm, h.hc, h.hg, h.cc, h.gl, h.ne, h.n0, h.tb, h.tq⟩
theorem Ext.un {i : Ix} {F H F' H' : Hp} {x : Addr} (h : Ext (i.at x) F H F' H') : Ext i F H F' H' := ⟨h.ff, h.fh, h.sb, h.nw, h.al⟩
section
variable {X : Cx} {CX : CXT} {k : Nat} {f C : Addr} {fd : FuncData} {ps : List Str} {sp : Sp} {E : XK} {x m : Str} {p pos apos : Pos} {e o : Expr} {es : List Expr} {ta : TE} {t : TA}
theorem run_makeX {pins : List (Addr × Obj)} {σ : L2.St} {H : Hp} {s : Shared} {Q : VK} {us : List Value} {vs : List V} (M : Mk X.K C f) (F : FnX X.prog X.w X.K X.mg X.base CX k f fd ps sp) (hgu : X.A.guards = some []) (hr : Room (k + 1) X.A) (hb : Binds X.K fd ps [])
    (hx : Passes CX X E) (I : Inv X pins σ H s) (r : Vals vs us)
    (h : ∀ x dx, H x = none → H dx = none → dx ≠ x → sp (.ref x :: vs) (upd (upd H dx (.own x)) x (.ins C dx [])) (fun v H2 => v = .non ∧ Q (.ref x) H2) E) :
    wpAny (model X.prog X.w) X.A (call (.ref C) us) (EP X pins σ Q) X.xe s := by
  have hq := h (s.heap.objs.size + 1) s.heap.objs.size (I.hok.fresh (Nat.le_succ _)) (I.hok.fresh (Nat.le_refl _)) (Nat.ne_of_lt (Nat.lt_succ_self _))
  have I2 := Inv.made (C := C) I
  have r2 : Vals (V.ref (s.heap.objs.size + 1) :: vs) (Value.ref (s.heap.objs.size + 1) :: us) := .cons rfl r
  have hl : ((Value.ref (s.heap.objs.size + 1) :: us) ++ []).length = ps.length := by
    have e := r2.length
    rw [F.len _ _ _ _ hq] at e
    rw [List.append_nil]
    exact e.symm
  have b0 := hb _ (Value.ref (s.heap.objs.size + 1) :: us) I2.kIn hl
  rw [List.append_nil] at b0
  have hg2 : (X.A.under (.builtin "type.__call__" ⟨.ref C :: us, []⟩)).guards = some [] := by
    first
      | exact hgu
      | (simp [Around.under, Code.isGuard, guardIds]; exact hgu)
      | simpa [Around.under] using hgu
  refine wpAny_call (make_map (f := f) I.kIn M.makes M.init (beq_iff_eq.mp M.fn) (codeAny_mono (F.run _ X.stack _ _ ⟨Value.ref (s.heap.objs.size + 1) :: us, []⟩ (Value.ref (s.heap.objs.size + 1) :: us) _ _ E hg2 (hr.make C us [])
    (I2.env0.make C us []) b0 r2 hq) fun r s' hq' => ?_))
  cases r with
  | error e => exact hx pins σ _ _ e s' I2 hq'
  | ok fl =>
    cases fl with
    | ret u =>
      obtain ⟨v, H', I3, rv, ev, q3⟩ := I2.after hq'
      subst ev
      exact ⟨rv, ⟨V.ref (s.heap.objs.size + 1), H', I3, rfl, q3⟩⟩
    | next => exact False.elim hq'
    | brk => exact False.elim hq'
    | cont => exact False.elim hq'
theorem pe_makeX (M : Mk X.K C f) (F : FnX X.prog X.w X.K X.mg X.base CX k f fd ps sp) (hgu : X.A.guards = some []) (hr : Room (k + 1) X.A) (hg : Gl X x) (hm : X.mg x = some (.ref C)) (hb : Binds X.K fd ps []) (hx : Passes CX X E)
    (ha : PA X (e :: es) t) (hdb : (x == ("__debug__" : Str)) = false := by decide) (he : starEach (e :: es) X.env = (false, eval e X.env) :: starEach es X.env := by rfl) (hpl : (backTo pos (starEach es X.env)).any (·.1) = false := by rfl) :
    PE X (.Call (.Name x p) (e :: es) [] pos) (tMake C sp [] E t) := by
  refine ⟨fun pins s σ H Q I h => ?_⟩
  refine wpAny_Call_Name_kw (ld_glob I hg hm ?_ hdb)
  refine PySem.W.callWith_K (h₀ := X.base) I.ok.mod.kin M.kp (thn (ha.run pos pins s σ H _ I h) fun us s1 ⟨vs, H1, I1, r, q⟩ => ⟨I1.kIn, ?_⟩) he hpl
  exact run_makeX M F hgu hr hb hx I1 r fun x dx h1 h2 h3 => by have z := q x dx h1 h2 h3; rw [List.append_nil] at z; exact z
def objR : R → M R
  | .val (.obj C ns l) => M.ret (.val (.obj C ns l))
  | _ => M.no
def cMake (n : Nat) (fa : List Sl → M (List Dt)) (sem : List Dt → M R) : List Sl → M R := fun δ => M.bnd (fa δ) fun ds => if ds.length + 1 = n then M.bnd (sem ds) objR else M.no
theorem de_make {sem : List Dt → M R} {fa : List Sl → M (List Dt)} (T : MkD X.prog X.w X.K X.mg X.base x C ps k sem) (hgu : X.A.guards = some []) (hr : Room (k + 1) X.A) (px : Passes (L2.CX X.prog X.w) X E) (ha : DA X E (e :: es) fa) (hg : Gl X x := by rfl)
    (hdb : (x == ("__debug__" : Str)) = false := by decide) (he : starEach (e :: es) X.env = (false, eval e X.env) :: starEach es X.env := by rfl) (hpl : (backTo pos (starEach es X.env)).any (·.1) = false := by rfl) :
    DE X E (.Call (.Name x p) (e :: es) [] pos) (cMake ps.length fa sem) := by
  obtain ⟨f, fd, M, hb, F⟩ := T.ex
  obtain ⟨t, pt, jt⟩ := ha
  refine ⟨_, pe_makeX M F hgu hr hg T.g hb px pt hdb he hpl, fun i F0 H0 F1 H σ δ s Q S q => jt.use S q fun ds s1 vs F2 H2 e0 x1 S1 r1 q1 => ?_⟩
  obtain ⟨hl, q1⟩ := ok_if q1
  intro y dy h1 h2 h3
  have r1 : Reps X.K i F2 ds vs := r1
  refine ⟨i.at y, F2, s1, ds, y, dy, vs, H2, by rw [List.append_nil], rfl, h1, h2, h3, rfl, ⟨S1.wf.fh, S1.wf.gf, S1.wf.mr.at⟩, Reps.ix (j := i.at y) (show i.m = (i.at y).m from rfl) ds r1, hl, ?_⟩
  unfold DL.M.bnd at q1
  cases e1 : sem ds s1 with
  | no => rw [e1] at q1; exact q1.elim
  | ex a b =>
    rw [e1] at q1
    intro F' H' x' m'
    have := q1 F' H' x'.un m'.un
    unfold ExOk at this ⊢
    cases hf : a.f with
    | none => rw [hf] at this; exact this
    | some z =>
      rw [hf] at this
      exact fun v dx r hd => this v dx (Rep.ix (j := i) (show (i.at y).m = i.m from rfl) _ r) hd
  | ok r s2 =>
    rw [e1] at q1
    cases r with
    | new l => exact q1.elim
    | val d =>
      cases d <;> first | exact q1.elim | skip
      rename_i C' ns l
      refine ⟨C', ns, l, rfl, fun F' H' dx gs x' m' g1 g2 g3 g4 => ⟨rfl, q1 _ (upd F' y (.ins C' dx gs)) H' (x'.un.know h1 g1 g2) m'.un ?_⟩⟩
      have sf : Same F' (upd F' y (.ins C' dx gs)) := same_know g2
      exact ⟨y, dx, gs, rfl, upd_same, g3, Reps.ix (j := i) (show (i.at y).m = i.m from rfl) _ (Reps.same sf _ g4)⟩
end
def kdOf : Nat → Option Kd
  | 0 => some Kd.size
  | 1 => some Kd.letters
  | 2 => some Kd.index
  | 3 => some Kd.number
  | 4 => some Kd.deed
  | 5 => some Kd.table
  | 6 => some Kd.move
  | 7 => some Kd.shape
  | 8 => some Kd.stuck
  | 9 => some Kd.great
  | _ => none
def heardX (e : Eca) (U : Kd → Bool) (x : Exn) : Option Dt := match kdOf x.tag, x.f with
  | some k, some (f, d) => if U k = true ∧ x.C = e.of k ∧ f = k.field then some (.tup [.str k.word, d]) else none
  | _, _ => none
def heardR (e : Eca) (U : Kd → Bool) : Rs R → Rs R
  | .ok r s => .ok (.new [r.d]) s
  | .ex x s => (match heardX e U x with
    | some d => .ok (.val d) s
    | none => .no)
  | .no => .no
def tabOk (P : Addr) (q : Str) (T : List (Addr × Str)) : Prop := (P, q) ∈ T ∧ ∀ p ∈ T, p.1 = P → p.2 = q
open Classical in
noncomputable def cHeard (e : Eca) (U : Kd → Bool) (P : Addr) (q : Str) (f : List Sl → M R) : List Sl → M R := fun δ s => if tabOk P q s.tabs then heardR e U (f δ s) else .no
end DL
namespace LwE
open PySem PySem.Spec PyProof.Rows L2 LamX
structure LamY (sc scope : Scope) (y0 : Str) : Prop where
  kind : scope.kind = .function
  co : scope.isCoroutine = false
  gen : scope.isGenerator = false
  own : ∀ y ∈ scope.names, y.2 ≠ .cell ∧ (y.2 = .local → y.1 = y0)
  loc : scope.names.lookup y0 = some .local
  free : ∀ y ∈ scope.names, y.2 = .free → sc.names.lookup y.1 = some .cell ∨ sc.names.lookup y.1 = some .free
section
variable {X : Cx} {pins : List (Addr × Obj)} {σ : L2.St} {H HZ : Hp} {s s1 : Shared}
theorem LamY.has {scope : Scope} {y0 : Str} (L : LamY X.env.scope scope y0) (ok : X.Ok) : ∀ y ∈ scope.names, y.2 = .free → ∃ c, X.env.cells.lookup y.1 = some c := by
  intro y hy e
  exact (L.free y hy e).elim (fun z => ok.has _ (.inl z)) fun z => ok.has _ (.inr z)
end
end LwE
namespace LwE
open PySem PySem.Spec PyProof.Rows L2 LamX
end LwE
namespace LwE
open PySem PySem.Spec PyProof.Rows L2 LamX Lw
section
variable {X : Cx} {pins : List (Addr × Obj)} {σ : L2.St} {H : Hp} {s : Shared}
set_option maxHeartbeats 1000000 in
end
end LwE
namespace DL
open PySem PySem.Spec PyProof.Rows L2 LwE LamX Lw
def KeepB (P : Addr) (H H' : Hp) : Prop := ∀ b o, H b = some o → b ≠ P → H' b = some o
section
variable {X : Cx} {pins : List (Addr × Obj)} {σ : L2.St} {H : Hp} {s : Shared}
theorem far_stack (I : Inv X pins σ H s) {f : Addr} (hf : s.heap.objs.size ≤ f) : f ∉ frs X.stack := by
  intro hz
  rcases List.mem_cons.mp (I.stkSub _ hz) with e | e
  · have hlt := I.lt
    rw [← e] at hlt
    exact Nat.lt_irrefl _ (Nat.lt_of_lt_of_le hlt hf)
  · exact I.nofs hf e
theorem tabs_row {T : List (Addr × Str)} {P c' : Addr} {q : Str} {ps : Array Value} {pos : Pos} (hP : H P = some (.tbl ps)) (hm : (P, q) ∈ T) (hu : ∀ p ∈ T, p.1 = P → p.2 = q) (hT : Tabs T H) (nC : H c' = none) :
    KeepB P H (upd (upd H P (.tbl (ps ++ #[rawInt pos.line, rawInt pos.col, .ref c']))) c' (CodeO c' q)) ∧ Tabs T (upd (upd H P (.tbl (ps ++ #[rawInt pos.line, rawInt pos.col, .ref c']))) c' (CodeO c' q)) := by
  have kb : KeepB P H (upd (upd H P (.tbl (ps ++ #[rawInt pos.line, rawInt pos.col, .ref c']))) c' (CodeO c' q)) := fun b o e nb => by
    rw [upd_ne (ne_of_none e nC), upd_ne nb]
    exact e
  have codeP : ∀ {c q'}, H c = some (CodeO c q') → c ≠ P := fun e z => by
    rw [z, hP] at e
    exact codeO_ne ps (Option.some.inj e).symm
  obtain ⟨ps0, z0, ht, ha⟩ := hT _ hm
  have z0 : H P = some (.tbl ps0) := z0
  rw [hP] at z0
  cases z0
  refine ⟨kb, fun p hp => ?_⟩
  by_cases hb : p.1 = P
  · rw [hu p hp hb, hb]
    have eL : (ps ++ #[rawInt pos.line, rawInt pos.col, .ref c']).toList = ps.toList ++ [rawInt pos.line, rawInt pos.col, .ref c'] := by simp
    refine ⟨_, by rw [upd_ne (ne_of_none hP nC), upd_same], by rw [eL]; exact PySem.TriplesOk_snoc _ _ _ _ ht, fun p' cv hcv => ?_⟩
    rw [eL] at hcv
    rcases among_app _ ht hcv with w | w
    · obtain ⟨k, k1, k2⟩ := ha p' cv w
      exact ⟨k, k1, kb _ _ k2 (codeP k2)⟩
    · exact ⟨c', w, upd_same⟩
  · obtain ⟨ps', a1, a2, a3⟩ := hT p hp
    refine ⟨ps', kb _ _ a1 hb, a2, fun p' cv hcv => ?_⟩
    obtain ⟨k, k1, k2⟩ := a3 p' cv hcv
    exact ⟨k, k1, kb _ _ k2 (codeP k2)⟩
theorem lamK_make {T : List (Addr × Str)} {c P : Addr} {params : Arguments} {body : Expr} {scope : Scope} {pos : Pos} {E : Value → Shared → Prop} {Q : Value → Shared → Prop} (I : Inv X pins σ H s) (TB : TabB X.base X.mg c P) (hcode : X.env.code = .ref c)
    (hm : (P, X.env.qual ++ "<lambda>") ∈ T) (hu : ∀ p ∈ T, p.1 = P → p.2 = X.env.qual ++ "<lambda>") (hT : Tabs T H) (hdef : defaultsOf params X.env = ([], [])) (hfree : ∀ y ∈ scope.names, y.2 = .free → ∃ c, X.env.cells.lookup y.1 = some c)
    (h : ∀ (f c' : Addr) (pm ctv : Value) (H1 : Hp) (s' : Shared), Inv X pins σ H1 s' → KeepB P H H1 → Tabs T H1 →
      s'.heap.get? f = some (PySem.W.kla_obj "<lambda>" (X.env.qual ++ "<lambda>") params body scope (cloFrom X.env.cells scope.names []) pm c' ctv) → H1 f = none → f ∉ frs X.stack → H1 c' = some (CodeO c' (X.env.qual ++ "<lambda>")) → Q (.ref f) s') :
    wpAny (model X.prog X.w) X.A (eval (.Lambda params body scope pos) X.env) Q E s := by
  have tabP := hT _ hm
  obtain ⟨ps, hP, ht, ha⟩ := tabP
  have at_P : s.heap.get? P = some { cls := .none, data := .fields ps } := I.hok P _ hP
  have bltP : s.heap.BuiltinsAt X.mg P := TB.bm.keeps I.bk
  refine PySem.W.kla_eval hdef ?_
  cases hc : codeAmong pos ps.toList with
  | some cv =>
    obtain ⟨c', e, hco⟩ := ha pos cv hc
    subst e
    refine PySem.W.kla_makeFunctionHit (mg := X.mg) (c := c) (P := P) (ps := ps) (closure_ok hfree) I.ok.glob (I.mod.glob.keeps I.bk) hcode (TB.code.keeps I.bk) at_P ht hc bltP ?_
    intro ctv h' tk hx hsz
    have I3 : Inv X pins σ H { s with heap := h'.push (PySem.W.kla_obj "<lambda>" (X.env.qual ++ "<lambda>") params body scope (cloFrom X.env.cells scope.names []) ((X.mg "__name__").getD .none) c' ctv), toks := tk } :=
      I.kept fun b o e => Heap.get?_push_of_some _ (hx b o e)
    exact h _ c' _ ctv H _ I3 (fun _ _ e _ => e) hT (Heap.get?_push_size _ rfl) (I.hok.fresh hsz) (far_stack I hsz) hco
  | none =>
    refine PySem.W.kla_makeFunction (mg := X.mg) (c := c) (P := P) (ps := ps) (closure_ok hfree) I.ok.glob (I.mod.glob.keeps I.bk) hcode (TB.code.keeps I.bk) at_P ht hc TB.gP bltP ?_
    intro c' ctv h' tk hx hge hlt hrec htb
    obtain ⟨c2, oc, vs, t2, q2, hoc, hd, hv⟩ := hrec
    cases q2
    have le2 : s.heap.objs.size ≤ h'.objs.size := Nat.le_trans hge (Nat.le_of_lt hlt)
    have nC : H c' = none := I.hok.fresh hge
    obtain ⟨kb, tb⟩ := tabs_row (pos := pos) hP hm hu hT nC
    have I3 := inv_table (t' := tk) (more := #[rawInt pos.line, rawInt pos.col, .ref c'])
      (h' := h'.push (PySem.W.kla_obj "<lambda>" (X.env.qual ++ "<lambda>") params body scope (cloFrom X.env.cells scope.names []) ((X.mg "__name__").getD .none) c' ctv)) I hP
      (fun b o nb e => Heap.get?_push_of_some _ (hx b o nb e)) (Heap.get?_push_of_some _ htb) hge ⟨oc, vs, t2, Heap.get?_push_of_some _ hoc, hd, hv⟩
    refine h _ c' _ ctv _ _ I3 kb tb (Heap.get?_push_size _ rfl) ?_ (far_stack I le2) upd_same
    have nf1 : h'.objs.size ≠ c' := Nat.ne_of_gt hlt
    have nf2 : h'.objs.size ≠ P := Nat.ne_of_gt (Nat.lt_of_lt_of_le (Heap.lt_size at_P) le2)
    rw [upd_ne nf1, upd_ne nf2]
    exact I.hok.fresh le2
theorem pe_actK {Ng : List Str} {qg : Str} {sg : Scope} {g f c' : Addr} {cdg pm ctv : Value} {params : Arguments} {body : Expr} {scope : Scope} {k : Nat} {a : Str} {pn : List (Addr × Obj)} {xe : Value → Shared → Prop} {W : WX} {E : XK} {tb : TE} {p1 p2 : Pos}
    (I : Inv X pins σ H s) (L : LamS X.env.scope scope) (hf : s.heap.get? f = some (PySem.W.kla_obj "<lambda>" (X.env.qual ++ "<lambda>") params body scope (cloFrom X.env.cells scope.names []) pm c' ctv)) (hfn : H f = none) (hfr : f ∉ frs X.stack)
    (hbind : bindArgs (PySem.W.kla_fn "<lambda>" (X.env.qual ++ "<lambda>") params body scope (cloFrom X.env.cells scope.names []) pm (.ref c') ctv) ⟨[], []⟩ = pure [])
    (tk : Takes ((cxOf C8.CX0 X.prog X.w X.K X.mg X.base Ng qg sg g cdg X.A X.stack s H C8.E0).tr pn xe) W) (hW : ∀ cls d σ' H', E cls d H' → W cls d σ' H') (hr : Room (k + 1) (X.A.deeper (envOfC qg sg s.heap.objs.size g cdg)))
    (hbody : ∀ (A : Around) (outer : List Env) (s : Shared) (H : Hp), A.guards = X.A.guards → Room k (A.deeper (lamEnv X scope s.heap.objs.size f c')) → PE (lamCx X A outer s H E scope f c') body tb)
    (hN : Ng[0]? = some a) (hv : Vis sg a) (hd : (a == ("__debug__" : Str)) = false) (hcd : (a == ("__classdict__" : Str)) = false) :
    PE ((cxOf C8.CX0 X.prog X.w X.K X.mg X.base Ng qg sg g cdg X.A X.stack s H C8.E0).tr pn xe) (.Call (.Name a p1) [] [] p2)
      (fun σZ HZ Q => σZ[0]? = some (some (.ref f)) ∧ HZ c' = some (CodeO c' (X.env.qual ++ "<lambda>")) ∧ tb σ HZ Q) := by
  refine ⟨fun pinsZ sZ σZ HZ Q IZ ⟨hs, hc, ht⟩ => ?_⟩
  refine wpAny_Call_Name_kw (thn ((pe_var (pos := p1) (i := 0) hN hv hd hcd).run pinsZ sZ σZ HZ (fun v H1 => v = .ref f ∧ H1 = HZ) IZ ⟨.ref f, hs, rfl, rfl⟩) ?_)
  rintro u s1 ⟨v, H1, I1, r1, rfl, rfl⟩
  obtain rfl : u = Value.ref f := r1
  have f1 := I1.base.keep f _ hf hfn hfr fun w => nomatch (show f ∈ ([] : List Addr) from w)
  refine PySem.W.callWith_F0 ⟨_, _, _, _, f1⟩ ?_
  have un : Un (frs X.stack) [] H H1 s.heap s1.heap := I1.base
  obtain ⟨⟨oc, vs, tq, hoc, hdc, hvc⟩, _, _⟩ := I1.hok c' _ hc
  have run : codeAny (model X.prog X.w) (X.A.deeper (envOfC qg sg s.heap.objs.size g cdg)) (.call (.ref f) ⟨[], []⟩)
      (CR (L2.CX X.prog X.w) (envOfC qg sg s.heap.objs.size g cdg :: X.stack) X.prog X.w H1 s1 Q E) s1 := by
    refine PySem.W.kla_callFunE hr.depth f1 rfl L.co L.gen rfl ⟨c', oc, vs, tq, rfl, hoc, hdc, hvc⟩ ?_
    rw [hbind]
    refine wpAny_pure (wpAny_newFunctionEnv (fun y hy => (L.own y hy).2) (fun y hy => absurd hy (by simp)) (fun h₁ hns hsb => ⟨I1.nolimit.fresh _ hsb, ?_⟩) L.kind)
    show codeAny _ _ (.expr body (lamEnv X scope s1.heap.objs.size f c')) _ _
    have kp : ∀ b o, s1.heap.get? b = some o → h₁.get? b = some o := fun b o e => hsb.extBut b o (Nat.ne_of_lt (Heap.lt_size e)) (Heap.get?_push_of_some _ e)
    have J' : Inv (lamCx X (X.A.deeper (envOfC qg sg s.heap.objs.size g cdg)) (envOfC qg sg s.heap.objs.size g cdg :: X.stack) s1 H1 E scope f c') [] σ H1 { s1 with heap := h₁, toks := s1.toks + ([] : List (Str × Value)).length } :=
      lam_start2 I L I1.env0 hr.hd un hns kp
    refine PySem.W.kla_codeExpr (wpAny_mono ((hbody (X.A.deeper (envOfC qg sg s.heap.objs.size g cdg)) _ s1 H1 rfl (hr.deeper _)).run [] _ _ H1 Q J' ht) ?_ fun e s' q => q)
    rintro v s' ⟨w', H', J', rv, q⟩
    exact ⟨w', H', J'.os, J'.bare, J'.base, J'.hok, rv, q⟩
  have out : Passes (L2.CX X.prog X.w) ((cxOf C8.CX0 X.prog X.w X.K X.mg X.base Ng qg sg g cdg X.A X.stack s H C8.E0).tr pn xe) E := passes_call tk hW
  refine wpAny_call (codeAny_mono run ?_)
  intro r s' q
  cases r with
  | error e => exact out pinsZ σZ H1 s1 e s' I1 q
  | ok fl =>
    cases fl with
    | ret u => exact I1.after q
    | next => exact False.elim q
    | brk => exact False.elim q
    | cont => exact False.elim q
end
def tLamK (P : Addr) (q : Str) (TT : (XK → Hp → VK → Prop) → Hp → VK → Prop) (t : XK → TE) : TE := fun σ H Q => ∃ T : List (Addr × Str), (P, q) ∈ T ∧ (∀ p ∈ T, p.1 = P → p.2 = q) ∧ Tabs T H ∧ ∀ H1, KeepB P H H1 → Tabs T H1 → TT (fun E H' Q' => t E σ H' Q') H1 Q
theorem pe_giveK {X : Cx} {x a : Str} {st : Stmt} {g c Pt : Addr} {fd : FuncData} {k : Nat} {Ng : List Str} {TT : (XK → Hp → VK → Prop) → Hp → VK → Prop} {params : Arguments} {body : Expr} {scope : Scope} {t : XK → TE} {p lpos pos : Pos}
    (FH : Fun X.K x x st g fd) (hmg : X.mg x = some (.ref g)) (bH : L2.Binds X.K fd [a] []) (Sg : FnScope Ng [a] (defScope st)) (hN : Ng[0]? = some a) (hv : Vis (defScope st) a) (hG : ∀ cdv, GivesTo X Ng x (defScope st) g cdv (defBody st) a (X.env.qual ++ "<lambda>") TT)
    (TB : TabB X.base X.mg c Pt) (hcode : X.env.code = .ref c) (hr : Room (k + 2) X.A) (hg : Gl X x) (L : LamS X.env.scope scope) (hdef : defaultsOf params X.env = ([], []))
    (hbind : ∀ (q : Str) (cl : List (Str × Addr)) (pm cv ctv : Value), bindArgs (PySem.W.kla_fn "<lambda>" q params body scope cl pm cv ctv) ⟨[], []⟩ = pure [])
    (hbody : ∀ (A : Around) (outer : List Env) (s : Shared) (H : Hp) (E : XK) (f c' : Addr), A.guards = X.A.guards → Room k (A.deeper (lamEnv X scope s.heap.objs.size f c')) → PE (lamCx X A outer s H E scope f c') body (t E))
    (hdb : (x == ("__debug__" : Str)) = false := by decide) (hd : (a == ("__debug__" : Str)) = false := by decide) (hcd : (a == ("__classdict__" : Str)) = false := by decide) :
    PE X (.Call (.Name x p) [.Lambda params body scope lpos] [] pos) (tLamK Pt (X.env.qual ++ "<lambda>") TT t) := by
  obtain ⟨oc, od, kV, doc, pm, an, cdv, ct, osl, rfl, lk, hcdv⟩ := FH.ex
  refine ⟨fun pins s σ H Q I ⟨T, hm, hu, hT, h⟩ => ?_⟩
  refine wpAny_Call_Name_kw (ld_glob I hg hmg ?_ hdb)
  refine PySem.W.callWith_K (h₀ := X.base) I.ok.mod.kin FH.kp ?_ (by rfl) (by rfl)
  show wpAny _ _ (spliced ((false, eval (.Lambda params body scope lpos) X.env) :: backTo pos (starEach [] X.env))) _ _ s
  refine Calls.spliced_cons (lamK_make I TB hcode hm hu hT hdef (L.has I.ok) ?_)
  intro f c' pm' ctv H1 s' I1 eN T1 hf hfn hfr hco
  refine Calls.spliced_nil ⟨I1.kIn, ?_⟩
  have run : codeAny (model X.prog X.w) X.A (.call (.ref g) ⟨[.ref f], []⟩) (CR C8.CX0 X.stack X.prog X.w H1 s' Q C8.E0) s' := by
    refine run_ofS (N := Ng) (ps := [a]) (us := [.ref f]) (vs := [.ref f]) lk hcdv Sg hr I1.env0 (bH s' [.ref f] I1.kIn rfl) (.cons rfl .nil) rfl fun hr' => ?_
    obtain ⟨t', ht', hq'⟩ := hG cdv f c' s' H1 Q (fun E H' Q' => t E σ H' Q')
      (fun W pn xe E p1 p2 tk hW => pe_actK I1 L hf hfn hfr (hbind _ _ _ _ _) tk hW hr' (fun A outer s H hgu hr2 => hbody A outer s H E f c' hgu hr2) hN hv hd hcd) hco (h H1 eN T1)
    exact ⟨t', ht'.nox, hq'⟩
  refine wpAny_call (codeAny_mono run ?_)
  intro r s2 q
  cases r with
  | error e => exact (show False from q).elim
  | ok fl =>
    cases fl with
    | ret u => exact I1.after q
    | next => exact False.elim q
    | brk => exact False.elim q
    | cont => exact False.elim q
end DL
namespace DL
open PySem PySem.Spec PyProof.Rows L2 LwE LamX Lw
theorem ext_keepB {i : Ix} {s : MS} {F H H1 : Hp} {P : Addr} (W : Wf i s F H) (g : G i P) (x : KeepB P H H1) (t : Tabs i.T H1) (hP : P ∈ i.T.map Prod.fst) : Ext i F H F H1 ∧ MR i s H1 := by
  have neF : ∀ {b o}, F b = some o → b ≠ P := fun e => ne_of_none e (W.gf P g)
  obtain ⟨q, hq, eq⟩ := List.mem_map.mp hP
  have tP : H1 P ≠ none := by
    obtain ⟨ps, e, _⟩ := t q hq
    rw [← eq, e]
    exact fun z => nomatch z
  have hPt : ∃ ps, H P = some (.tbl ps) := by
    obtain ⟨ps, e, _⟩ := W.mr.tb q hq
    exact ⟨ps, by rw [← eq]; exact e⟩
  obtain ⟨ps, hPt⟩ := hPt
  have ne : ∀ {b o}, H b = some o → (∀ ps, o ≠ .tbl ps) → b ≠ P := fun e n z => by
    subst z
    rw [hPt] at e
    exact n ps (Option.some.inj e).symm
  refine ⟨⟨Same.refl _, fun b o e => x _ _ (W.fh _ _ e) (neF e), fun b o e gb => x _ _ e fun z => gb (z ▸ g), fun _ _ n => n, fun b e => ?_⟩,
    ⟨x _ _ W.mr.hm (ne W.mr.hm fun _ z => nomatch z), x _ _ W.mr.hc (ne W.mr.hc fun _ z => nomatch z), x _ _ W.mr.hg (ne W.mr.hg fun _ z => nomatch z), W.mr.cc, W.mr.gl, W.mr.ne, W.mr.n0, t, W.mr.tq⟩⟩
  by_cases hb : b = P
  · rw [hb]; exact tP
  · cases z : H b with
    | none => exact absurd z e
    | some o => rw [x _ _ z hb]; exact fun z => nomatch z
theorem heard_j {K : PySem.W.Frag} {E : XK} {e : Eca} {U : Kd → Bool} {P : Addr} {q : Str} {t : XK → TE} {f : List Sl → M R} (EK : ∀ k, U k = true → Ek K e k) (jt : ∀ E', J kR K E' (t E') f) : J kR K E (tLamK P q (TTheard K e) t) (cHeard e U P q f) := fun i F0 H0 F H σ δ s Q S qq => by
  unfold cHeard at qq
  by_cases ht : tabOk P q s.tabs
  rotate_left
  · rw [if_neg ht] at qq
    exact qq.elim
  rw [if_pos ht] at qq
  obtain ⟨h1, h2⟩ := ht
  have tq := S.wf.mr.tq
  rw [← tq] at h1 h2
  have gP : G i P := .inr (.inr (.inr ⟨_, h1, rfl⟩))
  refine ⟨i.T, h1, h2, S.wf.mr.tb, fun H1 kb T1 l hl => ?_⟩
  obtain ⟨x1, m1⟩ := ext_keepB S.wf gP kb T1 (List.mem_map.mpr ⟨_, h1, rfl⟩)
  have S1 := S.ext x1 m1
  have x2 : Ext i F H1 F (upd H1 l (.lst [])) := ext_new S1.wf.fh hl
  have S2 := S1.ext x2 (mr_new m1 hl)
  have q2 := qq.later (x1.trans x2)
  refine jt _ i F0 H0 F _ σ δ s _ S2 ?_
  cases ef : f δ s with
  | no => rw [ef] at q2; exact q2.elim
  | ok r s' =>
    rw [ef] at q2
    intro v F3 H3 x3 m3 r3
    obtain ⟨F4, x4, _, r4⟩ := RepR.freeze r3 x3
    intro p hp
    refine q2 _ F4 _ (x4.trans (ext_new x4.fh hp)) (mr_new m3 hp) ⟨p, [v], rfl, upd_same, x4.fh.free hp, ?_, .cons r4 .nil⟩
    cases z : upd H1 l (.lst []) p with
    | none => rfl
    | some o => exact absurd hp (x4.al p (by rw [z]; exact fun z => nomatch z))
  | ex a s' =>
    rw [ef] at q2
    intro F3 H3 x3 m3
    unfold heardR at q2
    cases eh : heardX e U a with
    | none => simp only [eh] at q2; exact q2.elim
    | some d =>
      simp only [eh] at q2
      unfold heardX at eh
      cases ek : kdOf a.tag with
      | none => rw [ek] at eh; cases eh
      | some k =>
        cases efl : a.f with
        | none => rw [ek, efl] at eh; cases eh
        | some z =>
          obtain ⟨fl, dd⟩ := z
          rw [ek, efl] at eh
          by_cases hc : U k = true ∧ a.C = e.of k ∧ fl = k.field
          rotate_left
          · simp only [if_neg hc] at eh
            cases eh
          simp only [if_pos hc] at eh
          cases eh
          obtain ⟨hU, hc1, hc2⟩ := hc
          subst hc2
          unfold ExOk
          rw [efl, hc1]
          intro v dx rv hdx
          have sdx : Same H3 (upd H3 dx (.xd [(k.field, v)])) := same_know hdx
          refine ⟨k, dx, v, EK k hU, rfl, rfl, upd_same, fun p H5 s5 np hp => ?_⟩
          have s35 : Same H3 H5 := sdx.trans s5
          have hp3 : H3 p = none := sdx.free np
          have f3 : F3 p = none := x3.fh.free hp3
          have x5 : Ext i F3 H3 (upd F3 p (.tup [.str k.word, v])) H5 := (Ext.same x3.fh s35).know hp3 hp f3
          exact q2 (.ref p) _ H5 (x3.trans x5) (m3.sm s35) ⟨p, _, rfl, .inl (.inl upd_same), .cons rfl (.cons (Rep.same (same_know f3) _ rv) .nil)⟩
end DL
namespace LwE
open PySem PySem.Spec PyProof.Rows L2
section
variable {X : Cx} {pins : List (Addr × Obj)} {σ : L2.St} {H : Hp} {s : Shared} {k : Nat} {f C : Addr} {fd : FuncData} {ps : List Str} {sp : Sp}
theorem inst_of {dx a : Addr} {fs : List (Str × V)} (I : Inv X pins σ H s) (e : H a = some (.ins C dx fs)) : ∃ ox od, PySem.W.InstAt s.heap a ox C (some od) := by
  obtain ⟨mA, O, _⟩ := ins_get I.hok e
  obtain ⟨od, J, _⟩ := O.look
  exact ⟨_, od, J⟩
theorem bound_slot {M : Model} {A : Around} {E : Value → Shared → Prop} {K : PySem.W.Frag} {x : Addr} {ox : Obj} {od : Option Obj} {name : Str} {B id : String} {args : List Value} {Q : Option Value → Shared → Prop} (Xk : K.In s.heap) (I : PySem.W.InstAt s.heap x ox C od)
    (hs : PySem.W.findIn K (.ref C) name = some (some (.builtin id))) (S : Slot B name id) (h : wpAny M A (call (.builtin id) (.ref x :: args)) (fun v => Q (some v)) E s) : wpAny M A (callSpecialIfBound? (.ref x) name args) Q E s := by
  simp only [callSpecialIfBound?, bindSpecialIfBound?]
  refine wpAny_holding (wpAny_bind (wpAny_bind (wpAny_bind (I.type.here ((PySem.W.looks_findIn Xk hs).here ?_)))))
  simp only [S.bind]
  refine wpAny_bind (wpAny_askSetting (wpAny_ite ?_))
  have fin : wpAny M A (call (.builtin id) ([.ref x] ++ args) >>= fun v => pure (some v)) Q E s := wpAny_bind (wpAny_mono h (fun v s' z => wpAny_pure z) fun _ _ z => z)
  split
  · exact wpAny_bind (wpAny_pure (wpAny_pure fin))
  · exact wpAny_tryCatch (wpAny_bind (wpAny_pure (wpAny_pure fin)))
end
end LwE
namespace DL
open PySem PySem.Spec PyProof.Rows L2 LwE
inductive Tst where
  | ty (T : String) | own (C : Addr)
def tyV : Tst → V
  | .ty T => .ty T
  | .own C => .ref C
def tyU : Tst → Value
  | .ty T => .type T
  | .own C => .ref C
theorem tyC : ∀ t, ClsV (tyV t) (tyU t)
  | .ty T => .ty T
  | .own C => .own C
theorem tyCs : ∀ ts : List Tst, Paired ClsV (ts.map tyV) (ts.map tyU)
  | [] => .nil
  | t :: ts => .cons (tyC t) (tyCs ts)
def tyN : Dt → Option String
  | .non => some "NoneType"
  | .bl _ => some "bool"
  | .int _ => some "int"
  | .str _ => some "str"
  | .tup _ => some "tuple"
  | .lst _ => some "list"
  | .dK _ _ => some "dict"
  | .dT _ _ => some "dict"
  | _ => none
abbrev nts : List String := ["NoneType", "bool", "int", "str", "tuple", "list", "dict"]
abbrev bts : List String := ["bool", "int", "str", "tuple", "list", "dict"]
theorem tyN_in {d : Dt} {a : String} (h : tyN d = some a) : a ∈ nts := by
  cases d <;> first | (cases h; done) | (cases h; decide)
structure Oc (K : PySem.W.Frag) (C : Addr) : Prop where
  cl : Cls K C
  ca : PySem.W.findIn K (.ref C) "__class__" = some (some (.builtin "object.__class__"))
  cn : PySem.W.specialIn K (.builtin "object.__class__") "__get__" = some (some (.builtin "getset_descriptor.__get__"))
  ct : PySem.W.takesIn K (.builtin "object.__class__") = some true
  cm : PySem.W.mroIn K C (.type "object") = some true
  ic : PySem.W.isClsIn K C = true
  ty : PySem.W.typeIn K (.ref C) = some (.type "type")
  bt : ∀ T ∈ bts, PySem.W.subIn K (.ref C) (.type T) = some false
structure Ocs (K : PySem.W.Frag) (cs : List Addr) : Prop where
  one : ∀ C ∈ cs, Oc K C
  two : ∀ C ∈ cs, ∀ D ∈ cs, C ≠ D → PySem.W.subIn K (.ref C) (.ref D) = some false
def tst1 (cs : List Addr) : Tst → Dt → Option Bool
  | .ty T, d => (match tyN d with
    | some a => kitB a T
    | none => (match d with
      | .obj C _ _ => if C ∈ cs ∧ T ∈ bts then some false else none
      | _ => none))
  | .own C, d => (match tyN d with
    | some _ => if C ∈ cs then some false else none
    | none => (match d with
      | .obj C' _ _ => if C ∈ cs ∧ C' ∈ cs then some (decide (C' = C)) else none
      | _ => none))
def tstA (cs : List Addr) : List Tst → Dt → Option Bool
  | [], _ => some false
  | t :: ts, d => match tst1 cs t d with
    | some true => some true
    | some false => tstA cs ts d
    | none => none
def isiD (cs : List Addr) (ts : List Tst) (d : Dt) : M R := match tstA cs ts d with
  | some b => M.ret (.val (.bl b))
  | none => M.no
theorem kitCls_own {K : PySem.W.Frag} {b : Addr} {t : Value} {r : Bool} (i : PySem.W.isClsIn K b = true) (y : PySem.W.typeIn K (.ref b) = some (.type "type")) (s : PySem.W.subIn K t (.ref b) = some r) : PySem.W.kitCls K t (.ref b) = some r := by
  have c : ((PySem.W.clsIn K b).isSome && PySem.W.typeIn K (.ref b) == some (.type "type")) = true := by
    rw [show (PySem.W.clsIn K b).isSome = true from i, y]
    rfl
  show (if ((PySem.W.clsIn K b).isSome && PySem.W.typeIn K (.ref b) == some (.type "type")) = true then PySem.W.subIn K t (.ref b) else none) = some r
  rw [if_pos c]
  exact s
theorem mro_own {a : String} (h : a ∈ nts) : ∃ l, PySem.fastBuiltinMro a = some l ∧ ∀ C : Addr, l.contains (.ref C) = false := by
  simp only [nts, List.mem_cons, List.not_mem_nil, or_false] at h
  have f1 : PySem.fastBuiltinMro "NoneType" = some [.type "NoneType", .type "object"] := by decide +kernel
  have f2 : PySem.fastBuiltinMro "bool" = some [.type "bool", .type "int", .type "object"] := by decide +kernel
  have f3 : PySem.fastBuiltinMro "int" = some [.type "int", .type "object"] := by decide +kernel
  have f4 : PySem.fastBuiltinMro "str" = some [.type "str", .type "object"] := by decide +kernel
  have f5 : PySem.fastBuiltinMro "tuple" = some [.type "tuple", .type "object"] := by decide +kernel
  have f6 : PySem.fastBuiltinMro "list" = some [.type "list", .type "object"] := by decide +kernel
  have f7 : PySem.fastBuiltinMro "dict" = some [.type "dict", .type "object"] := by decide +kernel
  rcases h with rfl | rfl | rfl | rfl | rfl | rfl | rfl
  · exact ⟨_, f1, fun C => by simp⟩
  · exact ⟨_, f2, fun C => by simp⟩
  · exact ⟨_, f3, fun C => by simp⟩
  · exact ⟨_, f4, fun C => by simp⟩
  · exact ⟨_, f5, fun C => by simp⟩
  · exact ⟨_, f6, fun C => by simp⟩
  · exact ⟨_, f7, fun C => by simp⟩
theorem kit_b_own {K : PySem.W.Frag} {C : Addr} {a : String} (h : a ∈ nts) (o : Oc K C) : PySem.W.kitOne K (.type a) (.ref C) = some false := by
  obtain ⟨l, e, hl⟩ := mro_own h
  unfold PySem.W.kitOne
  rw [if_neg (fun z => by simp at z)]
  refine kitCls_own o.ic o.ty ?_
  show (PySem.fastBuiltinMro a).map (·.contains (.ref C)) = some false
  rw [e]
  show some (l.contains (.ref C)) = some false
  rw [hl]
theorem kit_own_b {K : PySem.W.Frag} {C : Addr} {T : String} (h : T ∈ bts) (o : Oc K C) : PySem.W.kitOne K (.ref C) (.type T) = some false := by
  have m : PySem.W.kitMeta T = true := by
    simp only [bts, List.mem_cons, List.not_mem_nil, or_false] at h
    rcases h with rfl | rfl | rfl | rfl | rfl | rfl <;> decide +kernel
  unfold PySem.W.kitOne
  rw [if_neg (fun z => by simp at z)]
  show (if PySem.W.kitMeta T = true then PySem.W.subIn K (.ref C) (.type T) else none) = some false
  rw [if_pos m]
  exact o.bt T h
theorem kit_own_own {K : PySem.W.Frag} {cs : List Addr} {C D : Addr} (O : Ocs K cs) (hC : C ∈ cs) (hD : D ∈ cs) : PySem.W.kitOne K (.ref C) (.ref D) = some (decide (C = D)) := by
  unfold PySem.W.kitOne
  by_cases e : C = D
  · subst e
    rw [if_pos (by simp), decide_eq_true rfl]
  · rw [if_neg (fun z => e (by simpa using z)), decide_eq_false e]
    exact kitCls_own (O.one D hD).ic (O.one D hD).ty (O.two C hC D hD e)
section
variable {X : Cx} {E : XK} {a b c e : Expr} {es : List Expr} {pos : Pos}
theorem tyx_of {K : PySem.W.Frag} {i : Ix} {F H : Hp} {cs : List Addr} (O : Ocs K cs) (fh : Same F H) {d : Dt} {v : V} (h : View K i F H d v) {t0 : Tst} {r0 : Bool} (e0 : tst1 cs t0 d = some r0) : ∃ w, TyX K H v w ∧ ∀ t r, tst1 cs t d = some r → PySem.W.kitOne K w (tyU t) = some r := by
  have bas : ∀ {a : String}, tyN d = some a → ∀ t r, tst1 cs t d = some r → PySem.W.kitOne K (.type a) (tyU t) = some r := fun {a} ea t r e => by
    cases t with
    | ty T =>
      simp only [tst1, ea] at e
      exact kit_ty e
    | own C =>
      simp only [tst1, ea] at e
      split at e
      · cases e
        exact kit_b_own (tyN_in ea) (O.one C (by assumption))
      · cases e
  rcases h with h | ⟨p, vs, l, rfl, rfl, h1, _, _⟩
  · cases d with
    | non => rw [show v = V.non from h]; exact ⟨_, .base .non, bas rfl⟩
    | bl z => rw [show v = V.bl z from h]; exact ⟨_, .base (.bl _), bas rfl⟩
    | int z => rw [show v = V.int z from h]; exact ⟨_, .base (.int _), bas rfl⟩
    | str z => rw [show v = V.str z from h]; exact ⟨_, .base (.str _), bas rfl⟩
    | drw => cases t0 <;> simp [tst1, tyN] at e0
    | any v => cases t0 <;> simp [tst1, tyN] at e0
    | opq => cases t0 <;> simp [tst1, tyN] at e0
    | scr ns => cases t0 <;> simp [tst1, tyN] at e0
    | exc C f d => cases t0 <;> simp [tst1, tyN] at e0
    | tup l =>
      obtain ⟨p, vs, rfl, h1, _⟩ := h
      rcases h1 with (h1 | ⟨o, h1⟩) | ⟨o, its, n, k1, k2, _⟩
      · exact ⟨_, .base (.tup (fh _ _ h1)), bas rfl⟩
      · exact ⟨_, .fTuple (fh _ _ h1), bas rfl⟩
      · exact ⟨_, .kTuple k1 k2, bas rfl⟩
    | lst l =>
      obtain ⟨p, vs, rfl, h1, _⟩ := h
      exact ⟨_, .base (.lst (fh _ _ h1)), bas rfl⟩
    | dK ks l =>
      obtain ⟨p, vs, rfl, h1, _⟩ := h
      exact ⟨_, .base (.dK (fh _ _ h1)), bas rfl⟩
    | dT ks l =>
      obtain ⟨p, vs, rfl, h1, _⟩ := h
      exact ⟨_, .base (.dT (fh _ _ h1)), bas rfl⟩
    | obj C ns l =>
      obtain ⟨p, dx, gs, rfl, h1, _, _⟩ := h
      have hC : C ∈ cs := by
        cases t0 with
        | ty T =>
          simp only [tst1, tyN] at e0
          split at e0
          · rename_i hc
            exact hc.1
          · cases e0
        | own D =>
          simp only [tst1, tyN] at e0
          split at e0
          · rename_i hc
            exact hc.2
          · cases e0
      have o := O.one C hC
      refine ⟨_, .base (.ins (fh _ _ h1) o.cl o.ca o.cn o.ct o.cm), fun t r e => ?_⟩
      cases t with
      | ty T =>
        simp only [tst1, tyN] at e
        split at e
        · rename_i hc
          cases e
          exact kit_own_b hc.2 o
        · cases e
      | own D =>
        simp only [tst1, tyN] at e
        split at e
        · rename_i hc
          cases e
          exact kit_own_own O hc.2 hc.1
        · cases e
  · exact ⟨_, .base (.lst h1), bas rfl⟩
theorem tstA_hd {cs : List Addr} {t : Tst} {ts : List Tst} {d : Dt} {r : Bool} (e : tstA cs (t :: ts) d = some r) : ∃ b, tst1 cs t d = some b := by
  unfold tstA at e
  cases z : tst1 cs t d with
  | none => rw [z] at e; cases e
  | some b => exact ⟨b, rfl⟩
theorem kits_of {K : PySem.W.Frag} {cs : List Addr} {d : Dt} {w : Value} (k : ∀ t r', tst1 cs t d = some r' → PySem.W.kitOne K w (tyU t) = some r') : ∀ {ts : List Tst} {r : Bool}, tstA cs ts d = some r → PySem.W.kitAny K w (ts.map tyU) = some r
  | [], r, e => by cases e; exact kitAny_nil
  | t :: ts, r, e => by
    unfold tstA at e
    cases z : tst1 cs t d with
    | none => rw [z] at e; cases e
    | some b =>
      rw [z] at e
      cases b with
      | true => cases e; exact kitAny_cons (k t _ z) (fun z => by cases z) fun _ => rfl
      | false => exact kitAny_cons (k t _ z) (fun _ => kits_of k e) fun z => by cases z
def DC (X : Cx) (e : Expr) (t : Tst) : Prop := PE X e (tC (tyV t))
def DCs (X : Cx) (es : List Expr) (ts : List Tst) : Prop := PA X es (fun _ H Q => Q (ts.map tyV) H)
theorem dc_b {x : Str} {T : String} (hm : X.mg x = none) (hg : Gl X x := by rfl) (hv : bootBuiltins x = some (.type T) := by decide +kernel) (hn : x ≠ "__name__" := by decide) (hd : (x == ("__debug__" : Str)) = false := by decide) : DC X (.Name x pos) (.ty T) := pe_bltn (v := .ty T) hg hm hv rfl hn hd
theorem dc_o {x : Str} {C : Addr} (hm : X.mg x = some (.ref C)) (hg : Gl X x := by rfl) (hd : (x == ("__debug__" : Str)) = false := by decide) : DC X (.Name x pos) (.own C) := pe_glob (v := .ref C) hg hm rfl hd
theorem dcs_nil : DCs X [] [] := pa_nil
theorem dcs_cons {t : Tst} {ts : List Tst} (h : DC X e t) (hr : DCs X es ts) (hs : starEach (e :: es) X.env = (false, eval e X.env) :: starEach es X.env := by rfl) : DCs X (e :: es) (t :: ts) := pa_cons h hr hs
theorem de_isi {cs : List Addr} {t : Tst} {f : List Sl → M Dt} {p : Pos} (O : Ocs X.K cs) (ha : DV X E a f) (hc : DC X c t) (hm : X.mg "isinstance" = none) (hg : Gl X "isinstance" := by rfl)
    (hs : starEach [a, c] X.env = (false, eval a X.env) :: starEach [c] X.env := by rfl) (hs2 : starEach [c] X.env = (false, eval c X.env) :: starEach [] X.env := by rfl) (hpl : (backTo pos (starEach [c] X.env)).any (·.1) = false := by rfl) :
    DE X E (.Call (.Name "isinstance" p) [a, c] [] pos) (una f (isiD cs [t])) := by
  obtain ⟨u, pu, ju⟩ := ha
  refine ⟨_, pe_callB call_isi hg hm (by decide +kernel) (pa_cons pu (pa_cons hc pa_nil hs2) hs) (by decide) (by decide) hs hpl, fun i F0 H0 F H σ δ s Q S q => ju.use S q fun d s1 v F1 H1 e0 x1 S1 r1 q1 => ?_⟩
  clear e0
  unfold isiD at q1
  have r1 : View X.K i F1 H1 d v := r1
  cases e1 : tstA cs [t] d with
  | none => rw [e1] at q1; exact q1.elim
  | some b =>
    rw [e1] at q1
    have e2 : tst1 cs t d = some b := by
      unfold tstA at e1
      cases z : tst1 cs t d with
      | none => rw [z] at e1; cases e1
      | some w => cases w <;> rw [z] at e1 <;> exact e1
    obtain ⟨w, h1, h2⟩ := tyx_of O S1.wf.fh r1 e2
    exact ⟨v, tyV t, w, tyU t, b, rfl, tyC t, h1, h2 _ _ e2, q1 _ F1 H1 (.refl S1.wf.fh) S1.wf.mr rfl⟩
theorem de_isiT {cs : List Addr} {t : Tst} {ts : List Tst} {f : List Sl → M Dt} {p p2 : Pos} {k : Nat} (O : Ocs X.K cs) (ha : DV X E a f) (hc : DCs X es (t :: ts)) (hl : ts.length < 1000) (hm : X.mg "isinstance" = none) (hg : Gl X "isinstance" := by rfl)
    (hs : starEach [a, .Tuple es k p2] X.env = (false, eval a X.env) :: starEach [.Tuple es k p2] X.env := by rfl) (hs2 : starEach [.Tuple es k p2] X.env = (false, eval (.Tuple es k p2) X.env) :: starEach [] X.env := by rfl) (hpl : (backTo pos (starEach [.Tuple es k p2] X.env)).any (·.1) = false := by rfl) :
    DE X E (.Call (.Name "isinstance" p) [a, .Tuple es k p2] [] pos) (una f (isiD cs (t :: ts))) := by
  obtain ⟨u, pu, ju⟩ := ha
  refine ⟨_, pe_callB call_isiT hg hm (by decide +kernel) (pa_cons pu (pa_cons (pe_tup hc) pa_nil hs2) hs) (by decide) (by decide) hs hpl, fun i F0 H0 F H σ δ s Q S q => ju.use S q fun d s1 v F1 H1 e0 x1 S1 r1 q1 => ?_⟩
  clear e0
  unfold isiD at q1
  have r1 : View X.K i F1 H1 d v := r1
  cases e1 : tstA cs (t :: ts) d with
  | none => rw [e1] at q1; exact q1.elim
  | some b =>
    rw [e1] at q1
    obtain ⟨b0, e2⟩ := tstA_hd e1
    refine ⟨le_line (by rw [List.length_map, List.length_cons]; omega), fun z hz => ?_⟩
    have x2 : Ext i F1 H1 F1 (upd H1 z (.tup ((t :: ts).map tyV))) := ext_new S1.wf.fh hz
    obtain ⟨w, h1, h2⟩ := tyx_of O x2.fh (r1.ext x2) e2
    exact ⟨v, z, (t :: ts).map tyV, w, (t :: ts).map tyU, b, rfl, upd_same, tyCs _, h1, kits_of h2 e1, q1 _ F1 _ x2 (mr_new S1.wf.mr hz) rfl⟩
end
end DL
namespace DL
open PySem PySem.Spec PyProof.Rows L2 LwE
section
open AutoSeq1 (wpAny_loadPart')
open SeqAt
theorem list_eq_declines_dict (l b : Addr) (items : Array Value) (dt2 : Data) (n : Nat) (dd dd2 : Option Addr) (sl sl2 : Array (Option Value)) :
    Meets (Builtin.«list.__eq__» ⟨[.ref l, .ref b], []⟩) (fun _ R s => s.heap.get? l = some { cls := .type "list", dict := dd, data := .seq items n, slots := sl } ∧ s.heap.get? b = some { cls := .type "dict", dict := dd2, data := dt2, slots := sl2 } ∧ R (.ok (.ret .notImplemented)) s) :=
  .of_wp fun prog w A R s h => by obtain ⟨hp, g, d, tk, os⟩ := s; obtain ⟨hl, hb, h⟩ := h; have f1 := F.sub_dict_list; wp_walk using wpAny_loadPart' hl, wpAny_loadPart' hb; exact ⟨_, rfl, h⟩
theorem list_ne_declines_dict (l b : Addr) (items : Array Value) (dt2 : Data) (n : Nat) (dd dd2 : Option Addr) (sl sl2 : Array (Option Value)) :
    Meets (Builtin.«list.__ne__» ⟨[.ref l, .ref b], []⟩) (fun _ R s => s.heap.get? l = some { cls := .type "list", dict := dd, data := .seq items n, slots := sl } ∧ s.heap.get? b = some { cls := .type "dict", dict := dd2, data := dt2, slots := sl2 } ∧ R (.ok (.ret .notImplemented)) s) :=
  .of_wp fun prog w A R s h => by obtain ⟨hp, g, d, tk, os⟩ := s; obtain ⟨hl, hb, h⟩ := h; have f1 := F.sub_dict_list; wp_walk using wpAny_loadPart' hl, wpAny_loadPart' hb; exact ⟨_, rfl, h⟩
variable {A : Around} {s : Shared}
theorem dict_list_eq {l b : Addr} {ol : Obj} {items : Array Value} (ho : s.heap.get? l = some ol) (hc : ol.cls = .type "dict") (hb : s.heap.IsList b items) (hu : A.units < cLine) : SeqAt.RcAt A s (.ref l) (.ref b) false := fun prog w E Q h => by
  obtain ⟨⟨cls2, dd2, data2, sl2⟩, ho2, hc2, n2, hd2⟩ := id hb
  obtain ⟨cls, dd, data, sl⟩ := ol
  simp only at hc hc2 hd2
  subst hc hc2 hd2
  have hne : l ≠ b := fun e => by
    subst e
    rw [ho] at ho2
    have h1 := congrArg Obj.cls (Option.some.inj ho2)
    simp at h1
  exact rc_eq_decline_or (k := false) ⟨_, ho, rfl⟩ ⟨_, ho2, rfl⟩ (by decide) F.sub_list_dict F.slot_dict_eq F.slot_list_eq_refl
    (fun _ hq => wpAny_call_entry PySem.F.slot_dict_eq ⟨_, ho, rfl⟩ PySem.F.entry_dict_eq (by
      show wpAny _ _ (Builtin.Dict.dictSlotArgs "__eq__" ⟨[.ref l, .ref b], []⟩ >>= _) _ _ s
      refine wpAny_bind ?_
      unfold Builtin.Dict.dictSlotArgs
      refine wpAny_bind (wpAny_notOrdered_dict ⟨_, ho, rfl⟩ ?_)
      show wpAny _ _ (pure (Value.ref l, Value.ref b)) _ _ s
      refine wpAny_pure ?_
      refine wpAny_bind (wpAny_isInstance (T := "list") ⟨_, ho2, rfl⟩ PySem.F.sub_list_dict ?_)
      simp only [Bool.not_false, if_true]
      refine wpAny_bind (wpAny_rule (wpAny_bind (wpAny_pure (wpAny_pure ⟨_, rfl, hq⟩)))))
      (PySem.F.args_dict_eq_2 _ _))
    (fun _ hq => call_meets F.slot_list_eq_refl ⟨_, ho2, rfl⟩ F.entry_list_eq (F.args_list_eq_2 _ _) (list_eq_declines_dict b l items data n2 dd2 dd sl2 sl) ⟨ho2, ho, hq⟩)
    (fun _ hq => wpAny_isSame_ref_other hne ho ho2 (by simp) hq) (.inr hu) h
theorem dict_list_ne {l b : Addr} {ol : Obj} {items : Array Value} (ho : s.heap.get? l = some ol) (hc : ol.cls = .type "dict") (hb : s.heap.IsList b items) (hu : A.units < cLine) : SeqAt.RcNeAt A s (.ref l) (.ref b) true := fun prog w E Q h => by
  obtain ⟨⟨cls2, dd2, data2, sl2⟩, ho2, hc2, n2, hd2⟩ := id hb
  obtain ⟨cls, dd, data, sl⟩ := ol
  simp only at hc hc2 hd2
  subst hc hc2 hd2
  have hne : l ≠ b := fun e => by
    subst e
    rw [ho] at ho2
    have h1 := congrArg Obj.cls (Option.some.inj ho2)
    simp at h1
  exact rc_ne_decline_or (k := false) ⟨_, ho, rfl⟩ ⟨_, ho2, rfl⟩ (by decide) F.sub_list_dict F.slot_dict_ne F.slot_list_ne_refl
    (fun _ hq => wpAny_call_entry PySem.F.slot_dict_ne ⟨_, ho, rfl⟩ PySem.F.entry_dict_ne (by
      show wpAny _ _ (Builtin.Dict.dictSlotArgs "__ne__" ⟨[.ref l, .ref b], []⟩ >>= _) _ _ s
      refine wpAny_bind ?_
      unfold Builtin.Dict.dictSlotArgs
      refine wpAny_bind (wpAny_notOrdered_dict ⟨_, ho, rfl⟩ ?_)
      show wpAny _ _ (pure (Value.ref l, Value.ref b)) _ _ s
      refine wpAny_pure ?_
      refine wpAny_bind (wpAny_isInstance (T := "list") ⟨_, ho2, rfl⟩ PySem.F.sub_list_dict ?_)
      simp only [Bool.not_false, if_true]
      refine wpAny_bind (wpAny_rule (wpAny_bind (wpAny_pure (wpAny_pure ⟨_, rfl, hq⟩)))))
      (PySem.F.args_dict_ne_2 _ _))
    (fun _ hq => call_meets F.slot_list_ne_refl ⟨_, ho2, rfl⟩ F.entry_list_ne (F.args_list_ne_2 _ _) (list_ne_declines_dict b l items data n2 dd2 dd sl2 sl) ⟨ho2, ho, hq⟩)
    (fun _ hq => wpAny_isSame_ref_other hne ho ho2 (by simp) hq) (.inr hu) h
end
inductive KNe (K : PySem.W.Frag) (H : Hp) : V → V → Prop where
  | lt {a b : Addr} {xs ys : List V} (h : SqL K H a xs) (h' : SqT K H b ys) : KNe K H (.ref a) (.ref b)
  | tl {a b : Addr} {xs ys : List V} (h : SqT K H a xs) (h' : SqL K H b ys) : KNe K H (.ref a) (.ref b)
  | ll {a b : Addr} {xs ys : List V} (h : SqL K H a xs) (h' : SqL K H b ys) (n : xs.length ≠ ys.length) : KNe K H (.ref a) (.ref b)
  | dl {a b : Addr} {kvs : List (Key × V)} {ys : List V} (h : H a = some (.dK kvs)) (h' : SqL K H b ys) : KNe K H (.ref a) (.ref b)
  | ln {a : Addr} {xs : List V} (h : SqL K H a xs) : KNe K H (.ref a) .non
  | nl {a : Addr} {xs : List V} (h : SqL K H a xs) : KNe K H .non (.ref a)
  | tn {a : Addr} {xs : List V} (h : SqT K H a xs) : KNe K H (.ref a) .non
  | nt {a : Addr} {xs : List V} (h : SqT K H a xs) : KNe K H .non (.ref a)
  | lb {a : Addr} {xs : List V} (h : SqL K H a xs) (z : Bool) : KNe K H (.ref a) (.bl z)
  | bl {a : Addr} {xs : List V} (h : SqL K H a xs) (z : Bool) : KNe K H (.bl z) (.ref a)
  | tb {a : Addr} {xs : List V} (h : SqT K H a xs) (z : Bool) : KNe K H (.ref a) (.bl z)
  | bt {a : Addr} {xs : List V} (h : SqT K H a xs) (z : Bool) : KNe K H (.bl z) (.ref a)
  | li {a : Addr} {xs : List V} (h : SqL K H a xs) (z : Int) : KNe K H (.ref a) (.int z)
  | il {a : Addr} {xs : List V} (h : SqL K H a xs) (z : Int) : KNe K H (.int z) (.ref a)
  | ti {a : Addr} {xs : List V} (h : SqT K H a xs) (z : Int) : KNe K H (.ref a) (.int z)
  | it {a : Addr} {xs : List V} (h : SqT K H a xs) (z : Int) : KNe K H (.int z) (.ref a)
  | ls {a : Addr} {xs : List V} (h : SqL K H a xs) (z : Str) : KNe K H (.ref a) (.str z)
  | sl {a : Addr} {xs : List V} (h : SqL K H a xs) (z : Str) : KNe K H (.str z) (.ref a)
  | ts {a : Addr} {xs : List V} (h : SqT K H a xs) (z : Str) : KNe K H (.ref a) (.str z)
  | st {a : Addr} {xs : List V} (h : SqT K H a xs) (z : Str) : KNe K H (.str z) (.ref a)
section
variable {X : Cx} {pins : List (Addr × Obj)} {σ : L2.St} {H : Hp} {s : Shared}
theorem I_list (I : Inv X pins σ H s) {a : Addr} {xs : List V} (h : SqL X.K H a xs) : ∃ its : Array Value, s.heap.IsList a its ∧ its.size = xs.length := by
  obtain ⟨i1, rv, ⟨o, n, e, c, _, dd⟩, _⟩ := I.list h
  exact ⟨i1.toArray, ⟨o, e, c, n, dd⟩, by rw [List.size_toArray, rv.length]⟩
theorem I_tup (I : Inv X pins σ H s) {a : Addr} {xs : List V} (h : SqT X.K H a xs) : ∃ its : Array Value, s.heap.IsTuple a its := by
  obtain ⟨i2, _, p2, _⟩ := I.tuple h
  exact ⟨_, p2⟩
theorem kne_eq (I : Inv X pins σ H s) {x y : V} {v u : Value} (h : KNe X.K H x y) (rx : RelV x v) (ry : RelV y u) (hu : X.A.units < cLine) : SeqAt.RcAt X.A s v u false := by
  cases h with
  | lt h h' => obtain ⟨_, a, _⟩ := I_list I h; obtain ⟨_, b⟩ := I_tup I h'; cases rx; cases ry; exact SeqAt.RcAt.list_tuple a b hu
  | tl h h' => obtain ⟨_, a⟩ := I_tup I h; obtain ⟨_, b, _⟩ := I_list I h'; cases rx; cases ry; exact SeqAt.RcAt.tuple_list a b hu
  | ll h h' n => obtain ⟨_, a, e1⟩ := I_list I h; obtain ⟨_, b, e2⟩ := I_list I h'; cases rx; cases ry; exact SeqAt.RcAt.lists_lengths a b (by simp only [bne_iff_ne, ne_eq]; omega) hu
  | @dl p q kvs ys h h' =>
    obtain ⟨_, b, e2⟩ := I_list I h'
    obtain ⟨_, _, vs, _, o, es, ep, h1, h2, _⟩ := (show ObjOk X.prog X.w H s.heap p (.dK kvs) from I.hok p _ h)
    cases rx; cases ry
    exact dict_list_eq h1 h2.1 b hu
  | ln h => obtain ⟨_, a, _⟩ := I_list I h; cases rx; cases ry; exact SeqAt.RcAt.list_none a hu
  | nl h => obtain ⟨_, a, _⟩ := I_list I h; cases rx; cases ry; exact SeqAt.RcAt.none_list a hu
  | tn h => obtain ⟨_, a⟩ := I_tup I h; cases rx; cases ry; exact SeqAt.RcAt.tuple_none a hu
  | nt h => obtain ⟨_, a⟩ := I_tup I h; cases rx; cases ry; exact SeqAt.RcAt.none_tuple a hu
  | lb h z => obtain ⟨_, a, _⟩ := I_list I h; cases rx; cases ry; exact SeqAt.RcAt.list_bool z a hu
  | bl h z => obtain ⟨_, a, _⟩ := I_list I h; cases rx; cases ry; exact SeqAt.RcAt.bool_list z a hu
  | tb h z => obtain ⟨_, a⟩ := I_tup I h; cases rx; cases ry; exact SeqAt.RcAt.tuple_bool z a hu
  | bt h z => obtain ⟨_, a⟩ := I_tup I h; cases rx; cases ry; exact SeqAt.RcAt.bool_tuple z a hu
  | li h z => obtain ⟨_, a, _⟩ := I_list I h; cases rx; obtain ⟨t, rfl⟩ := ry; exact SeqAt.RcAt.list_int z t a hu
  | il h z => obtain ⟨_, a, _⟩ := I_list I h; obtain ⟨t, rfl⟩ := rx; cases ry; exact SeqAt.RcAt.int_list z t a hu
  | ti h z => obtain ⟨_, a⟩ := I_tup I h; cases rx; obtain ⟨t, rfl⟩ := ry; exact SeqAt.RcAt.tuple_int z t a hu
  | it h z => obtain ⟨_, a⟩ := I_tup I h; obtain ⟨t, rfl⟩ := rx; cases ry; exact SeqAt.RcAt.int_tuple z t a hu
  | ls h z => obtain ⟨_, a, _⟩ := I_list I h; cases rx; obtain ⟨t, rfl⟩ := ry; exact SeqAt.RcAt.list_str z t a hu
  | sl h z => obtain ⟨_, a, _⟩ := I_list I h; obtain ⟨t, rfl⟩ := rx; cases ry; exact SeqAt.RcAt.str_list z t a hu
  | ts h z => obtain ⟨_, a⟩ := I_tup I h; cases rx; obtain ⟨t, rfl⟩ := ry; exact SeqAt.RcAt.tuple_str z t a hu
  | st h z => obtain ⟨_, a⟩ := I_tup I h; obtain ⟨t, rfl⟩ := rx; cases ry; exact SeqAt.RcAt.str_tuple z t a hu
theorem kne_ne (I : Inv X pins σ H s) {x y : V} {v u : Value} (h : KNe X.K H x y) (rx : RelV x v) (ry : RelV y u) (hu : X.A.units < cLine) : SeqAt.RcNeAt X.A s v u true := by
  cases h with
  | lt h h' => obtain ⟨_, a, _⟩ := I_list I h; obtain ⟨_, b⟩ := I_tup I h'; cases rx; cases ry; exact SeqAt.RcNeAt.list_tuple a b hu
  | tl h h' => obtain ⟨_, a⟩ := I_tup I h; obtain ⟨_, b, _⟩ := I_list I h'; cases rx; cases ry; exact SeqAt.RcNeAt.tuple_list a b hu
  | ll h h' n => obtain ⟨_, a, e1⟩ := I_list I h; obtain ⟨_, b, e2⟩ := I_list I h'; cases rx; cases ry; exact SeqAt.RcNeAt.lists_lengths a b (by simp only [bne_iff_ne, ne_eq]; omega) hu
  | @dl p q kvs ys h h' =>
    obtain ⟨_, b, e2⟩ := I_list I h'
    obtain ⟨_, _, vs, _, o, es, ep, h1, h2, _⟩ := (show ObjOk X.prog X.w H s.heap p (.dK kvs) from I.hok p _ h)
    cases rx; cases ry
    exact dict_list_ne h1 h2.1 b hu
  | ln h => obtain ⟨_, a, _⟩ := I_list I h; cases rx; cases ry; exact SeqAt.RcNeAt.list_none a hu
  | nl h => obtain ⟨_, a, _⟩ := I_list I h; cases rx; cases ry; exact SeqAt.RcNeAt.none_list a hu
  | tn h => obtain ⟨_, a⟩ := I_tup I h; cases rx; cases ry; exact SeqAt.RcNeAt.tuple_none a hu
  | nt h => obtain ⟨_, a⟩ := I_tup I h; cases rx; cases ry; exact SeqAt.RcNeAt.none_tuple a hu
  | lb h z => obtain ⟨_, a, _⟩ := I_list I h; cases rx; cases ry; exact SeqAt.RcNeAt.list_bool z a hu
  | bl h z => obtain ⟨_, a, _⟩ := I_list I h; cases rx; cases ry; exact SeqAt.RcNeAt.bool_list z a hu
  | tb h z => obtain ⟨_, a⟩ := I_tup I h; cases rx; cases ry; exact SeqAt.RcNeAt.tuple_bool z a hu
  | bt h z => obtain ⟨_, a⟩ := I_tup I h; cases rx; cases ry; exact SeqAt.RcNeAt.bool_tuple z a hu
  | li h z => obtain ⟨_, a, _⟩ := I_list I h; cases rx; obtain ⟨t, rfl⟩ := ry; exact SeqAt.RcNeAt.list_int z t a hu
  | il h z => obtain ⟨_, a, _⟩ := I_list I h; obtain ⟨t, rfl⟩ := rx; cases ry; exact SeqAt.RcNeAt.int_list z t a hu
  | ti h z => obtain ⟨_, a⟩ := I_tup I h; cases rx; obtain ⟨t, rfl⟩ := ry; exact SeqAt.RcNeAt.tuple_int z t a hu
  | it h z => obtain ⟨_, a⟩ := I_tup I h; obtain ⟨t, rfl⟩ := rx; cases ry; exact SeqAt.RcNeAt.int_tuple z t a hu
  | ls h z => obtain ⟨_, a, _⟩ := I_list I h; cases rx; obtain ⟨t, rfl⟩ := ry; exact SeqAt.RcNeAt.list_str z t a hu
  | sl h z => obtain ⟨_, a, _⟩ := I_list I h; obtain ⟨t, rfl⟩ := rx; cases ry; exact SeqAt.RcNeAt.str_list z t a hu
  | ts h z => obtain ⟨_, a⟩ := I_tup I h; cases rx; obtain ⟨t, rfl⟩ := ry; exact SeqAt.RcNeAt.tuple_str z t a hu
  | st h z => obtain ⟨_, a⟩ := I_tup I h; obtain ⟨t, rfl⟩ := rx; cases ry; exact SeqAt.RcNeAt.str_tuple z t a hu
def rKNe (K : PySem.W.Frag) (b : Bool) : R2 := fun x y H Q => KNe K H x y ∧ Q (.bl b) H
theorem op_eqK (hu : X.A.units < cLine) : OpR X (compareOp .Eq) (rKNe X.K false) := by
  intro pins s σ H x y v u Q I rx ry ⟨h, q⟩
  exact kne_eq I h rx ry hu _ _ _ _ ⟨.bl false, H, I, rfl, q⟩
theorem op_neK (hu : X.A.units < cLine) : OpR X (compareOp .NotEq) (rKNe X.K true) := by
  intro pins s σ H x y v u Q I rx ry ⟨h, q⟩
  exact kne_ne I h rx ry hu _ _ _ _ ⟨.bl true, H, I, rfl, q⟩
end
def kneD : Dt → Dt → Bool
  | .lst _, .tup _ => true
  | .tup _, .lst _ => true
  | .lst l, .lst m => decide (l.length ≠ m.length)
  | .dK _ _, .lst _ => true
  | .lst _, .non => true
  | .non, .lst _ => true
  | .tup _, .non => true
  | .non, .tup _ => true
  | .lst _, .bl _ => true
  | .bl _, .lst _ => true
  | .tup _, .bl _ => true
  | .bl _, .tup _ => true
  | .lst _, .int _ => true
  | .int _, .lst _ => true
  | .tup _, .int _ => true
  | .int _, .tup _ => true
  | .lst _, .str _ => true
  | .str _, .lst _ => true
  | .tup _, .str _ => true
  | .str _, .tup _ => true
  | _, _ => false
def eqG (neg : Bool) (a b : Dt) : M R := match a, b with
  | .str x, .str y => M.ret (.val (.bl (neg ^^ decide (x = y))))
  | a, b => if kneD a b = true then M.ret (.val (.bl neg)) else eqD neg a b
theorem eqG_def (neg : Bool) (a b : Dt) (h : ∀ x, a ≠ .str x) : eqG neg a b = if kneD a b = true then M.ret (.val (.bl neg)) else eqD neg a b := by
  cases a <;> first | rfl | exact absurd rfl (h _)
theorem eqG_def2 (neg : Bool) (x : Str) (b : Dt) (h : ∀ y, b ≠ .str y) : eqG neg (.str x) b = if kneD (.str x) b = true then M.ret (.val (.bl neg)) else eqD neg (.str x) b := by
  cases b <;> first | rfl | exact absurd rfl (h _)
theorem kne_of {K : PySem.W.Frag} {i : Ix} {F H : Hp} (fh : Same F H) {a b : Dt} {x y : V} (h : kneD a b = true) (va : View K i F H a x) (vb : View K i F H b y) : KNe K H x y := by
  have L : ∀ {l : List Dt} {z : V}, View K i F H (.lst l) z → ∃ p vs, z = .ref p ∧ SqL K H p vs ∧ vs.length = l.length := fun h => by
    obtain ⟨p, vs, e, h1, h2⟩ := h.lst fh
    exact ⟨p, vs, e, SqL.of h1, h2.len⟩
  have T : ∀ {l : List Dt} {z : V}, View K i F H (.tup l) z → ∃ p vs, z = .ref p ∧ SqT K H p vs := fun h => by
    obtain ⟨p, vs, e, h1, h2⟩ := h.tup
    exact ⟨p, vs, e, sqT_same fh h1⟩
  cases a with
  | lst l =>
    obtain ⟨p, vs, rfl, h1, hl⟩ := L va
    cases b with
    | lst m =>
      obtain ⟨q, us, rfl, h2, hm⟩ := L vb
      exact .ll h1 h2 (by rw [hl, hm]; exact of_decide_eq_true h)
    | tup m => obtain ⟨q, us, rfl, h2⟩ := T vb; exact .lt h1 h2
    | non => rw [vb.non]; exact .ln h1
    | bl z => rw [vb.bl]; exact .lb h1 z
    | int z => rw [vb.int]; exact .li h1 z
    | str z => rw [vb.str]; exact .ls h1 z
    | _ => cases h
  | tup l =>
    obtain ⟨p, vs, rfl, h1⟩ := T va
    cases b with
    | lst m => obtain ⟨q, us, rfl, h2, _⟩ := L vb; exact .tl h1 h2
    | non => rw [vb.non]; exact .tn h1
    | bl z => rw [vb.bl]; exact .tb h1 z
    | int z => rw [vb.int]; exact .ti h1 z
    | str z => rw [vb.str]; exact .ts h1 z
    | _ => cases h
  | dK ks l =>
    obtain ⟨p, kvs, rfl, h1, _⟩ := va.rep fun _ e => nomatch e
    cases b with
    | lst m => obtain ⟨q, us, rfl, h2, _⟩ := L vb; exact .dl (fh _ _ h1) h2
    | _ => cases h
  | non =>
    rw [va.non]
    cases b with
    | lst m => obtain ⟨q, us, rfl, h2, _⟩ := L vb; exact .nl h2
    | tup m => obtain ⟨q, us, rfl, h2⟩ := T vb; exact .nt h2
    | _ => cases h
  | bl z =>
    rw [va.bl]
    cases b with
    | lst m => obtain ⟨q, us, rfl, h2, _⟩ := L vb; exact .bl h2 z
    | tup m => obtain ⟨q, us, rfl, h2⟩ := T vb; exact .bt h2 z
    | _ => cases h
  | int z =>
    rw [va.int]
    cases b with
    | lst m => obtain ⟨q, us, rfl, h2, _⟩ := L vb; exact .il h2 z
    | tup m => obtain ⟨q, us, rfl, h2⟩ := T vb; exact .it h2 z
    | _ => cases h
  | str z =>
    rw [va.str]
    cases b with
    | lst m => obtain ⟨q, us, rfl, h2, _⟩ := L vb; exact .sl h2 z
    | tup m => obtain ⟨q, us, rfl, h2⟩ := T vb; exact .st h2 z
    | _ => cases h
  | _ => cases h
section
variable {X : Cx} {E : XK} {a b c e : Expr} {es : List Expr} {pos : Pos}
theorem str_dec (x y : Str) : decide (V.str x = V.str y) = decide (x = y) := by
  rw [Bool.eq_iff_iff, decide_eq_true_eq, decide_eq_true_eq]
  exact ⟨fun h => V.str.inj h, fun h => by rw [h]⟩
theorem op_eqG (hu : X.A.units + 64 < cLine) : OpD X E (compareOp .Eq) (eqG false) := by
  obtain ⟨r, pr, jr⟩ := op_eqDD (E := E) hu
  refine ⟨_, (op_eq (X := X)).or ((op_eqK (X := X) (by omega)).or pr), fun i s F H x y a b Q W va vb q => ?_⟩
  have rest : Ok X.K (kR X.K i) i E F H Q ((if kneD a b = true then M.ret (.val (.bl false)) else eqD false a b) s) → rKNe X.K false x y H Q ∨ r x y H Q := fun q => by
    by_cases h : kneD a b = true
    · rw [if_pos h] at q
      exact .inl ⟨kne_of W.fh h va vb, q _ F H (.refl W.fh) W.mr rfl⟩
    · rw [if_neg h] at q
      exact .inr (jr i s F H x y a b Q W va vb q)
  by_cases ha : ∃ z, a = .str z
  · obtain ⟨z, rfl⟩ := ha
    by_cases hb : ∃ z, b = .str z
    · obtain ⟨z', rfl⟩ := hb
      rw [va.str, vb.str]
      refine .inl ⟨rfl, ?_⟩
      rw [str_dec]
      have := q (.bl (false ^^ decide (z = z'))) F H (.refl W.fh) W.mr rfl
      rw [Bool.false_xor] at this
      exact this
    · rw [eqG_def2 _ _ _ fun y e => hb ⟨y, e⟩] at q
      exact .inr (rest q)
  · rw [eqG_def _ _ _ fun y e => ha ⟨y, e⟩] at q
    exact .inr (rest q)
theorem op_neG (hu : X.A.units + 64 < cLine) : OpD X E (compareOp .NotEq) (eqG true) := by
  obtain ⟨r, pr, jr⟩ := op_neDD (E := E) hu
  refine ⟨_, (op_ne (X := X)).or ((op_neK (X := X) (by omega)).or pr), fun i s F H x y a b Q W va vb q => ?_⟩
  have rest : Ok X.K (kR X.K i) i E F H Q ((if kneD a b = true then M.ret (.val (.bl true)) else eqD true a b) s) → rKNe X.K true x y H Q ∨ r x y H Q := fun q => by
    by_cases h : kneD a b = true
    · rw [if_pos h] at q
      exact .inl ⟨kne_of W.fh h va vb, q _ F H (.refl W.fh) W.mr rfl⟩
    · rw [if_neg h] at q
      exact .inr (jr i s F H x y a b Q W va vb q)
  by_cases ha : ∃ z, a = .str z
  · obtain ⟨z, rfl⟩ := ha
    by_cases hb : ∃ z, b = .str z
    · obtain ⟨z', rfl⟩ := hb
      rw [va.str, vb.str]
      refine .inl ⟨rfl, ?_⟩
      rw [str_dec]
      have := q (.bl (true ^^ decide (z = z'))) F H (.refl W.fh) W.mr rfl
      rw [Bool.true_xor] at this
      exact this
    · rw [eqG_def2 _ _ _ fun y e => hb ⟨y, e⟩] at q
      exact .inr (rest q)
  · rw [eqG_def _ _ _ fun y e => ha ⟨y, e⟩] at q
    exact .inr (rest q)
def chain (fa fb : List Sl → M Dt) (op : Dt → Dt → M R) (fc : List Sl → M Dt) (op' : Dt → Dt → M R) : List Sl → M R := fun δ => M.bnd (fa δ) fun x => M.bnd (fb δ) fun y => M.bnd (op x y) fun
  | .val (.bl k) => if k = true then M.bnd (fc δ) fun z => op' y z else M.ret (.val (.bl false))
  | _ => M.no
theorem de_chain {fa fb fc : List Sl → M Dt} {o o' : CmpOp} {op op' : Dt → Dt → M R} (ho : OpD X E (compareOp o) op) (ho' : OpD X E (compareOp o') op') (ha : DV X E a fa) (hb : DV X E b fb) (hc : DV X E c fc)
    (hm : lastMarks [o, o'] [b, c] = false := by with_unfolding_all rfl) : DE X E (.Compare a [o, o'] [b, c] pos) (chain fa fb op fc op') := by
  obtain ⟨ta, pa, ja⟩ := ha
  obtain ⟨tb, pb, jb⟩ := hb
  obtain ⟨tc, pc, jc⟩ := hc
  obtain ⟨r, pr, jr⟩ := ho
  obtain ⟨r', pr', jr'⟩ := ho'
  refine ⟨_, pe_chain pr pr' pa pb pc hm, fun i F0 H0 F H σ δ s Q S q => ja.use S q fun x s1 v F1 H1 e0 x1 S1 r1 q1 => jb.use S1 q1 fun y s2 u F2 H2 e1 x2 S2 r2 q2 => ?_⟩
  clear e0 e1
  have r1 : View X.K i F1 H1 x v := r1
  have r2 : View X.K i F2 H2 y u := r2
  refine jr i s2 F2 H2 v u x y _ S2.wf (r1.ext x2) r2 ?_
  unfold DL.M.bnd at q2
  cases e3 : op x y s2 with
  | no => rw [e3] at q2; exact q2.elim
  | ex a b => rw [e3] at q2; exact q2
  | ok z s3 =>
    rw [e3] at q2
    intro w F3 H3 x3 m3 r3
    cases z with
    | new l => exact q2.elim
    | val d =>
      cases d <;> first | exact q2.elim | skip
      rename_i k
      refine ⟨k, r3, ?_⟩
      have S3 := S2.ext x3 m3
      cases k with
      | false =>
        refine iteF ?_
        exact q2 _ F3 H3 x3 m3 rfl
      | true =>
        refine iteT ?_
        replace q2 : Ok X.K (kR X.K i) i E F2 H2 Q (DL.M.bnd (fc δ) (fun z => op' y z) s3) := q2
        refine jc.use S3 (q2.later x3) fun z s4 w' F4 H4 e4 x4 S4 r4 q4 => ?_
        clear e4
        exact jr' i s4 F4 H4 u w' y z Q S4.wf ((r2.ext x3).ext x4) r4 q4
def Call2D (X : Cx) (E : XK) (f : Value) (op : Dt → Dt → M R) : Prop := ∃ r, CallR X f r ∧ ∀ i s F H x y a b Q, Wf i s F H → View X.K i F H a x → View X.K i F H b y → Ok X.K (kR X.K i) i E F H Q (op a b s) → r [x, y] H Q
theorem de_b2 {id : String} {x : Str} {p : Pos} {f g : List Sl → M Dt} {op : Dt → Dt → M R} (hc : Call2D X E (.builtin id) op) (ha : DV X E a f) (hb : DV X E b g) (hm : X.mg x = none) (hv : bootBuiltins x = some (.builtin id) := by decide +kernel) (hg : Gl X x := by rfl) (hn : x ≠ "__name__" := by decide) (hdb : (x == ("__debug__" : Str)) = false := by decide)
    (he : starEach [a, b] X.env = (false, eval a X.env) :: starEach [b] X.env := by rfl) (he2 : starEach [b] X.env = (false, eval b X.env) :: starEach [] X.env := by rfl) (hpl : (backTo pos (starEach [b] X.env)).any (·.1) = false := by rfl) : DE X E (.Call (.Name x p) [a, b] [] pos) (bin f g op) := by
  obtain ⟨t, pt, jt⟩ := ha
  obtain ⟨u, pu, ju⟩ := hb
  obtain ⟨r, pr, jr⟩ := hc
  refine ⟨_, pe_callB pr hg hm hv (pa_cons pt (pa_cons pu pa_nil he2) he) hn hdb he hpl, fun i F0 H0 F H σ δ s Q S q => jt.use S q fun x s1 v F1 H1 e0 x1 S1 r1 q1 => ju.use S1 q1 fun y s2 u F2 H2 e1 x2 S2 r2 q2 => ?_⟩
  have r1 : View X.K i F1 H1 x v := r1
  exact jr i s2 F2 H2 v u x y Q S2.wf (r1.ext x2) r2 q2
def maxD : Dt → Dt → M R
  | .int i, .int j => M.ret (.val (.int (if j > i then j else i)))
  | _, _ => M.no
theorem cd_max2 (hc : X.calm = true) : Call2D X E (.builtin "max") maxD := by
  refine ⟨_, call_max2 hc, fun i s F H x y a b Q W va vb q => ?_⟩
  cases a <;> cases b <;> first | exact q.elim | skip
  exact ⟨_, _, by rw [va.int, vb.int], q _ F H (.refl W.fh) W.mr rfl⟩
end
end DL
namespace DL
open PySem PySem.Spec PyProof.Rows L2 LwE
theorem ok_bnd {α β α2 β2 : Type} {K : PySem.W.Frag} {k : Kind α β} {k2 : Kind α2 β2} {i : Ix} {E : XK} {F H : Hp} {s : MS} {x : M α} {g : α → M α2} {Q : β2 → Hp → Prop} {Q1 : β → Hp → Prop} (q : Ok K k2 i E F H Q (DL.M.bnd x g s))
    (c : ∀ a s' v F' H', Ext i F H F' H' → MR i s' H' → k.rel H F' H' a v → Ok K k2 i E F' H' Q (g a s') → Q1 v H') : Ok K k i E F H Q1 (x s) := by
  unfold DL.M.bnd at q
  cases e : x s with
  | no => rw [e] at q; exact q.elim
  | ex a b => rw [e] at q; exact q
  | ok a s' => rw [e] at q; exact fun v F' H' x m r => c a s' v F' H' x m r (q.later x)
section
variable {X : Cx} {pins : List (Addr × Obj)} {σ : L2.St} {H : Hp} {s : Shared} {CX : CXT} {k : Nat} {f C : Addr} {fd : FuncData} {ps : List Str} {sp : Sp} {E : XK}
theorem run_belowX {A : Around} {Q : VK} {us : List Value} {vs : List V} (F : FnX X.prog X.w X.K X.mg X.base CX k f fd ps sp) (hg : A.guards = some []) (hr : Room k A) (e0 : Env0 X.prog X.w X.K X.mg X.base A X.stack s H) (hb : Binds X.K fd ps []) (hx : Passes CX X E)
    (I : Inv X pins σ H s) (r : Vals vs us) (h : sp vs H Q E) : wpAny (model X.prog X.w) A (call (.ref f) us) (EP X pins σ Q) X.xe s := by
  have hl : (us ++ []).length = ps.length := by
    rw [List.append_nil, ← r.length]
    exact F.len _ _ _ _ h
  have b0 := hb s us I.kIn hl
  rw [List.append_nil] at b0
  refine wpAny_call (codeAny_mono (F.run A X.stack s H ⟨us, []⟩ us vs Q E hg hr e0 b0 r h) fun r s' hq => ?_)
  cases r with
  | error e => exact hx pins σ H s e s' I hq
  | ok fl =>
    cases fl with
    | ret u => exact I.after hq
    | next => exact False.elim hq
    | brk => exact False.elim hq
    | cont => exact False.elim hq
end
def isObj (C : Addr) : Dt → Bool
  | .obj C' _ _ => decide (C' = C)
  | _ => false
theorem isObj_of {K : PySem.W.Frag} {i : Ix} {F H : Hp} {C : Addr} {d : Dt} {v : V} (fh : Same F H) (h : isObj C d = true) (r : View K i F H d v) : ∃ a dx fs, v = .ref a ∧ H a = some (.ins C dx fs) ∧ Rep K i F d v := by
  cases d <;> first | (cases h; done) | skip
  rename_i C' ns l
  have h : C' = C := of_decide_eq_true h
  subst h
  have r' := r.rep fun _ e => nomatch e
  obtain ⟨a, dx, gs, h0, h1, h2, h3⟩ := r'
  exact ⟨a, dx, gs, h0, fh _ _ h1, a, dx, gs, h0, h1, h2, h3⟩
def orOp (p : Dt → Dt → Bool) (op1 op2 : Dt → Dt → M R) : Dt → Dt → M R := fun a b => if p a b = true then op1 a b else op2 a b
def orC (p : Dt → Bool) (op1 op2 : Dt → M R) : Dt → M R := fun a => if p a = true then op1 a else op2 a
def both (C : Addr) (a b : Dt) : Bool := isObj C a && isObj C b
section
variable {X : Cx} {E : XK} {k : Nat} {f C : Addr} {fd : FuncData} {ps : List Str} {sem : List Dt → M R}
theorem OpD.or {g : Value → Value → Sem Value} {p : Dt → Dt → Bool} {op1 op2 : Dt → Dt → M R} (h1 : OpD X E g op1) (h2 : OpD X E g op2) : OpD X E g (orOp p op1 op2) := by
  obtain ⟨r1, p1, j1⟩ := h1
  obtain ⟨r2, p2, j2⟩ := h2
  refine ⟨_, p1.or p2, fun i s F H x y a b Q W va vb q => ?_⟩
  unfold orOp at q
  by_cases h : p a b = true
  · rw [if_pos h] at q
    exact .inl (j1 i s F H x y a b Q W va vb q)
  · rw [if_neg h] at q
    exact .inr (j2 i s F H x y a b Q W va vb q)
theorem CallD.or {g : Value} {p : Dt → Bool} {op1 op2 : Dt → M R} (h1 : CallD X E g op1) (h2 : CallD X E g op2) : CallD X E g (orC p op1 op2) := by
  obtain ⟨r1, p1, j1⟩ := h1
  obtain ⟨r2, p2, j2⟩ := h2
  refine ⟨_, p1.or p2, fun i s F H x a Q W va q => ?_⟩
  unfold orC at q
  by_cases h : p a = true
  · rw [if_pos h] at q
    exact .inl (j1 i s F H x a Q W va q)
  · rw [if_neg h] at q
    exact .inr (j2 i s F H x a Q W va q)
theorem two_of {K : PySem.W.Frag} {i : Ix} {F H : Hp} {a b : Dt} {x y : V} (fh : Same F H) (h : both C a b = true) (va : View K i F H a x) (vb : View K i F H b y) : ∃ p dx fs q dy gs, x = .ref p ∧ y = .ref q ∧ H p = some (.ins C dx fs) ∧ H q = some (.ins C dy gs) ∧ Reps K i F [a, b] [x, y] := by
  unfold both at h
  rw [Bool.and_eq_true] at h
  obtain ⟨p, dx, fs, h0, h1, r1⟩ := isObj_of fh h.1 va
  obtain ⟨q, dy, gs, g0, g1, r2⟩ := isObj_of fh h.2 vb
  exact ⟨p, dx, fs, q, dy, gs, h0, g0, h1, g1, .cons r1 (.cons r2 .nil)⟩
end
end DL
namespace DL
open PySem PySem.Spec PyProof.Rows L2 LwE
mutual
def convX : Dt → Option PyData
  | .non => some .none
  | .bl b => some (.bool b)
  | .int i => some (.int i)
  | .str x => some (.str x)
  | .tup l => (convXs l).map .tuple
  | .lst l => (convXs l).map .list
  | .dK [] [] => some (.dict [])
  | _ => none
def convXs : List Dt → Option (List PyData)
  | [] => some []
  | d :: ds => match convX d, convXs ds with
    | some x, some xs => some (x :: xs)
    | _, _ => none
end
section
variable {X : Cx} {pins : List (Addr × Obj)} {σ : L2.St} {F H : Hp} {s : Shared} {i : Ix}
theorem no_sys (I : Inv X pins σ H s) (hs : ∃ o, X.base.get? sysModules = some o) : H sysModules = none := by
  obtain ⟨o, e⟩ := hs
  exact (I.env0.bs _ _ e).2
theorem far_sys (I : Inv X pins σ H s) (hs : ∃ o, X.base.get? sysModules = some o) {as : List Addr} (h : ∀ a ∈ as, H a ≠ none) : sysModules ∉ as := fun m => h _ m (no_sys I hs)
theorem dict0 (I : Inv X pins σ H s) {a : Addr} (e : H a = some (.dK [])) : Reads s.heap (.ref a) (.dict []) [a] := by
  obtain ⟨_, ns, vs, kv, o, es, ep, e1, ex, ed, _, pr, _⟩ := I.hok a _ e
  cases kv
  have z : es.toList = [] := by
    generalize es.toList = l at pr
    cases pr
    rfl
  have := Reads.dict (kvs := []) (as := []) (bs := []) e1 ex.1 ed (by rw [z]; exact .nil) (by rw [z]; exact .nil)
  simpa using this
mutual
theorem rep_reads (I : Inv X pins σ H s) (fh : Same F H) : ∀ (d : Dt) {v : V} {x : PyData} {u : Value}, Rep X.K i F d v → convX d = some x → RelV v u → ∃ as, Reads s.heap u x as ∧ ∀ a ∈ as, H a ≠ none
  | .non, _, _, _, h, e, r => by
    cases e
    rw [show _ = V.non from h] at r
    cases r
    exact ⟨[], .none, fun _ m => nomatch m⟩
  | .bl b, _, _, _, h, e, r => by
    cases e
    rw [show _ = V.bl b from h] at r
    cases r
    exact ⟨[], .bool b, fun _ m => nomatch m⟩
  | .int z, _, _, _, h, e, r => by
    cases e
    rw [show _ = V.int z from h] at r
    obtain ⟨t, rfl⟩ := r
    exact ⟨[], .int z t, fun _ m => nomatch m⟩
  | .str z, _, _, _, h, e, r => by
    cases e
    rw [show _ = V.str z from h] at r
    obtain ⟨t, rfl⟩ := r
    exact ⟨[], .str z t, fun _ m => nomatch m⟩
  | .tup l, _, _, _, ⟨a, vs, h1, h2, h3⟩, e, r => by
    unfold convX at e
    obtain ⟨xs, e1, e2⟩ := Option.map_eq_some_iff.mp e
    subst h1 e2
    cases r
    obtain ⟨its, rv, ⟨o, ho, hc, n, hd⟩, _⟩ := I.tuple (sqT_same fh h2)
    obtain ⟨as, hr, ha⟩ := reps_reads I fh l h3 e1 rv
    exact ⟨as, Reads.tuple ho hc hd hr, ha⟩
  | .lst l, _, _, _, ⟨a, vs, h1, h2, h3⟩, e, r => by
    unfold convX at e
    obtain ⟨xs, e1, e2⟩ := Option.map_eq_some_iff.mp e
    subst h1 e2
    cases r
    obtain ⟨its, rv, ⟨o, n, ho, hc, _, hd⟩, _⟩ := I.list (SqL.of (fh _ _ h2))
    obtain ⟨as, hr, ha⟩ := reps_reads I fh l h3 e1 rv
    refine ⟨a :: as, Reads.list ho hc hd hr, fun b m => ?_⟩
    rcases List.mem_cons.mp m with rfl | m
    · rw [fh _ _ h2]; exact fun z => nomatch z
    · exact ha b m
  | .dK [] [], _, _, _, ⟨a, kvs, h1, h2, h3, h4⟩, e, r => by
    cases e
    subst h1
    cases r
    have : kvs = [] := List.map_eq_nil_iff.mp h3
    subst this
    refine ⟨[a], dict0 I (fh _ _ h2), fun b m => ?_⟩
    rw [List.mem_singleton.mp m, fh _ _ h2]
    exact fun z => nomatch z
  | .dK (_ :: _) _, _, _, _, _, e, _ => by unfold convX at e; cases e
  | .dK [] (_ :: _), _, _, _, _, e, _ => by unfold convX at e; cases e
  | .drw, _, _, _, _, e, _ => by unfold convX at e; cases e
  | .any _, _, _, _, _, e, _ => by unfold convX at e; cases e
  | .opq, _, _, _, _, e, _ => by unfold convX at e; cases e
  | .scr _, _, _, _, _, e, _ => by unfold convX at e; cases e
  | .exc _ _ _, _, _, _, _, e, _ => by unfold convX at e; cases e
  | .obj _ _ _, _, _, _, _, e, _ => by unfold convX at e; cases e
  | .dT _ _, _, _, _, _, e, _ => by unfold convX at e; cases e
theorem reps_reads (I : Inv X pins σ H s) (fh : Same F H) : ∀ (l : List Dt) {vs : List V} {xs : List PyData} {us : List Value}, Reps X.K i F l vs → convXs l = some xs → Vals vs us → ∃ as, ReadsAll s.heap us xs as ∧ ∀ a ∈ as, H a ≠ none
  | [], _, _, _, h, e, r => by
    unfold convXs at e
    cases e
    rw [show _ = [] from h] at r
    cases r
    exact ⟨[], .nil, fun _ m => nomatch m⟩
  | d :: ds, _, _, _, ⟨v, vr, h1, h2, h3⟩, e, r => by
    unfold convXs at e
    cases e1 : convX d with
    | none => rw [e1] at e; cases e
    | some x =>
      cases e2 : convXs ds with
      | none => rw [e1, e2] at e; cases e
      | some xs =>
        rw [e1, e2] at e
        cases e
        subst h1
        cases r with
        | cons r1 r2 =>
          obtain ⟨as, q1, a1⟩ := rep_reads I fh d h2 e1 r1
          obtain ⟨bs, q2, a2⟩ := reps_reads I fh ds h3 e2 r2
          exact ⟨as ++ bs, .cons q1 q2, fun b m => (List.mem_append.mp m).elim (a1 b) (a2 b)⟩
end
theorem view_reads (I : Inv X pins σ H s) (fh : Same F H) {d : Dt} {v : V} {x : PyData} {u : Value} (h : View X.K i F H d v) (e : convX d = some x) (r : RelV v u) : ∃ as, Reads s.heap u x as ∧ ∀ a ∈ as, H a ≠ none := by
  rcases h with h | ⟨p, vs, l, rfl, rfl, h1, _, h3⟩
  · exact rep_reads I fh d h e r
  · unfold convX at e
    obtain ⟨xs, e1, e2⟩ := Option.map_eq_some_iff.mp e
    subst e2
    cases r
    obtain ⟨its, rv, ⟨o, n, ho, hc, _, hd⟩, _⟩ := I.list (SqL.of h1)
    obtain ⟨as, hr, ha⟩ := reps_reads I fh l h3 e1 rv
    refine ⟨p :: as, Reads.list ho hc hd hr, fun b m => ?_⟩
    rcases List.mem_cons.mp m with rfl | m
    · rw [h1]; exact fun z => nomatch z
    · exact ha b m
def rReprX (K : PySem.W.Frag) : List V → Hp → VK → Prop := fun xs H Q => ∃ i F v d x, xs = [v] ∧ Same F H ∧ View K i F H d v ∧ convX d = some x ∧ x.showable = true ∧ x.depth ≤ 8 ∧ x.shown.length ≤ sizeLine ∧ Q (.str x.shown) H
theorem call_reprX (hs : ∃ o, X.base.get? sysModules = some o) (hg : X.A.guards = some []) (hu : X.A.units + 64 < cLine) : CallR X (.builtin "repr") (rReprX X.K) := by
  intro pins s σ H xs us Q I r h
  obtain ⟨i, F, v, d, x, rfl, fh, vw, ex, h1, h3, h4, q⟩ := h
  obtain ⟨u, rfl, ru⟩ := vals1 r
  obtain ⟨as, rd, ha⟩ := view_reads I fh vw ex ru
  have fin : ∀ h' t tk, (∀ b o, s.heap.get? b = some o → h'.get? b = some o) → EP X pins σ Q (.str x.shown t) { s with heap := h', toks := tk } := fun h' t tk kp => ⟨.str x.shown, H, I.kept kp, ⟨t, rfl⟩, q⟩
  cases u with
  | ref a => exact repr_of_reads' rd h1 (fun _ => far_sys I hs ha) hg (by omega) (fun b o e => e) (fun h' t tk kp => fin h' t tk kp) h4
  | none =>
    cases rd
    exact PySem.P.repr_of_none (fin s.heap s.toks (s.toks + 1) fun b o e => e)
  | bool b =>
    cases rd
    have := fin s.heap s.toks (s.toks + 1) fun b o e => e
    exact PySem.P.repr_of_bool (by simpa only [PyData.shown] using this)
  | int z t =>
    cases rd
    have h1 : z.natAbs.log2 < 1920 := by
      simp only [PyData.showable, decide_eq_true_eq] at h1
      omega
    exact PySem.P.repr_of_int h1 (by simpa only [PyData.shown] using fin s.heap s.toks (s.toks + 1) fun b o e => e)
  | str z t =>
    cases rd
    exact PySem.P.repr_of_str (by simpa only [PyData.shown] using fin s.heap s.toks (s.toks + 1) fun b o e => e) h4
  | _ => cases rd
end
def reprD (d : Dt) : M R := match convX d with
  | some x => if x.showable = true ∧ x.depth ≤ 8 ∧ x.shown.length ≤ 100000 then M.ret (.val (.str x.shown)) else M.no
  | none => M.no
theorem cd_repr {X : Cx} {E : XK} (hs : ∃ o, X.base.get? sysModules = some o) (hg : X.A.guards = some []) (hu : X.A.units + 64 < cLine) : CallD X E (.builtin "repr") reprD := by
  refine ⟨_, call_reprX hs hg hu, fun i s F H x a Q W va q => ?_⟩
  unfold reprD at q
  cases e : convX a with
  | none => rw [e] at q; exact q.elim
  | some d =>
    rw [e] at q
    obtain ⟨⟨h1, h2, h3⟩, q⟩ := ok_if q
    exact ⟨i, F, x, a, d, rfl, W.fh, va, e, h1, h2, le_line h3, q _ F H (.refl W.fh) W.mr rfl⟩
end DL
namespace Lw
open PySem L2
abbrev nums (l : List Int) : List V := l.map V.int
theorem nums_get {l : List Int} {i : Nat} {x : V} (h : (nums l)[i]? = some x) : ∃ z, x = .int z ∧ l[i]? = some z ∧ z ∈ l := by
  rw [List.getElem?_map] at h
  cases e : l[i]? with
  | none =>
    rw [e] at h
    cases h
  | some z =>
    rw [e] at h
    exact ⟨z, (Option.some.inj h).symm, rfl, List.mem_of_getElem? e⟩
section
variable {P : Program} {w : World} {K : PySem.W.Frag} {mg : Str → Option Value} {base : Heap}
theorem same_new {H : Hp} {p : Addr} {o : HO} (h : H p = none) : Same H (upd H p o) := fun b u e => by
  rw [upd_ne (ne_of_none e h)]
  exact e
end
end Lw
namespace LwE
open PySem PySem.Spec PyProof.Rows L2
def dnV (a b : Int) : List Int := (List.range (a - b).toNat).map fun i => a - (i : Nat)
theorem dnV_length (a b : Int) : (dnV a b).length = (a - b).toNat := by
  unfold dnV
  rw [List.length_map, List.length_range]
theorem vals_dn {a b : Int} {acc : Array Value} (h : ItemsOf (fun i v => ∃ t, v = .int (a + i * (-1)) t) acc (a - b).toNat) : Vals ((dnV a b).map V.int) acc.toList := by
  have e : acc.toList.length = (a - b).toNat := by
    rw [Array.length_toList]
    exact h.1
  have e2 : (dnV a b).map V.int = (List.range acc.toList.length).map fun i => V.int (a - (i : Nat)) := by
    unfold dnV
    rw [e, List.map_map]
    rfl
  rw [e2]
  refine vals_of_get acc.toList _ fun j u hj => ?_
  obtain ⟨t, rfl⟩ := h.2 j u (by rw [← hj, Array.getElem?_toList])
  exact ⟨t, by rw [Int.mul_neg, Int.mul_one, Int.sub_eq_add_neg]⟩
section
variable {X : Cx} {a b : Expr} {ta : TA}
def DnOk (a b : Int) : Prop := -1000 ≤ a ∧ a ≤ 1000 ∧ -1000 ≤ b ∧ b ≤ 1000
def tLstDn (ta : TA) : TE := fun σ H Q => ta σ H fun vs H1 => ∃ a b : Int, vs = [.int a, .int b, .int (-1)] ∧ DnOk a b ∧ ∀ q, H1 q = none → Q (.ref q) (upd H1 q (.lst ((dnV a b).map V.int)))
theorem pe_listDn {c : Expr} {p p' pos pos' : Pos} (hc : X.calm = true) (hg : Gl X "list") (hm : X.mg "list" = none) (hgr : Gl X "range") (hmr : X.mg "range" = none) (ha : PA X [a, b, c] ta)
    (hs : starEach [a, b, c] X.env = (false, eval a X.env) :: starEach [b, c] X.env := by rfl) (hpl : (backTo pos' (starEach [b, c] X.env)).any (·.1) = false := by rfl)
    (na : starEach [.Call (.Name "range" p') [a, b, c] [] pos'] X.env = (false, eval (.Call (.Name "range" p') [a, b, c] [] pos') X.env) :: starEach [] X.env := by rfl) :
    PE X (.Call (.Name "list" p) [.Call (.Name "range" p') [a, b, c] [] pos'] [] pos) (tLstDn ta) := by
  refine ⟨fun pins s σ H Q I h => ?_⟩
  have inner : wpAny (model X.prog X.w) X.A (eval (.Call (.Name "range" p') [a, b, c] [] pos') X.env)
      (fun x s' => ∃ r i j t u v H', x = .ref r ∧ IsRange s'.heap r i j (-1) t u v ∧ Inv X pins σ H' s' ∧ DnOk i j ∧ ∀ q, H' q = none → Q (.ref q) (upd H' q (.lst ((dnV i j).map V.int)))) X.xe s := by
    refine Call_ (ld_blt I hgr hmr boot_range (PyProof.Rows.callWith_type1 (thn (ha.run pos' pins s σ H _ I h) fun us s1 ⟨vs, H1, I1, r1, q1⟩ => ?_) hs hpl))
    obtain ⟨i, j, rfl, ok, q⟩ := q1
    obtain ⟨u1, u2, u3, rfl, ⟨t1, rfl⟩, ⟨t2, rfl⟩, ⟨t3, rfl⟩⟩ : ∃ u1 u2 u3, us = [u1, u2, u3] ∧ RelV (.int i) u1 ∧ RelV (.int j) u2 ∧ RelV (.int (-1)) u3 := by
      cases r1 with
      | cons x1 r1 =>
        cases r1 with
        | cons x2 r1 =>
          cases r1 with
          | cons x3 r1 =>
            cases r1
            exact ⟨_, _, _, rfl, x1, x2, x3⟩
    exact call_range_3 (by decide) ⟨_, i, j, _, _, _, H1, rfl, IsRange.new _ _ _ _ _ _ _, I1.kept (t' := s1.toks) fun b u e => Heap.get?_push_of_some _ e, ok, q⟩
      (Or.inl (PyProof.noPylong_small (by decide)))
  refine Call_ (ld_blt I hg hm boot_list (PyProof.Rows.callWith_type1 (args_cons (thn inner fun x s1 ⟨r, i, j, t, u, v, H1, ex, hr, I1, ok, q⟩ => args_nil ?_) na) na))
  subst ex
  obtain ⟨b1, b2, b3, b4⟩ := ok
  refine call_list_range (n := (i - j).toNat) (I1.ok.hd hc) hr (PySem.W.small_down (by omega) (by omega) (by omega) (by omega)) (PySem.W.rangeSize_downNat i j) (by omega) fun h' tk acc c' hk e' hi => ?_
  refine ⟨.ref s1.heap.objs.size, upd H1 s1.heap.objs.size (.lst ((dnV i j).map V.int)), I1.laid hk (Nat.le_refl _)
    (show ObjOk X.prog X.w _ _ _ (.lst ((dnV i j).map V.int)) from ⟨?_, acc.toList, c', vals_dn hi, ?_⟩), rfl, q _ (I1.hok.fresh (Nat.le_refl _))⟩
  · rw [List.length_map, dnV_length, sizeLine_eq]
    omega
  · rw [Array.toArray_toList]
    exact e'
end
end LwE
namespace Lw
open PySem L2 LwE
structure Cells (cs : List Int) : Prop where
  len : cs.length = 64
  bd : ∀ x ∈ cs, 0 ≤ x ∧ x < 2147483647
theorem Cells.set {cs : List Int} (c : Cells cs) (j : Nat) {z : Int} (h0 : 0 ≤ z) (h1 : z < 2147483647) : Cells (cs.set j z) :=
  ⟨by rw [List.length_set]; exact c.len, fun x hx => by
    rcases List.mem_or_eq_of_mem_set hx with q | q
    · exact c.bd x q
    · rw [q]
      exact ⟨h0, h1⟩⟩
theorem Cells.at {cs : List Int} (c : Cells cs) {j : Nat} (hj : j < 64) : ∃ x, (nums cs)[j]? = some (.int x) ∧ 0 ≤ x ∧ x < 2147483647 := by
  have hl : j < cs.length := by rw [c.len]; exact hj
  refine ⟨cs[j], by simp [hl], c.bd _ (List.getElem_mem hl)⟩
theorem set_nums (cs : List Int) (j : Nat) (z : Int) : (nums cs).set j (.int z) = nums (cs.set j z) := by
  show _ = (cs.set j z).map V.int
  rw [List.map_set]
theorem ixN_lt {n j : Nat} (h : j < n) : ixN n (j : Int) = some j := by
  unfold ixN
  rw [if_pos (by omega), if_pos (by omega)]
  simp
section
variable {P : Program} {w : World} {K : PySem.W.Frag} {mg : Str → Option Value} {base : Heap}
theorem scMixed : FnScope ["cell", "n", "blend"] ["cell", "n"] (defScope sMixed) := ⟨rfl, rfl, rfl, by decide +kernel, rfl, by decide +kernel, by decide +kernel⟩
end
end Lw
namespace Lw
open PySem L2 LwE
section
variable {P : Program} {w : World} {K : PySem.W.Frag} {mg : Str → Option Value} {base : Heap}
structure FAt (H H' : Hp) (D : Addr) : Prop where
  same : Same H H'
  free : H D = none
  cells : ∃ cs, Cells cs ∧ H' D = some (.lst (nums cs))
theorem FAt.pair {H H' : Hp} {D T : Addr} {o : HO} (f : FAt H H' D) (h : H' T = none) : FAt H (upd H' T o) D :=
  ⟨f.same.trans (same_new h), f.free, let ⟨cs, c, e⟩ := f.cells; ⟨cs, c, (same_new h) _ _ e⟩⟩
theorem FAt.put {H H' : Hp} {D : Addr} {cs : List Int} (f : FAt H H' D) (c : Cells cs) : FAt H (upd H' D (.lst (nums cs))) D :=
  ⟨fun b o e => by
    rw [upd_ne (ne_of_none e f.free)]
    exact f.same _ _ e, f.free, cs, c, upd_same⟩
def spFolded (K : PySem.W.Frag) : Sp := fun vs H Q _ => ∃ (a : Addr) (ns : List Int), vs = [.ref a] ∧ SqL K H a (nums ns) ∧ ∀ D H', FAt H H' D → Q (.ref D) H'
theorem scFolded : FnScope ["script", "n", "found", "cell"] ["script"] (defScope sFolded) := ⟨rfl, rfl, rfl, by decide +kernel, rfl, by decide +kernel, by decide +kernel⟩
theorem ok_folded {f : Addr} {fd : FuncData} (B : Bare mg) (F : Df K mg "_law_folded" sFolded f fd) : FnOk P w K mg base CX0 1 f fd ["script"] (spFolded K) := by
  refine F.fn.ok scFolded (fun vs H Q E h => ?_) (fun cdv A outer s H vs Q E hr h => ?_)
  · obtain ⟨a, ns, rfl, _⟩ := h
    rfl
  · obtain ⟨a, ns, rfl, hS, k⟩ := h
    refine ⟨_, pss_cons (ps_setLc (i := 2) (own := [("n", 1)]) (g := gName 1) (tt := tYes) rfl scFolded.nd rfl rfl (sw_true rfl rfl rfl (by decide +kernel)) (pi_range1 (by rfl) B.range (pa_cons pe_int pa_nil))
        (blkOk_by (N := ["script", "n", "found", "cell"]) (sc := defScope sFolded) (by decide +kernel)) (fun _ _ _ _ _ => pg_name (i := 1) scFolded.nd rfl (Or.inl rfl)) (fun _ _ _ _ _ => pts_nil)
        (fun _ _ _ _ _ => pe_op op_add pe_int (pv 1)))
      (pss_cons (ps_for PassesOwn.never rfl (pi_enum (by rfl) B.enumerate (pa_cons (pv 0) pa_nil)) (pg_tup rfl (pgs_cons (pg_name (i := 1) scFolded.nd rfl (Or.inl rfl)) (pgs_cons (pg_name (i := 3) scFolded.nd rfl (Or.inl rfl)) pgs_nil)))
        (pss_one (ps_asg (pe_op op_mod (pe_callTy call_int1 (by rfl) B.int (by decide +kernel) (pa_cons (pe_op op_add (pe_op op_mul (pe_ix ix_list (pv 2)
            (pe_op op_mod (pe_callTy call_int1 (by rfl) B.int (by decide +kernel) (pa_cons (pv 1) pa_nil)) pe_int) (fun _ _ => rfl)) pe_int) (pv 3)) pa_nil)) pe_int)
          (pg_sub (pv 2) (pe_op op_mod (pe_callTy call_int1 (by rfl) B.int (by decide +kernel) (pa_cons (pv 1) pa_nil)) pe_int) set_list))))
      (pss_cons (ps_for PassesOwn.never rfl (pi_range2 (by rfl) B.range (pa_cons pe_int (pa_cons pe_int pa_nil))) (pg_name (i := 1) scFolded.nd rfl (Or.inl rfl))
        (pss_one (ps_asg (pe_op op_mod (pe_callTy call_int1 (by rfl) B.int (by decide +kernel) (pa_cons (pe_op op_add (pe_ix ix_list (pv 2) (pv 1) (fun _ _ => rfl))
            (pe_op op_mul (pe_ix ix_list (pv 2) (pe_op op_sub (pv 1) pe_int) (fun _ _ => rfl)) pe_int)) pa_nil)) pe_int)
          (pg_sub (pv 2) (pv 1) set_list))))
      (pss_one (ps_ret (pv 2))))), ?_⟩
    refine ⟨64, rfl, by decide, by decide, fun D hD => lc_range (lo := 0) (n := 64)
      (fun i H' => Same H H' ∧ ∃ cs : List Int, cs.length = i ∧ (∀ x ∈ cs, 0 ≤ x ∧ x < 2147483647) ∧ H' D = some (.lst (nums cs))) ⟨same_new hD, [], rfl, fun x hx => by simp at hx, upd_same⟩ ?_ ?_⟩
    · intro i H' hi ⟨h1, cs, h2, h3, h4⟩
      refine ⟨rfl, ?_⟩
      unfold tYes
      refine iteT ?_
      refine ⟨_, rfl, _, _, rfl, rfl, nums cs, h4, by rw [List.length_map]; exact small1000 (by omega), ?_, cs ++ [17 + (0 + (i : Int))], by simp [h2], fun x hx => ?_, by rw [upd_same]; simp [nums]⟩
      · intro b o e
        rw [upd_ne (ne_of_none e hD)]
        exact h1 _ _ e
      · rcases List.mem_append.mp hx with q | q
        · exact h3 x q
        · have e := List.mem_singleton.mp q
          omega
    · intro H' ⟨h1, cs, h2, h3, h4⟩
      have F0 : FAt H H' D := ⟨h1, hD, cs, ⟨h2, h3⟩, h4⟩
      refine ⟨_, rfl, a, _, rfl, h1.seq hS, for_enL (K := K) (a := a) (xs := nums ns) (fun i σ H'' => ∃ v1 v3 : Option V, σ = [some (.ref a), v1, some (.ref D), v3] ∧ FAt H H'' D) ⟨_, _, rfl, F0⟩ (fun i σ H'' _ ⟨_, _, _, f⟩ => f.same.seq hS) ?_ ?_⟩
      · rintro i x T σ H'' hx ⟨v1, v3, rfl, f⟩ hT
        obtain ⟨z, rfl, _, _⟩ := nums_get hx
        have f2 : FAt H (upd H'' T (.tup [.int (i : Nat), .int z])) D := f.pair hT
        obtain ⟨cs, cc, eD⟩ := f2.cells
        have hj : i % 64 < 64 := Nat.mod_lt _ (by decide)
        obtain ⟨y, hy, hy0, hy1⟩ := cc.at hj
        have ei : ((i : Nat) : Int) % 64 = ((i % 64 : Nat) : Int) := by omega
        refine ⟨T, _, rfl, SqT.of upd_same, rfl, _, _, rfl, _, _, rfl, rfl, ?_⟩
        refine ⟨_, rfl, _, rfl, .inl ⟨_, rfl, _, _, rfl, rfl, (by show (0 : Int) < 64; decide), D, _, _, _, rfl, rfl, SqL.of eD, at_of ei hy, _, _, rfl, rfl, .inr ⟨by decide, by decide⟩, _, rfl, _, _, rfl, rfl,
          .inl ⟨_, rfl, _, _, rfl, rfl, (by show (0 : Int) < 2147483647; decide), ?_⟩⟩⟩
        refine ⟨_, rfl, _, rfl, .inl ⟨_, rfl, _, _, rfl, rfl, (by show (0 : Int) < 64; decide), D, _, _, i % 64, rfl, rfl, eD, ?_, ?_⟩⟩
        · rw [ei]
          refine ixN_lt ?_
          rw [List.length_map, cc.len]
          exact hj
        · refine ⟨_, _, rfl, ?_⟩
          rw [set_nums]
          exact f2.put (cc.set _ (by omega) (by omega))
      · rintro σ H'' ⟨v1, v3, rfl, f⟩
        refine ⟨1, 64, rfl, ⟨by decide, by decide, by decide, by decide⟩, for_range (lo := 1) (n := 63) (fun i σ H'' => ∃ v1 v3 : Option V, σ = [some (.ref a), v1, some (.ref D), v3] ∧ FAt H H'' D) ⟨_, _, rfl, f⟩ ?_ ?_⟩
        · rintro i σ H3 hi ⟨v1, v3, rfl, f⟩
          obtain ⟨cs, cc, eD⟩ := f.cells
          obtain ⟨y, hy, hy0, hy1⟩ := cc.at (show i + 1 < 64 by omega)
          obtain ⟨z, hz, hz0, hz1⟩ := cc.at (show i < 64 by omega)
          have e1 : (1 + (i : Int)) = ((i + 1 : Nat) : Int) := by omega
          have e0 : (1 + (i : Int)) - 1 = ((i : Nat) : Int) := by omega
          refine ⟨_, rfl, _, rfl, D, _, _, _, rfl, rfl, SqL.of eD, at_of e1 hy, _, rfl, _, rfl, _, _, rfl, rfl, D, _, _, _, rfl, rfl, SqL.of eD, at_of e0 hz, _, _, rfl, rfl, .inr ⟨by decide, by decide⟩, _, _, rfl, rfl,
            .inl ⟨_, rfl, _, _, rfl, rfl, (by show (0 : Int) < 2147483647; decide), ?_⟩⟩
          refine ⟨_, rfl, _, rfl, D, _, _, i + 1, rfl, rfl, eD, ?_, ?_⟩
          · rw [e1]
            refine ixN_lt ?_
            rw [List.length_map, cc.len]
            omega
          · refine ⟨_, _, rfl, ?_⟩
            rw [set_nums]
            exact f.put (cc.set _ (by omega) (by omega))
        · rintro σ H3 ⟨v1, v3, rfl, f⟩
          exact ⟨_, rfl, k D H3 f⟩
end
end Lw
namespace Lw
open PySem L2 LwE
theorem nums_at {l : List Int} {i : Nat} (h : i < l.length) : (nums l)[i]? = some (.int l[i]) := by
  rw [List.getElem?_map, List.getElem?_eq_getElem h]
  rfl
abbrev kC : Key := Sum.inr "cells"
abbrev kG : Key := Sum.inr "great"
abbrev kS : Key := Sum.inr "spot"
theorem kCG : ¬ (("cells" : Str) = "great") := by decide +kernel
theorem kCS : ¬ (("cells" : Str) = "spot") := by decide +kernel
theorem kGS : ¬ (("great" : Str) = "spot") := by decide +kernel
theorem kSG : ¬ (("spot" : Str) = "great") := by decide +kernel
def mkd (c g : Addr) (n : Int) : List (Key × V) := [(kC, .ref c), (kG, .ref g), (kS, .int n)]
theorem mkd_c (c g : Addr) (n : Int) : valV (mkd c g n) kC = some (.ref c) := by
  simp [mkd, valV, List.find?_cons, kC, kG, kS, kCG, kCS, kGS, kSG]
theorem mkd_g (c g : Addr) (n : Int) : valV (mkd c g n) kG = some (.ref g) := by
  simp [mkd, valV, List.find?_cons, kC, kG, kS, kCG, kCS, kGS, kSG]
theorem mkd_s (c g : Addr) (n : Int) : valV (mkd c g n) kS = some (.int n) := by
  simp [mkd, valV, List.find?_cons, kC, kG, kS, kCG, kCS, kGS, kSG]
theorem mkd_ps (c g : Addr) (n z : Int) : putK (mkd c g n) kS (.int z) = mkd c g z := by
  simp [mkd, putK, kC, kG, kS, kCG, kCS, kGS, kSG]
theorem mkd_pg (c g h : Addr) (n : Int) : putK (mkd c g n) kG (.ref h) = mkd c h n := by
  simp [mkd, putK, kC, kG, kS, kCG, kCS, kGS, kSG]
structure Dr (H : Hp) (m g c : Addr) (n : Int) : Prop where
  hm : H m = some (.dK (mkd c g n))
  hc : ∃ cs, Cells cs ∧ H c = some (.lst (nums cs))
  hg : ∃ gs : List Int, gs.length ≤ 63 ∧ H g = some (.lst (nums gs))
  ne : c ≠ g
  n0 : 0 ≤ n
def Keep (m g : Addr) (H H' : Hp) : Prop := ∀ b o, H b = some o → b ≠ m → b ≠ g → H' b = some o
theorem Keep.refl (m g : Addr) (H : Hp) : Keep m g H H := fun _ _ e _ _ => e
theorem Keep.trans {m g : Addr} {H H1 H2 : Hp} (a : Keep m g H H1) (b : Keep m g H1 H2) : Keep m g H H2 := fun x o e h1 h2 => b x o (a x o e h1 h2) h1 h2
theorem Keep.of {m g : Addr} {H H1 : Hp} (a : Same H H1) : Keep m g H H1 := fun x o e _ _ => a x o e
theorem Dr.mg {H : Hp} {m g c : Addr} {n : Int} (d : Dr H m g c n) : m ≠ g := by
  obtain ⟨gs, _, e⟩ := d.hg
  exact ne_of d.hm e (by intro z; cases z)
theorem Dr.mc {H : Hp} {m g c : Addr} {n : Int} (d : Dr H m g c n) : m ≠ c := by
  obtain ⟨cs, _, e⟩ := d.hc
  exact ne_of d.hm e (by intro z; cases z)
theorem Dr.same {H H' : Hp} {m g c : Addr} {n : Int} (d : Dr H m g c n) (s : Same H H') : Dr H' m g c n :=
  ⟨s _ _ d.hm, let ⟨cs, a, b⟩ := d.hc; ⟨cs, a, s _ _ b⟩, let ⟨cs, a, b⟩ := d.hg; ⟨cs, a, s _ _ b⟩, d.ne, d.n0⟩
theorem Dr.next {H : Hp} {m g c : Addr} {n : Int} (d : Dr H m g c n) : Dr (upd H m (.dK (mkd c g (n + 1)))) m g c (n + 1) :=
  ⟨upd_same, let ⟨cs, a, b⟩ := d.hc; ⟨cs, a, by rw [upd_ne d.mc.symm]; exact b⟩, let ⟨cs, a, b⟩ := d.hg; ⟨cs, a, by rw [upd_ne d.mg.symm]; exact b⟩, d.ne, by have := d.n0; omega⟩
theorem Dr.great {H : Hp} {m g c : Addr} {n : Int} (d : Dr H m g c n) {gs : List Int} (h : gs.length ≤ 63) : Dr (upd H g (.lst (nums gs))) m g c n :=
  ⟨by rw [upd_ne d.mg]; exact d.hm, let ⟨cs, a, b⟩ := d.hc; ⟨cs, a, by rw [upd_ne d.ne]; exact b⟩, ⟨gs, h, upd_same⟩, d.ne, d.n0⟩
theorem dp_nums {K : PySem.W.Frag} {H : Hp} : ∀ l : List Int, DpAll K H (nums l) (l.map PyData.int)
  | [] => .nil
  | x :: l => .cons (.int x) (dp_nums l)
theorem lay_nums : ∀ l : List Int, PyData.canLayAll0 (l.map PyData.int) = true ∧ PyData.depthAll (l.map PyData.int) = 0
  | [] => by simp [PyData.canLayAll0, PyData.depthAll]
  | x :: l => by
    have ih := lay_nums l
    simp [PyData.canLayAll0, PyData.depthAll, PyData.canLay0, PyData.depth, ih.1, ih.2]
theorem shaped_nums (l : List Int) : SeqAt.shaped (.list (l.map PyData.int)) = true := by
  have h := lay_nums l
  unfold SeqAt.shaped
  simp [PyData.canLay0, PyData.depth, h.1, h.2]
theorem Dr.getS {H : Hp} {m g c : Addr} {n : Int} (d : Dr H m g c n) : DGet H m (.str "spot") (some (.int n)) := by
  have q := DGet.k (k := kS) d.hm
  rw [mkd_s] at q
  exact q
theorem Dr.getG {H : Hp} {m g c : Addr} {n : Int} (d : Dr H m g c n) : DGet H m (.str "great") (some (.ref g)) := by
  have q := DGet.k (k := kG) d.hm
  rw [mkd_g] at q
  exact q
theorem Dr.getC {H : Hp} {m g c : Addr} {n : Int} (d : Dr H m g c n) : DGet H m (.str "cells") (some (.ref c)) := by
  have q := DGet.k (k := kC) d.hm
  rw [mkd_c] at q
  exact q
section
variable {P : Program} {w : World} {K : PySem.W.Frag} {mg : Str → Option Value} {base : Heap}
theorem scDraw : FnScope ["m", "limit", "n", "lot", "here", "cell"] ["m", "limit"] (defScope sDraw) := ⟨rfl, rfl, rfl, by decide +kernel, rfl, by decide +kernel, by decide +kernel⟩
end
end Lw
namespace Lw
open PySem L2 LwE
section
variable {P : Program} {w : World} {K : PySem.W.Frag} {mg : Str → Option Value} {base : Heap}
theorem merge_mkd (c g : Addr) : mergeK [] [(kC, V.ref c), (kG, V.ref g), (kS, V.int 0)] = mkd c g 0 := by
  simp [mergeK, putK, mkd, kC, kG, kS, kCG, kCS, kGS, kSG]
def spBegun (K : PySem.W.Frag) : Sp := fun vs H Q _ => ∃ (a : Addr) (ns : List Int), vs = [.ref a] ∧ SqL K H a (nums ns) ∧ ns.length ≤ 63 ∧ ∀ m g c H', Same H H' → Dr H' m g c 0 → Q (.ref m) H'
theorem scBegun : FnScope ["script", "m", "cell"] ["script"] (defScope sBegun) := ⟨rfl, rfl, rfl, by decide +kernel, rfl, by decide +kernel, by decide +kernel⟩
theorem ok_begun {f f1 : Addr} {fd fd1 : FuncData} (F : Df K mg "_law_begun" sBegun f fd) (F1 : Df K mg "_law_folded" sFolded f1 fd1) (b1 : Binds K fd1 ["script"] [])
    (G1 : FnOk P w K mg base CX0 1 f1 fd1 ["script"] (spFolded K)) : FnOk P w K mg base CX0 2 f fd ["script"] (spBegun K) := by
  refine F.fn.ok scBegun (fun vs H Q E h => ?_) (fun cdv A outer s H vs Q E hr h => ?_)
  · obtain ⟨a, ns, rfl, _⟩ := h
    rfl
  · obtain ⟨a, ns, rfl, hS, hl, k⟩ := h
    have hu := hu_of hr
    refine ⟨_, pss_cons (ps_set (i := 1) scBegun.nd rfl (Or.inl rfl) (pe_disp (pps_cons pe_str (pe_call G1 hr (by rfl) F1.g F1.fn.kp b1 .nil pass0 (pa_cons (pv 0) pa_nil))
        (pps_cons pe_str (pe_lst pa_nil) (pps_cons pe_str pe_int pps_nil))) (by rfl) (by rfl) (fun z => by cases z) (by decide)))
      (pss_cons (ps_dput hu (pv 1) pe_str (pe_lc (own := [("cell", 2)]) (g := gName 2) (tt := tYes) rfl scBegun.nd (pi_list (pv 0)) (blkOk_by (N := ["script", "m", "cell"]) (sc := defScope sBegun) (by decide +kernel))
          (fun _ _ _ _ _ => pg_name (i := 2) scBegun.nd rfl (Or.inl rfl)) (fun _ _ _ _ _ => pts_nil)
          (fun _ _ _ _ _ => pe_ifExp (pt_cmpR op_ge (pv 2) (pe_op op_pow pe_int pe_int) (nomark _)) (pv 2) pe_int)) rfl)
      (pss_one (ps_ret (pv 1)))), ?_⟩
    intro p hp
    refine ⟨_, rfl, a, ns, rfl, (same_new hp).seq hS, fun D H1 f1 => ?_⟩
    have s1 : Same H H1 := (same_new hp).trans f1.same
    have hp1 : H1 p = some (.dK []) := f1.same _ _ upd_same
    refine ⟨Nat.zero_le _, fun g hg => ?_⟩
    have npg : p ≠ g := ne_of_none hp1 hg
    refine ⟨by rw [upd_ne npg]; exact hp1, [(kC, .ref D), (kG, .ref g), (kS, .int 0)], rfl, (by show 3 ≤ 15; decide), ?_⟩
    rw [merge_mkd]
    obtain ⟨cs, cc, eD⟩ := f1.cells
    have nDp : D ≠ p := ne_of eD hp1 (by intro z; cases z)
    have nDg : D ≠ g := ne_of_none eD hg
    have d0 : Dr (upd (upd H1 g (.lst [])) p (.dK (mkd D g 0))) p g D 0 :=
      ⟨upd_same, ⟨cs, cc, by rw [upd_ne nDp, upd_ne nDg]; exact eD⟩, ⟨[], by decide, by rw [upd_ne npg.symm, upd_same]; rfl⟩, nDg, Int.le_refl 0⟩
    have s2 : Same H (upd (upd H1 g (.lst [])) p (.dK (mkd D g 0))) := fun b o e => by
      rw [upd_ne (ne_of_none e hp), upd_ne (ne_of_none (s1 _ _ e) hg)]
      exact s1 _ _ e
    generalize hH2 : upd (upd H1 g (.lst [])) p (.dK (mkd D g 0)) = H2 at d0 s2 ⊢
    clear hH2
    refine ⟨_, rfl, a, rfl, ⟨_, s2.seq hS⟩, fun q hq => lc_list (K := K) (a := a) (xs := nums ns) (fun i H' => Same H2 H' ∧ ∃ gs : List Int, gs.length = i ∧ H' q = some (.lst (nums gs))) ⟨same_new hq, [], rfl, upd_same⟩
      (fun i H' _ ⟨s3, _⟩ => (s2.trans s3).seq hS) ?_ ?_⟩
    · intro i x H' hx ⟨s3, gs, h2, h3⟩
      obtain ⟨z, rfl, hz, _⟩ := nums_get hx
      have hi : i < ns.length := (List.getElem?_eq_some_iff.mp hz).1
      refine ⟨rfl, ?_⟩
      unfold tYes
      refine iteT ?_
      refine ⟨_, rfl, _, _, rfl, rfl, ⟨by decide, by decide, by decide⟩, _, _, rfl, rfl, _, rfl, ?_⟩
      have put : ∀ y : Int, ∃ acc, H' q = some (.lst acc) ∧ acc.length < sizeLine ∧ Same H2 (upd H' q (.lst (acc ++ [.int y]))) ∧ ∃ gs : List Int, gs.length = i + 1 ∧ (upd H' q (.lst (acc ++ [.int y]))) q = some (.lst (nums gs)) := fun y => by
        refine ⟨nums gs, h3, by rw [List.length_map]; exact small1000 (by omega), fun b o e => ?_, gs ++ [y], by simp [h2], by rw [upd_same]; simp [nums]⟩
        rw [upd_ne (ne_of_none e hq)]
        exact s3 _ _ e
      refine ite2 (fun _ => ?_) (fun _ => ?_)
      · exact ⟨_, rfl, put z⟩
      · exact put 0
    · intro H' ⟨s3, gs, h2, h3⟩
      have d3 := d0.same s3
      refine ⟨_, rfl, p, _, rfl, DPut.k (k := kG) d3.hm (by show 3 < sizeLine; decide), ?_⟩
      rw [mkd_pg]
      have nqp : q ≠ p := ne_of h3 d3.hm (by intro z; cases z)
      obtain ⟨cs', cc', eD'⟩ := d0.hc
      have nDq : D ≠ q := ne_of_none eD' hq
      refine ⟨_, rfl, k p q D _ (fun b o e => ?_) ⟨upd_same, ⟨cs', cc', ?_⟩, ⟨gs, ?_, ?_⟩, nDq, Int.le_refl 0⟩⟩
      · rw [upd_ne (ne_of_none e hp)]
        exact s3 _ _ (s2 _ _ e)
      · rw [upd_ne nDp]
        exact s3 _ _ eD'
      · rw [h2, List.length_map]
        exact hl
      · rw [upd_ne nqp]
        exact h3
end
end Lw
namespace Lw
open PySem L2 LwE
def mixI (c n : Int) : Int := ((c * (1 + 2 * n) * 48271) % 2147483647 + 7919 * n * n + 104729 * n) * 69621 % 2147483629 / 7
theorem mixI_bd (c n : Int) : 0 ≤ mixI c n ∧ mixI c n < 2147483647 := by
  unfold mixI
  generalize ((c * (1 + 2 * n) * 48271) % 2147483647 + 7919 * n * n + 104729 * n) * 69621 = y
  omega
structure DrE (H : Hp) (m g c : Addr) (n : Int) (gs cs : List Int) : Prop where
  hm : H m = some (.dK (mkd c g n))
  hc : H c = some (.lst (nums cs))
  hg : H g = some (.lst (nums gs))
  cc : Cells cs
  gl : gs.length ≤ 63
  ne : c ≠ g
  n0 : 0 ≤ n
theorem DrE.dr {H : Hp} {m g c : Addr} {n : Int} {gs cs : List Int} (d : DrE H m g c n gs cs) : Dr H m g c n := ⟨d.hm, ⟨cs, d.cc, d.hc⟩, ⟨gs, d.gl, d.hg⟩, d.ne, d.n0⟩
theorem DrE.same {H H' : Hp} {m g c : Addr} {n : Int} {gs cs : List Int} (d : DrE H m g c n gs cs) (s : Same H H') : DrE H' m g c n gs cs := ⟨s _ _ d.hm, s _ _ d.hc, s _ _ d.hg, d.cc, d.gl, d.ne, d.n0⟩
theorem DrE.next {H : Hp} {m g c : Addr} {n : Int} {gs cs : List Int} (d : DrE H m g c n gs cs) : DrE (upd H m (.dK (mkd c g (n + 1)))) m g c (n + 1) gs cs :=
  ⟨upd_same, by rw [upd_ne d.dr.mc.symm]; exact d.hc, by rw [upd_ne d.dr.mg.symm]; exact d.hg, d.cc, d.gl, d.ne, by have := d.n0; omega⟩
theorem DrE.great {H : Hp} {m g c : Addr} {n : Int} {gs hs cs : List Int} (d : DrE H m g c n gs cs) (h : hs.length ≤ 63) : DrE (upd H g (.lst (nums hs))) m g c n hs cs :=
  ⟨by rw [upd_ne d.dr.mg]; exact d.hm, by rw [upd_ne d.ne]; exact d.hc, upd_same, d.cc, h, d.ne, d.n0⟩
def mixP (n : Int) (cs : List Int) : Int := mixI (mixI (cs[n.toNat % 64]?.getD 0 + 31 * (n / 64)) n) (n + 7)
def drawP (n : Int) (gs cs : List Int) (lim : Int) : Int × List Int :=
  if gs = [] then (mixP n cs % lim, gs) else
    if 0 < gs[n.toNat % gs.length]?.getD 0 then (gs[n.toNat % gs.length]?.getD 0 % lim, gs.set (n.toNat % gs.length) (gs[n.toNat % gs.length]?.getD 0 / lim)) else (mixP n cs % lim, gs)
theorem drawP_bd (n : Int) (gs cs : List Int) {lim : Int} (h : 1 ≤ lim) : 0 ≤ (drawP n gs cs lim).1 ∧ (drawP n gs cs lim).1 < lim := by
  unfold drawP
  split
  · exact ⟨Int.emod_nonneg _ (by omega), Int.emod_lt_of_pos _ (by omega)⟩
  · split
    · exact ⟨Int.emod_nonneg _ (by omega), Int.emod_lt_of_pos _ (by omega)⟩
    · exact ⟨Int.emod_nonneg _ (by omega), Int.emod_lt_of_pos _ (by omega)⟩
section
variable {P : Program} {w : World} {K : PySem.W.Frag} {mg : Str → Option Value} {base : Heap}
def spMixedE : Sp := fun vs H Q _ => ∃ c n : Int, vs = [.int c, .int n] ∧ 0 ≤ n ∧ n ≤ 1000000 ∧ Q (.int (mixI c n)) H
theorem ok_mixedE {f : Addr} {fd : FuncData} (B : Bare mg) (F : Df K mg "_law_mixed" sMixed f fd) : FnOk P w K mg base CX0 1 f fd ["cell", "n"] spMixedE := by
  refine F.fn.ok scMixed (fun vs H Q E h => ?_) (fun cdv A outer s H vs Q E hr h => ?_)
  · obtain ⟨c, n, rfl, _⟩ := h
    rfl
  · obtain ⟨c, n, rfl, h0, h1, k⟩ := h
    refine ⟨_, pss_cons (ps_set (i := 2) scMixed.nd rfl (Or.inl rfl)
        (pe_op op_add (pe_op op_add (pe_op op_mod (pe_callTy call_int1 (by rfl) B.int (by decide +kernel) (pa_cons (pe_op op_mul (pe_op op_mul (pv 0) (pe_op op_add pe_int (pe_op op_mul pe_int (pv 1)))) pe_int) pa_nil)) pe_int)
          (pe_op op_mul (pe_op op_mul pe_int (pv 1)) (pv 1))) (pe_op op_mul pe_int (pv 1))))
      (pss_one (ps_ret (pe_op op_fdiv (pe_op op_mod (pe_callTy call_int1 (by rfl) B.int (by decide +kernel) (pa_cons (pe_op op_mul (pv 2) pe_int) pa_nil)) pe_int) pe_int))), ?_⟩
    refine ⟨_, rfl, _, rfl, _, _, rfl, rfl, .inl ⟨by decide, by decide⟩, _, _, rfl, rfl, _, _, rfl, rfl, .inr ⟨by omega, by omega⟩, _, _, rfl, rfl, .inr ⟨by decide, by decide⟩,
      .inl ⟨_, rfl, _, _, rfl, rfl, (by show (0 : Int) < 2147483647; decide), _, rfl, _, _, rfl, rfl, .inl ⟨by decide, by decide⟩, _, rfl, _, _, rfl, rfl, .inr ⟨by omega, by omega⟩,
        _, _, rfl, rfl, _, rfl, _, _, rfl, rfl, .inl ⟨by decide, by decide⟩, _, _, rfl, rfl, ?_⟩⟩
    exact ⟨_, rfl, _, _, rfl, rfl, .inr ⟨by decide, by decide⟩, .inl ⟨_, rfl, _, _, rfl, rfl, (by show (0 : Int) < 2147483629; decide), _, _, rfl, rfl, ⟨by decide, by decide⟩, k⟩⟩
def spDrawE : Sp := fun vs H Q _ => ∃ (m g c : Addr) (n lim : Int) (gs cs : List Int), vs = [.ref m, .int lim] ∧ DrE H m g c n gs cs ∧ n ≤ 900000 ∧ 1 ≤ lim ∧ lim < 1073741824 ∧
  ∀ (H' : Hp), DrE H' m g c (n + 1) (drawP n gs cs lim).2 cs → Keep m g H H' → Q (.int (drawP n gs cs lim).1) H'
theorem ok_drawE {f f1 : Addr} {fd fd1 : FuncData} (B : Bare mg) (F : Df K mg "_law_draw" sDraw f fd) (F1 : Df K mg "_law_mixed" sMixed f1 fd1) (b1 : Binds K fd1 ["cell", "n"] [])
    (G1 : FnOk P w K mg base CX0 1 f1 fd1 ["cell", "n"] spMixedE) : FnOk P w K mg base CX0 2 f fd ["m", "limit"] spDrawE := by
  refine F.fn.ok scDraw (fun vs H Q E h => ?_) (fun cdv A outer s H vs Q E hr h => ?_)
  · obtain ⟨m, g, c, n, lim, gs, cs, rfl, _⟩ := h
    rfl
  · obtain ⟨m, g, c, n, lim, gs, cs, rfl, d, hn, hl1, hl2, k⟩ := h
    have hu := hu_of hr
    refine ⟨_, pss_cons (ps_set (i := 2) scDraw.nd rfl (Or.inl rfl) (pe_dget hu (pv 0) pe_str (fun _ _ => rfl)))
      (pss_cons (ps_dput hu (pv 0) pe_str (pe_op op_add (pv 2) pe_int) rfl)
      (pss_cons (ps_if (pt_cmpR (op_neD hr.units) (pe_dget hu (pv 0) pe_str (fun _ _ => rfl)) (pe_lst pa_nil) (nomark _))
        (pss_cons (ps_set (i := 3) scDraw.nd rfl (Or.inl rfl) (pe_dget hu (pv 0) pe_str (fun _ _ => rfl)))
        (pss_cons (ps_set (i := 4) scDraw.nd rfl (Or.inl rfl) (pe_op op_mod (pe_callTy call_int1 (by rfl) B.int (by decide +kernel) (pa_cons (pv 2) pa_nil)) (pe_callB call_len_seq (by rfl) B.len PySem.boot_len (pa_cons (pv 3) pa_nil))))
        (pss_cons (ps_set (i := 5) scDraw.nd rfl (Or.inl rfl) (pe_ix ix_list (pv 3) (pv 4) (fun _ _ => rfl)))
        (pss_one (ps_if (pt_cmpR op_gt (pv 5) pe_int (nomark _))
          (pss_cons (ps_asg (pe_op op_fdiv (pv 5) (pv 1)) (pg_sub (pv 3) (pv 4) set_list))
          (pss_one (ps_ret (pe_op op_mod (pe_callTy call_int1 (by rfl) B.int (by decide +kernel) (pa_cons (pv 5) pa_nil)) (pv 1)))))
          pss_nil))))) pss_nil)
      (pss_cons (ps_set (i := 3) scDraw.nd rfl (Or.inl rfl) (pe_dget hu (pv 0) pe_str (fun _ _ => rfl)))
      (pss_one (ps_ret (pe_op op_mod (pe_callTy call_int1 (by rfl) B.int (by decide +kernel) (pa_cons
        (pe_call G1 hr (by rfl) F1.g F1.fn.kp b1 .nil pass0 (pa_cons (pe_call G1 hr (by rfl) F1.g F1.fn.kp b1 .nil pass0 (pa_cons
            (pe_op op_add (pe_ix ix_list (pv 3) (pe_op op_mod (pe_callTy call_int1 (by rfl) B.int (by decide +kernel) (pa_cons (pv 2) pa_nil)) pe_int) (fun _ _ => rfl)) (pe_op op_mul pe_int (pe_op op_fdiv (pv 2) pe_int)))
            (pa_cons (pv 2) pa_nil)))
          (pa_cons (pe_op op_add (pv 2) pe_int) pa_nil))) pa_nil)) (pv 1))))))), ?_⟩
    have n0 := d.n0
    -- n = m['spot']; m['spot'] = n + 1
    refine ⟨_, rfl, m, _, rfl, d.dr.getS, ?_⟩
    refine ⟨_, rfl, _, _, rfl, rfl, _, rfl, m, _, rfl, DPut.k (k := kS) d.hm (by show 3 < sizeLine; decide), ?_⟩
    rw [mkd_ps]
    have d1 := d.next
    have k1 : Keep m g H (upd H m (.dK (mkd c g (n + 1)))) := fun b o e h1 _ => by
      rw [upd_ne h1]
      exact e
    generalize hH1 : upd H m (.dK (mkd c g (n + 1))) = H1 at d1 k1 ⊢
    clear hH1
    -- if m['great'] != []
    refine ⟨_, rfl, m, _, rfl, d1.dr.getG, Nat.zero_le _, fun e he => ?_⟩
    have d2 : DrE (upd H1 e (.lst [])) m g c (n + 1) gs cs := d1.same (same_new he)
    have k2 : Keep m g H (upd H1 e (.lst [])) := k1.trans (.of (same_new he))
    have hge := d2.hg
    have hgl := d2.gl
    have hle : (upd H1 e (.lst [])) e = some (.lst []) := upd_same
    generalize hH2 : upd H1 e (.lst []) = H2 at d2 k2 hge hle ⊢
    clear hH2
    have hce := d2.hc
    have cc := d2.cc
    have hj : n.toNat % 64 < 64 := Nat.mod_lt _ (by decide)
    have hjc : n.toNat % 64 < cs.length := by rw [cc.len]; exact hj
    have ej : n % 64 = ((n.toNat % 64 : Nat) : Int) := by omega
    have hy : (nums cs)[n.toNat % 64]? = some (.int (cs[n.toNat % 64]?.getD 0)) := by
      rw [nums_at hjc, List.getElem?_eq_getElem hjc]
      rfl
    have el : (1 : Int) ≤ lim := hl1
    have mb := mixI_bd (cs[n.toNat % 64]?.getD 0 + 31 * (n / 64)) n
    refine ⟨.list (gs.map PyData.int), .list [], .lst (SqL.of hge) (dp_nums gs), .lst (SqL.of hle) .nil, shaped_nums gs, by decide, _, rfl, ?_⟩
    cases gs with
    | nil =>
      refine iteF ?_
      refine ⟨_, rfl, m, _, rfl, d2.dr.getC, ?_⟩
      refine ⟨_, rfl, _, rfl, .inl ⟨_, rfl, _, _, rfl, rfl, (by show (0 : Int) < 64; decide), c, _, _, _, rfl, rfl, SqL.of hce, at_of ej hy, _, rfl, _, _, rfl, rfl, ⟨by decide, by decide⟩,
        _, _, rfl, rfl, .inl ⟨by decide, by decide⟩, _, _, rfl, rfl, _, rfl, _, _, rfl, n0, by omega, ⟨_, rfl, _, _, rfl, rfl, _, _, rfl, by omega, by omega,
          .inl ⟨_, rfl, _, rfl, _, _, rfl, rfl, (by show (0 : Int) < lim; omega), k H2 d2 k2⟩⟩⟩⟩
    | cons x gs =>
      refine iteT ?_
      have hlen : (nums (x :: gs)).length = (x :: gs).length := List.length_map ..
      have hpos : 0 < (x :: gs).length := Nat.succ_pos _
      have hi : n.toNat % (x :: gs).length < (x :: gs).length := Nat.mod_lt _ hpos
      have ei : n % (((nums (x :: gs)).length : Nat) : Int) = ((n.toNat % (x :: gs).length : Nat) : Int) := by
        rw [hlen]
        have e9 : ((n.toNat : Nat) : Int) = n := Int.toNat_of_nonneg n0
        have e8 : ((n.toNat % (x :: gs).length : Nat) : Int) = ((n.toNat : Nat) : Int) % (((x :: gs).length : Nat) : Int) := Int.natCast_emod _ _
        rw [e8, e9]
      have kk := k
      unfold drawP at kk
      rw [if_neg (by simp)] at kk
      generalize hi2 : n.toNat % (x :: gs).length = i at hi ei kk
      have hv : (nums (x :: gs))[i]? = some (.int ((x :: gs)[i]?.getD 0)) := by
        rw [nums_at hi, List.getElem?_eq_getElem hi]
        rfl
      refine ⟨_, rfl, m, _, rfl, d2.dr.getG, ?_⟩
      refine ⟨_, rfl, .inl ⟨_, rfl, _, rfl, g, _, rfl, .inl (SqL.of hge), _, _, rfl, rfl, (by rw [hlen]; omega), ?_⟩⟩
      refine ⟨_, rfl, _, rfl, g, _, _, _, rfl, rfl, SqL.of hge, at_of ei hv, ?_⟩
      refine ⟨_, rfl, _, _, rfl, rfl, _, rfl, ?_⟩
      generalize hx2 : (x :: gs)[i]?.getD 0 = y at hv kk ⊢
      refine ite2 (fun hc => ?_) (fun hc => ?_)
      · rw [if_pos (of_decide_eq_true hc)] at kk
        refine ⟨_, rfl, _, rfl, _, _, rfl, rfl, ⟨by omega, by omega⟩, _, rfl, _, rfl, g, _, _, i, rfl, rfl, hge, (by rw [ei]; exact ixN_lt (by rw [hlen]; exact hi)), ?_⟩
        rw [set_nums]
        refine ⟨_, rfl, .inl ⟨_, rfl, _, rfl, _, _, rfl, rfl, (by show (0 : Int) < lim; omega), ?_⟩⟩
        refine kk _ (d2.great (by rw [List.length_set]; exact hgl)) fun b o e1 h1 h2 => ?_
        rw [upd_ne h2]
        exact k2 _ _ e1 h1 h2
      · rw [if_neg (fun z => hc (decide_eq_true z))] at kk
        refine ⟨_, rfl, m, _, rfl, d2.dr.getC, ?_⟩
        refine ⟨_, rfl, _, rfl, .inl ⟨_, rfl, _, _, rfl, rfl, (by show (0 : Int) < 64; decide), c, _, _, _, rfl, rfl, SqL.of hce, at_of ej hy, _, rfl, _, _, rfl, rfl, ⟨by decide, by decide⟩,
          _, _, rfl, rfl, .inl ⟨by decide, by decide⟩, _, _, rfl, rfl, _, rfl, _, _, rfl, n0, by omega, ⟨_, rfl, _, _, rfl, rfl, _, _, rfl, by omega, by omega,
            .inl ⟨_, rfl, _, rfl, _, _, rfl, rfl, (by show (0 : Int) < lim; omega), kk H2 d2 k2⟩⟩⟩⟩
end
end Lw
namespace DL
open PySem PySem.Spec L2 LwE Lw
def drawS : List Dt → M R
  | [.drw, .int lim] => fun s => if 1 ≤ lim ∧ lim < 1073741824 ∧ s.n ≤ 900000 then .ok (.val (.int (drawP s.n s.gs s.cs lim).1)) { s with n := s.n + 1, gs := (drawP s.n s.gs s.cs lim).2 } else .no
  | _ => M.no
theorem mr_draw {i : Ix} {s s' : MS} {H H' : Hp} (m : MR i s H) (d : DrE H' i.m i.g i.c s'.n s'.gs s'.cs) (k : Keep i.m i.g H H') (ht : s'.tabs = s.tabs) : MR i s' H' := by
  refine ⟨d.hm, d.hc, d.hg, ⟨d.cc.len, d.cc.bd⟩, d.gl, d.ne, d.n0, fun q hq => ?_, m.tq.trans ht.symm⟩
  obtain ⟨ps, e1, e2, e3⟩ := m.tb q hq
  refine ⟨ps, k _ _ e1 (fun z => ?_) (fun z => ?_), e2, fun pos cv hc => ?_⟩
  · rw [z, m.hm] at e1; cases e1
  · rw [z, m.hg] at e1; cases e1
  · obtain ⟨c, z1, z2⟩ := e3 pos cv hc
    refine ⟨c, z1, k _ _ z2 (fun z => ?_) (fun z => ?_)⟩
    · rw [z, m.hm] at z2; cases z2
    · rw [z, m.hg] at z2; cases z2
theorem ext_keep {i : Ix} {s : MS} {F H H' : Hp} (W : Wf i s F H) (k : Keep i.m i.g H H') (hm : H' i.m ≠ none) (hg : H' i.g ≠ none) : Ext i F H F H' :=
  ⟨Same.refl _, fun b o e => k _ _ (W.fh _ _ e) (ne_of_none e (W.gf _ (.inl rfl))) (ne_of_none e (W.gf _ (.inr (.inl rfl)))), fun b o e g => k _ _ e (fun z => g (.inl z)) (fun z => g (.inr (.inl z))), fun _ _ n => n, fun b e => by
    by_cases h1 : b = i.m
    · rw [h1]; exact hm
    · by_cases h2 : b = i.g
      · rw [h2]; exact hg
      · cases z : H b with
        | none => exact absurd z e
        | some o => rw [k _ _ z h1 h2]; exact fun z => nomatch z⟩
theorem fnD_draw {P : Program} {w : World} {K : PySem.W.Frag} {mg : Str → Option Value} {base : Heap} {f : Addr} {fd : FuncData} (G : FnOk P w K mg base CX0 2 f fd ["m", "limit"] spDrawE) : FnD P w K mg base 2 f fd ["m", "limit"] drawS := by
  refine FnX.imp (DL.FnOk.x (DL.FnOk.cx G)) fun vs H Q E ⟨i, F, s, ds, W, r, hl, q⟩ => ?_
  match ds, hl, r, q with
  | [d1, d2], hl2, r, q =>
    obtain ⟨v1, r1, e1, h1, v2, r2, e2, h2, e3⟩ := r
    have e3 : r2 = [] := e3
    subst e3 e2 e1
    cases d1 <;> first | exact q.elim | skip
    cases d2 <;> first | exact q.elim | skip
    rename_i lim
    simp only [drawS] at q
    by_cases hb : 1 ≤ lim ∧ lim < 1073741824 ∧ s.n ≤ 900000
    rotate_left
    · rw [if_neg hb] at q
      exact q.elim
    rw [if_pos hb] at q
    obtain ⟨b1, b2, b3⟩ := hb
    have h1 : v1 = .ref i.m := h1
    have h2 : v2 = .int lim := h2
    subst h1 h2
    refine ⟨i.m, i.g, i.c, s.n, lim, s.gs, s.cs, rfl, ⟨W.mr.hm, W.mr.hc, W.mr.hg, ⟨W.mr.cc.1, W.mr.cc.2⟩, W.mr.gl, W.mr.ne, W.mr.n0⟩, b3, b1, b2, fun H' d k => ?_⟩
    exact q _ F H' (ext_keep W k (by rw [d.hm]; exact fun z => nomatch z) (by rw [d.hg]; exact fun z => nomatch z)) (mr_draw W.mr d k rfl) rfl
end DL
namespace DL
open PySem L2
section
variable {X : Cx} {E : XK} {a b c e tgE : Expr} {st : Stmt} {pos : Pos}
theorem PI.or {w1 w2 : TI} (h1 : PI X tgE e w1) (h2 : PI X tgE e w2) : PI X tgE e (fun σ H R => w1 σ H R ∨ w2 σ H R) := ⟨fun pins s σ H R I h => h.elim (h1.run pins s σ H R I) (h2.run pins s σ H R I)⟩
theorem wSeq_or (g : List Sl → M Dt) (δ : List Sl) (s : MS) : wSeq g δ s = wLst g δ s ∨ wSeq g δ s = wTup g δ s := by
  unfold wSeq wLst wTup M.bnd
  cases e : g δ s with
  | no => exact .inl rfl
  | ex a b => exact .inl rfl
  | ok d s' => cases d <;> first | exact .inl rfl | exact .inr rfl
theorem di_or {f f1 f2 : List Sl → M (List Dt)} (h1 : DI X E tgE e f1) (h2 : DI X E tgE e f2) (h : ∀ δ s, f δ s = f1 δ s ∨ f δ s = f2 δ s) : DI X E tgE e f := by
  obtain ⟨w1, p1, j1⟩ := h1
  obtain ⟨w2, p2, j2⟩ := h2
  refine ⟨_, PI.or p1 p2, fun i F0 H0 F H σ δ s Q S q => ?_⟩
  rcases h δ s with e1 | e1
  · rw [e1] at q; exact .inl (j1 i F0 H0 F H σ δ s Q S q)
  · rw [e1] at q; exact .inr (j2 i F0 H0 F H σ δ s Q S q)
theorem div_or {f f1 f2 : List Sl → M (List Dt)} (h1 : DIV X E tgE e f1) (h2 : DIV X E tgE e f2) (h : ∀ δ s, f δ s = f1 δ s ∨ f δ s = f2 δ s) : DIV X E tgE e f := by
  obtain ⟨w1, p1, j1⟩ := h1
  obtain ⟨w2, p2, j2⟩ := h2
  refine ⟨_, PI.or p1 p2, fun i F0 H0 F H σ δ s Q S q => ?_⟩
  rcases h δ s with e1 | e1
  · rw [e1] at q; exact .inl (j1 i F0 H0 F H σ δ s Q S q)
  · rw [e1] at q; exact .inr (j2 i F0 H0 F H σ δ s Q S q)
theorem div_tup {f : List Sl → M Dt} (h : DV X E e f) : DIV X E tgE e (wTup f) := by
  obtain ⟨t, pt, jt⟩ := h
  refine ⟨_, pi_tup pt, fun i F0 H0 F H σ δ s Q S q => jt.use S q fun d s1 v F1 H1 e0 x1 S1 r1 q1 => ?_⟩
  clear e0
  cases d <;> first | exact q1.elim | skip
  rename_i l
  obtain ⟨p, vs, h0, h1, h2⟩ := View.tup r1
  exact ⟨p, h0, ⟨vs, sqT_same S1.wf.fh h1⟩, q1 _ F1 H1 (.refl S1.wf.fh) S1.wf.mr (walks_t h1 h2).v⟩
theorem di_seq {f : List Sl → M R} (h : DE X E e f) : DI X E tgE e (wSeq (toV f)) := di_or (di_lst h) (di_tup h) (wSeq_or _)
theorem div_seq {f : List Sl → M Dt} (h : DV X E e f) : DIV X E tgE e (wSeq f) := div_or (div_lst h) (div_tup h) (wSeq_or _)
theorem walksV_eL {K : PySem.W.Frag} {i : Ix} {F1 H1 : Hp} {a : Addr} {vs : List V} {l : List Dt} (h : ∀ F H, Ext i F1 H1 F H → SqL K H a vs) (r : Reps K i F1 l vs) : WalksV K i (Ite K a) F1 H1 (enumD 0 l) := fun n F H x => by
  have h' := h F H x
  refine ⟨fun d e => ?_, fun hn => ⟨vs, h', by rw [r.len]; rw [enumD_len] at hn; exact hn⟩⟩
  rw [enumD_get] at e
  obtain ⟨d0, e0, rfl⟩ := Option.map_eq_some_iff.mp e
  obtain ⟨v, e1, e2⟩ := r.get e0
  refine ⟨⟨vs, v, h', e1⟩, fun y H' q => ?_⟩
  obtain ⟨T, x', rfl, hT, rfl, q⟩ := q
  have := q vs h'
  rw [e1] at this
  cases this
  obtain ⟨a1, a2, a3, a4⟩ := same_up (o := .tup [.int (n : Int), v]) x.fh hT
  refine ⟨_, a1, a2, a3, a4, T, [.int (n : Int), v], rfl, .inl (.inl upd_same), .cons ?_ (.cons (Rep.same (x.ff.trans a1) d0 e2) .nil)⟩
  rw [Nat.zero_add]
  exact rfl
theorem walks_eT {K : PySem.W.Frag} {i : Ix} {F1 : Hp} {a : Addr} {vs : List V} {l : List Dt} (h : SqT K F1 a vs) (r : Reps K i F1 l vs) : Walks K i (LwE.Ien K a) F1 (enumD 0 l) := fun n F H s1 s2 => by
  have h' : SqT K H a vs := sqT_same (s1.trans s2) h
  refine ⟨fun d e => ?_, fun hn => ⟨vs, h', by rw [r.len]; rw [enumD_len] at hn; exact hn⟩⟩
  rw [enumD_get] at e
  obtain ⟨d0, e0, rfl⟩ := Option.map_eq_some_iff.mp e
  obtain ⟨v, e1, e2⟩ := r.get e0
  refine ⟨⟨vs, v, h', e1⟩, fun y H' q => ?_⟩
  obtain ⟨T, x', rfl, hT, rfl, q⟩ := q
  have := q vs h'
  rw [e1] at this
  cases this
  obtain ⟨a1, a2, a3, a4⟩ := same_up (o := .tup [.int (n : Int), v]) s2 hT
  refine ⟨_, a1, a2, a3, a4, T, [.int (n : Int), v], rfl, .inl (.inl upd_same), .cons ?_ (.cons (Rep.same (s1.trans a1) d0 e2) .nil)⟩
  rw [Nat.zero_add]
  exact rfl
def wEnL (f : List Sl → M Dt) : List Sl → M (List Dt) := fun δ => M.bnd (wLst f δ) fun l => M.ret (enumD 0 l)
def wEnT (f : List Sl → M Dt) : List Sl → M (List Dt) := fun δ => M.bnd (wTup f δ) fun l => M.ret (enumD 0 l)
def wEn (f : List Sl → M Dt) : List Sl → M (List Dt) := fun δ => M.bnd (wSeq f δ) fun l => M.ret (enumD 0 l)
theorem wEn_or (g : List Sl → M Dt) (δ : List Sl) (s : MS) : wEn g δ s = wEnL g δ s ∨ wEn g δ s = wEnT g δ s := by
  unfold wEn wEnL wEnT
  rcases wSeq_or g δ s with h | h
  · left; unfold M.bnd; rw [h]
  · right; unfold M.bnd; rw [h]
theorem bnd_bnd {α β γ : Type} (x : M α) (f : α → M β) (g : β → M γ) : M.bnd (M.bnd x f) g = M.bnd x fun a => M.bnd (f a) g := by
  funext s
  unfold M.bnd
  cases x s <;> rfl
section
variable {elts : List Expr} {kk : Nat} {tpos p : Pos}
theorem div_enL {f : List Sl → M Dt} (h : DV X E e f) (hm : X.mg "enumerate" = none) (hg : Gl X "enumerate" := by rfl) (hs : starEach [e] X.env = [(false, eval e X.env)] := by rfl) : DIV X E (.Tuple elts kk tpos) (.Call (.Name "enumerate" p) [e] [] pos) (wEnL f) := by
  obtain ⟨t, pt, jt⟩ := h
  refine ⟨_, pi_enum hg hm (pa_cons pt pa_nil hs) hs, fun i F0 H0 F H σ δ s Q S q => ?_⟩
  unfold wEnL wLst at q
  rw [bnd_bnd] at q
  refine jt.use S q fun d s1 v F1 H1 e0 x1 S1 r1 q1 => ?_
  clear e0
  cases d <;> first | exact q1.elim | skip
  rename_i l
  rcases r1 with ⟨p, vs, h0, h1, h2⟩ | ⟨p, vs, l', e1, h0, h1, h2, h3⟩
  · exact ⟨p, vs, by rw [h0], SqL.of (S1.wf.fh _ _ h1), q1 _ F1 H1 (.refl S1.wf.fh) S1.wf.mr (walksV_eL (fun F H x => SqL.of (x.fh _ _ (x.ff _ _ h1))) h2)⟩
  · cases e1
    exact ⟨p, vs, by rw [h0], SqL.of h1, q1 _ F1 H1 (.refl S1.wf.fh) S1.wf.mr (walksV_eL (fun F H x => SqL.of (x.sb _ _ h1 h2)) h3)⟩
theorem div_enT {f : List Sl → M Dt} (h : DV X E e f) (hm : X.mg "enumerate" = none) (hg : Gl X "enumerate" := by rfl) (hs : starEach [e] X.env = [(false, eval e X.env)] := by rfl) : DIV X E (.Tuple elts kk tpos) (.Call (.Name "enumerate" p) [e] [] pos) (wEnT f) := by
  obtain ⟨t, pt, jt⟩ := h
  refine ⟨_, LwE.pi_enT hg hm (pa_cons pt pa_nil hs) hs, fun i F0 H0 F H σ δ s Q S q => ?_⟩
  unfold wEnT wTup at q
  rw [bnd_bnd] at q
  refine jt.use S q fun d s1 v F1 H1 e0 x1 S1 r1 q1 => ?_
  clear e0
  cases d <;> first | exact q1.elim | skip
  rename_i l
  obtain ⟨p, vs, h0, h1, h2⟩ := View.tup r1
  exact ⟨p, vs, by rw [h0], sqT_same S1.wf.fh h1, q1 _ F1 H1 (.refl S1.wf.fh) S1.wf.mr (walks_eT h1 h2).v⟩
theorem di_enL {f : List Sl → M R} (h : DE X E e f) (hm : X.mg "enumerate" = none) (hg : Gl X "enumerate" := by rfl) (hs : starEach [e] X.env = [(false, eval e X.env)] := by rfl) : DI X E (.Tuple elts kk tpos) (.Call (.Name "enumerate" p) [e] [] pos) (wEnL (toV f)) := by
  obtain ⟨t, pt, jt⟩ := h
  refine ⟨_, pi_enum hg hm (pa_cons pt pa_nil hs) hs, fun i F0 H0 F H σ δ s Q S q => ?_⟩
  have q : Ok X.K (kW X.K i) i E F H Q (M.bnd (f δ) (fun r => match r.d with | .lst l => M.ret (enumD 0 l) | _ => M.no) s) := by
    unfold wEnL wLst toV at q
    unfold M.bnd at q ⊢
    cases e : f δ s with
    | no => rw [e] at q; exact q
    | ex a b => rw [e] at q; exact q
    | ok r s' => rw [e] at q; cases r <;> first | exact q | (rename_i d; cases d <;> exact q)
  refine jt.useR S q fun r s1 v F1 H1 e0 x1 S1 r1 q1 => ?_
  clear e0
  cases e : r.d <;> rw [e] at q1 r1 <;> first | exact q1.elim | skip
  obtain ⟨p, vs, h0, h1, h2⟩ := r1
  exact ⟨p, vs, by rw [h0], SqL.of (S1.wf.fh _ _ h1), q1 _ F1 H1 (.refl S1.wf.fh) S1.wf.mr (walks_e h1 h2)⟩
theorem di_enT {f : List Sl → M R} (h : DE X E e f) (hm : X.mg "enumerate" = none) (hg : Gl X "enumerate" := by rfl) (hs : starEach [e] X.env = [(false, eval e X.env)] := by rfl) : DI X E (.Tuple elts kk tpos) (.Call (.Name "enumerate" p) [e] [] pos) (wEnT (toV f)) := by
  obtain ⟨t, pt, jt⟩ := h
  refine ⟨_, LwE.pi_enT hg hm (pa_cons pt pa_nil hs) hs, fun i F0 H0 F H σ δ s Q S q => ?_⟩
  have q : Ok X.K (kW X.K i) i E F H Q (M.bnd (f δ) (fun r => match r.d with | .tup l => M.ret (enumD 0 l) | _ => M.no) s) := by
    unfold wEnT wTup toV at q
    unfold M.bnd at q ⊢
    cases e : f δ s with
    | no => rw [e] at q; exact q
    | ex a b => rw [e] at q; exact q
    | ok r s' => rw [e] at q; cases r <;> first | exact q | (rename_i d; cases d <;> exact q)
  refine jt.useR S q fun r s1 v F1 H1 e0 x1 S1 r1 q1 => ?_
  clear e0
  cases e : r.d <;> rw [e] at q1 r1 <;> first | exact q1.elim | skip
  obtain ⟨p, vs, h0, h1, h2⟩ := r1
  exact ⟨p, vs, by rw [h0], sqT_same S1.wf.fh h1, q1 _ F1 H1 (.refl S1.wf.fh) S1.wf.mr (walks_eT h1 h2)⟩
theorem di_en {f : List Sl → M R} (h : DE X E e f) (hm : X.mg "enumerate" = none) (hg : Gl X "enumerate" := by rfl) (hs : starEach [e] X.env = [(false, eval e X.env)] := by rfl) : DI X E (.Tuple elts kk tpos) (.Call (.Name "enumerate" p) [e] [] pos) (wEn (toV f)) := di_or (di_enL h hm hg hs) (di_enT h hm hg hs) (wEn_or _)
theorem div_en {f : List Sl → M Dt} (h : DV X E e f) (hm : X.mg "enumerate" = none) (hg : Gl X "enumerate" := by rfl) (hs : starEach [e] X.env = [(false, eval e X.env)] := by rfl) : DIV X E (.Tuple elts kk tpos) (.Call (.Name "enumerate" p) [e] [] pos) (wEn f) := div_or (div_enL h hm hg hs) (div_enT h hm hg hs) (wEn_or _)
def zipD : List Dt → List Dt → List Dt
  | d :: ds, x :: xs => .tup [d, x] :: zipD ds xs
  | _, _ => []
theorem zipD_len : ∀ (l m : List Dt), (zipD l m).length = min l.length m.length
  | [], _ => by simp [zipD]
  | _ :: _, [] => by simp [zipD]
  | d :: ds, x :: xs => by
    show (zipD ds xs).length + 1 = _
    rw [zipD_len ds xs]
    simp only [List.length_cons]
    omega
theorem zipD_get : ∀ {l m : List Dt} {n : Nat} {z : Dt}, (zipD l m)[n]? = some z → ∃ x y, l[n]? = some x ∧ m[n]? = some y ∧ z = .tup [x, y]
  | [], _, _, _, e => by cases e
  | _ :: _, [], _, _, e => by cases e
  | d :: ds, x :: xs, 0, _, e => by cases e; exact ⟨d, x, rfl, rfl, rfl⟩
  | d :: ds, x :: xs, n + 1, _, e => zipD_get (l := ds) (m := xs) (n := n) e
end
end
end DL
set_option maxHeartbeats 4000000
namespace L2
open PySem PySem.Spec PyProof.Rows
theorem tuple_mul1 (l : Addr) (items : Array Value) (n : Nat) (dd : Option Addr) (sl : Array (Option Value)) (x : Int) (u : Tok) (c0 : (decide (x < -(2 ^ 63)) || decide (x ≥ 2 ^ 63)) = false) (c1 : (items.isEmpty || x == 1) = true) :
    Meets (Builtin.«tuple.__mul__» ⟨[.ref l, .int x u], []⟩) (fun _ R s => s.heap.get? l = some { cls := .type "tuple", dict := dd, data := .seq items n, slots := sl } ∧ R (.ok (.ret (Value.ref l))) s) :=
  .of_wp fun prog w A R s h => by
    obtain ⟨hp, g, d, tk, os⟩ := s
    obtain ⟨hl, h⟩ := h
    have f1 := AutoSeq1.idx_int
    wp_walk using wpAny_loadPart' hl
    repeat (first
      | (refine wpAny_ite_false (decide_eq_false (by rw [c0]; exact Bool.false_ne_true)) ?_; wp_walk using wpAny_loadPart' hl)
      | (refine wpAny_ite_true (decide_eq_true c1) ?_; wp_walk using wpAny_loadPart' hl))
    exact ⟨_, rfl, h⟩
theorem tuple_mul0 (l : Addr) (items : Array Value) (n : Nat) (dd : Option Addr) (sl : Array (Option Value)) (x : Int) (u : Tok) (c0 : (decide (x < -(2 ^ 63)) || decide (x ≥ 2 ^ 63)) = false) (c1 : (items.isEmpty || x == 1) = false) (c2 : (decide (x ≤ 0) || items.isEmpty) = true) :
    Meets (Builtin.«tuple.__mul__» ⟨[.ref l, .int x u], []⟩) (fun _ R s => s.heap.get? l = some { cls := .type "tuple", dict := dd, data := .seq items n, slots := sl } ∧
      R (.ok (.ret (Value.ref s.heap.objs.size))) { s with heap := s.heap.push { cls := Value.type "tuple", data := Data.seq #[] }, toks := s.toks }) :=
  .of_wp fun prog w A R s h => by
    obtain ⟨hp, g, d, tk, os⟩ := s
    obtain ⟨hl, h⟩ := h
    have f1 := AutoSeq1.idx_int
    wp_walk using wpAny_loadPart' hl
    repeat (first
      | (refine wpAny_ite_false (decide_eq_false (by rw [c0]; exact Bool.false_ne_true)) ?_; wp_walk using wpAny_loadPart' hl)
      | (refine wpAny_ite_false (decide_eq_false (by rw [c1]; exact Bool.false_ne_true)) ?_; wp_walk using wpAny_loadPart' hl)
      | (refine wpAny_ite_true (decide_eq_true c2) ?_; wp_walk using wpAny_loadPart' hl))
    exact ⟨_, rfl, h⟩
def rRepT1 (K : PySem.W.Frag) : R2 := fun x y H Q => ∃ l k xs, x = .ref l ∧ y = .int k ∧ SqT K H l xs ∧ -1000 ≤ k ∧ k ≤ 1000 ∧ (xs = [] ∨ k = 1) ∧ Q (.ref l) H
def rRepT0 (K : PySem.W.Frag) : R2 := fun x y H Q => ∃ l k xs, x = .ref l ∧ y = .int k ∧ SqT K H l xs ∧ xs ≠ [] ∧ -1000 ≤ k ∧ k ≤ 0 ∧ ∀ p, H p = none → Q (.ref p) (upd H p (.tup []))
section
variable {X : Cx}
theorem op_repT1 : OpR X (binaryOp .Mult) (rRepT1 X.K) := by
  intro pins s σ H x y v u Q I rx ry h
  obtain ⟨l, k, xs, rfl, rfl, hT, h1, h2, hz, q⟩ := h
  cases rx
  obtain ⟨t, rfl⟩ := ry
  obtain ⟨its, r, ⟨⟨cls, dd, data, sl⟩, ho, hc, n, hd⟩, hs⟩ := I.tuple hT
  simp only at hc hd
  subst hc hd
  have hle : its.length = xs.length := r.length.symm
  have c0 : (decide (k < -(2 ^ 63)) || decide (k ≥ 2 ^ 63)) = false := by
    rw [decide_eq_false (by omega), decide_eq_false (by omega)] <;> rfl
  have c1 : (its.toArray.isEmpty || k == 1) = true := by
    rcases hz with e | e
    · subst e
      have : its = [] := List.eq_nil_of_length_eq_zero (by rw [hle]; rfl)
      subst this
      rfl
    · subst e; simp
  refine wpAny_binaryOp_repeat_ref (T := "tuple") (U := "int") (by decide) ⟨_, ho, rfl⟩ (fun s' => typeIs_int s' k t) noFill_tuple_mul F.fills_int_mul F.slot_int_rmul repeat_tuple F.slot_int_index.lookup
    (call_meets F.slot_int_rmul (typeIs_int s k t) F.entry_int_rmul (F.args_int_rmul_2 _ _) (int_rmul_tuple k t l its.toArray n dd sl)
      ⟨ho, rfl, ⟨_, ho, rfl⟩, call_meets F.slot_tuple_mul ⟨_, ho, rfl⟩ F.entry_tuple_mul (F.args_tuple_mul_2 _ _) (tuple_mul1 l its.toArray n dd sl k t c0 c1) ⟨ho, ?_⟩⟩)
  exact ⟨.ref l, H, I, rfl, q⟩
theorem op_repT0 : OpR X (binaryOp .Mult) (rRepT0 X.K) := by
  intro pins s σ H x y v u Q I rx ry h
  obtain ⟨l, k, xs, rfl, rfl, hT, hne, h1, h2, q⟩ := h
  cases rx
  obtain ⟨t, rfl⟩ := ry
  obtain ⟨its, r, ⟨⟨cls, dd, data, sl⟩, ho, hc, n, hd⟩, hs⟩ := I.tuple hT
  simp only at hc hd
  subst hc hd
  have hle : its.length = xs.length := r.length.symm
  have hn : its ≠ [] := fun e => hne (by
    rw [e] at hle
    exact List.eq_nil_of_length_eq_zero hle.symm)
  have hi : its.toArray.isEmpty = false := by
    cases its with
    | nil => exact absurd rfl hn
    | cons a b => rfl
  have c0 : (decide (k < -(2 ^ 63)) || decide (k ≥ 2 ^ 63)) = false := by
    rw [decide_eq_false (by omega), decide_eq_false (by omega)] <;> rfl
  have c1 : (its.toArray.isEmpty || k == 1) = false := by
    rw [hi, Bool.false_or]
    exact beq_eq_false_iff_ne.mpr (by omega)
  have c2 : (decide (k ≤ 0) || its.toArray.isEmpty) = true := by
    rw [decide_eq_true h2]; rfl
  refine wpAny_binaryOp_repeat_ref (T := "tuple") (U := "int") (by decide) ⟨_, ho, rfl⟩ (fun s' => typeIs_int s' k t) noFill_tuple_mul F.fills_int_mul F.slot_int_rmul repeat_tuple F.slot_int_index.lookup
    (call_meets F.slot_int_rmul (typeIs_int s k t) F.entry_int_rmul (F.args_int_rmul_2 _ _) (int_rmul_tuple k t l its.toArray n dd sl)
      ⟨ho, rfl, ⟨_, ho, rfl⟩, call_meets F.slot_tuple_mul ⟨_, ho, rfl⟩ F.entry_tuple_mul (F.args_tuple_mul_2 _ _) (tuple_mul0 l its.toArray n dd sl k t c0 c1 c2) ⟨ho, ?_⟩⟩)
  refine ⟨.ref s.heap.objs.size, _, I.laid (t' := s.toks) (o := .tup []) (fun b ob q => Heap.get?_push_of_some _ q) (Nat.le_refl _) ?_, rfl, q _ (I.hok.fresh (Nat.le_refl _))⟩
  exact ⟨Nat.zero_le _, [], .nil, IsTup.new _ _⟩
end
end L2
namespace DL
open PySem L2
def repTD (l : List Dt) (k : Int) : M R := if -1000 ≤ k ∧ k ≤ 1000 ∧ l.length ≤ 1000 then M.ret (.val (.tup (List.replicate k.toNat l).flatten)) else M.no
def isTup : Dt → Dt → Bool
  | .tup _, .int _ => true
  | _, _ => false
def mulT : Dt → Dt → M R
  | .tup l, .int k => repTD l k
  | _, _ => M.no
def mulG : Dt → Dt → M R := orOp isTup mulT mulD
theorem flat_nil {α : Type} : ∀ n : Nat, (List.replicate n ([] : List α)).flatten = []
  | 0 => rfl
  | n + 1 => by rw [List.replicate_succ, List.flatten_cons, flat_nil n]; rfl
section
variable {X : Cx} {E : XK}
theorem op_mulT : OpD X E (binaryOp .Mult) mulT := by
  refine ⟨_, op_repT1.or (op_repT0.or op_repT), fun i s F H x y a b Q W va vb q => ?_⟩
  cases a <;> cases b <;> first | exact q.elim | skip
  rename_i l k
  obtain ⟨⟨h1, h2, h3⟩, q⟩ := ok_if (show Ok X.K (kR X.K i) i E F H Q ((if -1000 ≤ k ∧ k ≤ 1000 ∧ l.length ≤ 1000 then M.ret (.val (.tup (List.replicate k.toNat l).flatten)) else M.no) s) from q)
  obtain ⟨p, vs, rfl, e1, e2⟩ := va.tup
  have e1' := sqT_same W.fh e1
  have ey := vb.int
  by_cases hz : vs = [] ∨ k = 1
  · refine .inl ⟨p, k, vs, rfl, ey, e1', h1, h2, hz, q _ F H (.refl W.fh) W.mr ⟨p, vs, rfl, e1, ?_⟩⟩
    rcases hz with e | e
    · subst e
      have : l = [] := List.length_eq_zero_iff.mp e2.len.symm
      subst this
      rw [flat_nil]
      exact .nil
    · subst e
      have : (List.replicate (1 : Int).toNat l).flatten = l := by simp
      rw [this]
      exact e2
  · rw [not_or] at hz
    by_cases hk : k ≤ 0
    · refine .inr (.inl ⟨p, k, vs, rfl, ey, e1', hz.1, h1, hk, fun z hz' => ?_⟩)
      have : k.toNat = 0 := by omega
      rw [this] at q
      exact q _ _ _ (ext_newK W.fh hz') (mr_new W.mr hz') ⟨z, _, rfl, .inl (.inl upd_same), rfl⟩
    · refine .inr (.inr ⟨p, k, vs, rfl, ey, e1', hz.1, by omega, h2, by rw [e2.len]; exact h3, fun z hz' => ?_⟩)
      exact q _ _ _ (ext_newK W.fh hz') (mr_new W.mr hz') ⟨z, _, rfl, .inl (.inl upd_same), Reps.same (same_know (W.fh.free hz')) _ (e2.flatten _)⟩
theorem op_mulG : OpD X E (binaryOp .Mult) mulG := OpD.or op_mulT op_mulD
end
end DL
namespace DL
open PySem PySem.Spec PyProof.Rows L2
def RepRs (K : PySem.W.Frag) (i : Ix) (Hb F' H' : Hp) : List R → List V → Prop
  | [], vs => vs = []
  | r :: rs, vs => ∃ v us, vs = v :: us ∧ RepR K i Hb F' H' r v ∧ (∀ (n : Nat) (l m : List Dt), r = R.new l → rs[n]? = some (R.new m) → us[n]? ≠ some v) ∧ RepRs K i Hb F' H' rs us
theorem RepRs.mono {K : PySem.W.Frag} {i : Ix} {H H' F2 H2 : Hp} (al : ∀ b, H b ≠ none → H' b ≠ none) : ∀ {rs : List R} {vs : List V}, RepRs K i H' F2 H2 rs vs → RepRs K i H F2 H2 rs vs
  | [], _, h => h
  | r :: rs, _, ⟨v, us, h1, h2, h3, h4⟩ => ⟨v, us, h1, (kR K i).mono al h2, h3, RepRs.mono al h4⟩
theorem RepRs.new {K : PySem.W.Frag} {i : Ix} {Hb F2 H2 : Hp} : ∀ {rs : List R} {vs : List V} {n : Nat} {m : List Dt}, RepRs K i Hb F2 H2 rs vs → rs[n]? = some (.new m) → ∃ q, vs[n]? = some (.ref q) ∧ Hb q = none
  | [], _, _, _, _, e => by cases e
  | r :: rs, _, 0, m, ⟨v, us, h1, h2, h3, h4⟩, e => by
    cases e
    obtain ⟨p, vs, rfl, _, _, h5, _⟩ := h2
    exact ⟨p, by rw [h1]; rfl, h5⟩
  | r :: rs, _, n + 1, m, ⟨v, us, h1, h2, h3, h4⟩, e => by
    obtain ⟨q, e1, e2⟩ := RepRs.new (n := n) h4 e
    exact ⟨q, by rw [h1]; exact e1, e2⟩
def kRs (K : PySem.W.Frag) (i : Ix) : Kind (List R) (List V) where
  rel := fun H F' H' rs vs => RepRs K i H F' H' rs vs
  mono := fun al h => RepRs.mono al h
def DR (X : Cx) (E : XK) (es : List Expr) (f : List Sl → M (List R)) : Prop := ∃ t, PA X es t ∧ J kRs X.K E t f
def rNil : List Sl → M (List R) := fun _ => M.ret []
def rCons (f : List Sl → M R) (g : List Sl → M (List R)) : List Sl → M (List R) := fun δ => M.bnd (f δ) fun r => M.bnd (g δ) fun rs => M.ret (r :: rs)
theorem RepR.ext {K : PySem.W.Frag} {i : Ix} {H F1 H1 F2 H2 : Hp} {r : R} {v : V} (h : RepR K i H F1 H1 r v) (g : ∀ b, G i b → H b ≠ none) (x : Ext i F1 H1 F2 H2) : RepR K i H F2 H2 r v := by
  cases r with
  | val d => exact Rep.same x.ff d h
  | new l =>
    obtain ⟨p, vs, e, h1, h2, h3, h4⟩ := h
    exact ⟨p, vs, e, x.sb _ _ h1 (fun z => g _ z h3), x.nw _ (by rw [h1]; exact fun z => nomatch z) h2, h3, Reps.same x.ff l h4⟩
section
variable {X : Cx} {E : XK} {a b c e : Expr} {es : List Expr} {st : Stmt} {pos : Pos}
theorem dr_nil : DR X E [] rNil := ⟨_, pa_nil, fun i F0 H0 F H σ δ s Q S q => q [] F H (.refl S.wf.fh) S.wf.mr rfl⟩
theorem dr_cons {f : List Sl → M R} {g : List Sl → M (List R)} (h : DE X E e f) (hr : DR X E es g) (hs : starEach (e :: es) X.env = (false, eval e X.env) :: starEach es X.env := by rfl) : DR X E (e :: es) (rCons f g) := by
  obtain ⟨t, ht, hj⟩ := h
  obtain ⟨u, hu, hk⟩ := hr
  refine ⟨_, pa_cons ht hu hs, fun i F0 H0 F H σ δ s Q S q => hj.use0 S q fun r s1 v F1 H1 _ x1 m1 r1 q1 => ?_⟩
  have S1 := S.ext x1 m1
  refine hk i F0 H0 F1 H1 σ δ s1 _ S1 ?_
  unfold DL.M.bnd at q1
  cases e2 : g δ s1 with
  | no => rw [e2] at q1; exact q1.elim
  | ex a b => rw [e2] at q1; exact fun F' H' x m => q1 F' H' (x1.trans x) m
  | ok rs s2 =>
    rw [e2] at q1
    intro vs F2 H2 x2 m2 r2
    have r1 : RepR X.K i H F1 H1 r v := r1
    have r2 : RepRs X.K i H1 F2 H2 rs vs := r2
    refine q1 _ F2 H2 (x1.trans x2) m2 ⟨v, vs, rfl, r1.ext (fun b g => S.wf.mr.there g) x2, fun n l m e1 e2 e3 => ?_, r2.mono x1.al⟩
    subst e1
    obtain ⟨p, us, rfl, h1, _⟩ := r1
    obtain ⟨q, g1, g2⟩ := r2.new e2
    rw [g1] at e3
    cases e3
    rw [h1] at g2
    cases g2
theorem Sinv.putN {K : PySem.W.Frag} {i : Ix} {F0 H0 F H Hb : Hp} {σ : L2.St} {δ : List Sl} {s : MS} (S : Sinv K i F0 H0 F H σ δ s) {r : R} {v : V} (k : Nat) (hr : RepR K i Hb F H r v) (hb0 : ∀ b, H0 b ≠ none → Hb b ≠ none) (hbg : ∀ b, G i b → Hb b ≠ none)
    (hd : ∀ (j : Nat) (l m : List Dt), r = .new m → δ[j]? = some (Sl.own l) → σ[j]? ≠ some (some v)) (hns : ∀ b, Foot K i H0 F H σ δ b → Hb b ≠ none) : Sinv K i F0 H0 F H (σ.set k (some v)) (δ.set k r.sl) s := by
  cases r with
  | val d => exact S.putD k hr
  | new m =>
    obtain ⟨p, vs, rfl, h1, h2, h3, h4⟩ := hr
    refine S.put (H1 := fun b => if b = p then none else H b) (r := .new m) (v := .ref p) k ⟨p, vs, rfl, h1, h2, if_pos rfl, h4⟩ (fun b e => ?_) (fun b g => ?_) (fun j l q e1 e2 => ?_) (fun b f => ?_)
    · by_cases hb : b = p
      · subst hb; exact absurd h3 (hb0 _ e)
      · simp only [if_neg hb]; exact S.base.al b e
    · by_cases hb : b = p
      · subst hb; exact absurd h3 (hbg _ g)
      · simp only [if_neg hb]; exact S.wf.mr.there g
    · by_cases hb : q = p
      · subst hb; exact absurd e2 (hd j l m rfl e1)
      · simp only [if_neg hb]
        obtain ⟨p', us, g1, g2, _⟩ := S.own j l e1
        rw [e2] at g1
        cases g1
        rw [g2]
        exact fun z => nomatch z
    · by_cases hb : b = p
      · subst hb; exact absurd h3 (hns _ f)
      · simp only [if_neg hb]
        obtain ⟨us, g⟩ := f.lst
        rw [g]
        exact fun z => nomatch z
def setAll : List Nat → List R → List Sl → Option (List Sl)
  | [], [], δ => some δ
  | k :: ks, r :: rs, δ => setAll ks rs (δ.set k r.sl)
  | _, _, _ => none
def setV : List Nat → List V → L2.St → L2.St
  | k :: ks, v :: vs, σ => setV ks vs (σ.set k (some v))
  | _, _, σ => σ
theorem par_set {K : PySem.W.Frag} {i : Ix} {F0 H0 F H Hb : Hp} {s : MS} (hb0 : ∀ b, H0 b ≠ none → Hb b ≠ none) (hbg : ∀ b, G i b → Hb b ≠ none) : ∀ {ks : List Nat} {rs : List R} {vs : List V} {σ : L2.St} {δ δ' : List Sl}, Sinv K i F0 H0 F H σ δ s → RepRs K i Hb F H rs vs →
    (∀ (j n : Nat) (l m : List Dt) (v : V), rs[n]? = some (.new m) → vs[n]? = some v → δ[j]? = some (Sl.own l) → σ[j]? ≠ some (some v)) → (∀ b, Foot K i H0 F H σ δ b → Hb b ≠ none) → setAll ks rs δ = some δ' → Sinv K i F0 H0 F H (setV ks vs σ) δ' s
  | [], [], _, _, _, _, S, h, _, _, e => by
    cases e
    rw [show _ = [] from h]
    exact S
  | [], _ :: _, _, _, _, _, _, _, _, _, e => by cases e
  | _ :: _, [], _, _, _, _, _, _, _, _, e => by cases e
  | k :: ks, r :: rs, _, σ, δ, δ', S, ⟨v, us, h1, h2, h3, h4⟩, hd, hns, e => by
    subst h1
    have S1 := S.putN k h2 hb0 hbg (fun j l m er ej => hd j 0 l m v (by rw [er]; rfl) rfl ej) hns
    refine par_set (σ := σ.set k (some v)) (δ := δ.set k r.sl) hb0 hbg S1 h4 (fun j n l m w e1 e2 e3 => ?_) (fun b f => hns b (f.sub (nst_set fun ls z => by cases r <;> cases z))) e
    by_cases hj : j = k
    · subst hj
      by_cases hk : j < δ.length
      · rw [List.getElem?_set_self hk] at e3
        rw [List.getElem?_set_self (by rw [S.len]; exact hk)]
        intro z
        cases z
        cases r with
        | val d => cases e3
        | new l' => exact h3 n l' m rfl e1 e2
      · rw [List.getElem?_eq_none (by simpa using hk)] at e3
        cases e3
    · rw [List.getElem?_set_ne (fun z => hj z.symm)] at e3 ⊢
      exact hd j (n + 1) l m w e1 e2 e3
def gPar (ks : List Nat) (f : List Sl → M (List R)) : List Sl → M Fl := fun δ => M.bnd (f δ) fun rs => match setAll ks rs δ with
  | some δ' => M.ret (.nx δ')
  | none => M.no
theorem setAll_len : ∀ {ks : List Nat} {rs : List R} {δ δ' : List Sl}, setAll ks rs δ = some δ' → rs.length = ks.length
  | [], [], _, _, _ => rfl
  | [], _ :: _, _, _, e => by cases e
  | _ :: _, [], _, _, e => by cases e
  | _ :: ks, _ :: rs, _, _, e => by rw [List.length_cons, List.length_cons, setAll_len (show setAll ks rs _ = some _ from e)]
theorem RepRs.len {K : PySem.W.Frag} {i : Ix} {Hb F H : Hp} : ∀ {rs : List R} {vs : List V}, RepRs K i Hb F H rs vs → vs.length = rs.length
  | [], _, h => by rw [show _ = [] from h]; rfl
  | r :: rs, _, ⟨v, us, h1, h2, h3, h4⟩ => by rw [h1, List.length_cons, List.length_cons, RepRs.len h4]
theorem par_j {K : PySem.W.Frag} {E : XK} {t : TA} {f : List Sl → M (List R)} {ks : List Nat} {i : Ix} {F0 H0 F H : Hp} {σ : L2.St} {δ : List Sl} {s : MS} {D : Ends} {Q1 : List V → Hp → Prop} (jt : J kRs K E t f) (S : Sinv K i F0 H0 F H σ δ s) (q : OkS K i E F0 H0 D (gPar ks f δ s))
    (c : ∀ vs F' H' δ' s', vs.length = ks.length → Sinv K i F0 H0 F' H' (setV ks vs σ) δ' s' → OkF K i F0 H0 D s' (.nx δ') → Q1 vs H') : t σ H Q1 := by
  refine jt.useS S q fun rs s1 vs F1 H1 x1 S1 r1 q1 => ?_
  cases e : setAll ks rs δ with
  | none => simp only [e] at q1; exact q1.elim
  | some δ' =>
    simp only [e] at q1
    have r1 : RepRs K i H F1 H1 rs vs := r1
    refine c vs F1 H1 δ' s1 (by rw [r1.len, setAll_len e]) (par_set (fun b z => S.base.al b z) (fun b g => S.wf.mr.there g) S1 r1 (fun j n l m v e1 e2 e3 e4 => ?_) (fun b f => f.back S x1.sb) e) q1
    obtain ⟨p, us, g1, g2, _⟩ := S.own j l e3
    rw [e4] at g1
    cases g1
    obtain ⟨q, k1, k2⟩ := r1.new e1
    rw [e2] at k1
    cases k1
    rw [g2] at k2
    cases k2
theorem ds_par2 (k j : Nat) {x y : Str} {px py pt : Pos} {kt k2 pt2} {f : List Sl → M (List R)} (hc : X.calm = true) (hN : X.N.Nodup) (h : DR X E [a, b] f) (hi : X.N[k]? = some x := by rfl) (hj : X.N[j]? = some y := by rfl) (hkj : k ≠ j := by decide)
    (hx : X.env.scope.names.lookup x = some .local := by rfl) (hy : X.env.scope.names.lookup y = some .local := by rfl) (hw : swappedStores [.Tuple [.Name x px, .Name y py] kt pt] (.Tuple [a, b] k2 pt2) X.env = pure (some [x, y]) := by rfl)
    (hs : swapsWithSole [.Tuple [.Name x px, .Name y py] kt pt] (.Tuple [a, b] k2 pt2) pos.line X.env = pure false := by rfl) :
    DS X E (.Assign [.Tuple [.Name x px, .Name y py] kt pt] (.Tuple [a, b] k2 pt2) pos) (gPar [k, j] f) := by
  obtain ⟨t, pt, jt⟩ := h
  refine ⟨_, ps_par hc hN hi hj hkj hx hy pt hw hs, fun i F0 H0 F H σ δ s D S q => par_j jt S q fun vs F' H' δ' s' hl S' q' => ?_⟩
  match vs, hl, S' with
  | [u, v], _, S' => exact ⟨u, v, rfl, q' _ F' H' S'⟩
theorem ds_par3 (k j l : Nat) {x y z : Str} {px py pz pt : Pos} {kt k2 pt2} {f : List Sl → M (List R)} (hc : X.calm = true) (hN : X.N.Nodup) (h : DR X E [a, b, c] f) (hi : X.N[k]? = some x := by rfl) (hj : X.N[j]? = some y := by rfl) (hl : X.N[l]? = some z := by rfl) (hkj : k ≠ j := by decide) (hkl : k ≠ l := by decide) (hjl : j ≠ l := by decide)
    (hx : X.env.scope.names.lookup x = some .local := by rfl) (hy : X.env.scope.names.lookup y = some .local := by rfl) (hz : X.env.scope.names.lookup z = some .local := by rfl) (hw : swappedStores [.Tuple [.Name x px, .Name y py, .Name z pz] kt pt] (.Tuple [a, b, c] k2 pt2) X.env = pure (some [x, y, z]) := by rfl)
    (hs : swapsWithSole [.Tuple [.Name x px, .Name y py, .Name z pz] kt pt] (.Tuple [a, b, c] k2 pt2) pos.line X.env = pure false := by rfl) :
    DS X E (.Assign [.Tuple [.Name x px, .Name y py, .Name z pz] kt pt] (.Tuple [a, b, c] k2 pt2) pos) (gPar [k, j, l] f) := by
  obtain ⟨t, pt, jt⟩ := h
  refine ⟨_, ps_par3 hc hN hi hj hl hkj hkl hjl hx hy hz pt hw hs, fun i F0 H0 F H σ δ s D S q => par_j jt S q fun vs F' H' δ' s' hl S' q' => ?_⟩
  match vs, hl, S' with
  | [u, v, w], _, S' => exact ⟨u, v, w, rfl, q' _ F' H' S'⟩
def gPop (k : Nat) : List Sl → M Fl := fun δ => match δ[k]? with
  | some (.own l) => if l = [] then M.no else M.ret (.nx (δ.set k (.own l.dropLast)))
  | _ => M.no
def gSetPop (k z : Nat) : List Sl → M Fl := fun δ => match δ[k]? with
  | some (.own l) => (match l.getLast? with
    | some d => M.ret (.nx ((δ.set k (.own l.dropLast)).set z (.val d)))
    | none => M.no)
  | _ => M.no
def gAppPop (k j : Nat) (f : List Sl → M R) : List Sl → M Fl := fun δ => match δ[k]?, δ[j]? with
  | some (.own _), some (.own m) => if k = j then M.no else (match m.getLast? with
    | some d => M.bnd (f (δ.set j (.own m.dropLast))) fun r => (match (δ.set j (.own m.dropLast))[k]? with
      | some (.own l) => if l.length < 100000 then M.ret (.nx ((δ.set j (.own m.dropLast)).set k (.own (l ++ [.tup [d, r.d]])))) else M.no
      | _ => M.no)
    | none => M.no)
  | _, _ => M.no
theorem Reps.dropLast {K : PySem.W.Frag} {i : Ix} {F : Hp} {l : List Dt} {vs : List V} (h : Reps K i F l vs) : Reps K i F l.dropLast vs.dropLast := by
  rw [List.dropLast_eq_take, List.dropLast_eq_take, h.len]
  exact h.take _
theorem Reps.last {K : PySem.W.Frag} {i : Ix} {F : Hp} {l : List Dt} {vs : List V} {d : Dt} (h : Reps K i F l vs) (e : l.getLast? = some d) : ∃ v, vs[vs.length - 1]? = some v ∧ Rep K i F d v := by
  rw [List.getLast?_eq_getElem?] at e
  rw [h.len]
  exact h.get e
def cDict : List Sl → M R := fun _ => M.ret (.val (.dK [] []))
theorem de_dict : DE X E (.Dict [] [] pos) cDict := ⟨_, pe_dnewK, fun i F0 H0 F H σ δ s Q S q => fun p hp => q _ _ _ (ext_newK S.wf.fh hp) (mr_new S.wf.mr hp) ⟨p, [], rfl, upd_same, rfl, rfl⟩⟩
def rgD (a b : Int) : List Dt := (List.range (b - a).toNat).map fun (n : Nat) => .int (a + (n : Int))
def dnD (a b : Int) : List Dt := (List.range (a - b).toNat).map fun (n : Nat) => .int (a - (n : Int))
theorem reps_map {K : PySem.W.Frag} {i : Ix} {F : Hp} (f : Nat → Int) : ∀ l : List Nat, Reps K i F (l.map fun n => .int (f n)) (l.map fun n => V.int (f n))
  | [] => rfl
  | _ :: l => .cons rfl (reps_map f l)
def lrg2 : Dt → Dt → M R
  | .int a, .int b => if -100000 ≤ a ∧ a ≤ 100000 ∧ -100000 ≤ b ∧ b ≤ 100000 then M.ret (.new (rgD a b)) else M.no
  | _, _ => M.no
def ldn : Dt → Dt → M R
  | .int a, .int b => if -1000 ≤ a ∧ a ≤ 1000 ∧ -1000 ≤ b ∧ b ≤ 1000 then M.ret (.new (dnD a b)) else M.no
  | _, _ => M.no
theorem de_lrg2 {p p2 pos2 : Pos} {f g : List Sl → M Dt} (hc : X.calm = true) (h : DV X E a f) (h2 : DV X E b g) (hm : X.mg "list" = none) (hmr : X.mg "range" = none) (hg : Gl X "list" := by rfl) (hgr : Gl X "range" := by rfl) (hs : starEach [a, b] X.env = (false, eval a X.env) :: starEach [b] X.env := by rfl)
    (hs2 : starEach [b] X.env = (false, eval b X.env) :: starEach [] X.env := by rfl) (hp : (backTo pos2 (starEach [b] X.env)).any (·.1) = false := by rfl)
    (na : starEach [.Call (.Name "range" p2) [a, b] [] pos2] X.env = (false, eval (.Call (.Name "range" p2) [a, b] [] pos2) X.env) :: starEach [] X.env := by rfl) : DE X E (.Call (.Name "list" p) [.Call (.Name "range" p2) [a, b] [] pos2] [] pos) (bin f g lrg2) := by
  obtain ⟨t, pt, jt⟩ := h
  obtain ⟨u, pu, ju⟩ := h2
  refine ⟨_, pe_listRg hc hg hm (prg_2 hgr hmr pt pu hs hs2 hp) na, fun i F0 H0 F H σ δ s Q S q => jt.use S q fun d s1 v F1 H1 e0 x1 S1 r1 q1 => ju.use S1 q1 fun d2 s2 v2 F2 H2 e2 x2 S2 r2 q2 => ?_⟩
  clear e0 e2
  replace r1 := View.ext r1 x2
  cases d <;> cases d2 <;> first | exact q2.elim | skip
  obtain ⟨⟨h1, h2, h3, h4⟩, q2⟩ := ok_if q2
  refine ⟨_, _, View.int r1, View.int r2, ⟨by omega, by omega, by omega, by omega, by omega⟩, fun z hz => q2 _ _ _ (ext_new S2.wf.fh hz) (mr_new S2.wf.mr hz) ⟨z, _, rfl, upd_same, S2.wf.fh.free hz, hz, reps_map (fun n => _ + (n : Int)) _⟩⟩
theorem de_ldn {p p2 pos2 : Pos} {tc : TE} {f g : List Sl → M Dt} (hc : X.calm = true) (h : DV X E a f) (h2 : DV X E b g) (hm : X.mg "list" = none) (hmr : X.mg "range" = none) (hg : Gl X "list" := by rfl) (hgr : Gl X "range" := by rfl)
    (hpe : ∀ t u, PE X a t → PE X b u → PE X (.Call (.Name "list" p) [.Call (.Name "range" p2) [a, b, c] [] pos2] [] pos) (LwE.tLstDn (tCons t (tCons u (tCons tc tNil))))) (htc : ∀ σ H (Q : VK), Q (.int (-1)) H → tc σ H Q) : DE X E (.Call (.Name "list" p) [.Call (.Name "range" p2) [a, b, c] [] pos2] [] pos) (bin f g ldn) := by
  obtain ⟨t, pt, jt⟩ := h
  obtain ⟨u, pu, ju⟩ := h2
  refine ⟨_, hpe t u pt pu, fun i F0 H0 F H σ δ s Q S q => jt.use S q fun d s1 v F1 H1 e0 x1 S1 r1 q1 => ju.use S1 q1 fun d2 s2 v2 F2 H2 e2 x2 S2 r2 q2 => ?_⟩
  clear e0 e2
  replace r1 := View.ext r1 x2
  cases d <;> cases d2 <;> first | exact q2.elim | skip
  obtain ⟨h4, q2⟩ := ok_if q2
  refine htc _ _ _ ⟨_, _, by rw [View.int r1, View.int r2], h4, fun z hz => q2 _ _ _ (ext_new S2.wf.fh hz) (mr_new S2.wf.mr hz) ⟨z, _, rfl, upd_same, S2.wf.fh.free hz, hz, ?_⟩⟩
  unfold LwE.dnV
  rw [List.map_map]
  exact reps_map (fun n => _ - (n : Int)) _
end
end DL
namespace DL
open PySem PySem.Spec PyProof.Rows L2 LwE LamX Lw
def tBl (f : List Sl → M R) : List Sl → M Bool := fun δ => DL.M.bnd (f δ) fun
  | .val (.bl k) => M.ret k
  | _ => M.no
theorem j_test {K : PySem.W.Frag} {E : XK} {t : TE} {f : List Sl → M R} (jt : J kR K E t f) : J kB K E (tTest t) (tBl f) := fun i F0 H0 F H σ δ s Q S q => by
  refine jt.use S q fun r s1 v F1 H1 e0 x1 S1 r1 q1 => ?_
  clear e0
  cases r with
  | new l => exact q1.elim
  | val d =>
    cases d <;> first | exact q1.elim | skip
    rename_i k
    exact ⟨k, r1, q1 _ F1 H1 (.refl S1.wf.fh) S1.wf.mr rfl⟩
section
variable {X : Cx} {E : XK} {a b c e : Expr} {es : List Expr} {pos : Pos}
theorem dt_cmp {fa fb : List Sl → M Dt} {o : CmpOp} {op : Dt → Dt → M R} (ho : OpD X E (compareOp o) op) (ha : DV X E a fa) (hb : DV X E b fb) (hm : behindInMarks o b = false := by first | exact nomark _ | rfl) : DT X E (.Compare a [o] [b] pos) (tBl (bin fa fb op)) := by
  obtain ⟨ta, pa, ja⟩ := ha
  obtain ⟨tb, pb, jb⟩ := hb
  obtain ⟨r, pr, jr⟩ := ho
  exact ⟨_, pt_cmpR pr pa pb hm, j_test fun i F0 H0 F H σ δ s Q S q => ja.use S q fun x s1 v F1 H1 _ x1 S1 r1 q1 => jb.use S1 q1 fun y s2 u F2 H2 _ x2 S2 r2 q2 => jr i s2 F2 H2 v u x y Q S2.wf (r1.ext x2) r2 q2⟩
def fldsD (cs : List Addr) (f : Str) : Dt → M R
  | .obj C ns l => if C ∈ cs then (match (ns.zip l).lookup f with
    | some d => M.ret (.val d)
    | none => M.no) else M.no
  | _ => M.no
def FldC (K : PySem.W.Frag) (cs : List Addr) (f : Str) : Prop := ∀ C ∈ cs, Cls K C ∧ NoAttr K C f
theorem de_fldG {fa : List Sl → M Dt} {cs : List Addr} {f : Str} (h : FldC X.K cs f) (ha : DV X E a fa) (hb : attributeBase a f X.env (eval a X.env) = eval a X.env := by rfl) : DE X E (.Attribute a f pos) (una fa (fldsD cs f)) := by
  obtain ⟨ta, pa, ja⟩ := ha
  refine ⟨_, pe_fld pa hb, fun i F0 H0 F H σ δ s Q S q => ja.use S q fun x s1 v F1 H1 e0 x1 S1 r1 q1 => ?_⟩
  clear e0
  cases x <;> first | exact q1.elim | skip
  rename_i C' ns l
  simp only [fldsD] at q1
  by_cases hC : C' ∈ cs
  rotate_left
  · rw [if_neg hC] at q1
    exact q1.elim
  rw [if_pos hC] at q1
  obtain ⟨cl, n⟩ := h _ hC
  obtain ⟨p, dx, gs, h0, h1, h2, h3⟩ := r1.obj
  cases e : (ns.zip l).lookup f with
  | none => rw [e] at q1; exact q1.elim
  | some d =>
    rw [e] at q1
    obtain ⟨w, e1, e2⟩ := lookup_rep h2 h3 e
    exact ⟨p, C', dx, gs, w, h0, S1.wf.fh _ _ h1, cl, n, e1, q1 _ F1 H1 (.refl S1.wf.fh) S1.wf.mr e2⟩
end
def Fd (P : Program) (w : World) (K : PySem.W.Frag) (mg : Str → Option Value) (base : Heap) (x : Str) (k : Nat) (ps : List Str) (sem : List Dt → M R) : Prop :=
  ∃ f fd, FnD P w K mg base k f fd ps sem ∧ mg x = some (.ref f) ∧ PySem.W.keepIn K (.ref f) = true ∧ Binds K fd ps []
def Sd (P : Program) (w : World) (K : PySem.W.Frag) (mg : Str → Option Value) (base : Heap) (C : Addr) (m : Str) (k : Nat) (ps : List Str) (sem : List Dt → M R) : Prop :=
  ∃ f fd, FnD P w K mg base k f fd ps sem ∧ PySem.W.findIn K (.ref C) m = some (some (.ref f)) ∧ PySem.W.isFn K (.ref f) = true ∧ Binds K fd ps []
section
variable {X : Cx} {E : XK} {a b c e : Expr} {es : List Expr} {pos : Pos} {k kb : Nat} {ps : List Str} {sem : List Dt → M R}
theorem de_callF {x : Str} {p : Pos} {n : Nat} {fa : List Sl → M (List Dt)} (T : Fd X.prog X.w X.K X.mg X.base x k ps sem) (hgu : X.A.guards = some []) (hr : Room kb X.A) (px : Passes (L2.CX X.prog X.w) X E) (ha : DA X E (e :: es) fa) (hk : k ≤ kb := by decide) (hnn : ps.length = n := by rfl) (hn : (e :: es).length = ps.length := by rfl)
    (hg : Gl X x := by rfl) (hdb : (x == ("__debug__" : Str)) = false := by decide) (he : starEach (e :: es) X.env = (false, eval e X.env) :: starEach es X.env := by rfl) (hpl : (backTo pos (starEach es X.env)).any (·.1) = false := by rfl) : DE X E (.Call (.Name x p) (e :: es) [] pos) (cCall n fa sem) :=
  let ⟨_, _, F, hm, hkp, hb⟩ := T
  hnn ▸   de_call F hgu (hr.mono hk) hm hkp hb px ha hn hg hdb he hpl
theorem de_makeF {x : Str} {C : Addr} {n : Nat} {p : Pos} {fa : List Sl → M (List Dt)} (T : MkD X.prog X.w X.K X.mg X.base x C ps k sem) (hgu : X.A.guards = some []) (hr : Room kb X.A) (px : Passes (L2.CX X.prog X.w) X E) (ha : DA X E (e :: es) fa) (hk : k + 1 ≤ kb := by decide) (hnn : ps.length = n := by rfl) (hg : Gl X x := by rfl)
    (hdb : (x == ("__debug__" : Str)) = false := by decide) (he : starEach (e :: es) X.env = (false, eval e X.env) :: starEach es X.env := by rfl) (hpl : (backTo pos (starEach es X.env)).any (·.1) = false := by rfl) : DE X E (.Call (.Name x p) (e :: es) [] pos) (cMake n fa sem) :=
  hnn ▸ de_make T hgu (hr.mono hk) px ha hg hdb he hpl
structure HrD (K : PySem.W.Frag) (mg : Str → Option Value) (e : Eca) (U : Kd → Bool) : Prop where
  ec : Ec K mg e
  ek : ∀ k, U k = true → Ek K e k
  fh : ∃ g fd, Fun K "_law_heard" "_law_heard" sHeard g fd ∧ mg "_law_heard" = some (.ref g) ∧ L2.Binds K fd ["call"] []
theorem de_heard {q : Str} {e : Eca} {U : Kd → Bool} {c Pt : Addr} {params : Arguments} {body : Expr} {scope : Scope} {fs : List Sl → M R} {p lpos : Pos} (T : HrD X.K X.mg e U) (TB : TabB X.base X.mg c Pt) (hcode : X.env.code = .ref c) (hr : Room kb X.A) (L : LamS X.env.scope scope) (hdef : defaultsOf params X.env = ([], []))
    (hbind : ∀ (q : Str) (cl : List (Str × Addr)) (pm cv ctv : Value), bindArgs (PySem.W.kla_fn "<lambda>" q params body scope cl pm cv ctv) ⟨[], []⟩ = pure [])
    (hbody : ∀ (A : Around) (outer : List Env) (s : Shared) (H : Hp) (E : XK) (f c' : Addr), A.guards = X.A.guards → Room k (A.deeper (lamEnv X scope s.heap.objs.size f c')) → DE (lamCx X A outer s H E scope f c') E body fs) (hk : k + 2 ≤ kb := by decide) (hg : Gl X "_law_heard" := by rfl) (hq : X.env.qual ++ "<lambda>" = q := by rfl) :
    DE X E (.Call (.Name "_law_heard" p) [.Lambda params body scope lpos] [] pos) (cHeard e U Pt q fs) := by
  subst hq
  obtain ⟨g, fd, F, hm, hb⟩ := T.fh
  exact ⟨_, pe_giveK (k := k) (t := fun E => tOf kR X.K E fs) F hm hb scHeard rfl (Or.inl rfl) (fun cdv => heard_gives T.ec) TB hcode (hr.mono hk) hg L hdef hbind (fun A outer s H E f c' h1 h2 => (hbody A outer s H E f c' h1 h2).pe), heard_j T.ek fun E' => tOf_j⟩
end
structure FunC (K : PySem.W.Frag) (x qual : Str) (st : Stmt) (c f : Addr) (fd : FuncData) : Prop where
  ex : ∃ (oc : Value) (od : Option Addr) (kV doc pm : Value) (an : Option Addr) (ct : Value) (osl : Array (Option Value)),
    fd = PySem.W.fnOf x qual (defArgs st) (defBody st) (defScope st) .none kV doc pm an (.ref c) ct ∧ K.lookup f = some ⟨oc, od, .func fd, osl⟩ ∧ PySem.W.codeIn K (.ref c) qual = true
  kp : PySem.W.keepIn K (.ref f) = true
theorem FunC.fn {K : PySem.W.Frag} {x qual : Str} {st : Stmt} {c f : Addr} {fd : FuncData} (F : FunC K x qual st c f fd) : Fun K x qual st f fd :=
  ⟨let ⟨oc, od, kV, doc, pm, an, ct, osl, h⟩ := F.ex; ⟨oc, od, kV, doc, pm, an, .ref c, ct, osl, h⟩, F.kp⟩
section
variable {P : Program} {w : World} {K : PySem.W.Frag} {mg : Str → Option Value} {base : Heap}
theorem okXC {CX : CXT} {x qual : Str} {st : Stmt} {c f : Addr} {fd : FuncData} {N ps : List Str} {k : Nat} {sp : Sp} (F : FunC K x qual st c f fd) (S : FnScope N ps (defScope st)) (len : ∀ vs H Q E, sp vs H Q E → vs.length = ps.length)
    (hbody : ∀ (A : Around) (outer : List Env) (s : Shared) (H : Hp) (vs : List V) (Q : VK) (E : XK), A.guards = some [] → Room k (A.deeper (PyProof.Rows.envOfC qual (defScope st) s.heap.objs.size f (.ref c))) → sp vs H Q E →
      ∃ t, PSs (cxOf CX P w K mg base N qual (defScope st) f (.ref c) A outer s H E) (defBody st) t ∧ t { nx := fun _ H' => Q .non H', rt := Q } (L2.start N vs) H) : FnX P w K mg base CX (k + 1) f fd ps sp := by
  obtain ⟨oc, od, kV, doc, pm, an, ct, osl, rfl, lk, hcd⟩ := F.ex
  refine ⟨len, fun A outer s H args us vs Q E hg hr e0 hb r h => ?_⟩
  have old : ∀ b o, base.get? b = some o → s.heap.get? b = some o := fun b o e => (e0.bs b o e).1
  have Ks : K.In s.heap := e0.mod.kin.keeps old
  have free : s.heap.NoLimit := e0.mod.nolimit.keeps old
  have kinds : ∀ y ∈ ps.zip us, (defScope st).names.lookup y.1 = some .local ∨
      ((defScope st).names.lookup y.1 = some .cell ∧ ((cellsFrom (s.heap.objs.size + 1) (defScope st).names []).lookup y.1).isSome = true) := by
    rintro ⟨n, v⟩ hy
    rcases S.par n (List.of_mem_zip hy).1 with z | z
    · exact .inl z
    · exact .inr ⟨z, PySem.W.cellsFrom_some _ _ _ (.inl z)⟩
  refine codeAny_call_function hr.depth (Ks _ _ lk) rfl S.co S.gen rfl (PySem.W.codeRec_of Ks hcd) (hb _ _ _ _ ?_)
  refine wpAny_newFunctionEnv_cells S.kind kinds fun env eq s1 entry => ?_
  subst eq
  refine ⟨free.keeps entry.toInCall.keep, codeAny_func ?_⟩
  obtain ⟨t, ht, q⟩ := hbody A outer s H vs Q E hg (hr.deeper _) h
  have I := inv_start (CX := CX) (E := E) S hr.hd e0 (len _ _ _ _ h) r entry
  refine wpAny_mono (ht.run [] s1 (L2.start N vs) H _ I q) (fun fl s' z => ?_) fun _ _ z => z
  cases fl with
  | brk =>
    obtain ⟨_, _, _, z⟩ := z
    exact z.elim
  | cont =>
    obtain ⟨_, _, _, z⟩ := z
    exact z.elim
  | next =>
    obtain ⟨σ', H', J, z⟩ := z
    exact ⟨.non, H', J.os, J.bare, J.base, J.hok, rfl, z⟩
  | ret u =>
    obtain ⟨v, σ', H', J, rv, z⟩ := z
    exact ⟨v, H', J.os, J.bare, J.base, J.hok, rv, z⟩
end
end DL
namespace DL
open PySem PySem.Spec PyProof.Rows L2 LwE LamX Lw
section
variable {X : Cx} {E : XK} {a b c e : Expr} {es : List Expr} {pos : Pos}
theorem de_globIE {x : Str} {z : Int} (h : ∃ t, X.mg x = some (.int z t)) (hg : Gl X x := by rfl) (hd : (x == ("__debug__" : Str)) = false := by decide) : DE X E (.Name x pos) (cC (.int z)) := let ⟨_, h⟩ := h; de_globI hg h hd
theorem PG.or {tg : Expr} {t1 t2 : TG} (h1 : PG X tg t1) (h2 : PG X tg t2) : PG X tg (fun v σ H Q => t1 v σ H Q ∨ t2 v σ H Q) := ⟨fun pins s σ H v u Q I r h => h.elim (h1.run pins s σ H v u Q I r) (h2.run pins s σ H v u Q I r)⟩
def tgS (gs : List (Dt → List Sl → Option (List Sl))) : Dt → List Sl → Option (List Sl) := fun d δ => match d with
  | .tup l => tgs gs l δ
  | .lst l => tgs gs l δ
  | _ => none
theorem dg_seq {gs : List (Dt → List Sl → Option (List Sl))} {ts : List Expr} {k : Nat} (hc : X.calm = true) (h : DGs X ts gs) (hn : (assignEach ts X.env).length = gs.length := by rfl) (hst : (assignEach ts X.env).findIdx? (·.1) = none := by rfl) : DG X (.Tuple ts k pos) (tgS gs) := by
  obtain ⟨t, pt, jt⟩ := h
  refine ⟨_, PG.or (pg_tup hc pt hn hst) (pg_unl hc pt hn hst), fun i F0 H0 F H σ δ s d v δ' Q S r e q => ?_⟩
  cases d <;> first | (cases e; done) | skip
  · rename_i l
    obtain ⟨p, vs, h0, h1, h2⟩ := r
    exact .inl ⟨p, vs, h0, sqT_same S.wf.fh h1, by rw [h2.len, tgs_len (show tgs gs l δ = some δ' from e)], jt i F0 H0 F H σ δ s l vs δ' Q S h2 e q⟩
  · rename_i l
    obtain ⟨p, vs, h0, h1, h2⟩ := r
    exact .inr ⟨p, vs, h0, SqL.of (S.wf.fh _ _ h1), by rw [h2.len, tgs_len (show tgs gs l δ = some δ' from e)], jt i F0 H0 F H σ δ s l vs δ' Q S h2 e q⟩
end
def pairD (p : Int × Int) : Dt := .tup [.int p.1, .int p.2]
end DL
namespace LwE
open PySem PySem.Spec PyProof.Rows L2
structure FnG (P : Program) (w : World) (K : PySem.W.Frag) (mg : Str → Option Value) (base : Heap) (k : Nat) (f : Addr) (fd : FuncData) (ps : List Str) (sp : Sp) : Prop where
  len : ∀ vs H Q E, sp vs H Q E → vs.length = ps.length
  run : ∀ (A : Around) (outer : List Env) (s : Shared) (H : Hp) (args : Args) (us : List Value) (vs : List V) (Q : VK) (E : XK), A.guards = some [] → Room k A →
    Env0 P w K mg base A outer s H → BindsTo s fd args (ps.zip us) → Vals vs us → sp vs H Q E → codeAny (model P w) A (.call (.ref f) args) (CR CX0 outer P w H s Q E) s
end LwE
namespace LwE
open PySem PySem.Spec PyProof.Rows L2 LamX
def ScrL (K : PySem.W.Frag) (H : Hp) (a : Addr) (ns : List Int) : Prop := (∃ o, H a = some (.frz o (.lst (ns.map V.int)))) ∨ SqL K (fun _ => none) a (ns.map V.int)
theorem ScrL.sq {K : PySem.W.Frag} {H : Hp} {a : Addr} {ns : List Int} (h : ScrL K H a ns) : SqL K H a (ns.map V.int) := by
  rcases h with h | (h | ⟨_, h⟩) | h
  · exact .inl (.inr h)
  · cases h
  · cases h
  · exact .inr h
theorem call_lawS {P : Program} {w : World} {K : PySem.W.Frag} {mg mb : Str → Option Value} {k : Nat} {fa a : Addr} {cs : List (Addr × Addr)} {fd : FuncData} {x : Str} {sp : Sp} {s₁ : Shared} {vs : List Value} {ns : List Int}
    (KX : K.In s₁.heap) (hns : s₁.heap.Ns mainGlobals mg) (hb : s₁.heap.Ns builtinsNs mb) (hbb : ∀ x : Str, x ≠ "__name__" → mb x = bootBuiltins x) (hlim : s₁.heap.NoLimit) (hgen : s₁.gens = #[])
    (hT : ∀ p ∈ cs, s₁.heap.get? p.2 = some { cls := .none, data := .fields #[] }) (nT : ∀ p ∈ cs, K.lookup p.2 = none) (hC : ∀ p ∈ cs, PySem.W.CodeHd s₁.heap p.1 p.2)
    (hbm : ∃ (bm : Addr) (ob : Obj), mg "__builtins__" = some (.ref bm) ∧ bm ≠ builtinsNs ∧ s₁.heap.get? bm = some ob ∧ ob.cls = .type "module" ∧ ob.dict = some builtinsNs ∧ ob.data = .plain)
    (ha : s₁.heap.get? a = some { cls := .type "list", data := .seq vs.toArray }) (hi : IntsAre vs ns) (hl : ns.length ≤ sizeLine) (hr : Room k callerA)
    (hsy : ∃ mm, s₁.heap.Ns sysModules mm)
    (F : ∀ base : Heap, K.In base → base.Ns mainGlobals mg → (∃ o, base.get? sysModules = some o) → (∀ p ∈ cs, TabB base mg p.1 p.2) → FnG P w K mg base k fa fd [x] sp) (hbind : ∀ (s : Shared) (u : Value), BindsTo s fd ⟨[u], []⟩ [(x, u)])
    (hsp : ∀ H : Hp, (∀ p ∈ cs, H p.2 = some (.tbl #[])) → ScrL K H a ns → sp [.ref a] H (fun v _ => v = .bl true) fun _ _ _ => False) :
    codeAny (model P w) callerA (.call (.ref fa) ⟨[.ref a], []⟩) (fun r s' => r = .ok (.ret (.bool true)) ∧ OldK s₁.heap s'.heap ∧ s'.os = s₁.os ∧ AllBare s'.gens) s₁ := by
  have rv := vals_ints hi
  have nlen := hi.length
  have tOf : ∀ {b : Addr}, b ∈ cs.map (·.2) → ∃ p ∈ cs, p.2 = b := fun hb => List.mem_map.mp hb
  have tAt : ∀ {b : Addr}, b ∈ cs.map (·.2) → s₁.heap.get? b = some { cls := .none, data := .fields #[] } := fun hb => by
    obtain ⟨p, hp, rfl⟩ := tOf hb
    exact hT p hp
  have aT : a ∉ cs.map (·.2) := fun z => by
    have q := tAt z
    rw [ha] at q
    cases q
  have core : ∀ H : Hp, (∀ b ∈ cs.map (·.2), H b = some (.tbl #[])) → (∀ b, H b = none ∨ b ∈ cs.map (·.2) ∨ ∃ o xs, H b = some (.frz o (.lst xs))) → SqL K H a (ns.map V.int) → HOk P w H s₁.heap → (∀ b, H b ≠ none → b = a ∨ b ∈ cs.map (·.2)) → (H a ≠ none → K.lookup a = none) →
      codeAny (model P w) callerA (.call (.ref fa) ⟨[.ref a], []⟩) (fun r s' => r = .ok (.ret (.bool true)) ∧ OldK s₁.heap s'.heap ∧ s'.os = s₁.os ∧ AllBare s'.gens) s₁ := by
    intro H hHT hO hS hok only unk
    have hz : ScrL K H a ns := by
      rcases hS with (h | h) | h
      · rcases hO a with z | z | ⟨o, xs, z⟩
        · rw [z] at h
          cases h
        · exact absurd z aT
        · rw [z] at h
          cases h
      · exact .inl h
      · exact .inr (.inr h)
    -- what is neither a list nor the table is not tracked
    have off : ∀ {b : Addr} {o : Obj}, s₁.heap.get? b = some o → (∀ us n, o.data ≠ .seq us n) → o.data ≠ .fields #[] → H b = none := by
      intro b o e h1 h2
      cases q : H b with
      | none => rfl
      | some u =>
        exfalso
        rcases only b (by rw [q]; simp) with z | z
        · rw [z, ha] at e
          cases e
          exact h1 _ _ rfl
        · rw [tAt z] at e
          cases e
          exact h2 rfl
    have offD : ∀ {b : Addr} {o : Obj} {es : Array DictEntry} {ep : Nat}, s₁.heap.get? b = some o → o.data = .dict es ep → H b = none := fun e d => off e (fun us n z => by rw [d] at z; cases z) fun z => by rw [d] at z; cases z
    have offP : ∀ {b : Addr} {o : Obj}, s₁.heap.get? b = some o → o.data = .plain → H b = none := fun e d => off e (fun us n z => by rw [d] at z; cases z) fun z => by rw [d] at z; cases z
    have keepsNs : ∀ {b : Addr} {m : Str → Option Value}, s₁.heap.Ns b m → (hidT s₁.heap H).Ns b m := by
      rintro b m ⟨o, es, ep, e, d, r⟩
      exact ⟨o, es, ep, hidT_get e (offD e d), d, r⟩
    have inK : K.In (hidT s₁.heap H) := by
      intro b o e
      refine hidT_get (KX b o e) ?_
      cases q : H b with
      | none => rfl
      | some u =>
        rcases only b (by rw [q]; simp) with z | z
        · subst z
          rw [unk (by rw [q]; simp)] at e
          cases e
        · obtain ⟨p, hp, rfl⟩ := tOf z
          rw [nT p hp] at e
          cases e
    have M : Mod K mg (hidT s₁.heap H) := ⟨inK, keepsNs hns, ⟨mb, keepsNs hb, hbb⟩, by
      obtain ⟨mc, z1, z2⟩ := hlim
      exact ⟨mc, keepsNs z1, z2⟩⟩
    have TB : ∀ p ∈ cs, TabB (hidT s₁.heap H) mg p.1 p.2 := fun p hp => by
      refine ⟨?_, ?_, fun z => ?_⟩
      · obtain ⟨o, us, file, tf, flags, tg, inF, text, tt, e1, r1, r2, r3, r4⟩ := hC p hp
        refine ⟨o, us, file, tf, flags, tg, inF, text, tt, hidT_get e1 (off e1 (fun ws n z => ?_) fun z => ?_), r1, r2, r3, r4⟩
        · rw [r2] at z
          cases z
        · rw [r2] at z
          cases z
          simp at r3
      · obtain ⟨bm, ob, b1, b2, b3, b4, b5, b6⟩ := hbm
        refine ⟨bm, ob, b1, b2, fun z => ?_, fun z => ?_, hidT_get b3 (offP b3 b6), b4, b5, b6⟩
        · obtain ⟨o, es, ep, e, d, _⟩ := hns
          rw [z, e] at b3
          cases b3
          rw [d] at b6
          cases b6
        · rw [z, hT p hp] at b3
          cases b3
          cases b6
      · obtain ⟨o, es, ep, e, d, _⟩ := hns
        rw [z, hT p hp] at e
        cases e
        cases d
    have e0 : Env0 P w K mg (hidT s₁.heap H) callerA [] s₁ H := by
      refine ⟨rfl, M, fun b o e => of_hidT e, Nat.le_of_eq (hidT_size _ _), trivial, fun b hb => ?_, hok, .of_eq hgen⟩
      exact absurd (show b ∈ ([] : List Addr) from hb) (by simp)
    refine codeAny_mono ((F _ inK (keepsNs hns) (let ⟨_, o, _, _, e, d, _⟩ := hsy; ⟨o, hidT_get e (offD e d)⟩) TB).run callerA [] s₁ H ⟨[.ref a], []⟩ [.ref a] [.ref a] _ _ rfl hr e0 (hbind s₁ (.ref a)) (.cons rfl .nil) (hsp H (fun p hp => hHT _ (List.mem_map_of_mem hp)) hz)) fun r s' z => ?_
    cases r with
    | error e => exact (show False from z).elim
    | ok fl =>
      cases fl with
      | ret u =>
        obtain ⟨v, H', os, bare, un, hok', r', q⟩ := z
        obtain rfl : v = .bl true := q
        obtain rfl : u = Value.bool true := r'
        have same : ∀ b o, b ∉ cs.map (·.2) → s₁.heap.get? b = some o → s'.heap.get? b = some o := fun b o nb e => by
          cases q : H b with
          | none => exact un.keep b o e q (fun z => absurd (show b ∈ ([] : List Addr) from z) (by simp)) (by simp)
          | some u =>
            rcases hO b with z | z | ⟨ob, xs, z⟩
            · rw [q] at z
              cases z
            · exact absurd z nb
            · obtain ⟨z1, _⟩ := hok b _ z
              obtain ⟨z2, _⟩ := hok' b _ (un.frzs b ob _ z)
              rw [e] at z1
              cases z1
              exact z2
        have grown : ∀ b ∈ cs.map (·.2), ∃ more : Array Value, s'.heap.get? b = some { cls := .none, data := .fields (#[] ++ more) } := fun b hb => by
          obtain ⟨more, hm⟩ := un.tbls b #[] (hHT b hb)
          exact ⟨more, hok' b _ hm⟩
        refine ⟨rfl, ⟨fun b o e => ?_, fun b o e => ?_⟩, os, bare⟩
        · by_cases nb : b ∈ cs.map (·.2)
          · obtain ⟨more, hm⟩ := grown b nb
            obtain ⟨p, hp, rfl⟩ := tOf nb
            rw [hT p hp] at e
            cases e
            exact .inr (.inl ⟨((hC p hp).tab (hT p hp)).isCodeTable, rfl, #[], more, rfl, hm⟩)
          · exact .inl (same b o nb e)
        · by_cases nb : b ∈ cs.map (·.2)
          · obtain ⟨more, hm⟩ := grown b nb
            exact ⟨_, hm⟩
          · exact ⟨o, same b o nb e⟩
      | next => exact False.elim z
      | brk => exact False.elim z
      | cont => exact False.elim z
  cases hk : K.lookup a with
  | some o =>
    have e := KX a o hk
    rw [ha] at e
    cases e
    refine core (fun b => if b ∈ cs.map (·.2) then some (.tbl #[]) else none) (fun b hb => if_pos hb) (fun b => ?_) ?_ (fun b u z => ?_) (fun b z => ?_) fun z => absurd (if_neg aT) z
    · by_cases h : b ∈ cs.map (·.2)
      · exact .inr (.inl h)
      · exact .inl (if_neg h)
    · exact .inr ⟨_, vs.toArray, _, hk, rfl, rfl, rfl, by rw [List.size_toArray, nlen]; exact hl, by simpa using rv⟩
    · by_cases h : b ∈ cs.map (·.2)
      · cases (if_pos h).symm.trans z
        exact tAt h
      · cases (if_neg h).symm.trans z
    · by_cases h : b ∈ cs.map (·.2)
      · exact .inr h
      · exact absurd (if_neg h) z
  | none =>
    refine core (fun b => if b = a then some (.frz { cls := .type "list", data := .seq vs.toArray } (.lst (ns.map V.int))) else if b ∈ cs.map (·.2) then some (.tbl #[]) else none) (fun b hb => ?_) (fun b => ?_) ?_ (fun b u z => ?_) (fun b z => ?_) fun _ => hk
    · rw [if_neg (fun z => aT (by rw [← z]; exact hb)), if_pos hb]
    · by_cases h1 : b = a
      · exact .inr (.inr ⟨_, _, if_pos h1⟩)
      · by_cases h2 : b ∈ cs.map (·.2)
        · exact .inr (.inl h2)
        · exact .inl (by rw [if_neg h1, if_neg h2])
    · exact .inl (.inr ⟨_, if_pos rfl⟩)
    · by_cases h1 : b = a
      · cases (if_pos h1).symm.trans z
        subst h1
        exact ⟨ha, by rw [List.length_map]; exact hl, vs, _, rv, ha⟩
      · by_cases h2 : b ∈ cs.map (·.2)
        · cases ((if_neg h1).trans (if_pos h2)).symm.trans z
          exact tAt h2
        · cases ((if_neg h1).trans (if_neg h2)).symm.trans z
    · by_cases h1 : b = a
      · exact .inl h1
      · by_cases h2 : b ∈ cs.map (·.2)
        · exact .inr h2
        · exact absurd ((if_neg h1).trans (if_neg h2)) z
def TellsS (l : PySem.W.OpenLaw) (w : World) (K : PySem.W.Frag) (k : Nat) (x : Str) (sp : List (Addr × Addr) → Sp) (mg : Str → Option Value) (fa : Addr) (h : Heap) : Prop :=
  ∃ (fd : FuncData) (cs : List (Addr × Addr)), (∀ p ∈ cs, h.get? p.2 = some { cls := .none, data := .fields #[] }) ∧ (∀ p ∈ cs, K.lookup p.2 = none) ∧ (∀ p ∈ cs, PySem.W.CodeHd h p.1 p.2) ∧ (∀ (s : Shared) (u : Value), BindsTo s fd ⟨[u], []⟩ [(x, u)]) ∧
    ∀ base : Heap, K.In base → base.Ns mainGlobals mg → (∃ o, base.get? sysModules = some o) → (∀ p ∈ cs, TabB base mg p.1 p.2) → FnG l.prog w K mg base k fa fd [x] (sp cs)
theorem walkGS {l : PySem.W.OpenLaw} {n k : Nat} {q : Program} {loose : List Str} {XP : (Str → Option Value) → Heap → Prop} {YP : World → Heap → Prop} {d : DefRec} {K : Params → PySem.W.Frag} {sp : World → List (Addr × Addr) → Sp} {x : Str}
    (hn : l.most = some n) (hn2 : n ≤ sizeLine) (hdf : d.params.defaults = []) (hr : Room k callerA) (hi : importsNone q = true) (hY : ∀ (w : World) (h : Heap), YP w h → (K w.params).In h)
    (F : ∀ (w : World) (mg : Str → Option Value) (fa : Addr) (h : Heap), YP w h → (K w.params).In h → h.Ns mainGlobals mg → mg d.name = some (.ref fa) → TellsS l w (K w.params) k x (sp w) mg fa h)
    (hsp : ∀ (w : World) (H : Hp) (a : Addr) (cs : List (Addr × Addr)) (ns : List Int), ns.length ≤ n → (∀ p ∈ cs, H p.2 = some (.tbl #[])) → ScrL (K w.params) H a ns → sp w cs [.ref a] H (fun v _ => v = .bl true) fun _ _ _ => False) :
    PySem.W.WalkO q loose XP YP l.row.toRowW d [] (fun f vs => PySem.call f vs) := by
  refine Att.attach_call hn hdf fun w s₀ s₁ mg mb fa o pm cd doc a vs ns G Y ho hd hcd hmg hobj hints hlen hg => ?_
  have KX := hY w _ Y
  obtain ⟨fd, cs, hT, nT, hC, hb, hF⟩ := F w mg fa _ Y KX G.T.g hmg
  exact call_lawS KX G.T.g G.T.b G.T.builtins G.T.nolimit hg hT nT hC G.T.bmain hobj hints (Nat.le_trans hlen hn2) hr (let ⟨mm, z, _⟩ := (G.T.seer hi).mods; ⟨mm, z⟩) hF hb fun H hH hS => hsp w H a cs ns hlen hH hS
end LwE
namespace DL
open PySem PySem.Spec PyProof.Rows L2 LwE LamX Lw
def spLawD (K : PySem.W.Frag) (T : List (Addr × Str)) : Sp := fun vs H Q _ => ∃ (a : Addr) (ns : List Int), vs = [.ref a] ∧ SqL K H a (nums ns) ∧ ns.length ≤ 63 ∧ Tabs T H ∧ ∀ H', Q (.bl true) H'
def δ0 (N : List Str) : List Sl := .non :: .val .drw :: List.replicate (N.length - 2) .non
def Pass (T : List (Addr × Str)) (N : List Str) (g : List Sl → DL.M Fl) : Prop := ∀ s : MS, s.n = 0 → s.tabs = T → s.cs.length = 64 → (∀ x ∈ s.cs, 0 ≤ x ∧ x < 2147483647) → s.gs.length ≤ 63 → ∃ s', g (δ0 N) s = .ok (.ret (.val (.bl true))) s'
theorem law_body {N : List Str} {T : List (Addr × Str)} {X : Cx} {E : XK} {first : Stmt} {rest : List Stmt} {g : List Sl → DL.M Fl} {tf : TS} (hN : 2 ≤ N.length) (hf : PS X first tf)
    (htf : ∀ D σ H a ns, σ[0]? = some (some (.ref a)) → SqL X.K H a (nums ns) → ns.length ≤ 63 → (∀ m g c H', Same H H' → Dr H' m g c 0 → D.nx (σ.set 1 (some (.ref m))) H') → tf D σ H) (hr : DSs X E rest g) (hp : Pass T N g)
    {a : Addr} {ns : List Int} {H : Hp} {Q : VK} (h1 : SqL X.K H a (nums ns)) (h2 : ns.length ≤ 63) (h3 : Tabs T H) (q : ∀ H', Q (.bl true) H') :
    ∃ t, PSs X (first :: rest) t ∧ t { nx := fun _ H' => Q .non H', rt := Q } (L2.start N [.ref a]) H := by
  obtain ⟨t, pt, jt⟩ := hr
  have es : L2.start N [.ref a] = some (.ref a) :: List.replicate (N.length - 1) none := rfl
  refine ⟨_, pss_cons hf pt, htf _ _ H a ns (by rw [es]; rfl) h1 h2 fun m g' c H' sm d => ?_⟩
  obtain ⟨cs, cc, hc⟩ := d.hc
  obtain ⟨gs, gl, hg⟩ := d.hg
  have mr : MR ⟨m, g', c, T, 0⟩ ⟨0, gs, cs, T⟩ H' := ⟨d.hm, hc, hg, ⟨cc.len, cc.bd⟩, gl, d.ne, d.n0, h3.ext sm, rfl⟩
  have W : Wf ⟨m, g', c, T, 0⟩ ⟨0, gs, cs, T⟩ (fun _ => none) H' := ⟨fun b o e => (by cases e), fun b _ => rfl, mr⟩
  obtain ⟨n, hn⟩ : ∃ n, N.length = n + 2 := ⟨N.length - 2, by omega⟩
  have eσ : (L2.start N [.ref a]).set 1 (some (.ref m)) = some (.ref a) :: some (.ref m) :: List.replicate n none := by
    rw [es, hn]
    rfl
  have eδ : δ0 N = Sl.non :: Sl.val .drw :: List.replicate n Sl.non := by
    unfold δ0
    rw [hn]
    rfl
  have look : ∀ {j : Nat} {x : Sl}, (δ0 N)[j]? = some x → (j = 1 ∧ x = .val .drw) ∨ x = .non := by
    intro j x e
    rw [eδ] at e
    match j, e with
    | 0, e => cases e; exact .inr rfl
    | 1, e => cases e; exact .inl ⟨rfl, rfl⟩
    | j + 2, e =>
      rw [List.getElem?_cons_succ, List.getElem?_cons_succ, List.getElem?_replicate] at e
      split at e
      · exact .inr (Option.some.inj e).symm
      · cases e
  have S : Sinv X.K ⟨m, g', c, T, 0⟩ (fun _ => none) H' (fun _ => none) H' ((L2.start N [.ref a]).set 1 (some (.ref m))) (δ0 N) ⟨0, gs, cs, T⟩ := by
    refine ⟨.refl W.fh, W, ?_, fun j d e => ?_, fun j l e => ?_, fun j C ns l e => ?_, fun j j' l m p hne e => ?_, .none fun j ls e => by rcases look e with ⟨_, e1⟩ | e1 <;> cases e1⟩
    · rw [eσ, eδ]
      simp
    · rcases look e with ⟨rfl, e1⟩ | e1
      · cases e1
        exact ⟨.ref m, by rw [eσ]; rfl, rfl⟩
      · cases e1
    · rcases look e with ⟨rfl, e1⟩ | e1 <;> cases e1
    · rcases look e with ⟨rfl, e1⟩ | e1 <;> cases e1
    · rcases look e with ⟨rfl, e1⟩ | e1 <;> cases e1
  refine jt _ _ _ _ _ _ _ _ _ S ?_
  obtain ⟨s', e⟩ := hp ⟨0, gs, cs, T⟩ rfl rfl cc.len cc.bd gl
  rw [e]
  intro v F' H'' x m r
  have r : v = .bl true := r
  rw [r]
  exact q H''
section
variable {P : Program} {w : World} {K : PySem.W.Frag} {mg : Str → Option Value} {base : Heap}
theorem FnX.g {k : Nat} {f : Addr} {fd : FuncData} {ps : List Str} {sp : Sp} (F : FnX P w K mg base (L2.CX P w) k f fd ps sp) (hE : ∀ vs H Q E, sp vs H Q E → sp vs H Q E0) : FnG P w K mg base k f fd ps sp :=
  ⟨F.len, fun A outer s H args us vs Q E hg hr e0 hb hv hs => codeAny_mono (F.run A outer s H args us vs Q E0 hg hr e0 hb hv (hE _ _ _ _ hs)) fun r s' q => by
    cases r with
    | error e =>
      obtain ⟨_, _, _, _, _, _, _, _, _, _, _, _, z⟩ := (show L2.CX P w outer H s E0 e s' from q)
      exact z.elim
    | ok fl => cases fl <;> exact q⟩
theorem begun_read {Kr : PySem.W.Frag} {ta : TA} {D : Ends} {σ : L2.St} {H : Hp} (hs : ∀ (Q : List V → Hp → Prop) (a : Addr), σ[0]? = some (some (.ref a)) → Q [.ref a] H → ta σ H Q) {a : Addr} {ns : List Int} (h0 : σ[0]? = some (some (.ref a))) (h1 : SqL Kr H a (nums ns)) (h2 : ns.length ≤ 63)
    (h : ∀ m g c H', Same H H' → Dr H' m g c 0 → D.nx (σ.set 1 (some (.ref m))) H') : tAsg (tCall (spBegun Kr) [] E0 ta) (gName 1) D σ H := by
  refine hs _ a h0 ?_
  exact ⟨a, ns, rfl, h1, h2, fun m g c H' s d => h m g c H' s d⟩
theorem lawC {x qual : Str} {st : Stmt} {c f : Addr} {fd : FuncData} {N : List Str} {k : Nat} {g : List Sl → DL.M Fl} {first : Stmt} {rest : List Stmt} {T : List (Addr × Str)} (F : FunC K x qual st c f fd) (S : FnScope N ["script"] (defScope st)) (hN : 2 ≤ N.length) (hb : defBody st = first :: rest)
    (hf : ∀ (A : Around) (outer : List Env) (s : Shared) (H : Hp) (E : XK), Room k (A.deeper (PyProof.Rows.envOfC qual (defScope st) s.heap.objs.size f (.ref c))) → PS (cxOf (L2.CX P w) P w K mg base N qual (defScope st) f (.ref c) A outer s H E) first (tAsg (tCall (spBegun K) [] E0 (tCons (tVar 0) tNil)) (gName 1)))
    (hr : ∀ (A : Around) (outer : List Env) (s : Shared) (H : Hp) (E : XK), A.guards = some [] → Room k (A.deeper (PyProof.Rows.envOfC qual (defScope st) s.heap.objs.size f (.ref c))) → DSs (cxOf (L2.CX P w) P w K mg base N qual (defScope st) f (.ref c) A outer s H E) E rest g) (hp : Pass T N g) :
    FnG P w K mg base (k + 1) f fd ["script"] (spLawD K T) := by
  refine FnX.g (okXC F S (fun vs H Q E ⟨a, ns, e, _⟩ => by rw [e]; rfl) (fun A outer s H vs Q E hg hro ⟨a, ns, e, h1, h2, h3, q⟩ => ?_)) fun vs H Q E h => h
  subst e
  rw [hb]
  exact law_body hN (hf A outer s H E hro) (fun D σ H a ns e h1 h2 h => begun_read (fun Q b eb q => ⟨_, eb, q⟩) e h1 h2 h) (hr A outer s H E hg hro) hp h1 h2 h3 q
end
end DL
namespace DL
open PySem
theorem tabOk_of : ∀ {Tl : List (Addr × Str)} {P : Addr} {q : Str}, (Tl.map Prod.fst).Nodup → (P, q) ∈ Tl → tabOk P q Tl
  | [], _, _, _, h => by cases h
  | (p, r) :: l, P, q, nd, h => by
    rw [List.map_cons, List.nodup_cons] at nd
    refine ⟨h, fun x hx e => ?_⟩
    rcases List.mem_cons.mp h with h | h
    · cases h
      rcases List.mem_cons.mp hx with hx | hx
      · rw [hx]
      · exact absurd (List.mem_map.mpr ⟨x, hx, e⟩) nd.1
    · rcases List.mem_cons.mp hx with hx | hx
      · rw [hx] at e
        have e : p = P := e
        exact absurd (List.mem_map.mpr ⟨(P, q), h, e.symm⟩) nd.1
      · exact (tabOk_of nd.2 h).2 x hx e
end DL
namespace LwE
open PySem PySem.Spec PyProof.Rows L2 HT
end LwE
namespace DL
open PySem PySem.Spec PyProof.Rows L2 LwE LamX Lw
section
variable {X : Cx} {E : XK} {a b c e tgE : Expr} {es : List Expr} {st : Stmt} {sts : List Stmt} {pos : Pos}
def gAug (k : Nat) (g : Int → Int → Int) (f : List Sl → DL.M Dt) : List Sl → DL.M Fl := fun δ => match δ[k]? with
  | some (.val (.int x)) => DL.M.bnd (f δ) fun
    | .int y => M.ret (.nx (δ.set k (.val (.int (g x y)))))
    | _ => M.no
  | _ => M.no
theorem ds_aug (k : Nat) {g : Int → Int → Int} {op : Operator} {x : Str} {f : List Sl → DL.M Dt} {pos' : Pos} (hN : X.N.Nodup) (ho : PIp X op (ipI g)) (he : DV X E e f) (hi : X.N[k]? = some x := by rfl) (hx : Loc X.env.scope x := by first | exact Or.inl rfl | exact Or.inr rfl)
    (hf : X.fn x = true ∨ X.env.scope.names.lookup x = some .local := by first | exact .inl rfl | exact .inr rfl | assumption) : DS X E (.AugAssign (.Name x pos') op e pos) (gAug k g f) := by
  obtain ⟨t, pt, jt⟩ := he
  refine ⟨_, ps_aug hN hi hx pt ho hf, fun i F0 H0 F H σ δ s D S q => ?_⟩
  unfold gAug at q
  cases hk : δ[k]? with
  | none => rw [hk] at q; exact q.elim
  | some z =>
    rw [hk] at q
    cases z with
    | non => exact q.elim
    | own l => exact q.elim
    | ins C ns l => exact q.elim
    | nst ls => exact q.elim
    | val d =>
      cases d <;> first | exact q.elim | skip
      rename_i x0
      obtain ⟨v, h1, h2⟩ := S.slot k _ hk
      refine ⟨v, h1, jt.useS S q fun y s1 w F1 H1 x1 S1 r1 q1 => ?_⟩
      cases y <;> first | exact q1.elim | skip
      rename_i y0
      exact ⟨x0, y0, h2, View.int r1, q1 _ F1 H1 (S1.putD (d := .int (g x0 y0)) k rfl)⟩
theorem PE.or {t1 t2 : TE} (h1 : PE X e t1) (h2 : PE X e t2) : PE X e (fun σ H Q => t1 σ H Q ∨ t2 σ H Q) := ⟨fun pins s σ H Q I h => h.elim (h1.run pins s σ H Q I) (h2.run pins s σ H Q I)⟩
end
end DL
namespace DL
open PySem PySem.Spec PyProof.Rows L2 LwE LamX Lw
end DL
namespace DL
open PySem PySem.Spec PyProof.Rows L2 LwE LamX Lw
end DL
namespace DL
open PySem PySem.Spec PyProof.Rows L2 LwE LamX Lw
end DL
namespace DL
open PySem PySem.Spec PyProof.Rows L2 LwE LamX Lw
end DL
namespace DL
open PySem PySem.Spec PyProof.Rows L2 LwE LamX Lw
end DL
namespace DL
open PySem PySem.Spec PyProof.Rows L2 LwE LamX Lw
def AtK (K : PySem.W.Frag) (H : Hp) (a : Addr) (xs : List V) : Bool → Prop
  | true => SqT K H a xs
  | false => SqL K H a xs
def CurK (h : Heap) (c a : Addr) (n : Nat) : Bool → Prop
  | true => h.IsTupleIter c a n
  | false => h.IsListIter c a n
def CellK (h : Heap) (a : Addr) (us : Array Value) : Bool → Prop
  | true => h.IsTuple a us
  | false => h.IsList a us
def curO (a : Addr) : Bool → Obj
  | true => { cls := .type "tuple_iterator", data := .fields #[.ref a, .int 0 0] }
  | false => { cls := .type "list_iterator", data := .fields #[.ref a, .int 0 0] }
theorem atK_inv {X : Cx} {pins : List (Addr × Obj)} {σ : L2.St} {H : Hp} {s : Shared} {a : Addr} {xs : List V} (I : Inv X pins σ H s) : ∀ t : Bool, AtK X.K H a xs t → ∃ us : List Value, Vals xs us ∧ CellK s.heap a us.toArray t
  | true, h => let ⟨us, r, p, _⟩ := I.tuple h; ⟨us, r, p⟩
  | false, h => let ⟨us, r, p, _⟩ := I.list h; ⟨us, r, p.isList⟩
theorem atK_inj {X : Cx} {pins : List (Addr × Obj)} {σ : L2.St} {H : Hp} {s : Shared} {a : Addr} {xs ys : List V} (I : Inv X pins σ H s) : ∀ t : Bool, AtK X.K H a xs t → AtK X.K H a ys t → xs = ys
  | true, h, h' => I.tuple_inj h h'
  | false, h, h' => I.list_inj h h'
theorem curK_at {h h' : Heap} {c a : Addr} {n : Nat} : ∀ t : Bool, CurK h c a n t → (∀ o, h.get? c = some o → h'.get? c = some o) → CurK h' c a n t
  | true, x, e => Heap.IsTupleIter.at x e
  | false, x, e => Heap.IsListIter.at x e
theorem curK_obj {h : Heap} {c a : Addr} {n : Nat} : ∀ t : Bool, CurK h c a n t → ∃ o, h.get? c = some o ∧ ∀ v, o.data ≠ .cell v
  | true, x => let ⟨o, e, _, d⟩ := x; ⟨o, e, fun v q => by rw [d] at q; cases q⟩
  | false, x => let ⟨o, e, _, d⟩ := x; ⟨o, e, fun v q => by rw [d] at q; cases q⟩
theorem curK_new {h : Heap} {c a : Addr} : ∀ t : Bool, h.get? c = some (curO a t) → CurK h c a 0 t
  | true, e => ⟨_, e, rfl, rfl⟩
  | false, e => ⟨_, e, rfl, rfl⟩
theorem cellK_lt {h : Heap} {a : Addr} {us : Array Value} : ∀ t : Bool, CellK h a us t → a < h.objs.size
  | true, x => let ⟨_, e, _⟩ := x; Heap.lt_size e
  | false, x => let ⟨_, e, _⟩ := x; Heap.lt_size e
theorem curK_begins (a : Addr) (us : Array Value) : ∀ t : Bool, Begins (.ref a) (curO a t) fun h => CellK h a us t
  | true => begins_tuple a us
  | false => begins_list a us
theorem curK_draws {prog : Program} {w : World} {A : Around} {c a : Addr} (hh : A.handled = none) (hne : a ≠ c) (us : Array Value) (n : Nat) : ∀ t : Bool, ∃ (m : Nat) (S : Nat → Heap → Prop),
    Draws prog w A c [c, a] m (fun i v => us[i]? = some v) S ∧ n ≤ m ∧ (us.size ≤ n → n = m) ∧ (n < us.size → n < m) ∧ (∀ h, CurK h c a n t → CellK h a us t → S n h) ∧ (n < us.size → ∀ h, S (n + 1) h → CurK h c a (n + 1) t) := by
  intro t
  by_cases hn : n < us.size
  · cases t
    · exact ⟨_, _, .list hh c a hne us, Nat.le_of_lt hn, fun z => absurd hn (Nat.not_lt.mpr z), id, fun h x y => ⟨x, y⟩, fun _ h z => z.1⟩
    · exact ⟨_, _, .tuple hh c a hne us, Nat.le_of_lt hn, fun z => absurd hn (Nat.not_lt.mpr z), id, fun h x y => ⟨x, y⟩, fun _ h z => z.1⟩
  · have hx : us[n]? = none := by simp; omega
    refine ⟨n, fun j h => j = n ∧ CurK h c a n t ∧ CellK h a us t, ?_, Nat.le_refl _, fun _ => rfl, fun z => absurd z hn, fun h x y => ⟨rfl, x, y⟩, fun z => absurd z hn⟩
    refine ⟨fun _ h z => let ⟨o, e, _⟩ := curK_obj t z.2.1; ⟨o, e⟩, fun j h h' z k => ⟨z.1, curK_at t z.2.1 fun o e => k c (by simp) o e, ?_⟩, fun j s Q E hj z _ => absurd z.1 (Nat.ne_of_lt hj), fun s Q E z k => ?_⟩
    · cases t
      · exact Heap.IsList.at z.2.2 fun o e => k a (by simp) o e
      · exact Heap.IsTuple.at z.2.2 fun o e => k a (by simp) o e
    · cases t
      · exact wpAny_nextOf_list_end hh z.2.1 z.2.2 hx k
      · exact wpAny_nextOf_tuple_end hh z.2.1 z.2.2 hx k
def ItM (K : PySem.W.Frag) (t u : Bool) (a b : Addr) : It where
  go := fun n H => ∃ (xs ys : List V), (AtK K H a xs t ∧ n < xs.length) ∧ AtK K H b ys u ∧ n < ys.length
  yld := fun n H v H' => ∃ (T : Addr) (x y : V), (v = .ref T ∧ H T = none ∧ H' = upd H T (.tup [x, y])) ∧ (∀ xs, AtK K H a xs t → xs[n]? = some x) ∧ ∀ ys, AtK K H b ys u → ys[n]? = some y
  stop := fun n H => ∃ (xs ys : List V), (AtK K H a xs t ∧ AtK K H b ys u) ∧ (xs.length ≤ n ∨ ys.length ≤ n)
theorem sepM {z TI TO i1 i2 a b : Addr} (D : ZipApart z TI TO i1 i2 a b) : ZipSep2 z TI TO i1 i2 [i1, a] [i2, b] := by
  obtain ⟨d1, d2, d3, d4, d5, d6, d7, d8, d9, d10, e1, e2, e3, e4, f1, f2, f3, f4⟩ := D
  have n3 := d3.symm
  have n4 := d4.symm
  have m1 := e1.symm
  have m2 := e2.symm
  have m4 := e4.symm
  have k1 := f1.symm
  have k2 := f2.symm
  have k3 := f3.symm
  have n10 := d10.symm
  constructor <;> simp_all
theorem vals_cons' {x : V} {xs : List V} {us : List Value} (r : Vals (x :: xs) us) : ∃ v vs, us = v :: vs ∧ RelV x v ∧ Vals xs vs := by
  cases r with
  | cons h t => exact ⟨_, _, rfl, h, t⟩
theorem vals_at {xs : List V} {us : List Value} (r : Vals xs us) : ∀ {n : Nat} {v : Value}, us[n]? = some v → ∃ x, xs[n]? = some x ∧ RelV x v := by
  induction r with
  | nil => intro n v e; cases e
  | cons h t ih =>
    intro n v e
    cases n with
    | zero => cases e; exact ⟨_, rfl, h⟩
    | succ n => exact ih (by simpa using e)
def StM (z TI TO i1 i2 a b : Addr) (t u : Bool) (n : Nat) (h : Heap) : Prop :=
  (IsZip h z TI TO .none ∧ IsTupOf2 h TI (.ref i1) (.ref i2)) ∧ (∃ p q, IsTupOf2 h TO p q) ∧ CurK h i1 a n t ∧ CurK h i2 b n u
theorem five {z TI TO i1 i2 c : Addr} {P : Addr → Prop} (h : c ∈ [z, TI, TO, i1, i2]) (p1 : P z) (p2 : P TI) (p3 : P TO) (p4 : P i1) (p5 : P i2) : P c := by
  simp only [List.mem_cons, List.not_mem_nil, or_false] at h
  rcases h with rfl | rfl | rfl | rfl | rfl <;> assumption
theorem turn_m {P : Program} {w : World} {K : PySem.W.Frag} {elts : List Expr} {kk : Nat} {tpos : Pos} {a b z TI TO i1 i2 : Addr} {t u : Bool} (D : ZipApart z TI TO i1 i2 a b) :
    Turn P w K (.Tuple elts kk tpos) (ItM K t u a b) [z, TI, TO, i1, i2] z (StM z TI TO i1 i2 a b t u) where
  mem := List.mem_cons_self ..
  obj := fun n h ⟨⟨hz, hI⟩, ⟨p, q, hO⟩, c1, c2⟩ c hc => five (P := fun c => ∃ o, h.get? c = some o ∧ ∀ v, o.data ≠ .cell v) hc ⟨_, hz, fun _ e => nomatch e⟩ ⟨_, hI, fun _ e => nomatch e⟩ ⟨_, hO, fun _ e => nomatch e⟩ (curK_obj t c1) (curK_obj u c2)
  keep := fun n h h' ⟨⟨hz, hI⟩, ⟨p, q, hO⟩, c1, c2⟩ k => ⟨⟨k _ (by simp) _ hz, k _ (by simp) _ hI⟩, ⟨p, q, k _ (by simp) _ hO⟩, curK_at t c1 fun o => k _ (by simp) o, curK_at u c2 fun o => k _ (by simp) o⟩
  self := fun A n s Q E st q => wpAny_pyIter_zip st.1.1 q
  done := fun X eP ew eK hc n pins s σ H E I hf st hg => by
    subst eP ew eK
    obtain ⟨⟨hz, hI⟩, ⟨p, q, hO⟩, c1, c2⟩ := st
    obtain ⟨xs, ys, ⟨g1, g2⟩, hend⟩ := hg
    obtain ⟨us, r1, l1⟩ := atK_inv I t g1
    obtain ⟨vs, r2, l2⟩ := atK_inv I u g2
    have e1 := r1.length
    have e2 := r2.length
    have hh : X.A.in1.handled = none := I.ok.hd hc
    obtain ⟨m1, S1, D1, a1, a2, _, a4, _⟩ := curK_draws (prog := X.prog) (w := X.w) hh D.l1i1 us.toArray n t
    obtain ⟨m2, S2, D2, b1, b2, _, b4, _⟩ := curK_draws (prog := X.prog) (w := X.w) hh D.l2i2 vs.toArray n u
    have he : n = m1 ∨ n = m2 := by
      rcases hend with k | k
      · exact .inl (a2 (by simp; omega))
      · exact .inr (b2 (by simp; omega))
    refine wpAny_pyNext_zipD2_end (sepM D) D1 D2 hz hI hO (a4 _ c1 l1) (b4 _ c2 l2) a1 b1 he fun h' tk hk => ⟨rfl, I.turnedL (ch := [z, TI, TO, i1, i2]) (fun c o hb => ?_) hf⟩
    simp only [List.mem_cons, List.not_mem_nil, or_false, not_or] at hb
    exact hk c o hb.1 hb.2.2.1 hb.2.2.2.1 hb.2.2.2.2
  item := fun X eP ew eK hc n pins s σ H E I hf st hg => by
    subst eP ew eK
    obtain ⟨⟨hz, hI⟩, ⟨p, q, hO⟩, c1, c2⟩ := st
    obtain ⟨xs, ys, ⟨g1, n1⟩, g2, n2⟩ := hg
    obtain ⟨us, r1, l1⟩ := atK_inv I t g1
    obtain ⟨vs, r2, l2⟩ := atK_inv I u g2
    have e1 := r1.length
    have e2 := r2.length
    have hh : X.A.in1.handled = none := I.ok.hd hc
    have k1 : n < us.toArray.size := by simp; omega
    have k2 : n < vs.toArray.size := by simp; omega
    obtain ⟨m1, S1, D1, _, _, a3, a4, a5⟩ := curK_draws (prog := X.prog) (w := X.w) hh D.l1i1 us.toArray n t
    obtain ⟨m2, S2, D2, _, _, b3, b4, b5⟩ := curK_draws (prog := X.prog) (w := X.w) hh D.l2i2 vs.toArray n u
    have zl : z < s.heap.objs.size := Heap.lt_size hz
    refine wpAny_pyNext_zipD2_item (sepM D) D1 D2 hz hI hO (a4 _ c1 l1) (b4 _ c2 l2) (a3 k1) (b3 k2) fun x' y' h' tk hx hy z' O' s1 s2 hT hsz hk => ⟨_, rfl, ?_⟩
    refine wpAny_letOwnedTupleGo_zip (s := { s with heap := h', toks := tk }) z' fun h'' z'' sb => ?_
    obtain ⟨x, gx, rx⟩ := vals_at r1 (by simpa using hx)
    obtain ⟨y, gy, ry⟩ := vals_at r2 (by simpa using hy)
    have hT2 : h''.get? s.heap.objs.size = some { cls := .type "tuple", data := .seq #[x', y'] } := (sb.2 _ (Nat.ne_of_gt zl)).trans hT
    have new : ObjOk X.prog X.w (upd H s.heap.objs.size (.tup [x, y])) h'' s.heap.objs.size (.tup [x, y]) :=
      ⟨by show 2 ≤ sizeLine; decide, [x', y'], .cons rx (.cons ry .nil), ⟨_, hT2, rfl, _, rfl⟩⟩
    refine ⟨.ref s.heap.objs.size, _, I.turnedNew (t' := tk) (ch := [z, TI, TO, i1, i2]) (fun c o hb e => ?_) hf (Nat.le_refl _) new, rfl, ⟨_, x, y, ⟨rfl, I.hok.fresh (Nat.le_refl _), rfl⟩, fun l hl => by rw [atK_inj I t hl g1]; exact gx, fun l hl => by rw [atK_inj I u hl g2]; exact gy⟩, ⟨⟨z'', ?_⟩, ⟨x', y', ?_⟩, ?_, ?_⟩, fun c hcm => ?_⟩
    · simp only [List.mem_cons, List.not_mem_nil, or_false, not_or] at hb
      exact (sb.2 c hb.1).trans (hk c o hb.1 hb.2.2.1 hb.2.2.2.1 hb.2.2.2.2 e)
    · exact (sb.2 _ D.TIz).trans (hk _ _ D.TIz D.TITO D.TIi1 D.TIi2 hI)
    · exact (sb.2 _ D.TOz).trans O'
    · exact curK_at t (a5 k1 _ s1) fun o e => (sb.2 _ D.i1z).trans e
    · exact curK_at u (b5 k2 _ s2) fun o e => (sb.2 _ D.i2z).trans e
    · have lt : c < s.heap.objs.size := by
        refine five (P := fun c => c < s.heap.objs.size) hcm zl (Heap.lt_size hI) (Heap.lt_size hO) ?_ ?_
        · exact let ⟨_, e, _⟩ := curK_obj t c1; Heap.lt_size e
        · exact let ⟨_, e, _⟩ := curK_obj u c2; Heap.lt_size e
      rw [upd_ne (Nat.ne_of_lt lt)]
      exact (hf c hcm).1
def iZipM (K : PySem.W.Frag) (ta : TA) : TI := fun σ H R => ta σ H fun vs H1 => ∃ (a b : Addr) (t u : Bool) (xs ys : List V), (vs = [.ref a, .ref b] ∧ AtK K H1 a xs t ∧ AtK K H1 b ys u) ∧ R (ItM K t u a b) H1
theorem pi_zipM {X : Cx} {e e2 : Expr} {ta : TA} {p pos tpos : Pos} {elts : List Expr} {kk : Nat} (hg : Gl X "zip") (hm : X.mg "zip" = none) (ha : PA X [e, e2] ta)
    (hs : starEach [e, e2] X.env = (false, eval e X.env) :: starEach [e2] X.env) (hpl : (backTo pos (starEach [e2] X.env)).any (·.1) = false) :
    PI X (.Tuple elts kk tpos) (.Call (.Name "zip" p) [e, e2] [] pos) (iZipM X.K ta) := by
  refine ⟨fun pins s σ H R I h => Call_ (ld_blt I hg hm PyProof.Rows.boot_zip (PyProof.Rows.callWith_type1 (thn (ha.run pos pins s σ H _ I h) fun vs s1 ⟨ws, H1, I1, rr, a, b, t, u, xs, ys, ⟨ew, g1, g2⟩, hR⟩ => ?_) hs hpl))⟩
  subst ew
  obtain ⟨v1, vs1, rfl, r1, rr⟩ := vals_cons' rr
  obtain ⟨v2, vs2, rfl, r2, rr⟩ := vals_cons' rr
  cases rr
  cases r1
  cases r2
  obtain ⟨us, _, l1⟩ := atK_inv I1 t g1
  obtain ⟨vs, _, l2⟩ := atK_inv I1 u g2
  refine zip_begins2 (curK_begins a us.toArray t) (curK_begins b vs.toArray u) l1 l2 fun h' hz hI hO o1 o2 hsz hk => wpAny_pyIter_zip hz ?_
  refine ⟨_, [s1.heap.objs.size + 4, s1.heap.objs.size + 2, s1.heap.objs.size + 3, s1.heap.objs.size, s1.heap.objs.size + 1], _, _, H1, rfl, I1.kept (t' := s1.toks) hk, turn_m (PySem.W.ktu_apart s1.heap.objs.size a b (cellK_lt t l1) (cellK_lt u l2)), ⟨⟨hz, hI⟩, ⟨_, _, hO⟩, curK_new t o1, curK_new u o2⟩, fun c hc => ?_, hR⟩
  have le : s1.heap.objs.size ≤ c := five (P := fun c => s1.heap.objs.size ≤ c) hc (by omega) (by omega) (by omega) (Nat.le_refl _) (by omega)
  exact I1.fpOk le (I1.hok.fresh le)
end DL
namespace DL
open PySem PySem.Spec PyProof.Rows L2 LwE LamX Lw
theorem atK_same {K : PySem.W.Frag} {F F' : Hp} {a : Addr} {xs : List V} (e : Same F F') : ∀ t : Bool, AtK K F a xs t → AtK K F' a xs t
  | true, h => sqT_same e h
  | false, h => sqL_same e h
theorem walks_zM {K : PySem.W.Frag} {i : Ix} {F1 : Hp} {a b : Addr} {t u : Bool} {vs us : List V} {l m : List Dt} (h : AtK K F1 a vs t) (h2 : AtK K F1 b us u) (r : Reps K i F1 l vs) (r2 : Reps K i F1 m us) : Walks K i (ItM K t u a b) F1 (zipD l m) := fun n F H s1 s2 => by
  have h' := atK_same (s1.trans s2) t h
  have h2' := atK_same (s1.trans s2) u h2
  refine ⟨fun d e => ?_, fun hn => ⟨vs, us, ⟨h', h2'⟩, by rw [zipD_len] at hn; rw [r.len, r2.len]; omega⟩⟩
  obtain ⟨dx, dy, e1, e2, rfl⟩ := zipD_get e
  obtain ⟨v, g1, g2⟩ := r.get e1
  obtain ⟨w, k1, k2⟩ := r2.get e2
  refine ⟨⟨vs, us, ⟨h', (List.getElem?_eq_some_iff.mp g1).1⟩, h2', (List.getElem?_eq_some_iff.mp k1).1⟩, fun y H' q => ?_⟩
  obtain ⟨T, x', y', ⟨rfl, hT, rfl⟩, q1, q2⟩ := q
  have z1 := q1 vs h'
  have z2 := q2 us h2'
  rw [g1] at z1
  rw [k1] at z2
  cases z1
  cases z2
  obtain ⟨a1, a2, a3, a4⟩ := same_up (o := .tup [v, w]) s2 hT
  exact ⟨_, a1, a2, a3, a4, T, [v, w], rfl, .inl (.inl upd_same), .cons (Rep.same (s1.trans a1) dx g2) (.cons (Rep.same (s1.trans a1) dy k2) .nil)⟩
def wZp (f g : List Sl → DL.M R) : List Sl → DL.M (List Dt) := fun δ => M.bnd (f δ) fun r => M.bnd (g δ) fun r' => match r.d, r'.d with
  | .lst l, .lst m => M.ret (zipD l m)
  | .tup l, .tup m => M.ret (zipD l m)
  | .tup l, .lst m => M.ret (zipD l m)
  | .lst l, .tup m => M.ret (zipD l m)
  | _, _ => M.no
theorem rep_at {K : PySem.W.Frag} {i : Ix} {F : Hp} {d : Dt} {v : V} {l : List Dt} (r : Rep K i F d v) (e : d = .lst l ∨ d = .tup l) : ∃ (t : Bool) (p : Addr) (vs : List V), v = .ref p ∧ AtK K F p vs t ∧ Reps K i F l vs := by
  rcases e with rfl | rfl
  · obtain ⟨p, vs, h0, h1, h3⟩ := r
    exact ⟨false, p, vs, h0, SqL.of h1, h3⟩
  · obtain ⟨p, vs, h0, h1, h3⟩ := r
    exact ⟨true, p, vs, h0, h1, h3⟩
section
variable {X : Cx} {E : XK} {a b e t1 t2 : Expr} {pos p tpos : Pos} {elts : List Expr} {kk : Nat}
theorem di_zip {f g : List Sl → DL.M R} (h : DE X E a f) (h2 : DE X E b g) (hm : X.mg "zip" = none) (hg : Gl X "zip" := by rfl) (hs : starEach [a, b] X.env = (false, eval a X.env) :: starEach [b] X.env := by rfl) (hs2 : starEach [b] X.env = (false, eval b X.env) :: starEach [] X.env := by rfl) (hpl : (backTo pos (starEach [b] X.env)).any (·.1) = false := by rfl) :
    DI X E (.Tuple elts kk tpos) (.Call (.Name "zip" p) [a, b] [] pos) (wZp f g) := by
  obtain ⟨t, pt, jt⟩ := h
  obtain ⟨u, pu, ju⟩ := h2
  refine ⟨_, pi_zipM hg hm (pa_cons pt (pa_cons pu pa_nil hs2) hs) hs hpl, fun i F0 H0 F H σ δ s Q S q => jt.useR S q fun r s1 v F1 H1 e0 x1 S1 r1 q1 => ju.useR S1 q1 fun r' s2 v2 F2 H2 e2 x2 S2 r2 q2 => ?_⟩
  clear e0 e2
  replace r1 := Rep.same x2.ff _ r1
  have z : ∃ l m, (r.d = .lst l ∨ r.d = .tup l) ∧ (r'.d = .lst m ∨ r'.d = .tup m) ∧ Ok X.K (kW X.K i) i E F2 H2 Q (M.ret (zipD l m) s2) := by
    cases e1 : r.d <;> rw [e1] at q2 <;> first | exact q2.elim | skip
    all_goals cases e2 : r'.d <;> rw [e2] at q2 <;> first
      | exact q2.elim
      | exact ⟨_, _, .inl rfl, .inl rfl, q2⟩
      | exact ⟨_, _, .inl rfl, .inr rfl, q2⟩
      | exact ⟨_, _, .inr rfl, .inl rfl, q2⟩
      | exact ⟨_, _, .inr rfl, .inr rfl, q2⟩
  obtain ⟨l, m, d1, d2, q3⟩ := z
  obtain ⟨t1, p1, vs, h0, h1, h3⟩ := rep_at r1 d1
  obtain ⟨t2, p2, us, g0, g1, g3⟩ := rep_at r2 d2
  exact ⟨p1, p2, t1, t2, vs, us, ⟨by rw [h0, g0], atK_same S2.wf.fh t1 h1, atK_same S2.wf.fh t2 g1⟩, q3 _ F2 H2 (.refl S2.wf.fh) S2.wf.mr (walks_zM h1 g1 h3 g3)⟩
end
end DL
set_option pp.maxSteps 600
namespace DL
open PySem PySem.Spec PyProof.Rows L2 LwE LamX Lw
end DL
namespace Lw
open PySem L2 LwE
theorem Dr.upd_at {H : Hp} {m g c q : Addr} {n : Int} {o : HO} (d : Dr H m g c n) (h1 : q ≠ m) (h2 : q ≠ g) (h3 : q ≠ c) : Dr (upd H q o) m g c n :=
  ⟨by rw [upd_ne h1.symm]; exact d.hm, let ⟨cs, a, b⟩ := d.hc; ⟨cs, a, by rw [upd_ne h3.symm]; exact b⟩, let ⟨cs, a, b⟩ := d.hg; ⟨cs, a, by rw [upd_ne h2.symm]; exact b⟩, d.ne, d.n0⟩
structure Off (q m g c : Addr) : Prop where
  m : q ≠ m
  g : q ≠ g
  c : q ≠ c
theorem Dr.off {H : Hp} {m g c q : Addr} {n : Int} (d : Dr H m g c n) (h : H q = none) : Off q m g c :=
  ⟨(ne_of_none d.hm h).symm, let ⟨_, _, e⟩ := d.hg; (ne_of_none e h).symm, let ⟨_, _, e⟩ := d.hc; (ne_of_none e h).symm⟩
theorem Keep.free {m g c q : Addr} {n : Int} {H H' : Hp} (k : Keep m g H H') (d : Dr H' m g c n) (h : H' q = none) : H q = none := by
  have z := d.off h
  cases e : H q with
  | none => rfl
  | some o =>
    rw [k q o e z.m z.g] at h
    cases h
theorem Keep.put {m g q : Addr} {H H' : Hp} {o : HO} (k : Keep m g H H') (h : H q = none) : Keep m g H (upd H' q o) := fun b u e h1 h2 => by
  rw [upd_ne (ne_of_none e h)]
  exact k b u e h1 h2
section
variable {P : Program} {w : World} {K : PySem.W.Frag} {mg : Str → Option Value} {base : Heap}
structure LW (H H' : Hp) (m g c : Addr) (n size : Int) (q : Addr) (fs : List Int) : Prop where
  dr : ∃ n', Dr H' m g c n' ∧ n ≤ n' ∧ n' ≤ n + 3 + 2 * fs.length
  kp : Keep m g H H'
  fr : H q = none
  at_ : H' q = some (.lst (nums fs))
  len : fs.length ≤ 46
  bd : ∀ x ∈ fs, 1 ≤ x ∧ x ≤ size
theorem LW.push {H H' H5 : Hp} {m g c : Addr} {n n1 size x : Int} {q : Addr} {fs : List Int} (W : LW H H' m g c n size q fs) (o : Off q m g c) (hl : fs.length ≤ 39) (k5 : Keep m g H' H5) (d5 : Dr H5 m g c n1) (h1 : n ≤ n1)
    (h2 : n1 ≤ n + 5 + 2 * fs.length) (x0 : 1 ≤ x) (x1 : x ≤ size) : LW H (upd H5 q (.lst (nums fs ++ [.int x]))) m g c n size q (fs ++ [x]) where
  dr := ⟨n1, d5.upd_at o.m o.g o.c, h1, by rw [List.length_append, List.length_singleton]; omega⟩
  kp := (W.kp.trans k5).put W.fr
  fr := W.fr
  at_ := by
    rw [upd_same]
    simp [nums]
  len := by
    rw [List.length_append, List.length_singleton]
    omega
  bd := fun y hy => by
    rcases List.mem_append.mp hy with z | z
    · exact W.bd y z
    · have e := List.mem_singleton.mp z
      omega
end
end Lw
namespace LwM
def stp (i : Int) (s : List Int × List Int) (p x : Int) : List Int × List Int :=
  if x = i + 1 then (s.1, s.2 ++ [p]) else if x = i then (if s.2 = [] then (s.1 ++ [p], s.2) else (s.1, s.2.dropLast)) else s
def go (i : Int) : List Int × List Int → Int → List Int → List Int × List Int
  | s, _, [] => s
  | s, k, x :: l => go i (stp i s k x) (k + 1) l
def br (i : Int) (l : List Int) : List Int × List Int := go i ([], []) 0 l
def lows (i : Int) (l : List Int) : List Int := (br i l).1
def highs (i : Int) (l : List Int) : List Int := (br i l).2
theorem go_app (i : Int) : ∀ (l r : List Int) (s : List Int × List Int) (k : Int), go i s k (l ++ r) = go i (go i s k l) (k + l.length) r
  | [], r, s, k => by simp [go]
  | x :: l, r, s, k => by
    show go i (stp i s k x) (k + 1) (l ++ r) = go i (go i (stp i s k x) (k + 1) l) (k + ((x :: l).length : Nat)) r
    rw [go_app i l r, List.length_cons]
    congr 1
    omega
theorem br_snoc (i : Int) (l : List Int) (x : Int) : br i (l ++ [x]) = stp i (br i l) l.length x := by
  unfold br
  rw [go_app]
  show stp i _ (0 + (l.length : Int)) x = _
  rw [Int.zero_add]
theorem go_from (i : Int) : ∀ (l : List Int) (L W : List Int) (k : Int) (A B : List Int),
    go i (L ++ A.drop W.length, W.take (W.length - A.length) ++ B) k l =
      (L ++ (go i (A, B) k l).1.drop W.length, W.take (W.length - (go i (A, B) k l).1.length) ++ (go i (A, B) k l).2)
  | [], L, W, k, A, B => rfl
  | x :: l, L, W, k, A, B => by
    have step : stp i (L ++ A.drop W.length, W.take (W.length - A.length) ++ B) k x =
        (L ++ (stp i (A, B) k x).1.drop W.length, W.take (W.length - (stp i (A, B) k x).1.length) ++ (stp i (A, B) k x).2) := by
      unfold stp
      by_cases h1 : x = i + 1
      · simp only [h1, if_true]
        simp [List.append_assoc]
      · rw [if_neg h1, if_neg h1]
        by_cases h2 : x = i
        · rw [if_pos h2, if_pos h2]
          by_cases hB : B = []
          · subst hB
            simp only [List.append_nil, if_true]
            by_cases hW : W.take (W.length - A.length) = []
            · have hl : W.length ≤ A.length := by
                have := congrArg List.length hW
                rw [List.length_take] at this
                simp at this
                omega
              rw [if_pos hW]
              have e1 : (A ++ [k]).drop W.length = A.drop W.length ++ [k] := List.drop_append_of_le_length hl
              have e2 : W.length - (A ++ [k]).length = 0 := by
                rw [List.length_append, List.length_singleton]
                omega
              have e3 : W.length - A.length = 0 := by omega
              simp only [e1, e2, e3, List.take_zero, List.append_assoc]
            · have hl : A.length < W.length := by
                rcases Nat.lt_or_ge A.length W.length with z | z
                · exact z
                · exact absurd (by rw [Nat.sub_eq_zero_of_le z, List.take_zero]) hW
              rw [if_neg hW]
              have e1 : (A ++ [k]).drop W.length = A.drop W.length := by
                rw [List.drop_of_length_le (by rw [List.length_append, List.length_singleton]; omega), List.drop_of_length_le (by omega)]
              have e2 : (W.take (W.length - A.length)).dropLast = W.take (W.length - (A ++ [k]).length) := by
                rw [List.dropLast_eq_take, List.take_take, List.length_take, List.length_append, List.length_singleton]
                congr 1
                omega
              rw [e1, e2]
          · rw [if_neg (by simp [hB]), if_neg hB, List.dropLast_append_of_ne_nil hB]
        · rw [if_neg h2, if_neg h2]
    show go i (stp i _ k x) (k + 1) l = _
    rw [step]
    exact go_from i l L W (k + 1) _ _
theorem go_shift (i d : Int) : ∀ (l : List Int) (A B : List Int) (k : Int), go i (A.map (· + d), B.map (· + d)) (k + d) l = ((go i (A, B) k l).1.map (· + d), (go i (A, B) k l).2.map (· + d))
  | [], A, B, k => rfl
  | x :: l, A, B, k => by
    have step : stp i (A.map (· + d), B.map (· + d)) (k + d) x = ((stp i (A, B) k x).1.map (· + d), (stp i (A, B) k x).2.map (· + d)) := by
      unfold stp
      split
      · simp
      · split
        · by_cases hB : B = []
          · subst hB
            simp
          · rw [if_neg (by simp [hB]), if_neg hB]
            simp [List.map_dropLast]
        · rfl
    show go i (stp i _ (k + d) x) (k + d + 1) l = _
    rw [step]
    have e : k + d + 1 = k + 1 + d := by omega
    rw [e]
    exact go_shift i d l _ _ (k + 1)
theorem br_app (i : Int) (l r : List Int) :
    br i (l ++ r) = (lows i l ++ ((lows i r).map (· + (l.length : Int))).drop (highs i l).length, (highs i l).take ((highs i l).length - (lows i r).length) ++ (highs i r).map (· + (l.length : Int))) := by
  have h1 := go_from i r (lows i l) (highs i l) (0 + (l.length : Int)) [] []
  have h2 := go_shift i (l.length : Int) r [] [] 0
  unfold br
  rw [go_app]
  have e0 : go i ([], []) 0 l = (lows i l ++ ([] : List Int).drop (highs i l).length, (highs i l).take ((highs i l).length - ([] : List Int).length) ++ []) := by
    simp [lows, highs, br]
  rw [e0, h1]
  have e1 : go i (([] : List Int), ([] : List Int)) (0 + (l.length : Int)) r = ((lows i r).map (· + (l.length : Int)), (highs i r).map (· + (l.length : Int))) := h2
  rw [e1, List.length_map]
theorem lows_app (i : Int) (l r : List Int) : lows i (l ++ r) = lows i l ++ ((lows i r).map (· + (l.length : Int))).drop (highs i l).length := by
  show (br i (l ++ r)).1 = _
  rw [br_app]
theorem highs_app (i : Int) (l r : List Int) : highs i (l ++ r) = (highs i l).take ((highs i l).length - (lows i r).length) ++ (highs i r).map (· + (l.length : Int)) := by
  show (br i (l ++ r)).2 = _
  rw [br_app]
def up (i : Int) (l : List Int) : Nat := (lows i l).length
def dn (i : Int) (l : List Int) : Nat := (highs i l).length
theorem up_app (i : Int) (l r : List Int) : up i (l ++ r) = up i l + (up i r - dn i l) := by
  unfold up dn
  rw [lows_app, List.length_append, List.length_drop, List.length_map]
theorem dn_app (i : Int) (l r : List Int) : dn i (l ++ r) = (dn i l - up i r) + dn i r := by
  unfold up dn
  rw [highs_app, List.length_append, List.length_take, List.length_map]
  omega
end LwM
namespace Lw
open PySem L2 LwE LwM
section
variable {P : Program} {w : World} {K : PySem.W.Frag} {mg : Str → Option Value} {base : Heap}
structure Ls (size : Int) (ls : List Int) : Prop where
  s0 : 2 ≤ size
  s1 : size ≤ 6
  len : ls.length ≤ 40
  bd : ∀ x ∈ ls, 1 ≤ x ∧ x ≤ size
def Seq (H : Hp) (a : Addr) (ls : List Int) : Prop := H a = some (.lst (nums ls)) ∨ H a = some (.tup (nums ls))
theorem Seq.same {H H' : Hp} {a : Addr} {ls : List Int} (h : Seq H a ls) (s : Same H H') : Seq H' a ls := h.elim (fun e => .inl (s _ _ e)) fun e => .inr (s _ _ e)
theorem Seq.is {H : Hp} {a : Addr} {ls : List Int} (h : Seq H a ls) : (∃ xs, H a = some (.lst xs)) ∨ ∃ xs, H a = some (.tup xs) := h.elim (fun e => .inl ⟨_, e⟩) fun e => .inr ⟨_, e⟩
theorem Seq.sq {H : Hp} {a : Addr} {ls : List Int} (h : Seq H a ls) : SqL K H a (nums ls) ∨ SqT K H a (nums ls) := h.elim (fun e => .inl (SqL.of e)) fun e => .inr (SqT.of e)
structure BW (H H' : Hp) (pr lo wa : Addr) (i : Int) (ls : List Int) : Prop where
  same : Same H H'
  fp : H pr = none
  fl : H lo = none
  fw : H wa = none
  npl : pr ≠ lo
  npw : pr ≠ wa
  nlw : lo ≠ wa
  hp : ∃ ps, H' pr = some (.lst ps) ∧ ps.length ≤ ls.length ∧ ∀ x ∈ ps, ∃ t i j, x = V.ref t ∧ H' t = some (.tup [.int i, .int j])
  hl : H' lo = some (.lst (nums (lows i ls)))
  hw : H' wa = some (.lst (nums (highs i ls)))
theorem BW.new {H H' : Hp} {pr lo wa T : Addr} {i : Int} {ls : List Int} {o : HO} (W : BW H H' pr lo wa i ls) (hT : H' T = none) : BW H (upd H' T o) pr lo wa i ls :=
  ⟨W.same.trans (same_new hT), W.fp, W.fl, W.fw, W.npl, W.npw, W.nlw, let ⟨ps, h1, h2, h3⟩ := W.hp; ⟨ps, same_new hT _ _ h1, h2, fun x hx => let ⟨t, a, b, e1, e2⟩ := h3 x hx; ⟨t, a, b, e1, same_new hT _ _ e2⟩⟩,
    same_new hT _ _ W.hl, same_new hT _ _ W.hw⟩
theorem brk (i : Int) (l : List Int) (x : Int) : lows i (l ++ [x]) = (stp i (lows i l, highs i l) l.length x).1 ∧ highs i (l ++ [x]) = (stp i (lows i l, highs i l) l.length x).2 := by
  unfold lows highs
  rw [br_snoc]
  exact ⟨rfl, rfl⟩
theorem BW.low {H H' : Hp} {pr lo wa : Addr} {i : Int} {l : List Int} (W : BW H H' pr lo wa i l) {x : Int} (h1 : ¬ x = i + 1) (hx : x = i) (he : highs i l = []) :
    BW H (upd H' lo (.lst (nums (lows i l) ++ [.int (l.length : Nat)]))) pr lo wa i (l ++ [x]) := by
  have e := brk i l x
  unfold stp at e
  rw [if_neg h1, if_pos hx, if_pos he] at e
  refine ⟨fun b o z => ?_, W.fp, W.fl, W.fw, W.npl, W.npw, W.nlw, ?_, ?_, ?_⟩
  · rw [upd_ne (ne_of_none z W.fl)]
    exact W.same _ _ z
  · obtain ⟨ps, h1, h2, h3⟩ := W.hp
    refine ⟨ps, by rw [upd_ne W.npl]; exact h1, by rw [List.length_append]; omega, fun y hy => ?_⟩
    obtain ⟨t, a, b, e1, e2⟩ := h3 y hy
    exact ⟨t, a, b, e1, by rw [upd_ne (ne_of e2 W.hl (by intro z; cases z))]; exact e2⟩
  · rw [upd_same, e.1]
    simp [nums]
  · rw [upd_ne W.nlw.symm, e.2]
    exact W.hw
end
end Lw
namespace Lw
open PySem L2 LwE LwM
def wf (t : Addr) (z : Int) : List (Str × V) := putF "letters" (.ref t) (putF "size" (.int z) [])
structure WAt (C : Addr) (H : Hp) (p : Addr) (size : Int) (ls : List Int) : Prop where
  ob : ∃ dx t, H p = some (.ins C dx (wf t size)) ∧ H t = some (.tup (nums ls))
  ls : Ls size ls
theorem WAt.same {C : Addr} {H H' : Hp} {p : Addr} {size : Int} {ls : List Int} (W : WAt C H p size ls) (s : Same H H') : WAt C H' p size ls :=
  ⟨let ⟨dx, t, a, b⟩ := W.ob; ⟨dx, t, s _ _ a, s _ _ b⟩, W.ls⟩
theorem WAt.keep {C : Addr} {H H' : Hp} {p m g c : Addr} {n size : Int} {ls : List Int} (W : WAt C H p size ls) (d : Dr H m g c n) (k : Keep m g H H') : WAt C H' p size ls := by
  obtain ⟨dx, t, a, b⟩ := W.ob
  obtain ⟨gs, _, e⟩ := d.hg
  exact ⟨⟨dx, t, k _ _ a (ne_of a d.hm (by intro z; cases z)) (ne_of a e (by intro z; cases z)), k _ _ b (ne_of b d.hm (by intro z; cases z)) (ne_of b e (by intro z; cases z))⟩, W.ls⟩
theorem Ls.set {size : Int} {ls : List Int} (L : Ls size ls) (p : Nat) {x : Int} (h0 : 1 ≤ x) (h1 : x ≤ size) : Ls size (ls.set p x) :=
  ⟨L.s0, L.s1, by rw [List.length_set]; exact L.len, fun y hy => by
    rcases List.mem_or_eq_of_mem_set hy with q | q
    · exact L.bd y q
    · rw [q]
      exact ⟨h0, h1⟩⟩
section
variable {P : Program} {w : World} {K : PySem.W.Frag} {mg : Str → Option Value} {base : Heap}
def spInit (C : Addr) : Sp := fun vs H Q _ => ∃ (p dx : Addr) (size : Int) (a : Addr) (ls : List Int), vs = [.ref p, .int size, .ref a] ∧ H p = some (.ins C dx []) ∧ Seq H a ls ∧ Ls size ls ∧
  ∀ H', (∀ b o, H b = some o → b ≠ p → H' b = some o) → WAt C H' p size ls → Q .non H'
theorem made {C : Addr} {H : Hp} {Q : VK} {size : Int} {a : Addr} {ls : List Int} (hq : Seq H a ls) (L : Ls size ls) (k : ∀ x H', Same H H' → H x = none → WAt C H' x size ls → Q (.ref x) H') :
    ∀ x dx, H x = none → H dx = none → dx ≠ x → spInit C (.ref x :: ([.int size, .ref a] ++ [])) (upd (upd H dx (.own x)) x (.ins C dx [])) (fun v H2 => v = .non ∧ Q (.ref x) H2) E0 := fun x dx nx ndx ne => by
  have s2 : Same H (upd (upd H dx (.own x)) x (.ins C dx [])) := fun b o e => by
    rw [upd_ne (ne_of_none e nx), upd_ne (ne_of_none e ndx)]
    exact e
  exact ⟨x, dx, size, a, ls, rfl, upd_same, hq.same s2, L, fun H' kp W => ⟨rfl, k x H' (Same.made nx ndx kp) nx W⟩⟩
end
end Lw
namespace Lw
open PySem L2 LwE LwM
section
variable {P : Program} {w : World} {K : PySem.W.Frag} {mg : Str → Option Value} {base : Heap}
theorem eqv_nums : ∀ l r : List Int, PyData.eqvAll (l.map PyData.int) (r.map PyData.int) = decide (l = r)
  | [], [] => by simp [PyData.eqvAll]
  | [], _ :: _ => by simp [PyData.eqvAll]
  | _ :: _, [] => by simp [PyData.eqvAll]
  | x :: l, y :: r => by
    have ih := eqv_nums l r
    simp only [List.map_cons, PyData.eqvAll, PyData.eqv, ih]
    by_cases h1 : x = y
    · subst h1
      simp
    · simp [h1]
theorem shaped_tup (l : List Int) : SeqAt.shaped (.tuple (l.map PyData.int)) = true := by
  have h := lay_nums l
  unfold SeqAt.shaped
  simp [PyData.canLay0, PyData.depth, h.1, h.2]
end
end Lw
namespace LwM
def lst (l : List Int) : Int := l.getLast?.getD 0
def fst (l : List Int) : Int := l.head?.getD 0
def upL (i : Int) (l : List Int) : List Int := l.set (lst (lows i l)).toNat (i + 1)
def dnL (i : Int) (l : List Int) : List Int := l.set (fst (highs i l)).toNat i
theorem lst_app (l r : List Int) (h : r ≠ []) : lst (l ++ r) = lst r := by
  unfold lst
  rw [List.getLast?_append]
  cases r with
  | nil => exact absurd rfl h
  | cons a r =>
    rw [List.getLast?_eq_some_getLast (List.cons_ne_nil a r)]
    rfl
theorem lst_snoc {l : List Int} (h : l ≠ []) : ∃ r, l = r ++ [lst l] := by
  refine ⟨l.dropLast, ?_⟩
  unfold lst
  rw [List.getLast?_eq_some_getLast h]
  exact (List.dropLast_concat_getLast h).symm
end LwM
namespace Lw
open PySem L2 LwE LwM
end Lw
namespace LwM
def val (ls : List Int) (p : Int) : Int := ls[p.toNat]?.getD 0
def gp (i : Int) (f : Int → Int) : List Int × List Int → List Int → List Int × List Int
  | s, [] => s
  | s, p :: r => gp i f (stp i s p (f p)) r
theorem gp_app (i : Int) (f : Int → Int) : ∀ (A B : List Int) (s : List Int × List Int), gp i f s (A ++ B) = gp i f (gp i f s A) B
  | [], B, s => rfl
  | p :: A, B, s => gp_app i f A B _
theorem go_gp (i : Int) (f : Int → Int) : ∀ (l : List Int) (s : List Int × List Int) (k : Int), (∀ (j : Nat) x, l[j]? = some x → f (k + j) = x) → go i s k l = gp i f s ((List.range l.length).map fun j => k + (j : Nat))
  | [], s, k, h => rfl
  | x :: l, s, k, h => by
    have h0 : f k = x := by
      have := h 0 x rfl
      simpa using this
    have ih := go_gp i f l (stp i s k x) (k + 1) fun j y hy => by
      have := h (j + 1) y (by simpa using hy)
      rw [← this]
      congr 1
      omega
    show go i (stp i s k x) (k + 1) l = _
    rw [ih, List.length_cons, List.range_succ_eq_map, List.map_cons, List.map_map]
    show _ = gp i f (stp i s (k + ((0 : Nat) : Int)) (f (k + ((0 : Nat) : Int)))) _
    have e0 : k + ((0 : Nat) : Int) = k := by omega
    rw [e0, h0]
    congr 1
    apply List.map_congr_left
    intro j _
    show k + 1 + (j : Int) = k + ((Nat.succ j : Nat) : Int)
    omega
theorem gp_filter (i : Int) (f : Int → Int) : ∀ (A : List Int) (s : List Int × List Int), gp i f s (A.filter fun p => decide (f p = i ∨ f p = i + 1)) = gp i f s A
  | [], s => rfl
  | p :: A, s => by
    rw [List.filter_cons]
    by_cases h : f p = i ∨ f p = i + 1
    · rw [if_pos (by simpa using h)]
      exact gp_filter i f A _
    · rw [if_neg (by simpa using h)]
      show gp i f s _ = gp i f (stp i s p (f p)) A
      have e : stp i s p (f p) = s := by
        unfold stp
        rw [if_neg (fun z => h (.inr z)), if_neg (fun z => h (.inl z))]
      rw [e]
      exact gp_filter i f A s
theorem gp_pair (i : Int) (f : Int → Int) (A B : List Int) (s : List Int × List Int) {p q : Int} (hp : f p = i + 1) (hq : f q = i) : gp i f s (A ++ p :: q :: B) = gp i f s (A ++ B) := by
  rw [gp_app, gp_app]
  show gp i f (stp i (stp i _ p (f p)) q (f q)) B = _
  generalize gp i f s A = t
  congr 1
  rw [hp, hq]
  unfold stp
  rw [if_pos rfl, if_neg (by omega), if_pos rfl]
  simp
theorem gp_ups (i : Int) (f : Int → Int) : ∀ (B : List Int) (L W : List Int), (∀ p ∈ B, f p = i + 1) → gp i f (L, W) B = (L, W ++ B)
  | [], L, W, _ => by simp [gp]
  | p :: B, L, W, h => by
    show gp i f (stp i (L, W) p (f p)) B = _
    have e : stp i (L, W) p (f p) = (L, W ++ [p]) := by
      unfold stp
      rw [if_pos (h p (List.mem_cons_self ..))]
    rw [e, gp_ups i f B L _ fun q hq => h q (List.mem_cons_of_mem _ hq)]
    simp
def NoAdj (i : Int) (f : Int → Int) (A : List Int) : Prop := ∀ (j : Nat) a b, A[j]? = some a → A[j + 1]? = some b → ¬ (f a = i + 1 ∧ f b = i)
theorem NoAdj.tail {i : Int} {f : Int → Int} {p : Int} {A : List Int} (h : NoAdj i f (p :: A)) : NoAdj i f A := fun j a b ha hb => h (j + 1) a b (by simpa using ha) (by simpa using hb)
theorem NoAdj.all {i : Int} {f : Int → Int} : ∀ {A : List Int} {p : Int}, NoAdj i f (p :: A) → f p = i + 1 → (∀ q ∈ A, f q = i ∨ f q = i + 1) → ∀ q ∈ A, f q = i + 1
  | [], _, _, _, _, q, hq => by simp at hq
  | a :: A, p, h, hp, hA, q, hq => by
    have ha : f a = i + 1 := by
      rcases hA a (List.mem_cons_self ..) with z | z
      · exact absurd ⟨hp, z⟩ (h 0 p a rfl rfl)
      · exact z
    rcases List.mem_cons.mp hq with z | z
    · rw [z]
      exact ha
    · exact NoAdj.all h.tail ha (fun q hq => hA q (List.mem_cons_of_mem _ hq)) q z
theorem gp_end (i : Int) (f : Int → Int) : ∀ (A L : List Int), (∀ p ∈ A, f p = i ∨ f p = i + 1) → NoAdj i f A →
    gp i f (L, []) A = (L ++ A.filter (fun p => decide (f p = i)), A.filter fun p => decide (f p = i + 1))
  | [], L, _, _ => by simp [gp]
  | p :: A, L, h, hn => by
    have hA : ∀ q ∈ A, f q = i ∨ f q = i + 1 := fun q hq => h q (List.mem_cons_of_mem _ hq)
    rcases h p (List.mem_cons_self ..) with z | z
    · show gp i f (stp i (L, []) p (f p)) A = _
      have e : stp i (L, []) p (f p) = (L ++ [p], []) := by
        unfold stp
        rw [if_neg (by omega), if_pos z]
        simp
      rw [e, gp_end i f A _ hA hn.tail, List.filter_cons, List.filter_cons, if_pos (by simpa using z), if_neg (by simp; omega)]
      simp
    · have hall := NoAdj.all hn z hA
      have e1 := gp_ups i f (p :: A) L [] (fun q hq => by
        rcases List.mem_cons.mp hq with y | y
        · rw [y]
          exact z
        · exact hall q y)
      rw [e1]
      have e2 : (p :: A).filter (fun q => decide (f q = i)) = [] := by
        rw [List.filter_eq_nil_iff]
        intro q hq
        rcases List.mem_cons.mp hq with y | y
        · rw [y]
          simp
          omega
        · have := hall q y
          simp
          omega
      have e3 : (p :: A).filter (fun q => decide (f q = i + 1)) = p :: A := by
        rw [List.filter_eq_self]
        intro q hq
        rcases List.mem_cons.mp hq with y | y
        · rw [y]
          simpa using z
        · simpa using hall q y
      rw [e2, e3]
      simp
def plc (i : Int) (ls : List Int) (n : Nat) : List Int := ((List.range n).map fun j => ((j : Nat) : Int)).filter fun p => decide (val ls p = i ∨ val ls p = i + 1)
theorem br_plc (i : Int) (ls : List Int) : br i ls = gp i (val ls) ([], []) (plc i ls ls.length) := by
  unfold plc
  rw [gp_filter]
  have h := go_gp i (val ls) ls ([], []) 0 fun j x hx => by
    unfold val
    have e : (0 + (j : Int)).toNat = j := by omega
    rw [e, hx]
    rfl
  unfold br
  rw [h]
  congr 1
  apply List.map_congr_left
  intro j _
  omega
structure Out (i : Int) (ls rest : List Int) (at_ : Nat) : Prop where
  br : gp i (val ls) ([], []) rest = br i ls
  two : ∀ p ∈ rest, val ls p = i ∨ val ls p = i + 1
  bd : ∀ p ∈ rest, 0 ≤ p ∧ p < ls.length
  far : ∀ (j : Nat) a b, j < at_ → rest[j]? = some a → rest[j + 1]? = some b → ¬ (val ls a = i + 1 ∧ val ls b = i)
  len : rest.length ≤ ls.length
theorem Out.start (i : Int) (ls : List Int) : Out i ls (plc i ls ls.length) 0 where
  br := (br_plc i ls).symm
  two := fun p hp => by
    have := (List.mem_filter.mp hp).2
    simpa using this
  bd := fun p hp => by
    obtain ⟨j, hj, rfl⟩ := List.mem_map.mp (List.mem_filter.mp hp).1
    have := List.mem_range.mp hj
    omega
  far := fun j a b h => absurd h (Nat.not_lt_zero j)
  len := by
    unfold plc
    refine Nat.le_trans (List.length_filter_le _ _) ?_
    rw [List.length_map, List.length_range]
    exact Nat.le_refl _
theorem split_at {rest : List Int} {n : Nat} {a b : Int} (ha : rest[n]? = some a) (hb : rest[n + 1]? = some b) : rest = rest.take n ++ a :: b :: rest.drop (n + 2) := by
  obtain ⟨h1, e1⟩ := List.getElem?_eq_some_iff.mp ha
  obtain ⟨h2, e2⟩ := List.getElem?_eq_some_iff.mp hb
  have := List.take_append_drop n rest
  rw [List.drop_eq_getElem_cons h1, List.drop_eq_getElem_cons h2, e1, e2] at this
  exact this.symm
theorem Out.take {i : Int} {ls rest : List Int} {n : Nat} (o : Out i ls rest n) {a b : Int} (ha : rest[n]? = some a) (hb : rest[n + 1]? = some b) (h1 : val ls a = i + 1) (h2 : val ls b = i) :
    Out i ls (rest.take n ++ rest.drop (n + 2)) (n - 1) := by
  have e := split_at ha hb
  have hlen : (rest.take n ++ rest.drop (n + 2)).length + 2 = rest.length := by
    have := congrArg List.length e
    rw [List.length_append, List.length_cons, List.length_cons] at this
    rw [List.length_append]
    omega
  have sub : ∀ p, p ∈ rest.take n ++ rest.drop (n + 2) → p ∈ rest := fun p hp => by
    rcases List.mem_append.mp hp with z | z
    · exact List.mem_of_mem_take z
    · exact List.mem_of_mem_drop z
  refine ⟨?_, fun p hp => o.two p (sub p hp), fun p hp => o.bd p (sub p hp), fun j x y hj hx hy => ?_, by have := o.len; omega⟩
  · rw [← o.br]
    conv => rhs; rw [e]
    exact (gp_pair i (val ls) _ _ _ h1 h2).symm
  · have hn : n < rest.length := (List.getElem?_eq_some_iff.mp ha).1
    have lt1 : j < (rest.take n).length := by
      rw [List.length_take]
      omega
    have lt2 : j + 1 < (rest.take n).length := by
      rw [List.length_take]
      omega
    rw [List.getElem?_append_left lt1, List.getElem?_take_of_lt (by omega)] at hx
    rw [List.getElem?_append_left lt2, List.getElem?_take_of_lt (by omega)] at hy
    exact o.far j x y (by omega) hx hy
theorem Out.done {i : Int} {ls rest : List Int} {n : Nat} (o : Out i ls rest n) (h : rest.length ≤ n + 1) : lows i ls = rest.filter (fun p => decide (val ls p = i)) ∧ highs i ls = rest.filter (fun p => decide (val ls p = i + 1)) := by
  have hn : NoAdj i (val ls) rest := fun j a b ha hb => by
    have := (List.getElem?_eq_some_iff.mp hb).1
    exact o.far j a b (by omega) ha hb
  have e := gp_end i (val ls) rest [] o.two hn
  rw [o.br] at e
  unfold lows highs
  rw [e]
  exact ⟨List.nil_append _, rfl⟩
end LwM
namespace LwE
open PySem PySem.Spec PyProof.Rows L2
theorem lc_enL {K : PySem.W.Frag} {a : Addr} {xs : List V} {g : TG} {tt : TT} {te : TE} {vs : List Nat} {σ : L2.St} {H1 : Hp} {D : Addr} {Qd : Hp → Prop} (Pv : Nat → Hp → Prop) (h0 : Pv 0 (upd H1 D (.lst []))) (hl : ∀ i H, i ≤ xs.length → Pv i H → SqL K H a xs)
    (hs : ∀ i x T H, xs[i]? = some x → Pv i H → H T = none → g (.ref T) (wipe σ vs) (upd H T (.tup [.int (i : Nat), x])) fun σ2 H2 => wipe σ2 vs = wipe σ vs ∧ tt σ2 H2 fun b H3 =>
      if b = true then te σ2 H3 fun y H4 => ∃ acc, H4 D = some (.lst acc) ∧ acc.length < sizeLine ∧ Pv (i + 1) (upd H4 D (.lst (acc ++ [y]))) else Pv (i + 1) H3) (hd : ∀ H, Pv xs.length H → Qd H) :
    ∃ W : Nat → Nat → Hp → Prop, (∃ m, W 0 m (upd H1 D (.lst []))) ∧ ∀ i m H, W i m H →
      ((Ite K a).stop i H ∧ Qd H) ∨ ((Ite K a).go i H ∧ ∃ Nx : Hp → Prop, (∀ H', Nx H' → ∃ m', m' < m ∧ W (i + 1) m' H') ∧ ∀ x H', (Ite K a).yld i H x H' → g x (wipe σ vs) H' fun σ2 H2 => wipe σ2 vs = wipe σ vs ∧ tt σ2 H2 fun b H3 =>
        if b = true then te σ2 H3 fun y H4 => ∃ acc, H4 D = some (.lst acc) ∧ acc.length < sizeLine ∧ Nx (upd H4 D (.lst (acc ++ [y]))) else Nx H3) := by
  refine ⟨fun i m H => m = xs.length - i ∧ i ≤ xs.length ∧ Pv i H, ⟨xs.length, by simp, Nat.zero_le _, h0⟩, ?_⟩
  intro i m H hW
  obtain ⟨rfl, hi, p⟩ := hW
  have q := hl i H hi p
  by_cases hlt : i < xs.length
  · refine .inr ⟨⟨xs, xs[i], q, by simp [hlt]⟩, Pv (i + 1), fun H' p' => ⟨xs.length - (i + 1), by omega, rfl, hlt, p'⟩, fun x H' y => ?_⟩
    obtain ⟨T, v, rfl, hT, rfl, y2⟩ := y
    exact hs i v T H (y2 xs q) p hT
  · obtain rfl : i = xs.length := by omega
    exact .inl ⟨⟨xs, q, Nat.le_refl _⟩, hd H p⟩
end LwE
namespace Lw
open PySem L2 LwE LwM
section
variable {P : Program} {w : World} {K : PySem.W.Frag} {mg : Str → Option Value} {base : Heap}
def PairL (H : Hp) (p : Addr) (n : Nat) : Prop := ∃ ps, H p = some (.lst ps) ∧ ps.length ≤ n ∧ ∀ x ∈ ps, ∃ t i j, x = V.ref t ∧ H t = some (.tup [.int i, .int j])
theorem PairL.same {H H' : Hp} {p : Addr} {n : Nat} (h : PairL H p n) (s : Same H H') : PairL H' p n := by
  obtain ⟨ps, h1, h2, h3⟩ := h
  exact ⟨ps, s _ _ h1, h2, fun x hx => let ⟨t, i, j, e1, e2⟩ := h3 x hx; ⟨t, i, j, e1, s _ _ e2⟩⟩
end
end Lw
namespace LwM
theorem one_up (i x : Int) : up i [x] = if x = i then 1 else 0 := by
  unfold up lows br go go stp
  by_cases h : x = i
  · rw [if_neg (by omega), if_pos h, if_pos h]
    rfl
  · by_cases h2 : x = i + 1
    · rw [if_pos h2, if_neg h]
      rfl
    · rw [if_neg h2, if_neg h, if_neg h]
      rfl
theorem one_dn (i x : Int) : dn i [x] = if x = i + 1 then 1 else 0 := by
  unfold dn highs br go go stp
  by_cases h2 : x = i + 1
  · rw [if_pos h2, if_pos h2]
    rfl
  · rw [if_neg h2, if_neg h2]
    by_cases h : x = i
    · rw [if_pos h]
      rfl
    · rw [if_neg h]
      rfl
theorem more (i : Int) : ∀ l : List Int, (up i l : Int) - dn i l = (l.count i : Int) - l.count (i + 1)
  | [] => by simp [up, dn, lows, highs, br, go]
  | x :: l => by
    have ih := more i l
    have e1 := up_app i [x] l
    have e2 := dn_app i [x] l
    rw [one_up, one_dn] at *
    show (up i ([x] ++ l) : Int) - dn i ([x] ++ l) = _
    rw [e1, e2, List.count_cons, List.count_cons]
    by_cases h : x = i
    · subst h
      have hn : ¬ x = x + 1 := by omega
      simp only [if_pos rfl, if_neg hn, beq_self_eq_true, if_true]
      rw [if_neg (by simpa using hn)]
      omega
    · by_cases h2 : x = i + 1
      · subst h2
        simp only [if_neg h, if_pos rfl, beq_self_eq_true, if_true]
        rw [if_neg (by simpa using h)]
        omega
      · simp only [if_neg h, if_neg h2]
        rw [if_neg (by simpa using h), if_neg (by simpa using h2)]
        omega
end LwM
namespace Lw
open PySem L2 LwE LwM
end Lw
namespace LwM
def rowIns (x : Int) : List Int → Option Int × List Int
  | [] => (none, [x])
  | y :: R => if x < y then (some y, x :: R) else ((rowIns x R).1, y :: (rowIns x R).2)
def insT (x : Int) : List (List Int) → List (List Int)
  | [] => [[x]]
  | R :: T => match (rowIns x R).1 with
    | none => (rowIns x R).2 :: T
    | some y => (rowIns x R).2 :: insT y T
def tabL (l : List Int) : List (List Int) := l.foldl (fun T x => insT x T) []
theorem tabL_snoc (l : List Int) (x : Int) : tabL (l ++ [x]) = insT x (tabL l) := by
  unfold tabL
  rw [List.foldl_append]
  rfl
theorem rowIns_lt {x y : Int} {R : List Int} (h : x < y) : rowIns x (y :: R) = (some y, x :: R) := by
  show (if x < y then (some y, x :: R) else ((rowIns x R).1, y :: (rowIns x R).2)) = _
  rw [if_pos h]
theorem rowIns_ge {x y : Int} {R : List Int} (h : ¬ x < y) : rowIns x (y :: R) = ((rowIns x R).1, y :: (rowIns x R).2) := by
  show (if x < y then (some y, x :: R) else ((rowIns x R).1, y :: (rowIns x R).2)) = _
  rw [if_neg h]
theorem insT_cons (x : Int) (R : List Int) (T : List (List Int)) : insT x (R :: T) = match (rowIns x R).1 with | none => (rowIns x R).2 :: T | some y => (rowIns x R).2 :: insT y T := rfl
def Fst (x : Int) (R : List Int) (i : Nat) (ps : List Int) : Prop := ps.length ≤ i ∧ (ps = [] → ∀ (q : Nat) z, q < i → R[q]? = some z → ¬ x < z) ∧
  ∀ p rest, ps = p :: rest → ∃ (j : Nat) (y : Int), p = (j : Int) ∧ j < i ∧ R[j]? = some y ∧ x < y ∧ ∀ (q : Nat) z, q < j → R[q]? = some z → ¬ x < z
theorem Fst.zero (x : Int) (R : List Int) : Fst x R 0 [] := ⟨Nat.le_refl _, fun _ q z h => absurd h (Nat.not_lt_zero _), fun p rest h => by cases h⟩
theorem Fst.yes {x y : Int} {R : List Int} {i : Nat} {ps : List Int} (h : Fst x R i ps) (e : R[i]? = some y) (l : x < y) : Fst x R (i + 1) (ps ++ [(i : Int)]) := by
  obtain ⟨h1, h2, h3⟩ := h
  refine ⟨by rw [List.length_append, List.length_singleton]; omega, fun z => by simp at z, fun p rest hp => ?_⟩
  cases ps with
  | nil =>
    have e1 : ((i : Int)) = p := (List.cons.inj hp).1
    exact ⟨i, y, e1.symm, Nat.lt_succ_self i, e, l, h2 rfl⟩
  | cons a ps =>
    have e1 : a = p := (List.cons.inj hp).1
    obtain ⟨j, y2, f1, f2, f3, f4, f5⟩ := h3 a ps rfl
    exact ⟨j, y2, by rw [← e1]; exact f1, by omega, f3, f4, f5⟩
theorem Fst.no {x y : Int} {R : List Int} {i : Nat} {ps : List Int} (h : Fst x R i ps) (e : R[i]? = some y) (l : ¬ x < y) : Fst x R (i + 1) ps := by
  obtain ⟨h1, h2, h3⟩ := h
  refine ⟨by omega, fun z q u hq hu => ?_, fun p rest hp => ?_⟩
  · rcases Nat.lt_or_ge q i with c | c
    · exact h2 z q u c hu
    · have : q = i := by omega
      subst this
      rw [e] at hu
      cases hu
      exact l
  · obtain ⟨j, y2, f1, f2, f3⟩ := h3 p rest hp
    exact ⟨j, y2, f1, by omega, f3⟩
theorem rowIns_none {x : Int} : ∀ {R : List Int}, (∀ (q : Nat) z, q < R.length → R[q]? = some z → ¬ x < z) → rowIns x R = (none, R ++ [x])
  | [], _ => rfl
  | a :: R, h => by
    have h0 := h 0 a (Nat.succ_pos _) rfl
    have ih := rowIns_none (R := R) (x := x) fun q z hq hz => h (q + 1) z (Nat.succ_lt_succ hq) hz
    rw [rowIns_ge h0, ih]
    rfl
theorem rowIns_some {x y : Int} : ∀ {R : List Int} {j : Nat}, R[j]? = some y → x < y → (∀ (q : Nat) z, q < j → R[q]? = some z → ¬ x < z) → rowIns x R = (some y, R.set j x)
  | [], j, e, _, _ => by simp at e
  | a :: R, 0, e, l, _ => by
    have ea : a = y := by simpa using e
    subst ea
    exact rowIns_lt l
  | a :: R, j + 1, e, l, h => by
    have h0 := h 0 a (Nat.succ_pos _) rfl
    have ih := rowIns_some (R := R) (j := j) (by simpa using e) l fun q z hq hz => h (q + 1) z (Nat.succ_lt_succ hq) hz
    rw [rowIns_ge h0, ih]
    rfl
theorem ins_stop {x : Int} {R : List Int} (T : List (List Int)) (h : rowIns x R = (none, R ++ [x])) : insT x (R :: T) = (R ++ [x]) :: T := by
  rw [insT_cons, h]
theorem ins_go {x y : Int} {R R2 : List Int} (T : List (List Int)) (h : rowIns x R = (some y, R2)) : insT x (R :: T) = R2 :: insT y T := by
  rw [insT_cons, h]
theorem rowIns_len (x : Int) : ∀ R : List Int, (rowIns x R).2.length ≤ R.length + 1
  | [] => Nat.le_refl _
  | y :: R => by
    by_cases h : x < y
    · rw [rowIns_lt h]
      simp
    · rw [rowIns_ge h]
      have := rowIns_len x R
      simp only [List.length_cons]
      omega
theorem insT_len (x : Int) : ∀ (T : List (List Int)) (m : Nat), (∀ r ∈ T, r.length ≤ m) → (insT x T).length ≤ T.length + 1 ∧ ∀ r ∈ insT x T, r.length ≤ m + 1
  | [], m, _ => ⟨Nat.le_refl _, fun r hr => by
    have : r = [x] := List.mem_singleton.mp hr
    rw [this]
    simp⟩
  | R :: T, m, h => by
    have hR := h R (List.mem_cons_self ..)
    have l := rowIns_len x R
    rw [insT_cons]
    cases q : (rowIns x R).1 with
    | none =>
      refine ⟨by simp, fun r hr => ?_⟩
      rcases List.mem_cons.mp hr with rfl | hr
      · omega
      · have := h r (List.mem_cons_of_mem _ hr); omega
    | some y =>
      obtain ⟨h1, h2⟩ := insT_len y T m (fun r hr => h r (List.mem_cons_of_mem _ hr))
      refine ⟨by simp only [List.length_cons]; omega, fun r hr => ?_⟩
      rcases List.mem_cons.mp hr with rfl | hr
      · omega
      · exact h2 r hr
theorem tab_fold : ∀ (w : List Int) (T : List (List Int)) (m : Nat), (∀ r ∈ T, r.length ≤ m) → (w.foldl (fun T x => insT x T) T).length ≤ T.length + w.length ∧ ∀ r ∈ w.foldl (fun T x => insT x T) T, r.length ≤ m + w.length
  | [], T, m, h => ⟨Nat.le_refl _, h⟩
  | x :: w, T, m, h => by
    obtain ⟨h1, h2⟩ := insT_len x T m h
    obtain ⟨h3, h4⟩ := tab_fold w (insT x T) (m + 1) h2
    rw [List.foldl_cons, List.length_cons]
    exact ⟨by omega, fun r hr => by have := h4 r hr; omega⟩
theorem tab_len (w : List Int) : (tabL w).length ≤ w.length ∧ ∀ l ∈ tabL w, l.length ≤ w.length := by
  obtain ⟨h1, h2⟩ := tab_fold w [] 0 (fun r hr => by cases hr)
  unfold tabL
  exact ⟨by simpa using h1, fun l hl => by simpa using h2 l hl⟩
end LwM
namespace Lw
open PySem L2 LwE LwM
theorem ite_tail {c : Bool} {X : Prop} {H' : Hp} {P : Hp → Prop} (G : Hp → Prop) (tail : ∀ H2, G H2 → P H2) (yes : c = true → (∀ H2, G H2 → P H2) → X) (no : c = false → G H') : if c = true then X else P H' := by
  cases c with
  | true => exact yes rfl tail
  | false => exact tail H' (no rfl)
structure RA (H0 H : Hp) (R : Addr) (T : List (List Int)) (as : List Addr) : Prop where
  s : Same H0 H
  hR : H R = some (.lst (as.map V.ref))
  fR : H0 R = none
  ln : as.length = T.length
  nd : ∀ (i j : Nat) b, as[i]? = some b → as[j]? = some b → i = j
  at_ : ∀ (q : Nat) b l, as[q]? = some b → T[q]? = some l → H b = some (.lst (nums l))
  fr : ∀ b ∈ as, H0 b = none ∧ b ≠ R
theorem RA.same {H0 H H2 : Hp} {R : Addr} {T : List (List Int)} {as : List Addr} (A : RA H0 H R T as) (s : Same H H2) : RA H0 H2 R T as :=
  ⟨A.s.trans s, s _ _ A.hR, A.fR, A.ln, A.nd, fun q b l h1 h2 => s _ _ (A.at_ q b l h1 h2), A.fr⟩
theorem RA.push {H0 H : Hp} {R e : Addr} {T : List (List Int)} {as : List Addr} (A : RA H0 H R T as) (he : H e = none) : RA H0 (upd (upd H e (.lst [])) R (.lst (as.map V.ref ++ [.ref e]))) R (T ++ [[]]) (as ++ [e]) := by
  have eR : R ≠ e := ne_of_none A.hR he
  have fe : H0 e = none := A.s.free he
  have ne : e ∉ as := fun h => by
    obtain ⟨q, hq⟩ := List.mem_iff_getElem?.mp h
    have hl : q < T.length := by
      have := (List.getElem?_eq_some_iff.mp hq).1
      rw [A.ln] at this
      exact this
    have := A.at_ q e _ hq (List.getElem?_eq_getElem hl)
    rw [he] at this
    cases this
  refine ⟨fun b o h => ?_, ?_, A.fR, by simp [A.ln], fun i j b h1 h2 => ?_, fun q b l h1 h2 => ?_, fun b hb => ?_⟩
  · rw [upd_ne (ne_of_none h A.fR), upd_ne (ne_of_none h fe)]
    exact A.s _ _ h
  · rw [upd_same, List.map_append]
    rfl
  · have key : ∀ (i : Nat), (as ++ [e])[i]? = some b → (i < as.length ∧ as[i]? = some b) ∨ (i = as.length ∧ b = e) := fun i h => by
      rcases Nat.lt_or_ge i as.length with c | c
      · rw [List.getElem?_append_left c] at h
        exact .inl ⟨c, h⟩
      · have c2 : i = as.length := by
          have := (List.getElem?_eq_some_iff.mp h).1
          rw [List.length_append, List.length_singleton] at this
          omega
        subst c2
        rw [List.getElem?_append_right (Nat.le_refl _), Nat.sub_self] at h
        exact .inr ⟨rfl, by simpa using h.symm⟩
    rcases key i h1 with ⟨c1, d1⟩ | ⟨c1, d1⟩ <;> rcases key j h2 with ⟨c2, d2⟩ | ⟨c2, d2⟩
    · exact A.nd i j b d1 d2
    · subst d2
      exact absurd (List.mem_of_getElem? d1) ne
    · subst d1
      exact absurd (List.mem_of_getElem? d2) ne
    · omega
  · rcases Nat.lt_or_ge q as.length with c | c
    · rw [List.getElem?_append_left c] at h1
      rw [List.getElem?_append_left (by rw [← A.ln]; exact c)] at h2
      have z := A.at_ q b l h1 h2
      rw [upd_ne (A.fr b (List.mem_of_getElem? h1)).2, upd_ne (ne_of_none z he)]
      exact z
    · have c2 : q = as.length := by
        have := (List.getElem?_eq_some_iff.mp h1).1
        rw [List.length_append, List.length_singleton] at this
        omega
      rw [c2, List.getElem?_append_right (Nat.le_refl _), Nat.sub_self] at h1
      rw [c2, A.ln, List.getElem?_append_right (Nat.le_refl _), Nat.sub_self] at h2
      cases h1
      cases h2
      rw [upd_ne eR.symm, upd_same]
      rfl
  · rcases List.mem_append.mp hb with c | c
    · exact A.fr b c
    · rw [List.mem_singleton.mp c]
      exact ⟨fe, eR.symm⟩
theorem RA.put {H0 H : Hp} {R b : Addr} {T : List (List Int)} {as : List Addr} {j : Nat} {l' : List Int} (A : RA H0 H R T as) (hb : as[j]? = some b) : RA H0 (upd H b (.lst (nums l'))) R (T.set j l') as := by
  obtain ⟨f1, f2⟩ := A.fr b (List.mem_of_getElem? hb)
  refine ⟨fun b2 o h => ?_, ?_, A.fR, by rw [List.length_set]; exact A.ln, A.nd, fun q b2 l h1 h2 => ?_, A.fr⟩
  · rw [upd_ne (ne_of_none h f1)]
    exact A.s _ _ h
  · rw [upd_ne f2.symm]
    exact A.hR
  · by_cases c : q = j
    · subst c
      rw [hb] at h1
      cases h1
      have hl : q < T.length := by
        have := (List.getElem?_eq_some_iff.mp hb).1
        rw [A.ln] at this
        exact this
      rw [List.getElem?_set_self hl] at h2
      cases h2
      exact upd_same
    · rw [List.getElem?_set_ne (Ne.symm c)] at h2
      have nb : b2 ≠ b := fun z => by
        subst z
        exact c (A.nd q j _ h1 hb)
      rw [upd_ne nb]
      exact A.at_ q b2 l h1 h2
theorem refs_at {as : List Addr} {j : Nat} {b : Addr} (h : as[j]? = some b) : (as.map V.ref)[j]? = some (.ref b) := by
  rw [List.getElem?_map, h]
  rfl
def slot3 (σ : List (Option V)) : Nat := match (σ[3]? : Option (Option V)) with
  | some (some (V.int z)) => z.toNat
  | _ => 0
def slot2 (σ : List (Option V)) : Nat := match (σ[2]? : Option (Option V)) with
  | some (some (V.int z)) => z.toNat
  | _ => 0
section
variable {P : Program} {w : World} {K : PySem.W.Frag} {mg : Str → Option Value} {base : Heap}
def spRows : Sp := fun vs H Q _ => ∃ (a : Addr) (l : List Int), vs = [.ref a] ∧ H a = some (.lst (nums l)) ∧ l.length ≤ 40 ∧ (∀ x ∈ l, 1 ≤ x ∧ x ≤ 6) ∧ ∀ R as H', RA H H' R (tabL l) as → Q (.ref R) H'
theorem scRows : FnScope ["letters", "rows", "letter", "at", "here", "old", "place", "one"] ["letters"] (defScope sRows) := ⟨rfl, rfl, rfl, by decide +kernel, rfl, by decide +kernel, by decide +kernel⟩
theorem ok_rows {f : Addr} {fd : FuncData} (B : Bare mg) (F : Df K mg "_law_rows" sRows f fd) : FnOk P w K mg base CX0 1 f fd ["letters"] spRows := by
  refine F.fn.ok scRows (fun vs H Q E h => ?_) (fun cdv A outer s H vs Q E hr h => ?_)
  · obtain ⟨a, l, rfl, _⟩ := h
    rfl
  · obtain ⟨a, l, rfl, ha, hlen, hbd, k⟩ := h
    refine ⟨_, pss_cons (ps_set (i := 1) scRows.nd rfl (Or.inl rfl) (pe_lst pa_nil))
      (pss_cons (ps_for PassesOwn.never rfl (pi_list (pv 0)) (pg_name (i := 2) scRows.nd rfl (Or.inr rfl))
        (pss_cons (ps_set (i := 3) scRows.nd rfl (Or.inl rfl) pe_int)
        (pss_one (ps_while PassesOwn.never (pt_cmpR op_gt (pv 2) pe_int (nomark _))
          (pss_cons (ps_if (pt_cmpR op_eq (pv 3) (pe_callB call_len_seq (by rfl) B.len PySem.boot_len (pa_cons (pv 1) pa_nil)) (nomark _))
            (pss_one (ps_expr (pe_bm PySem.F.plainAttrs_list PySem.F.slot_list_append PySem.F.type_list_append mt_append (pv 1) (pa_cons (pe_lst pa_nil) pa_nil)))) pss_nil)
          (pss_cons (ps_setLc (i := 4) (own := [("place", 6), ("one", 7)]) (g := gTup K 2 (gCons (gName 6) (gCons (gName 7) gNil))) rfl scRows.nd rfl rfl (sw_true rfl rfl rfl (by decide +kernel)) (pi_enum (by rfl) B.enumerate (pa_cons (pe_ix ix_list (pv 1) (pv 3) (fun _ _ => rfl)) pa_nil))
            (blkOk_by (N := ["letters", "rows", "letter", "at", "here", "old", "place", "one"]) (sc := defScope sRows) (by decide +kernel))
            (fun _ _ _ _ _ => pg_tup rfl (pgs_cons (pg_name (i := 6) scRows.nd rfl (Or.inl rfl)) (pgs_cons (pg_name (i := 7) scRows.nd rfl (Or.inl rfl)) pgs_nil)))
            (fun _ _ _ _ _ => pts_one (pt_cmpR op_gt (pv 7) (pv 2) (nomark _))) (fun _ _ _ _ _ => pv 6))
          (pss_one (ps_if (pt_cmpR (op_eqD hr.units) (pv 4) (pe_lst pa_nil) (nomark _))
            (pss_cons (ps_expr (pe_bm PySem.F.plainAttrs_list PySem.F.slot_list_append PySem.F.type_list_append mt_append (pe_ix ix_list (pv 1) (pv 3) (fun _ _ => rfl)) (pa_cons (pv 2) pa_nil)))
            (pss_one (ps_set (i := 2) scRows.nd rfl (Or.inr rfl) pe_int)))
            (pss_cons (ps_set (i := 5) scRows.nd rfl (Or.inl rfl) (pe_ix ix_list (pe_ix ix_list (pv 1) (pv 3) (fun _ _ => rfl)) (pe_ix ix_list (pv 4) pe_int (fun _ _ => rfl)) (fun _ _ => rfl)))
            (pss_cons (ps_asg (pv 2) (pg_sub (pe_ix ix_list (pv 1) (pv 3) (fun _ _ => rfl)) (pe_ix ix_list (pv 4) pe_int (fun _ _ => rfl)) set_list))
            (pss_one (ps_asg (pe_tup (pa_cons (pv 5) (pa_cons (pe_op op_add (pv 3) pe_int) pa_nil))) (pg_tup rfl (pgs_cons (pg_name (i := 2) scRows.nd rfl (Or.inr rfl)) (pgs_cons (pg_name (i := 3) scRows.nd rfl (Or.inl rfl)) pgs_nil)))))))))))))))
      (pss_one (ps_ret (pv 1)))), ?_⟩
    refine ⟨Nat.zero_le _, fun R hR => ?_⟩
    have s0 : Same H (upd H R (.lst [])) := same_new hR
    have eR0 : (upd H R (.lst [])) R = some (.lst []) := upd_same
    generalize upd H R (.lst []) = H0 at s0 eR0 ⊢
    refine ⟨_, rfl, a, rfl, ⟨_, SqL.of (s0 _ _ ha)⟩, for_list (K := K) (a := a) (xs := nums l) (fun i σ H' => ∃ (v2 v3 v4 v5 : Option V) (as : List Addr), σ = [some (.ref a), some (.ref R), v2, v3, v4, v5, none, none] ∧ RA H H' R (tabL (l.take i)) as)
      ⟨_, _, _, _, [], rfl, ⟨s0, eR0, hR, rfl, fun i j b h => by simp at h, fun q b l h => by simp at h, fun b hb => by simp at hb⟩⟩ (fun i σ H' _ ⟨_, _, _, _, _, _, A⟩ => SqL.of (A.s _ _ ha)) ?_ ?_⟩
    · rintro i x σ H' hx ⟨v2, v3, v4, v5, as, rfl, A0⟩
      obtain ⟨z, rfl, hz, hzm⟩ := nums_get hx
      have hil : i < l.length := (List.getElem?_eq_some_iff.mp hz).1
      have hz1 := hbd z hzm
      have hT : tabL (l.take (i + 1)) = insT z (tabL (l.take i)) := by
        rw [List.take_succ, hz]
        exact tabL_snoc _ _
      obtain ⟨tl1, tl2⟩ := tab_len (l.take i)
      have tk : (l.take i).length ≤ 40 := by rw [List.length_take]; omega
      refine while_by (fun σ H' => ∃ (v4 v5 : Option V) (x : Int) (j : Nat) (T : List (List Int)) (as : List Addr), σ = [some (.ref a), some (.ref R), some (.int x), some (.int (j : Nat)), v4, v5, none, none] ∧ RA H H' R T as ∧
          ((x = 0 ∧ T = tabL (l.take (i + 1)) ∧ j ≤ 41) ∨ (1 ≤ x ∧ T.length ≤ 40 ∧ (∀ r ∈ T, r.length ≤ 40) ∧ ∃ done rest, T = done ++ rest ∧ done.length = j ∧ tabL (l.take (i + 1)) = done ++ insT x rest)))
        (fun σ _ => if slot2 σ = 0 then 0 else 50 - slot3 σ)
        ⟨_, _, z, 0, _, as, rfl, A0,   .inr ⟨hz1.1, by omega, fun r hr => by have := tl2 r hr; omega, [], _, rfl, rfl, hT⟩⟩ ?_ ?_
      · rintro σ H2 ⟨v4, v5, x, j, T, as, rfl, A, inv⟩
        refine ⟨_, rfl, _, _, rfl, rfl, _, rfl, ?_⟩
        rcases inv with ⟨x0, hT0, _⟩ | ⟨x1, hT1, hT2, done, rest, rfl, hj, hfin⟩
        · subst x0
          subst hT0
          rw [decide_eq_false (by omega)]
          exact iteF ⟨_, _, _, _, _, rfl, A⟩
        · rw [decide_eq_true (show (0 : Int) < x by omega)]
          refine iteT ?_
          rw [List.length_append] at hT1
          refine ⟨_, rfl, _, rfl, R, _, rfl, .inl (SqL.of A.hR), rfl, _, rfl, ?_⟩
          refine ite_tail (H' := H2) (fun H3 => ∃ (R1 : List Int) (rest2 : List (List Int)) (as2 : List Addr), RA H H3 R (done ++ R1 :: rest2) as2 ∧ tabL (l.take (i + 1)) = done ++ insT x (R1 :: rest2) ∧ R1.length ≤ 40 ∧ done.length + 1 + rest2.length ≤ 41 ∧ (∀ r ∈ done, r.length ≤ 40) ∧ (∀ r ∈ rest2, r.length ≤ 40) ∧ (done.length + 1 + rest2.length ≤ 40 ∨ R1 = [])) ?_ ?_ ?_
          · rintro H3 ⟨R1, rest2, as2, A3, hfin3, l1, l2, l3, l4, l5⟩
            have hb : ∃ b, as2[j]? = some b := by
              have : j < as2.length := by
                rw [A3.ln, List.length_append, List.length_cons]
                omega
              exact ⟨_, List.getElem?_eq_getElem this⟩
            obtain ⟨b, hb⟩ := hb
            have hTj : (done ++ R1 :: rest2)[j]? = some R1 := by
              rw [List.getElem?_append_right (by omega), hj, Nat.sub_self]
              rfl
            have eb := A3.at_ j b R1 hb hTj
            refine ⟨_, rfl, _, rfl, R, _, _, _, rfl, rfl, SqL.of A3.hR, at_of (j := j) rfl (refs_at hb), b, _, rfl, SqL.of eb, fun D hD => ?_⟩
            have s3 : Same H3 (upd H3 D (.lst [])) := same_new hD
            refine lc_enL (K := K) (a := b) (xs := nums R1) (fun q H' => Same H3 H' ∧ ∃ ps, Fst x R1 q ps ∧ H' D = some (.lst (nums ps))) ⟨s3, [], Fst.zero _ _, by rw [upd_same]; rfl⟩ (fun q H' _ ⟨s1, _⟩ => SqL.of (s1 _ _ eb)) ?_ ?_
            · rintro q y T2 H' hy ⟨s1, ps, hF, e1⟩ hT2
              obtain ⟨y, rfl, hy, _⟩ := nums_get hy
              have hq : q < R1.length := (List.getElem?_eq_some_iff.mp hy).1
              have s2 : Same H' (upd H' T2 (.tup [.int (q : Nat), .int y])) := same_new hT2
              have eT : (upd H' T2 (.tup [.int (q : Nat), .int y])) T2 = some (.tup [.int (q : Nat), .int y]) := upd_same
              generalize upd H' T2 (.tup [.int (q : Nat), .int y]) = H5 at s2 eT ⊢
              have e2 := s2 _ _ e1
              refine ⟨T2, _, rfl, SqT.of eT, rfl, _, _, rfl, _, _, rfl, rfl, rfl, ?_⟩
              refine ⟨_, rfl, _, rfl, _, _, rfl, rfl, _, rfl, ?_⟩
              refine ite2 (fun hc => ?_) (fun hc => ?_)
              · have c : x < y := of_decide_eq_true hc
                refine ⟨_, rfl, _, e2, ?_, fun b o e => ?_, _, hF.yes hy c, ?_⟩
                · rw [List.length_map]
                  have := hF.1
                  exact small1000 (by omega)
                · rw [upd_ne (ne_of_none e hD)]
                  exact s2 _ _ (s1 _ _ e)
                · rw [upd_same]
                  simp [nums]
              · exact ⟨s1.trans s2, ps, hF.no hy fun z => hc (decide_eq_true z), e2⟩
            · rintro H4 ⟨s4, ps, hF, e4⟩
              rw [List.length_map] at hF
              have A4 := A3.same s4
              have eb4 := s4 _ _ eb
              refine ⟨_, rfl, Nat.zero_le _, fun z0 hz0 => ?_⟩
              have t6 : Same H4 (upd H4 z0 (.lst [])) := same_new hz0
              have ez : (upd H4 z0 (.lst [])) z0 = some (.lst []) := upd_same
              generalize upd H4 z0 (.lst []) = H5 at t6 ez ⊢
              have A5 := A4.same t6
              have eb5 := t6 _ _ eb4
              have e5 := t6 _ _ e4
              refine ⟨.list (ps.map PyData.int), .list [], .lst (SqL.of e5) (dp_nums _), .lst (SqL.of ez) .nil, shaped_nums _, by decide, _, rfl, ?_⟩
              have eqe : PyData.eqv (.list (ps.map PyData.int)) (.list []) = decide (ps = []) := eqv_nums ps []
              rw [eqe]
              have hset : ∀ l' : List Int, (done ++ R1 :: rest2).set j l' = done ++ l' :: rest2 := fun l' => by
                rw [List.set_append_right (h := by omega), hj, Nat.sub_self]
                rfl
              cases ps with
              | nil =>
                rw [decide_eq_true rfl]
                have hn := rowIns_none (x := x) (R := R1) fun q z hq hz => hF.2.1 rfl q z hq hz
                have A6 := A5.put (l' := R1 ++ [x]) hb
                rw [hset] at A6
                rw [ins_stop rest2 hn] at hfin3
                refine iteT ⟨_, rfl, _, rfl, R, _, _, _, rfl, rfl, SqL.of A5.hR, at_of (j := j) rfl (refs_at hb), .inl ⟨rfl, _, SqL.of eb5⟩, _, rfl, b, _, _, rfl, rfl, eb5, by rw [List.length_map]; exact small1000 (by omega), ?_⟩
                rw [show nums R1 ++ [V.int x] = nums (R1 ++ [x]) by simp [nums]]
                refine ⟨⟨_, _, 0, j, _, as2, rfl, A6, .inl ⟨rfl, hfin3.symm, by omega⟩⟩, ?_⟩
                show 0 < (if x.toNat = 0 then 0 else 50 - ((j : Nat) : Int).toNat)
                rw [if_neg (by omega)]
                omega
              | cons p ps =>
                rw [decide_eq_false (by simp)]
                obtain ⟨q, y, rfl, hq, hy, hxy, hbf⟩ := hF.2.2 p ps rfl
                have hn := rowIns_some hy hxy hbf
                have hyn : (nums R1)[q]? = some (.int y) := by
                  rw [List.getElem?_map, hy]
                  rfl
                have A6 := A5.put (l' := R1.set q x) hb
                rw [hset] at A6
                rw [ins_go rest2 hn] at hfin3
                have bD : b ≠ D := ne_of_none eb hD
                refine iteF ⟨_, rfl, _, rfl, R, _, _, _, rfl, rfl, SqL.of A5.hR, at_of (j := j) rfl (refs_at hb), _, rfl, D, _, _, _, rfl, rfl, SqL.of e5, at_of (j := 0) rfl rfl, b, _, _, _, rfl, rfl, SqL.of eb5, at_of (j := q) rfl hyn, ?_⟩
                refine ⟨_, rfl, _, rfl, _, rfl, R, _, _, _, rfl, rfl, SqL.of A5.hR, at_of (j := j) rfl (refs_at hb), _, rfl, D, _, _, _, rfl, rfl, SqL.of e5, at_of (j := 0) rfl rfl, b, _, _, q, rfl, rfl, eb5, ixN_lt (by rw [List.length_map]; exact hq), ?_⟩
                rw [set_nums]
                generalize upd H5 b (.lst (nums (R1.set q x))) = H6 at A6 ⊢
                refine ⟨_, rfl, _, rfl, _, _, rfl, rfl, (by show 2 ≤ sizeLine; decide), fun t ht => ?_⟩
                have A7 := A6.same (same_new (o := .tup [.int y, .int ((j : Nat) + 1)]) ht)
                refine ⟨t, _, rfl, SqT.of upd_same, rfl, _, _, rfl, _, _, rfl, rfl, ⟨_, _, y, j + 1, _, as2, rfl, A7, .inr ⟨by omega, ?_, ?_, done ++ [R1.set q x], rest2, by simp, by simp [hj], by rw [hfin3]; simp⟩⟩, ?_⟩
                · have : R1 ≠ [] := fun z => by
                    rw [z] at hy
                    simp at hy
                  rcases l5 with l5 | l5
                  · rw [List.length_append, List.length_cons]
                    omega
                  · exact absurd l5 this
                · intro r hr
                  rcases List.mem_append.mp hr with c | c
                  · exact l3 r c
                  · rcases List.mem_cons.mp c with c | c
                    · rw [c, List.length_set]
                      exact l1
                    · exact l4 r c
                · show (if y.toNat = 0 then 0 else 50 - (((j : Nat) : Int) + 1).toNat) < (if x.toNat = 0 then 0 else 50 - ((j : Nat) : Int).toNat)
                  rw [if_neg (by omega), if_neg (by omega)]
                  omega
          · intro hc tl
            have c : ((j : Nat) : Int) = (((as.map V.ref).length : Nat) : Int) := by simpa using hc
            rw [List.length_map] at c
            have hl := A.ln
            rw [List.length_append] at hl
            have hrest : rest = [] := List.length_eq_zero_iff.mp (by omega)
            subst hrest
            refine ⟨_, rfl, .inl ⟨rfl, _, SqL.of A.hR⟩, Nat.zero_le _, fun e he => ⟨R, _, _, rfl, rfl, by rw [upd_ne (ne_of_none A.hR he)]; exact A.hR, by rw [List.length_map]; exact small1000 (by omega), ?_⟩⟩
            have A2 := A.push he
            rw [List.append_nil] at A2
            exact tl _ ⟨[], [], _, A2, hfin, Nat.zero_le _, by simp at hT1 ⊢; omega, fun r hr => hT2 r (List.mem_append_left _ hr), fun r hr => by simp at hr, .inr rfl⟩
          · intro hc
            have c : ¬ ((j : Nat) : Int) = (((as.map V.ref).length : Nat) : Int) := by simpa using hc
            rw [List.length_map] at c
            have hl := A.ln
            rw [List.length_append] at hl
            cases rest with
            | nil =>
              exfalso
              apply c
              simp at hl
              omega
            | cons R1 rest2 =>
              rw [List.length_cons] at hT1
              exact ⟨R1, rest2, as, A, hfin, hT2 R1 (List.mem_append_right _ (List.mem_cons_self ..)), by omega, fun r hr => hT2 r (List.mem_append_left _ hr), fun r hr => hT2 r (List.mem_append_right _ (List.mem_cons_of_mem _ hr)), .inl (by omega)⟩
      · intro σ H Q Q' hQ hh
        obtain ⟨v, e1, y, z, e2, e3, b, e4, q⟩ := hh
        exact ⟨v, e1, y, z, e2, e3, b, e4, hQ _ _ q⟩
    · rintro σ H' ⟨v2, v3, v4, v5, as, rfl, A⟩
      rw [List.length_map, List.take_length] at A
      exact ⟨_, rfl, k R as H' A⟩
end
end Lw
namespace DL
open PySem PySem.Spec PyProof.Rows L2 LwE LamX Lw LwM
abbrev nisR (l : List Int) : List Dt := l.map .int
def rowsS : List Dt → DL.M R
  | [.lst dl] => (match intsD dl with
    | some l => if l.length ≤ 40 ∧ (∀ x ∈ l, 1 ≤ x ∧ x ≤ 6) then M.ret (.new ((tabL l).map fun r => .lst (nisR r))) else M.no
    | none => M.no)
  | _ => M.no
theorem intsD_of : ∀ {dl : List Dt} {l : List Int}, intsD dl = some l → dl = l.map .int
  | [], l, h => by cases h; rfl
  | d :: dl, l, h => by
    cases d <;> first | (cases h; done) | skip
    rename_i z
    have h : (intsD dl).map (z :: ·) = some l := h
    obtain ⟨r, e1, e2⟩ := Option.map_eq_some_iff.mp h
    rw [← e2, intsD_of e1]
    rfl
theorem reps_intsR {K : PySem.W.Frag} {i : Ix} {F : Hp} : ∀ {l : List Int} {us : List V}, Reps K i F (l.map .int) us → us = nums l
  | [], us, h => h
  | z :: l, us, h => by
    obtain ⟨v, r, e, h1, h2⟩ := h
    have h1 : v = .int z := h1
    rw [e, h1, reps_intsR h2]
    rfl
theorem ints_reps {K : PySem.W.Frag} {i : Ix} {F : Hp} : ∀ l : List Int, Reps K i F (l.map .int) (nums l)
  | [] => rfl
  | _ :: l => .cons rfl (ints_reps l)
theorem rows_reps {K : PySem.W.Frag} {i : Ix} {F : Hp} : ∀ {as : List Addr} {T : List (List Int)}, as.length = T.length → (∀ (q : Nat) (b : Addr) (l : List Int), as[q]? = some b → T[q]? = some l → F b = some (.lst (nums l))) → Reps K i F (T.map fun r => .lst (nisR r)) (as.map V.ref)
  | [], [], _, _ => rfl
  | [], _ :: _, h, _ => by cases h
  | _ :: _, [], h, _ => by cases h
  | b :: as, r :: T, h, g => by
    refine .cons ⟨b, nums r, rfl, g 0 b r rfl rfl, ints_reps r⟩ (rows_reps (by simpa using h) fun q b l h1 h2 => g (q + 1) b l (by simpa using h1) (by simpa using h2))
theorem fnD_rows {P : Program} {w : World} {K : PySem.W.Frag} {mg : Str → Option Value} {base : Heap} {f : Addr} {fd : FuncData} (G : FnOk P w K mg base CX0 1 f fd ["letters"] spRows) : FnD P w K mg base 1 f fd ["letters"] rowsS := by
  refine FnX.imp (DL.FnOk.x (DL.FnOk.cx G)) fun vs H Q E ⟨i, F, s, ds, W, r, hl, q⟩ => ?_
  match ds, hl, r, q with
  | [d], hl2, r, q =>
    obtain ⟨v, r1, e1, h1, e3⟩ := r
    have e3 : r1 = [] := e3
    subst e3 e1
    cases d <;> first | exact q.elim | skip
    rename_i dl
    simp only [rowsS] at q
    cases ei : intsD dl with
    | none => rw [ei] at q; exact q.elim
    | some l =>
      rw [ei] at q
      obtain ⟨⟨hl, hb⟩, q⟩ := ok_if q
      have e := intsD_of ei
      subst e
      obtain ⟨p, us, e0, h2, h3⟩ := h1
      have e0 : v = .ref p := e0
      have e4 := reps_intsR h3
      subst e0 e4
      refine ⟨p, l, rfl, W.fh _ _ h2, hl, hb, fun R as H' A => ?_⟩
      have fn : ∀ b ∈ as, F b = none := fun b hb => W.fh.free (A.fr b hb).1
      refine q _ (fun b => if b ∈ as then H' b else F b) H' ⟨fun b o e => ?_, fun b o e => ?_, fun b o e _ => A.s _ _ e, fun b h e => ?_, fun b h => ?_⟩ (W.mr.sm A.s) ⟨R, as.map V.ref, rfl, A.hR, ?_, A.fR, rows_reps A.ln fun q b l h1 h2 => ?_⟩
      · show (if b ∈ as then H' b else F b) = some o
        rw [if_neg (fun h => by rw [fn b h] at e; cases e)]
        exact e
      · have e : (if b ∈ as then H' b else F b) = some o := e
        by_cases h : b ∈ as
        · rwa [if_pos h] at e
        · rw [if_neg h] at e
          exact A.s _ _ (W.fh _ _ e)
      · show (if b ∈ as then H' b else F b) = none
        rw [if_neg (fun z => h (A.fr b z).1)]
        exact e
      · cases z : H b with
        | none => exact absurd z h
        | some o => rw [A.s _ _ z]; exact fun z => nomatch z
      · show (if R ∈ as then H' R else F R) = none
        rw [if_neg (fun z => (A.fr R z).2 rfl)]
        exact W.fh.free A.fR
      · show (if b ∈ as then H' b else F b) = _
        rw [if_pos (List.mem_of_getElem? h1)]
        exact A.at_ q b l h1 h2
end DL
namespace DL
open PySem PySem.Spec PyProof.Rows L2 LwE LamX Lw
open Classical in
section
variable {X : Cx} {E : XK} {e : Expr}
theorem pe_or {t1 t2 : TE} (h1 : PE X e t1) (h2 : PE X e t2) : PE X e (fun σ H Q => t1 σ H Q ∨ t2 σ H Q) := ⟨fun pins s σ H Q I h => h.elim (h1.run pins s σ H Q I) (h2.run pins s σ H Q I)⟩
end
end DL
namespace DL
open PySem PySem.Spec PyProof.Rows L2 LwE LamX Lw
def sumT : Dt → DL.M R
  | .tup l => (match intsD l with
    | some ns => M.ret (.val (.int ns.sum))
    | none => M.no)
  | _ => M.no
def isTu : Dt → Bool
  | .tup _ => true
  | _ => false
def sumG : Dt → DL.M R := orC isTu sumT sumD
section
variable {X : Cx} {E : XK}
def tSumT (K : PySem.W.Frag) : List V → Hp → VK → Prop := fun vs H Q => ∃ (p : Addr) (ns : List Int), (vs = [V.ref p] ∧ SqT K H p (ns.map V.int)) ∧ Q (.int ns.sum) H
theorem call_sumT (hc : X.calm = true) : CallR X (.builtin "sum") (tSumT X.K) := by
  intro pins s σ H vs us Q I r h
  obtain ⟨p, ns, ⟨rfl, hs⟩, q⟩ := h
  obtain ⟨its, rv, ht, _⟩ := I.tuple hs
  rw [Vals.ref1 r]
  have ia := rv.ints
  obtain ⟨xs, e⟩ := ia.allInts.items
  have hn := ia.numsOf
  have hh : X.A.handled = none := I.ok.hd hc
  rw [show its = its.toArray.toList from rfl, e, nums_intItems] at hn
  rw [e] at ht
  refine PySem.W.ktm_sumG hh ht fun h' tk t' hk => ⟨.int ns.sum, H, I.kept hk, ⟨t', ?_⟩, q⟩
  rw [preSum_eq, List.take_of_length_le (by simp), hn]
theorem cd_sumT (hc : X.calm = true) : CallD X E (.builtin "sum") sumT := by
  refine ⟨_, call_sumT hc, fun i s F H x d Q W v q => ?_⟩
  cases d <;> first | exact q.elim | skip
  rename_i l
  obtain ⟨p, vs, h0, h1, h2⟩ := v.tup
  cases e : intsD l with
  | none => simp only [sumT, e] at q; exact q.elim
  | some ns =>
    simp only [sumT, e] at q
    rw [intsD_eq e] at h2
    rw [h2.of_ints] at h1
    exact ⟨p, ns, ⟨by rw [h0], sqT_same W.fh h1⟩, q _ F H (.refl W.fh) W.mr rfl⟩
theorem cd_sumG (hc : X.calm = true) : CallD X E (.builtin "sum") sumG := CallD.or (cd_sumT hc) (cd_sum hc)
end
theorem sumG_row {d : Dt} {l : List Int} (h : d = .lst (l.map .int) ∨ d = .tup (l.map .int)) : sumG d = M.ret (.val (.int l.sum)) := by
  rcases h with rfl | rfl
  · show (match intsD (l.map .int) with | some ns => M.ret (R.val (.int ns.sum)) | none => M.no) = _
    rw [intsD_map]
  · show (match intsD (l.map .int) with | some ns => M.ret (R.val (.int ns.sum)) | none => M.no) = _
    rw [intsD_map]
end DL
namespace DL
open PySem PySem.Spec PyProof.Rows L2 LwE LamX Lw
section
variable {X : Cx} {pins : List (Addr × Obj)} {σ : L2.St} {H : Hp} {s : Shared}
theorem typ_at {M : Model} {h : Heap} {y : Addr} {o : Obj} {T : Value} (ho : h.get? y = some o) (hc : o.cls = T) : PySem.W.Looks M h (typeOf (.ref y)) T := by
  subst hc
  exact (PySem.W.Looks.ld ho).andThen .now
theorem typ_of {x : V} {u t : Value} (I : Inv X pins σ H s) (rx : RelV x u) (ty : TyX X.K H x t) (M : Model) : PySem.W.Looks M s.heap (typeOf u) t := by
  cases ty with
  | base b =>
    cases b with
    | non => cases (show u = Value.none from rx); exact .of_pure rfl
    | bl y => cases (show u = Value.bool y from rx); exact .of_pure rfl
    | int i => obtain ⟨t, q⟩ := (show ∃ t, u = Value.int i t from rx); cases q; exact .of_pure rfl
    | str y => obtain ⟨t, q⟩ := (show ∃ t, u = Value.str y t from rx); cases q; exact .of_pure rfl
    | flt y => obtain ⟨t, q⟩ := (show ∃ t, u = Value.float y t from rx); cases q; exact .of_pure rfl
    | @lst a xs ea =>
      cases (show u = Value.ref a from rx)
      obtain ⟨_, _, n, _, h1⟩ := (show ObjOk X.prog X.w H s.heap a (.lst xs) from I.hok a _ ea)
      exact typ_at h1 rfl
    | @frz a ob xs ea =>
      cases (show u = Value.ref a from rx)
      obtain ⟨_, _, _, n, _, h1⟩ := (show ObjOk X.prog X.w H s.heap a (.frz ob (.lst xs)) from I.hok a _ ea)
      exact typ_at h1 rfl
    | @tup a xs ea =>
      cases (show u = Value.ref a from rx)
      obtain ⟨_, _, _, o, h1, h2, _⟩ := (show ObjOk X.prog X.w H s.heap a (.tup xs) from I.hok a _ ea)
      exact typ_at h1 h2
    | @dK a kvs ea =>
      cases (show u = Value.ref a from rx)
      obtain ⟨_, _, vs, _, o, es, ep, h1, h2, _⟩ := (show ObjOk X.prog X.w H s.heap a (.dK kvs) from I.hok a _ ea)
      exact typ_at h1 h2.1
    | @dT a kvs ea =>
      cases (show u = Value.ref a from rx)
      obtain ⟨_, _, xs, _, o, es, ep, h1, h2, _⟩ := (show ObjOk X.prog X.w H s.heap a (.dT kvs) from I.hok a _ ea)
      exact typ_at h1 h2.1
    | @ins a C dx fs ea cl ha hn htk hm =>
      cases (show u = Value.ref a from rx)
      obtain ⟨mA, O, _⟩ := ins_get I.hok ea
      obtain ⟨od, J, _⟩ := O.look
      exact J.type
  | byt y => obtain ⟨t, q⟩ := (show ∃ t, u = Value.bytes y t from rx); cases q; exact .of_pure rfl
  | @set a S n ea =>
    cases (show u = Value.ref a from rx)
    obtain ⟨o, _, _, _, e, ex, _⟩ := I.hok a _ ea
    exact typ_at e ex.1
  | @kList a o e c =>
    cases (show u = Value.ref a from rx)
    exact typ_at (I.kIn a o e) c
  | @kTuple a o e c =>
    cases (show u = Value.ref a from rx)
    exact typ_at (I.kIn a o e) c
  | @kDict a o e c =>
    cases (show u = Value.ref a from rx)
    exact typ_at (I.kIn a o e) c
  | @fTuple a ob xs ea =>
    cases (show u = Value.ref a from rx)
    obtain ⟨_, _, _, _, o, h1, h2, _⟩ := (show ObjOk X.prog X.w H s.heap a (.frz ob (.tup xs)) from I.hok a _ ea)
    exact typ_at h1 h2
  | @fDict a ob kvs ea =>
    cases (show u = Value.ref a from rx)
    obtain ⟨_, _, _, vs, _, o, es, ep, h1, h2, _⟩ := (show ObjOk X.prog X.w H s.heap a (.frz ob (.dK kvs)) from I.hok a _ ea)
    exact typ_at h1 h2.1
end
section
variable {X : Cx} {pins : List (Addr × Obj)} {σ : L2.St} {H : Hp} {s : Shared} {CX : CXT} {k : Nat} {f C : Addr} {fd : FuncData} {ps : List Str} {sp : Sp} {E : XK}
def rEqY (K : PySem.W.Frag) (C : Addr) (sp : Sp) (E : XK) : R2 := fun x y H Q => ∃ a dx fs t, x = .ref a ∧ H a = some (.ins C dx fs) ∧ TyX K H y t ∧ PySem.W.notFirst K C t = true ∧ sp [x, y] H (fun z H' => ∃ c : Bool, z = .bl c ∧ Q (.bl c) H') E
theorem op_eqY (hs : PySem.W.findIn X.K (.ref C) "__eq__" = some (some (.ref f))) (hf : PySem.W.isFn X.K (.ref f) = true)
    (F : FnX X.prog X.w X.K X.mg X.base CX k f fd ps sp) (hgu : X.A.guards = some []) (hb : Binds X.K fd ps []) (hr : Room k X.A) (hx : Passes CX X E) : OpR X (compareOp .Eq) (rEqY X.K C sp E) := by
  intro pins s σ H x y v u Q I rx ry h
  obtain ⟨a, dx, fs, t, rfl, ea, ty, hn, q⟩ := h
  obtain rfl : v = Value.ref a := rx
  obtain ⟨ox, od, J⟩ := inst_of I ea
  obtain ⟨m, hF⟩ := I.fr
  refine PySem.W.cmp_ofEq (PySem.W.cmp_K (op := .Eq) (tb := t) hr.units0 hF I.ok.mod.kin J (typ_of I ry ty _) hn hs hf (wpAny_mono (run_belowX (vs := [.ref a, y]) F hgu hr I.env0 hb hx I (.cons rfl (.cons ry .nil)) q) (fun w s' z => ?_) fun _ _ x => x))
  obtain ⟨z', H', I', rz, c, rfl, qz⟩ := z
  exact SlX.cmpback rz ⟨.bl c, H', I', rz, qz⟩
def rNeY (K : PySem.W.Frag) (C : Addr) (sp : Sp) (E : XK) : R2 := fun x y H Q => ∃ a dx fs t, x = .ref a ∧ H a = some (.ins C dx fs) ∧ TyX K H y t ∧ PySem.W.notFirst K C t = true ∧ sp [x, y] H (fun z H' => ∃ c : Bool, z = .bl c ∧ Q (.bl (!c)) H') E
theorem op_neY (hs : PySem.W.findIn X.K (.ref C) "__eq__" = some (some (.ref f))) (hf : PySem.W.isFn X.K (.ref f) = true) (hn : PySem.W.findIn X.K (.ref C) "__ne__" = some (some (.builtin "object.__ne__"))) (hm : PySem.W.mroIn X.K C (.type "object") = some true)
    (F : FnX X.prog X.w X.K X.mg X.base CX k f fd ps sp) (hgu : X.A.guards = some []) (hb : Binds X.K fd ps []) (hr : Room (k + 1) X.A) (hx : Passes CX X E) : OpR X (compareOp .NotEq) (rNeY X.K C sp E) := by
  intro pins s σ H x y v u Q I rx ry h
  obtain ⟨a, dx, fs, t, rfl, ea, ty, hnf, q⟩ := h
  obtain rfl : v = Value.ref a := rx
  obtain ⟨ox, od, J⟩ := inst_of I ea
  have Xk := I.kIn
  have hcall : wpAny (model X.prog X.w) X.A.in1 (call (.ref f) [.ref a, u]) (fun w s' => ∃ c, w = .bool c ∧ EP X pins σ Q (.bool (!c)) s') X.xe s :=
    wpAny_mono (run_belowX (vs := [.ref a, y]) F (by exact hgu) hr.in1 I.env0.in1 hb hx I (.cons rfl (.cons ry .nil)) q) (fun w s' z => by
      obtain ⟨z', H', I', rz, c, rfl, qz⟩ := z
      obtain rfl : w = Value.bool c := rz
      exact ⟨c, rfl, .bl (!c), H', I', rfl, qz⟩) fun _ _ x => x
  have h1 : X.A.units < cLine := hr.units0
  have h2 : X.A.in1.units < cLine := by
    have := hr.units
    show X.A.units + 1 < cLine
    omega
  have sub : PySem.W.Looks (model X.prog X.w) s.heap (isInstance (.ref a) (.type "object")) true := J.type.andThen (PySem.W.looks_mroIn Xk hm)
  have body : wpAny (model X.prog X.w) X.A.in1 (Builtin.«object.__ne__» ⟨[.ref a, u], []⟩) (fun fin s' => ∃ c, fin = .done (.ret (.bool (!c))) ∧ EP X pins σ Q (.bool (!c)) s') X.xe s := by
    unfold Builtin.«object.__ne__»
    repeat (first
      | with_reducible refine wpAny_cRoomFor h2 ?_
      | (refine wpAny_bind (m := callSpecialIfBound? (.ref a) (Str.ofString "__eq__") [u]) (PySem.W.ifBound_K Xk J hs hf (wpAny_mono hcall (fun r s' hq => by
          obtain ⟨c, rfl, qz⟩ := hq
          repeat (first | exact ⟨c, rfl, qz⟩ | exact wpAny_pure ⟨c, rfl, qz⟩ | exact wpAny_truthy_bool ⟨c, rfl, qz⟩ | (refine wpAny_bind (m := truthy (.bool _)) (wpAny_truthy_bool ?_)) | wp_step)) fun _ _ e => e)))
      | wp_step)
  have one : wpAny (model X.prog X.w) X.A (tryCompare (.ref a) "__ne__" u) (fun r s' => ∃ c : Bool, r = some (.bool (!c)) ∧ EP X pins σ Q (.bool (!c)) s') X.xe s := by
    simp only [tryCompare]
    refine wpAny_bind (bound_slot (B := "object") Xk J hn PySem.F.cmp_object.ne (wpAny_call (codeAny_call_builtin PySem.F.cmp_object.ne.plain PySem.F.cmpEntry_ne
      (@PySem.W.check_slot (model X.prog X.w) _ _ s "object.__ne__" "object" "__ne__" (.ref a) [u] [] _ PySem.F.cmpKind_ne PySem.F.cmpSplit_ne sub (PySem.F.cmpArgs_ne _ _) ?_))))
    refine wpAny_mono body (fun fin s' z => ?_) fun _ _ e => e
    obtain ⟨c, rfl, qz⟩ := z
    first | exact ⟨c, rfl, qz⟩ | exact wpAny_pure ⟨c, rfl, qz⟩
  show wpAny _ _ (richCompare .NotEq (.ref a) u) _ _ _
  unfold richCompare
  simp only [oneThing_ref]
  refine wpAny_holding (wpAny_bind (wpAny_cRoomFor h1 ?_))
  rw [cmpInfo_NotEq]
  dsimp only
  refine wpAny_bind (J.type.here (wpAny_bind ((typ_of I ry ty _).here ?_)))
  split
  · rename_i qq
    have e : PySem.W.subIn X.K t (.ref C) = some false := by
      rcases Bool.or_eq_true_iff.mp hnf with e | e
      · rw [beq_iff_eq.mp e] at qq; simp at qq
      · exact beq_iff_eq.mp e
    refine wpAny_bind ((PySem.W.looks_subIn Xk e).here ?_)
    simp only [Bool.false_eq_true, if_false]
    refine wpAny_bind (wpAny_mono one (fun r s' z => ?_) fun _ _ e => e)
    obtain ⟨c, rfl, qz⟩ := z
    first | exact wpAny_pure qz | exact wpAny_pure (wpAny_pure qz)
  · refine wpAny_bind (wpAny_pure ?_)
    simp only [Bool.false_eq_true, if_false]
    refine wpAny_bind (wpAny_mono one (fun r s' z => ?_) fun _ _ e => e)
    obtain ⟨c, rfl, qz⟩ := z
    first | exact wpAny_pure qz | exact wpAny_pure (wpAny_pure qz)
end
def objL (C : Addr) (a _b : Dt) : Bool := isObj C a
def isLst : Dt → Bool
  | .lst _ => true
  | _ => false
def anyR (cs : List Addr) (C : Addr) (b : Dt) : Bool := isObj C b || (!isLst b && decide (tst1 cs (.own C) b = some false))
def eqAn (cs : List Addr) (C : Addr) (neg : Bool) (sem : List Dt → M R) (a b : Dt) : M R := if (isObj C a && anyR cs C b) = true then DL.M.bnd (sem [a, b]) fun
    | .val (.bl c) => M.ret (.val (.bl (neg ^^ c)))
    | _ => M.no
  else M.no
section
variable {X : Cx} {E : XK} {k : Nat} {f C : Addr} {fd : FuncData} {ps : List Str} {sem : List Dt → M R} {a b : Expr} {pos : Pos}
theorem nf_of {K : PySem.W.Frag} {i : Ix} {F H : Hp} {cs : List Addr} (O : Ocs K cs) (hC : C ∈ cs) (fh : Same F H) {d : Dt} {v : V} (h : View K i F H d v) (e : anyR cs C d = true) : ∃ t, TyX K H v t ∧ PySem.W.notFirst K C t = true ∧ Rep K i F d v := by
  have o := O.one C hC
  rcases Bool.or_eq_true_iff.mp e with e | e
  · obtain ⟨q, dy, gs, rfl, h1, h2⟩ := isObj_of fh e h
    exact ⟨_, .base (.ins h1 o.cl o.ca o.cn o.ct o.cm), by unfold PySem.W.notFirst; simp, h2⟩
  · obtain ⟨e1, e2⟩ := Bool.and_eq_true_iff.mp e
    have e2 := of_decide_eq_true e2
    obtain ⟨t, h1, h2⟩ := tyx_of O fh h e2
    refine ⟨t, h1, ?_, h.rep fun l z => by subst z; cases e1⟩
    have h3 := h2 _ _ e2
    unfold PySem.W.kitOne at h3
    split at h3
    · cases h3
    · have c : ((PySem.W.clsIn K C).isSome && PySem.W.typeIn K (.ref C) == some (.type "type")) = true := by
        rw [show (PySem.W.clsIn K C).isSome = true from o.ic, o.ty]
        rfl
      have h4 : PySem.W.kitCls K t (.ref C) = some false := h3
      have h5 : PySem.W.subIn K t (.ref C) = some false := by
        rw [← h4]
        show _ = (if ((PySem.W.clsIn K C).isSome && PySem.W.typeIn K (.ref C) == some (.type "type")) = true then PySem.W.subIn K t (.ref C) else none)
        rw [if_pos c]
      unfold PySem.W.notFirst
      rw [h5]
      simp
theorem od_eqY {cs : List Addr} (O : Ocs X.K cs) (hC : C ∈ cs) (hs : PySem.W.findIn X.K (.ref C) "__eq__" = some (some (.ref f))) (hf : PySem.W.isFn X.K (.ref f) = true)
    (F : FnD X.prog X.w X.K X.mg X.base k f fd ps sem) (hn : ps.length = 2) (hgu : X.A.guards = some []) (hb : Binds X.K fd ps []) (hr : Room k X.A) (hx : Passes (L2.CX X.prog X.w) X E) : OpD X E (compareOp .Eq) (eqAn cs C false sem) := by
  refine ⟨_, op_eqY hs hf F hgu hb hr hx, fun i s F H x y a b Q W va vb q => ?_⟩
  obtain ⟨h, q⟩ := ok_if q
  obtain ⟨e1, e2⟩ := Bool.and_eq_true_iff.mp h
  obtain ⟨p, dx, fs, rfl, h1, r1⟩ := isObj_of W.fh e1 va
  obtain ⟨t, h2, h3, r2⟩ := nf_of O hC W.fh vb e2
  refine ⟨p, dx, fs, t, rfl, h1, h2, h3, i, F, s, [a, b], W, .cons r1 (.cons r2 .nil), hn.symm, ok_bnd q fun a s' v F' H' x m r q' => ?_⟩
  cases a with
  | new l => exact q'.elim
  | val d =>
    cases d <;> first | exact q'.elim | skip
    rename_i c
    exact ⟨c, r, q' _ F' H' (.refl x.fh) m (by rw [Bool.false_xor]; rfl)⟩
theorem od_neY {cs : List Addr} (O : Ocs X.K cs) (hC : C ∈ cs) (hs : PySem.W.findIn X.K (.ref C) "__eq__" = some (some (.ref f))) (hf : PySem.W.isFn X.K (.ref f) = true) (hne : PySem.W.findIn X.K (.ref C) "__ne__" = some (some (.builtin "object.__ne__"))) (hm : PySem.W.mroIn X.K C (.type "object") = some true)
    (F : FnD X.prog X.w X.K X.mg X.base k f fd ps sem) (hn : ps.length = 2) (hgu : X.A.guards = some []) (hb : Binds X.K fd ps []) (hr : Room (k + 1) X.A) (hx : Passes (L2.CX X.prog X.w) X E) : OpD X E (compareOp .NotEq) (eqAn cs C true sem) := by
  refine ⟨_, op_neY hs hf hne hm F hgu hb hr hx, fun i s F H x y a b Q W va vb q => ?_⟩
  obtain ⟨h, q⟩ := ok_if q
  obtain ⟨e1, e2⟩ := Bool.and_eq_true_iff.mp h
  obtain ⟨p, dx, fs, rfl, h1, r1⟩ := isObj_of W.fh e1 va
  obtain ⟨t, h2, h3, r2⟩ := nf_of O hC W.fh vb e2
  refine ⟨p, dx, fs, t, rfl, h1, h2, h3, i, F, s, [a, b], W, .cons r1 (.cons r2 .nil), hn.symm, ok_bnd q fun a s' v F' H' x m r q' => ?_⟩
  cases a with
  | new l => exact q'.elim
  | val d =>
    cases d <;> first | exact q'.elim | skip
    rename_i c
    exact ⟨c, r, q' _ F' H' (.refl x.fh) m (by rw [Bool.true_xor]; rfl)⟩
theorem od_eqFY {kb : Nat} {cs : List Addr} (O : Ocs X.K cs) (T : Sd X.prog X.w X.K X.mg X.base C "__eq__" k ps sem) (hgu : X.A.guards = some []) (hr : Room kb X.A) (px : Passes (L2.CX X.prog X.w) X E) (hC : C ∈ cs) (hn : ps.length = 2 := by rfl) (hk : k ≤ kb := by decide) : OpD X E (compareOp .Eq) (eqAn cs C false sem) :=
  let ⟨_, _, F, hs, hf, hb⟩ := T
  od_eqY O hC hs hf F hn hgu hb (hr.mono hk) px
theorem od_neFY {kb : Nat} {cs : List Addr} (O : Ocs X.K cs) (T : Sd X.prog X.w X.K X.mg X.base C "__eq__" k ps sem) (hne : PySem.W.findIn X.K (.ref C) "__ne__" = some (some (.builtin "object.__ne__"))) (hm : PySem.W.mroIn X.K C (.type "object") = some true) (hgu : X.A.guards = some []) (hr : Room kb X.A) (px : Passes (L2.CX X.prog X.w) X E)
    (hC : C ∈ cs) (hn : ps.length = 2 := by rfl) (hk : k + 1 ≤ kb := by decide) : OpD X E (compareOp .NotEq) (eqAn cs C true sem) :=
  let ⟨_, _, F, hs, hf, hb⟩ := T
  od_neY O hC hs hf hne hm F hn hgu hb (hr.mono hk) px
end
end DL
namespace DL
open PySem PySem.Spec PyProof.Rows L2 LwE LamX Lw
end DL
namespace DL
open PySem PySem.Spec PyProof.Rows L2 LwE LamX Lw
section
variable {K : PySem.W.Frag} {i : Ix} {F0 H0 F H H' : Hp} {σ : L2.St} {δ : List Sl} {s : MS}
theorem nst_look {δ : List Sl} {k : Nat} {ls : List (List Dt)} {j : Nat} {x : Sl} (hx : ∀ ms, x ≠ .nst ms) (e : (δ.set k (.nst ls))[j]? = some x) : j ≠ k ∧ δ[j]? = some x := by
  by_cases hj : j = k
  · subst hj
    by_cases hk : j < δ.length
    · rw [List.getElem?_set_self hk] at e
      exact absurd (Option.some.inj e).symm (hx _)
    · rw [List.getElem?_eq_none (by simpa using hk)] at e
      cases e
  · rw [List.getElem?_set_ne (fun z => hj z.symm)] at e
    exact ⟨hj, e⟩
theorem Sinv.nest0 (S : Sinv K i F0 H0 F H σ δ s) {k : Nat} (hk : δ[k]? = some (.own [])) (h1 : ∀ (j : Nat) (ms : List (List Dt)), δ[j]? ≠ some (.nst ms)) : Sinv K i F0 H0 F H σ (δ.set k (.nst [])) s := by
  obtain ⟨p, vs, e1, g1, g2, g3, g4, g5⟩ := S.own k [] hk
  have g5 : vs = [] := g5
  subst g5
  have hkl : k < δ.length := (List.getElem?_eq_some_iff.mp hk).1
  refine ⟨S.base, S.wf, by rw [List.length_set]; exact S.len, fun j d e => S.slot j d (nst_look (by intro ms z; cases z) e).2, fun j m e => S.own j m (nst_look (by intro ms z; cases z) e).2, fun j C ns m e => S.ins j C ns m (nst_look (by intro ms z; cases z) e).2, fun j j' m m' q hne e e' hq => S.sep j j' m m' q hne (nst_look (by intro ms z; cases z) e).2 (nst_look (by intro ms z; cases z) e').2 hq, fun j ls e => ?_⟩
  by_cases hj : j = k
  · subst hj
    rw [List.getElem?_set_self hkl] at e
    cases e
    refine ⟨p, [], e1, ⟨g1, by simp, rfl, fun b hb => by rw [List.mem_singleton.mp hb]; exact ⟨g2, g3, g4⟩, fun n q l e => by cases e⟩, fun j' m q ej eq hq => ?_, fun j' ms ej => ?_⟩
    · obtain ⟨hj', ej⟩ := nst_look (by intro ms z; cases z) ej
      rw [List.mem_singleton.mp hq] at eq
      exact S.sep j' j m [] p hj' ej hk eq e1
    · by_cases z : j' = j
      · exact z
      · rw [List.getElem?_set_ne (fun w => z w.symm)] at ej
        exact absurd ej (h1 j' ms)
  · rw [List.getElem?_set_ne (fun z => hj z.symm)] at e
    exact absurd e (h1 j ls)
theorem MR.off {p : Addr} {as : List Addr} (m : MR i s H) (hs : ∀ b o, H b = some o → b ∉ p :: as → H' b = some o) (hg : ∀ b ∈ p :: as, ¬ G i b ∧ ∃ vs, H b = some (.lst vs)) : MR i s H' := by
  have n1 : ∀ {b}, G i b → b ∉ p :: as := fun gb h => (hg _ h).1 gb
  refine ⟨hs _ _ m.hm (n1 (.inl rfl)), hs _ _ m.hc (n1 (.inr (.inr (.inl rfl)))), hs _ _ m.hg (n1 (.inr (.inl rfl))), m.cc, m.gl, m.ne, m.n0, fun q hq => ?_, m.tq⟩
  obtain ⟨ps, z1, z2, z3⟩ := m.tb q hq
  refine ⟨ps, hs _ _ z1 (n1 (.inr (.inr (.inr ⟨q, hq, rfl⟩)))), z2, fun pos cv hc => ?_⟩
  obtain ⟨c, y1, y2⟩ := z3 pos cv hc
  refine ⟨c, y1, hs _ _ y2 fun h => ?_⟩
  obtain ⟨vs, w⟩ := (hg _ h).2
  rw [w] at y2
  cases y2
theorem Sinv.renest (S : Sinv K i F0 H0 F H σ δ s) {k : Nat} {ls ls' : List (List Dt)} {p : Addr} {as as' : List Addr} (hk : δ[k]? = some (.nst ls)) (hσ : σ[k]? = some (some (V.ref p))) (A : NestAt K i H0 F H p as ls) (O : NstOwn σ δ p as) (one : ∀ (j : Nat) (ms : List (List Dt)), δ[j]? = some (Sl.nst ms) → j = k)
    (A' : NestAt K i H0 F H' p as' ls') (hs : ∀ b o, H b = some o → b ∉ p :: as → H' b = some o) (O' : NstOwn σ δ p as') (al : ∀ b ∈ p :: as, H' b ≠ none) : Sinv K i F0 H0 F H' σ (δ.set k (.nst ls')) s := by
  have hkl : k < δ.length := (List.getElem?_eq_some_iff.mp hk).1
  have fo : ∀ {b o}, F b = some o → b ∉ p :: as := fun e h => by rw [(A.fr _ h).1] at e; cases e
  have fh : Same F H' := fun b o e => hs b o (S.wf.fh b o e) (fo e)
  refine ⟨⟨S.base.ff, fh, fun b o e g => hs b o (S.base.sb b o e g) (fun h => by rw [(A.fr b h).2.1] at e; cases e), S.base.nw, fun b e => ?_⟩, ⟨fh, S.wf.gf, S.wf.mr.off hs fun b hb => ⟨(A.fr b hb).2.2, A.lst b hb⟩⟩, by rw [List.length_set]; exact S.len, fun j d e => S.slot j d (nst_look (by intro ms z; cases z) e).2, fun j m e => ?_, fun j C ns m e => ?_, fun j j' m m' q hne e e' hq => S.sep j j' m m' q hne (nst_look (by intro ms z; cases z) e).2 (nst_look (by intro ms z; cases z) e').2 hq, fun j ms e => ?_⟩
  · by_cases hb : b ∈ p :: as
    · exact al b hb
    · have h := S.base.al b e
      cases z : H b with
      | none => exact absurd z h
      | some o => rw [hs b o z hb]; exact fun w => nomatch w
  · obtain ⟨_, e⟩ := nst_look (by intro ms z; cases z) e
    obtain ⟨q, us, g1, g2, g3⟩ := S.own j m e
    exact ⟨q, us, g1, hs _ _ g2 (O j m q e g1), g3⟩
  · obtain ⟨_, e⟩ := nst_look (by intro ms z; cases z) e
    obtain ⟨q, dx, gs, g1, g2, g3⟩ := S.ins j C ns m e
    refine ⟨q, dx, gs, g1, hs _ _ g2 fun h => ?_, g3⟩
    obtain ⟨vs, w⟩ := A.lst q h
    rw [w] at g2
    cases g2
  · by_cases hj : j = k
    · subst hj
      rw [List.getElem?_set_self hkl] at e
      cases e
      refine ⟨p, as', hσ, A', fun j' m q ej eq hq => O' j' m q (nst_look (by intro ms z; cases z) ej).2 eq hq, fun j' ms' ej => ?_⟩
      by_cases z : j' = j
      · exact z
      · rw [List.getElem?_set_ne (fun w => z w.symm)] at ej
        exact one j' ms' ej
    · rw [List.getElem?_set_ne (fun z => hj z.symm)] at e
      exact absurd (one j ms e) hj
theorem NestAt.app {p q : Addr} {as : List Addr} {ls : List (List Dt)} {l : List Dt} {vs : List V} (A : NestAt K i H0 F H p as ls) (hq : q ∉ p :: as) (h1 : H q = some (.lst vs)) (h2 : F q = none) (h3 : H0 q = none) (h4 : ¬ G i q) (h5 : Reps K i F l vs) : NestAt K i H0 F (upd H p (.lst (as.map V.ref ++ [V.ref q]))) p (as ++ [q]) (ls ++ [l]) := by
  have np : q ≠ p := fun z => hq (by rw [z]; exact List.mem_cons_self ..)
  have na : q ∉ as := fun z => hq (List.mem_cons_of_mem _ z)
  have pa : p ∉ as := (List.nodup_cons.mp A.nd).1
  refine ⟨by rw [upd_same, List.map_append]; rfl, List.nodup_cons.mpr ⟨fun h => ?_, ?_⟩, by rw [List.length_append, List.length_append, A.len]; rfl, fun b hb => ?_, fun j b m e1 e2 => ?_⟩
  · rcases List.mem_append.mp h with h | h
    · exact pa h
    · exact np (List.mem_singleton.mp h).symm
  · refine List.nodup_append.mpr ⟨(List.nodup_cons.mp A.nd).2, by simp, fun x hx y hy => ?_⟩
    rw [List.mem_singleton.mp hy]
    exact fun z => na (z ▸ hx)
  · rcases List.mem_cons.mp hb with rfl | hb
    · exact A.fr b (List.mem_cons_self ..)
    · rcases List.mem_append.mp hb with hb | hb
      · exact A.fr b (List.mem_cons_of_mem _ hb)
      · rw [List.mem_singleton.mp hb]; exact ⟨h2, h3, h4⟩
  · by_cases hj : j < as.length
    · rw [List.getElem?_append_left hj] at e1
      rw [List.getElem?_append_left (by rw [← A.len]; exact hj)] at e2
      obtain ⟨us, g1, g2⟩ := A.at_ j b m e1 e2
      exact ⟨us, by rw [upd_ne fun (z : b = p) => pa (z ▸ List.mem_of_getElem? e1)]; exact g1, g2⟩
    · have hl := (List.getElem?_eq_some_iff.mp e1).1
      rw [List.length_append, List.length_singleton] at hl
      have ej : j = as.length := by omega
      subst ej
      rw [List.getElem?_append_right (Nat.le_refl _), Nat.sub_self] at e1
      rw [List.getElem?_append_right (by rw [A.len]; exact Nat.le_refl _), A.len, Nat.sub_self] at e2
      cases e1
      cases e2
      exact ⟨vs, by rw [upd_ne np]; exact h1, h5⟩
theorem NestAt.put {p q : Addr} {as : List Addr} {ls : List (List Dt)} {n : Nat} {l' : List Dt} {vs' : List V} (A : NestAt K i H0 F H p as ls) (hq : as[n]? = some q) (h5 : Reps K i F l' vs') : NestAt K i H0 F (upd H q (.lst vs')) p as (ls.set n l') := by
  have qa : q ∈ as := List.mem_of_getElem? hq
  have pa : p ∉ as := (List.nodup_cons.mp A.nd).1
  have nl : n < ls.length := by rw [← A.len]; exact (List.getElem?_eq_some_iff.mp hq).1
  refine ⟨by rw [upd_ne fun (z : p = q) => pa (z ▸ qa)]; exact A.hp, A.nd, by rw [List.length_set]; exact A.len, A.fr, fun j b m e1 e2 => ?_⟩
  by_cases hj : j = n
  · subst hj
    rw [hq] at e1
    cases e1
    rw [List.getElem?_set_self nl] at e2
    cases e2
    exact ⟨vs', upd_same, h5⟩
  · rw [List.getElem?_set_ne (fun z => hj z.symm)] at e2
    obtain ⟨us, g1, g2⟩ := A.at_ j b m e1 e2
    refine ⟨us, ?_, g2⟩
    rw [upd_ne fun (z : b = q) => ?_]
    · exact g1
    · subst z
      obtain ⟨l1, w1⟩ := List.getElem?_eq_some_iff.mp e1
      obtain ⟨l2, w2⟩ := List.getElem?_eq_some_iff.mp hq
      have pw := List.pairwise_iff_getElem.mp (List.nodup_cons.mp A.nd).2
      rcases Nat.lt_or_gt_of_ne hj with z | z
      · exact pw j n l1 l2 z (by rw [w1, w2])
      · exact pw n j l2 l1 z (by rw [w1, w2])
theorem refs_inj {as bs : List Addr} (h : as.map V.ref = bs.map V.ref) : as = bs := by
  have := congrArg (List.map fun v => match v with | V.ref q => q | _ => 0) h
  simpa [List.map_map, Function.comp_def] using this
end
def gNest (k : Nat) (g : List Sl → DL.M Fl) : List Sl → DL.M Fl := fun δ => DL.M.bnd (g δ) fun
  | .nx δ' => (match δ'[k]? with
    | some (.own []) => if (δ'.all fun x => match x with | .nst _ => false | _ => true) = true then M.ret (.nx (δ'.set k (.nst []))) else M.no
    | _ => M.no)
  | _ => M.no
def gApp2 (k : Nat) (f : List Sl → DL.M R) : List Sl → DL.M Fl := fun δ => match δ[k]? with
  | some (.nst ls) => DL.M.bnd (f δ) fun
    | .new l => if ls.length < 100000 then M.ret (.nx (δ.set k (.nst (ls ++ [l])))) else M.no
    | _ => M.no
  | _ => M.no
def gAppI (k : Nat) (fi : List Sl → DL.M Dt) (f : List Sl → DL.M R) : List Sl → DL.M Fl := fun δ => match δ[k]? with
  | some (.nst ls) => DL.M.bnd (fi δ) fun
    | .int j => (match ixN ls.length j with
      | some n => DL.M.bnd (f δ) fun r => (match ls[n]? with
        | some l => if l.length < 100000 then M.ret (.nx (δ.set k (.nst (ls.set n (l ++ [r.d]))))) else M.no
        | none => M.no)
      | none => M.no)
    | _ => M.no
  | _ => M.no
def vVarN (k : Nat) : List Sl → DL.M Dt := fun δ => match δ[k]? with
  | some (.val d) => M.ret d
  | some (.own l) => M.ret (.lst l)
  | some (.nst ls) => M.ret (.lst (ls.map fun _ => .opq))
  | _ => M.no
section
variable {X : Cx} {E : XK} {e a : Expr} {st : Stmt} {pos : Pos}
theorem reps_opq {K : PySem.W.Frag} {i : Ix} {F : Hp} : ∀ (ls : List (List Dt)) (vs : List V), vs.length = ls.length → Reps K i F (ls.map fun _ => .opq) vs
  | [], [], _ => rfl
  | [], _ :: _, h => by cases h
  | _ :: _, [], h => by cases h
  | _ :: ls, v :: vs, h => ⟨v, vs, rfl, trivial, reps_opq ls vs (by simpa using h)⟩
theorem dv_varN (k : Nat) {x : Str} (hN : X.N[k]? = some x := by rfl) (hv : Vis X.env.scope x := by first | exact Or.inl rfl | exact Or.inr (Or.inl rfl) | exact Or.inr (Or.inr rfl)) (hd : (x == ("__debug__" : Str)) = false := by decide)
    (hcd : (x == ("__classdict__" : Str)) = false := by decide) : DV X E (.Name x pos) (vVarN k) := by
  refine ⟨_, pe_var hN hv hd hcd, fun i F0 H0 F H σ δ s Q S q => ?_⟩
  unfold vVarN at q
  cases h : δ[k]? with
  | none => rw [h] at q; exact q.elim
  | some z =>
    rw [h] at q
    cases z with
    | val d =>
      obtain ⟨v, h1, h2⟩ := S.slot k d h
      exact ⟨v, h1, q v F H (.refl S.wf.fh) S.wf.mr (.inl h2)⟩
    | non => exact q.elim
    | ins C ns l => exact q.elim
    | own l =>
      obtain ⟨p, vs, h1, h2, h3, h4, h5, h6⟩ := S.own k l h
      exact ⟨_, h1, q _ F H (.refl S.wf.fh) S.wf.mr (.inr ⟨p, vs, l, rfl, rfl, h2, h5, h6⟩)⟩
    | nst ls =>
      obtain ⟨p, as, h1, A, _⟩ := S.nst k ls h
      exact ⟨_, h1, q _ F H (.refl S.wf.fh) S.wf.mr (.inr ⟨p, _, _, rfl, rfl, A.hp, (A.fr p (List.mem_cons_self ..)).2.2, reps_opq ls _ (by rw [List.length_map]; exact A.len)⟩)⟩
theorem ds_nest (k : Nat) {g : List Sl → DL.M Fl} (h : DS X E st g) : DS X E st (gNest k g) := by
  obtain ⟨t, pt, jt⟩ := h
  refine ⟨t, pt, fun i F0 H0 F H σ δ s D S q => jt i F0 H0 F H σ δ s D S ?_⟩
  unfold gNest DL.M.bnd at q
  cases eg : g δ s with
  | no => rw [eg] at q; exact q.elim
  | ex a b => rw [eg] at q; exact q
  | ok f s' =>
    rw [eg] at q
    cases f with
    | nx δ' =>
      intro σ' F' H' S'
      cases hk : δ'[k]? with
      | none => simp only [hk] at q; exact q.elim
      | some z =>
        simp only [hk] at q
        cases z with
        | val d => exact q.elim
        | non => exact q.elim
        | ins C ns l => exact q.elim
        | nst ls => exact q.elim
        | own l =>
          cases l with
          | cons x l => exact q.elim
          | nil =>
            obtain ⟨h1, q⟩ := oks_if q
            refine q σ' F' H' (S'.nest0 hk fun j ms ej => ?_)
            rw [List.all_eq_true] at h1
            have := h1 _ (List.mem_of_getElem? ej)
            cases this
    | bk δ' => exact q.elim
    | ct δ' => exact q.elim
    | ret r => exact q.elim
theorem ds_app2 (k : Nat) {f : List Sl → DL.M R} (h : ∀ t, PE X e t → PS X st (tDrop (tBM X.K "list" rAppend (tVar k) (tCons t tNil)))) (he : DE X E e f) : DS X E st (gApp2 k f) := by
  obtain ⟨t, pt, jt⟩ := he
  refine ⟨_, h t pt, fun i F0 H0 F H σ δ s D S q => ?_⟩
  unfold gApp2 at q
  cases hk : δ[k]? with
  | none => rw [hk] at q; exact q.elim
  | some z =>
    rw [hk] at q
    cases z with
    | val d => exact q.elim
    | non => exact q.elim
    | ins C ns l => exact q.elim
    | own l => exact q.elim
    | nst ls =>
      obtain ⟨p, as, h1, A, O, one⟩ := S.nst k ls hk
      refine ⟨_, h1, .inl ⟨rfl, _, SqL.of A.hp⟩, jt.useS S q fun r s1 v F1 H1 x1 S1 r1 q1 => ?_⟩
      cases r with
      | val d => exact q1.elim
      | new l =>
        obtain ⟨hl, q1⟩ := oks_if q1
        obtain ⟨q, vs, rfl, g1, g2, g3, g4⟩ := r1
        obtain ⟨p', as', e1, A', O', one'⟩ := S1.nst k ls hk
        rw [h1] at e1
        cases e1
        have hq : q ∉ p :: as' := fun hm => Foot.back S x1.sb ⟨k, ls, p, as', hk, h1, A', hm⟩ g3
        have h0 : H0 q = none := by
          cases z : H0 q with
          | none => rfl
          | some o => exact absurd g3 (S.base.al q (by rw [z]; exact fun w => nomatch w))
        have hg : ¬ G i q := fun gq => S.wf.mr.there gq g3
        refine ⟨p, _, V.ref q, rfl, rfl, A'.hp, lt_line (by rw [List.length_map, A'.len]; exact hl), q1 _ F1 _ (S1.renest hk h1 A' O' one' (A'.app hq g1 g2 h0 hg g4) (fun b o e hb => ?_) (fun j m b ej eb hb => ?_) fun b hb => ?_)⟩
        · rw [upd_ne fun (z : b = p) => hb (by rw [z]; exact List.mem_cons_self ..)]
          exact e
        · rcases List.mem_cons.mp hb with rfl | hb
          · exact O' j m b ej eb (List.mem_cons_self ..)
          · rcases List.mem_append.mp hb with hb | hb
            · exact O' j m b ej eb (List.mem_cons_of_mem _ hb)
            · rw [List.mem_singleton.mp hb] at eb
              obtain ⟨b', us, w1, w2, _⟩ := S.own j m ej
              rw [eb] at w1
              cases w1
              rw [g3] at w2
              cases w2
        · by_cases z : b = p
          · rw [z, upd_same]; exact fun w => nomatch w
          · rw [upd_ne z]
            obtain ⟨us, w⟩ := A'.lst b hb
            rw [w]
            exact fun w => nomatch w
theorem ds_appI (k : Nat) {fi : List Sl → DL.M Dt} {f : List Sl → DL.M R} (h : ∀ u t, PE X a u → PE X e t → PS X st (tDrop (tBM X.K "list" rAppend (tOp (rIxL X.K) (tVar k) u) (tCons t tNil)))) (hi : DV X E a fi) (he : DE X E e f) : DS X E st (gAppI k fi f) := by
  obtain ⟨u, pu, ju⟩ := hi
  obtain ⟨t, pt, jt⟩ := he
  refine ⟨_, h u t pu pt, fun i F0 H0 F H σ δ s D S q => ?_⟩
  unfold gAppI at q
  cases hk : δ[k]? with
  | none => rw [hk] at q; exact q.elim
  | some z =>
    rw [hk] at q
    cases z with
    | val d => exact q.elim
    | non => exact q.elim
    | ins C ns l => exact q.elim
    | own l => exact q.elim
    | nst ls =>
      obtain ⟨p, as0, h1, A0, _⟩ := S.nst k ls hk
      refine ⟨_, h1, ju.useS S q fun d s1 v F1 H1 x1 S1 r1 q1 => ?_⟩
      cases d <;> first | exact q1.elim | skip
      rename_i j
      have r1 : v = .int j := View.int r1
      subst r1
      obtain ⟨p1, as, e1, A, O, one⟩ := S1.nst k ls hk
      rw [h1] at e1
      cases e1
      cases hx : ixN ls.length j with
      | none => simp only [hx] at q1; exact q1.elim
      | some n =>
        simp only [hx] at q1
        have hn : n < ls.length := (ixN_seq hx).2.1
        have hn' : n < as.length := by rw [A.len]; exact hn
        have hq : as[n]? = some as[n] := List.getElem?_eq_getElem hn'
        have hat : atI (as.map V.ref) j = some (V.ref as[n]) := by
          unfold atI
          rw [List.length_map, A.len, hx]
          show (as.map V.ref)[n]? = _
          rw [List.getElem?_map, hq]
          rfl
        obtain ⟨us0, w0, _⟩ := A.at_ n as[n] ls[n] hq (List.getElem?_eq_getElem hn)
        refine ⟨p, _, j, _, rfl, rfl, SqL.of A.hp, hat, .inl ⟨rfl, us0, SqL.of w0⟩, jt.useSR S1 q1 fun r s2 w F2 H2 x2 S2 r2 q2 => ?_⟩
        obtain ⟨p2, as2, e2, A2, O2, one2⟩ := S2.nst k ls hk
        rw [h1] at e2
        cases e2
        have hs := x2.sb p _ A.hp (A.fr p (List.mem_cons_self ..)).2.2
        rw [A2.hp] at hs
        have ea : as2 = as := refs_inj (HO.lst.inj (Option.some.inj hs))
        subst ea
        have hln : ls[n]? = some ls[n] := List.getElem?_eq_getElem hn
        simp only [hln] at q2
        obtain ⟨hl, q2⟩ := oks_if q2
        obtain ⟨us, w1, w2⟩ := A2.at_ n as2[n] ls[n] hq hln
        have qa : as2[n] ∈ as2 := List.mem_of_getElem? hq
        refine ⟨as2[n], us, w, rfl, rfl, w1, lt_line (by rw [w2.len]; exact hl), q2 _ F2 _ (S2.renest hk h1 A2 O2 one2 (A2.put hq (w2.append (.cons r2 .nil))) (fun b o e hb => ?_) O2 fun b hb => ?_)⟩
        · rw [upd_ne fun (z : b = as2[n]) => hb (by rw [z]; exact List.mem_cons_of_mem _ qa)]
          exact e
        · by_cases z : b = as2[n]
          · rw [z, upd_same]; exact fun w => nomatch w
          · rw [upd_ne z]
            obtain ⟨us', w'⟩ := A2.lst b hb
            rw [w']
            exact fun w => nomatch w
end
end DL
namespace GQ
open PySem PySem.SeqAt
open AutoSeq1 (wpAny_loadPart')
open MeetsSeq MeetsSeq2 MeetsSeq3 SeqRoads2
section
variable {prog : Program} {w : World} {A : Around} {R : Result → Shared → Prop}
theorem tup_ne_walk (l b : Addr) (us vs : Array Value) (n n2 : Nat) (dd dd2 : Option Addr) (sl sl2 : Array (Option Value)) (sz : us.size = vs.size) (J : Nat → Shared → Prop)
    (go : ∀ m (m1 : m < us.size) (m2 : m < vs.size) s, J m s → wpAny (model prog w) A.in1 (eqBool us[m] vs[m]) (fun r s' => r = true ∧ J (m + 1) s') (fun e s' => R (.error e) s') s)
    (stop : ∀ s, J us.size s → R (.ok (.ret (.bool false))) s) {s : Shared} (ol : s.heap.get? l = some { cls := .type "tuple", dict := dd, data := .seq us n, slots := sl }) (ob : s.heap.get? b = some { cls := .type "tuple", dict := dd2, data := .seq vs n2, slots := sl2 }) (start : J 0 s) :
    wpAny (model prog w) A.in1 (Builtin.«tuple.__ne__» ⟨[.ref l, .ref b], []⟩) (FinOf prog w A R) (fun e s' => R (.error e) s') s := by
  have tt := AutoSeq1.sub_tuple_tuple
  have zl : (us.toList.zip vs.toList).length = us.size := by simp [sz]
  have keep := start
  obtain ⟨hp, g, d, tk, os⟩ := s
  wp_walk using wpAny_loadPart' ol, wpAny_loadPart' ob, wpAny_forIn_list _ (fun left acc now => acc.1 = none ∧ ∃ m, left = (us.toList.zip vs.toList).drop m ∧ m ≤ us.size ∧ J m now) _
  case turn =>
    intro pr left acc now hyp
    obtain ⟨p1, p2⟩ := pr
    obtain ⟨ha, m, hl, hm, hj⟩ := hyp
    have lt : m < (us.toList.zip vs.toList).length := Classical.byContradiction fun c => by
      rw [List.drop_of_length_le (Nat.le_of_not_lt c)] at hl
      cases hl
    have m1 : m < us.size := zl ▸ lt
    have m2 : m < vs.size := sz ▸ m1
    rw [List.drop_eq_getElem_cons lt] at hl
    have hpair := (List.cons.inj hl).1
    have hleft := (List.cons.inj hl).2
    have q1 : p1 = us[m] := by have := congrArg Prod.fst hpair; simpa using this
    have q2 : p2 = vs[m] := by have := congrArg Prod.snd hpair; simpa using this
    subst q1 q2
    refine wpAny_bind (wpAny_mono (go m m1 m2 now hj) (fun r later both => ?_) fun _ _ z => z)
    obtain ⟨is, hn⟩ := both
    subst is
    wp_walk
    exact ⟨rfl, m + 1, hleft, m1, hn⟩
  case fin =>
    intro acc now hyp
    obtain ⟨a1, a2⟩ := acc
    obtain ⟨ha, m, hl, hm, hj⟩ := hyp
    simp only at ha
    subst ha
    have ge : us.size ≤ m := Classical.byContradiction fun c => by
      have lt : m < (us.toList.zip vs.toList).length := by rw [zl]; omega
      rw [List.drop_eq_getElem_cons lt] at hl
      cases hl
    have em : m = us.size := by omega
    have last : R (.ok (.ret (.bool false))) now := stop now (em ▸ hj)
    wp_walk
    simpa [Builtin.Tuple.tupleCompareSizes, sz] using last
  case h =>
    exact ⟨rfl, 0, rfl, Nat.zero_le _, keep⟩
end
section
variable {prog : Program} {w : World} {A : Around} {E : Value → Shared → Prop} {s : Shared}
theorem rc_ne_tups {l b : Addr} {us vs : Array Value} {Q : Value → Shared → Prop} (sz : us.size = vs.size) (hu : A.units < cLine) (J : Nat → Shared → Prop) (hl : s.heap.IsTuple l us) (hb : s.heap.IsTuple b vs)
    (go : ∀ m (m1 : m < us.size) (m2 : m < vs.size) s, J m s → wpAny (model prog w) A.in1 (eqBool us[m] vs[m]) (fun r s' => r = true ∧ J (m + 1) s') E s)
    (stop : ∀ s, J us.size s → Q (.bool false) s) (start : J 0 s) : wpAny (model prog w) A (richCompare .NotEq (.ref l) (.ref b)) Q E s := by
  obtain ⟨⟨cl, dd, da, sl⟩, o1, c1, n, d1⟩ := id hl
  obtain ⟨⟨cl2, dd2, da2, sl2⟩, o2, c2, n2, d2⟩ := id hb
  simp only at c1 d1 c2 d2
  subst c1 d1 c2 d2
  refine wpAny_richCompare_same_room (op := .NotEq) ⟨_, o1, rfl⟩ ⟨_, o2, rfl⟩ F.slot_tuple_ne (call_here F.slot_tuple_ne ⟨_, o1, rfl⟩ F.entry_tuple_ne (F.args_tuple_ne_2 _ _) ?_) hu
  exact tup_ne_walk (R := wants (fun v s' => v ≠ .notImplemented ∧ Q v s') E) l b us vs n n2 dd dd2 sl sl2 sz J go (fun s' q => ⟨(fun x => nomatch x), stop s' q⟩) o1 o2 start
theorem eqB_refs {l b : Addr} {Q : Bool → Shared → Prop} (hs : l = b → Q true s) (h : wpAny (model prog w) A (richCompare .Eq (.ref l) (.ref b)) (fun v s' => ∃ r, v = .bool r ∧ Q r s') E s) : wpAny (model prog w) A (eqBool (.ref l) (.ref b)) Q E s := by
  by_cases e : l = b
  · subst e
    unfold eqBool
    refine wpAny_holding ?_
    refine wpAny_ite_split (fun _ => ?_) (fun n => absurd (beq_self_eq_true _) n)
    first | exact hs rfl | exact (wpAny_pure (M := model prog w) (E := E) (hs rfl))
  · exact eqBool_refG e h
end
end GQ
namespace DL
open PySem PySem.Spec PyProof.Rows L2 LwE LamX Lw GQ
section
variable {X : Cx} {pins : List (Addr × Obj)} {σ : L2.St} {H : Hp} {s : Shared} {CX : CXT} {k : Nat} {f C : Addr} {fd : FuncData} {ps : List Str} {sp : Sp} {E : XK}
def rNePr (K : PySem.W.Frag) (C : Addr) (sp : Sp) (E : XK) : R2 := fun x y H Q => ∃ (p q a b dx dy : Addr) (fs gs : List (Str × V)) (z : Int), x = .ref p ∧ y = .ref q ∧ SqT K H p [.ref a, .int z] ∧ SqT K H q [.ref b, .int z] ∧ H a = some (.ins C dx fs) ∧ H b = some (.ins C dy gs) ∧
  sp [.ref a, .ref b] H (fun v H' => v = .bl true ∧ Q (.bl false) H') E ∧ Q (.bl false) H
theorem op_nePr (hs : PySem.W.findIn X.K (.ref C) "__eq__" = some (some (.ref f))) (hf : PySem.W.isFn X.K (.ref f) = true)
    (F : FnX X.prog X.w X.K X.mg X.base CX k f fd ps sp) (hgu : X.A.guards = some []) (hb : Binds X.K fd ps []) (hr : Room (k + 1) X.A) (hx : Passes CX X E) : OpR X (compareOp .NotEq) (rNePr X.K C sp E) := by
  intro pins s σ H x y v u Q I rx ry h
  obtain ⟨p, q, a, b, dx, dy, fs, gs, z, rfl, rfl, tp, tq, ea, eb, call, same⟩ := h
  obtain rfl : v = Value.ref p := rx
  obtain rfl : u = Value.ref q := ry
  obtain ⟨i1, v1, t1, _⟩ := I.tuple tp
  obtain ⟨i2, v2, t2, _⟩ := I.tuple tq
  obtain ⟨u1, u2, rfl, r1, r2⟩ := v1.two
  obtain ⟨w1, w2, rfl, r3, r4⟩ := v2.two
  obtain rfl : u1 = Value.ref a := r1
  obtain ⟨k1, rfl⟩ := r2
  obtain rfl : w1 = Value.ref b := r3
  obtain ⟨k2, rfl⟩ := r4
  obtain ⟨ox, od, J⟩ := inst_of I ea
  obtain ⟨oy, oe, J'⟩ := inst_of I eb
  obtain ⟨m, hF⟩ := I.fr
  refine PySem.W.cmp_ofNotEq (rc_ne_tups (us := [.ref a, .int z k1].toArray) (vs := [.ref b, .int z k2].toArray) rfl hr.units0 (fun n s' => match n with
    | 0 => s' = s
    | _ => EP X pins σ Q (.bool false) s') t1 t2 (fun n m1 m2 s' hj => ?_) (fun s' hj => hj) rfl)
  match n, m1, m2, hj with
  | 0, _, _, hj =>
    have hj : s' = s := hj
    subst hj
    refine eqB_refs (fun _ => ⟨rfl, .bl false, H, I, rfl, same⟩) ?_
    refine PySem.W.cmp_K (op := .Eq) (tb := .ref C) hr.in1.units0 hF I.ok.mod.kin J J'.type (by unfold PySem.W.notFirst; simp) hs hf (wpAny_mono (run_belowX (vs := [.ref a, .ref b]) F (by exact hgu) hr.in1 I.env0.in1 hb hx I (.cons rfl (.cons rfl .nil)) call) (fun w s2 zz => ?_) fun _ _ x => x)
    obtain ⟨z', H', I', rz, rfl, qz⟩ := zz
    obtain rfl : w = Value.bool true := rz
    exact ⟨true, rfl, rfl, .bl false, H', I', rfl, qz⟩
  | 1, _, _, hj =>
    exact (SeqAt.EqAt.int_int (A := X.A.in1) (s := s') z k1 z k2) X.prog X.w _ _ ⟨by rw [beq_self_eq_true], hj⟩
  | n + 2, m1, _, _ => exact absurd m1 (by simp)
end
open Classical in
noncomputable def nePr0 (C : Addr) (sem : List Dt → M R) (o1 o2 : Dt) (z1 z2 : Int) : M R := fun s => if both C o1 o2 = true ∧ z1 = z2 ∧ sem [o1, o2] s = .ok (.val (.bl true)) s then .ok (.val (.bl false)) s else .no
noncomputable def nePr (C : Addr) (sem : List Dt → M R) (a b : Dt) : M R := match a, b with
  | .tup [o1, .int z1], .tup [o2, .int z2] => nePr0 C sem o1 o2 z1 z2
  | _, _ => M.no
theorem nePr_ret {C : Addr} {sem : List Dt → M R} {o1 o2 : Dt} {z : Int} (h : both C o1 o2 = true) (hs : sem [o1, o2] = M.ret (.val (.bl true))) : nePr C sem (.tup [o1, .int z]) (.tup [o2, .int z]) = M.ret (.val (.bl false)) := by
  funext s
  show nePr0 C sem o1 o2 z z s = _
  unfold nePr0
  rw [if_pos ⟨h, rfl, by rw [hs]; rfl⟩]
  rfl
def prP (C : Addr) (a b : Dt) : Bool := match a, b with
  | .tup [o1, .int _], .tup [o2, .int _] => both C o1 o2
  | _, _ => false
section
variable {X : Cx} {E : XK} {k : Nat} {f C : Addr} {fd : FuncData} {ps : List Str} {sem : List Dt → M R}
theorem od_nePr (hs : PySem.W.findIn X.K (.ref C) "__eq__" = some (some (.ref f))) (hf : PySem.W.isFn X.K (.ref f) = true) (F : FnD X.prog X.w X.K X.mg X.base k f fd ps sem) (hn : ps.length = 2) (hgu : X.A.guards = some []) (hb : Binds X.K fd ps []) (hr : Room (k + 1) X.A) (hx : Passes (L2.CX X.prog X.w) X E) : OpD X E (compareOp .NotEq) (nePr C sem) := by
  refine ⟨_, op_nePr hs hf F hgu hb hr hx, fun i s F H x y a b Q W va vb q => ?_⟩
  unfold nePr at q
  split at q
  · rename_i o1 z1 o2 z2
    unfold nePr0 at q
    split at q
    · rename_i h
      obtain ⟨h1, rfl, h2⟩ := h
      obtain ⟨p, us, rfl, s1, r1⟩ := va.tup
      obtain ⟨p', vs, rfl, s2, r2⟩ := vb.tup
      obtain ⟨u1, us', rfl, k1, u2, us2, rfl, k2, k3⟩ := r1
      obtain ⟨w1, ws', rfl, l1, w2, ws2, rfl, l2, l3⟩ := r2
      have k3 : us2 = [] := k3
      have l3 : ws2 = [] := l3
      have k2 : u2 = .int z1 := k2
      have l2 : w2 = .int z1 := l2
      subst k3 l3 k2 l2
      obtain ⟨a1, dx, fs, b1, dy, gs, e1, e2, e3, e4, rr⟩ := two_of W.fh h1 (.inl k1) (.inl l1)
      subst e1 e2
      refine ⟨p, p', a1, b1, dx, dy, fs, gs, z1, rfl, rfl, sqT_same W.fh s1, sqT_same W.fh s2, e3, e4, ⟨i, F, s, [o1, o2], W, rr, hn.symm, ?_⟩, q _ F H (.refl W.fh) W.mr rfl⟩
      rw [h2]
      intro v F' H' x m rel
      exact ⟨rel, q _ F' H' x m rfl⟩
    · exact q.elim
  · exact q.elim
theorem od_nePF {kb : Nat} (T : Sd X.prog X.w X.K X.mg X.base C "__eq__" k ps sem) (hgu : X.A.guards = some []) (hr : Room kb X.A) (px : Passes (L2.CX X.prog X.w) X E) (hn : ps.length = 2 := by rfl) (hk : k + 1 ≤ kb := by decide) : OpD X E (compareOp .NotEq) (nePr C sem) :=
  let ⟨_, _, F, hs, hf, hb⟩ := T
  od_nePr hs hf F hn hgu hb (hr.mono hk) px
end
end DL
namespace Dg
open PySem PySem.Spec PyProof.Rows L2 LwE LamX Lw DL
abbrev s_Table_eq : Stmt := inClass (top 32) 1
abbrev s__law_size : Stmt := top 45
abbrev s__law_letters : Stmt := top 46
abbrev s_is_between : Stmt := top 18
abbrev s_check_size : Stmt := top 24
abbrev s_is_listing : Stmt := top 19
abbrev s_check_letters : Stmt := top 25
abbrev s_Word_init : Stmt := inClass (top 26) 0
abbrev s__law_odd : Stmt := top 50
abbrev s_is_rows : Stmt := top 29
abbrev s_stands_below : Stmt := top 28
abbrev s_check_rows : Stmt := top 30
abbrev s_lengths : Stmt := top 31
abbrev s_Table_init : Stmt := inClass (top 32) 0
abbrev s_count_up_to : Stmt := top 33
abbrev s_put_in : Stmt := top 34
abbrev s_inserted : Stmt := top 36
abbrev s_grown : Stmt := top 35
abbrev s_recording : Stmt := top 38
abbrev s__law_like : Stmt := top 51
abbrev s_bumped : Stmt := top 37
abbrev s__law_is_table : Stmt := top 48
abbrev s__law_steps_right : Stmt := top 53
abbrev s__law_is_word : Stmt := top 47
abbrev s__law_places : Stmt := top 52
abbrev s_law : Stmt := top 54
theorem sc_Table_eq : FnScope ["self", "other"] ["self", "other"] (defScope s_Table_eq) := ⟨rfl, rfl, rfl, by decide +kernel, rfl, by decide +kernel, by decide +kernel⟩
theorem sc__law_size : FnScope ["m"] ["m"] (defScope s__law_size) := ⟨rfl, rfl, rfl, by decide +kernel, rfl, by decide +kernel, by decide +kernel⟩
theorem sc__law_letters : FnScope ["m", "size", "most", "low", "kind", "many", "found"] ["m", "size", "most"] (defScope s__law_letters) := ⟨rfl, rfl, rfl, by decide +kernel, rfl, by decide +kernel, by decide +kernel⟩
theorem sc_is_between : FnScope ["value", "least", "most"] ["value", "least", "most"] (defScope s_is_between) := ⟨rfl, rfl, rfl, by decide +kernel, rfl, by decide +kernel, by decide +kernel⟩
theorem sc_check_size : FnScope ["size"] ["size"] (defScope s_check_size) := ⟨rfl, rfl, rfl, by decide +kernel, rfl, by decide +kernel, by decide +kernel⟩
theorem sc_is_listing : FnScope ["value"] ["value"] (defScope s_is_listing) := ⟨rfl, rfl, rfl, by decide +kernel, rfl, by decide +kernel, by decide +kernel⟩
theorem sc_check_letters : FnScope ["size", "letters", "place", "letter"] ["size", "letters"] (defScope s_check_letters) := ⟨rfl, rfl, rfl, by decide +kernel, rfl, by decide +kernel, by decide +kernel⟩
theorem sc_Word_init : FnScope ["self", "size", "letters"] ["self", "size", "letters"] (defScope s_Word_init) := ⟨rfl, rfl, rfl, by decide +kernel, rfl, by decide +kernel, by decide +kernel⟩
theorem sc__law_odd : FnScope ["m", "size", "some"] ["m", "size"] (defScope s__law_odd) := ⟨rfl, rfl, rfl, by decide +kernel, rfl, by decide +kernel, by decide +kernel⟩
theorem sc_is_rows : FnScope ["value", "row"] ["value"] (defScope s_is_rows) := ⟨rfl, rfl, rfl, by decide +kernel, rfl, by decide +kernel, by decide +kernel⟩
theorem sc_stands_below : FnScope ["size", "row", "above", "least", "letter", "high"] ["size", "row", "above"] (defScope s_stands_below) := ⟨rfl, rfl, rfl, by decide +kernel, rfl, by decide +kernel, by decide +kernel⟩
theorem sc_check_rows : FnScope ["size", "rows", "above", "number", "row"] ["size", "rows"] (defScope s_check_rows) := ⟨rfl, rfl, rfl, by decide +kernel, rfl, by decide +kernel, by decide +kernel⟩
theorem sc_lengths : FnScope ["rows", "row"] ["rows"] (defScope s_lengths) := ⟨rfl, rfl, rfl, by decide +kernel, rfl, by decide +kernel, by decide +kernel⟩
theorem sc_Table_init : FnScope ["self", "size", "rows", "row"] ["self", "size", "rows"] (defScope s_Table_init) := ⟨rfl, rfl, rfl, by decide +kernel, rfl, by decide +kernel, by decide +kernel⟩
theorem sc_count_up_to : FnScope ["row", "letter", "held"] ["row", "letter"] (defScope s_count_up_to) := ⟨rfl, rfl, rfl, by decide +kernel, rfl, by decide +kernel, by decide +kernel⟩
theorem sc_put_in : FnScope ["rows", "letter", "number", "row", "at"] ["rows", "letter"] (defScope s_put_in) := ⟨rfl, rfl, rfl, by decide +kernel, rfl, by decide +kernel, by decide +kernel⟩
theorem sc_inserted : FnScope ["table", "letter", "rows", "number"] ["table", "letter"] (defScope s_inserted) := ⟨rfl, rfl, rfl, by decide +kernel, rfl, by decide +kernel, by decide +kernel⟩
theorem sc_grown : FnScope ["letters", "rows", "places", "place", "letter", "number"] ["letters"] (defScope s_grown) := ⟨rfl, rfl, rfl, by decide +kernel, rfl, by decide +kernel, by decide +kernel⟩
theorem sc_recording : FnScope ["word"] ["word"] (defScope s_recording) := ⟨rfl, rfl, rfl, by decide +kernel, rfl, by decide +kernel, by decide +kernel⟩
theorem sc__law_like : FnScope ["told", "due"] ["told", "due"] (defScope s__law_like) := ⟨rfl, rfl, rfl, by decide +kernel, rfl, by decide +kernel, by decide +kernel⟩
theorem sc_bumped : FnScope ["word"] ["word"] (defScope s_bumped) := ⟨rfl, rfl, rfl, by decide +kernel, rfl, by decide +kernel, by decide +kernel⟩
theorem sc__law_is_table : FnScope ["told", "size", "rows", "due", "row"] ["told", "size", "rows"] (defScope s__law_is_table) := ⟨rfl, rfl, rfl, by decide +kernel, rfl, by decide +kernel, by decide +kernel⟩
theorem sc__law_steps_right : FnScope ["size", "letters", "table", "k", "letter", "told", "lengths_v", "grown_v", "ahead", "due", "row", "number"] ["size", "letters"] (defScope s__law_steps_right) := ⟨rfl, rfl, rfl, by decide +kernel, rfl, by decide +kernel, by decide +kernel⟩
theorem sc__law_is_word : FnScope ["told", "size", "letters"] ["told", "size", "letters"] (defScope s__law_is_word) := ⟨rfl, rfl, rfl, by decide +kernel, rfl, by decide +kernel, by decide +kernel⟩
theorem sc__law_places : FnScope ["letters", "found", "place", "lengths_v", "at", "ahead", "here", "row", "number"] ["letters"] (defScope s__law_places) := ⟨rfl, rfl, rfl, by decide +kernel, rfl, by decide +kernel, by decide +kernel⟩
theorem sc_law : FnScope ["script", "m", "turn", "size", "letters", "word", "wrong", "table", "one", "row"] ["script"] (defScope s_law) := ⟨rfl, rfl, rfl, by decide +kernel, rfl, by decide +kernel, by decide +kernel⟩
def usd : Kd → Bool
  | .letters => true
  | .size => true
  | .table => true
  | .great => true
  | _ => false
structure Adr where
  ec : Eca
  w_Word : Addr
  w_Table : Addr
  P_law : Addr
abbrev ocs (a : Adr) : List Addr := [a.w_Word, a.w_Table]
structure Tp (K : PySem.W.Frag) (mg : Str → Option Value) (base : Heap) (a : Adr) : Prop where
  B : Bare mg
  sys : ∃ o, base.get? sysModules = some o
  f_letters : FldC K [a.w_Word] "letters"
  f_rows : FldC K [a.w_Table] "rows"
  f_shape : FldC K [a.w_Table] "shape"
  f_size : FldC K [a.w_Word, a.w_Table] "size"
  n_LEAST_SIZE : ∃ t, mg "LEAST_SIZE" = some (.int 2 t)
  n_MOST_LETTERS : ∃ t, mg "MOST_LETTERS" = some (.int 40 t)
  n_MOST_SIZE : ∃ t, mg "MOST_SIZE" = some (.int 6 t)
  g_Word : mg "Word" = some (.ref a.w_Word)
  cl_Word : Cls K a.w_Word
  ne_Word : PySem.W.findIn K (.ref a.w_Word) "__ne__" = some (some (.builtin "object.__ne__"))
  mro_Word : PySem.W.mroIn K a.w_Word (.type "object") = some true
  g_Table : mg "Table" = some (.ref a.w_Table)
  cl_Table : Cls K a.w_Table
  ne_Table : PySem.W.findIn K (.ref a.w_Table) "__ne__" = some (some (.builtin "object.__ne__"))
  mro_Table : PySem.W.mroIn K a.w_Table (.type "object") = some true
  oc : Ocs K (ocs a)
  hr : HrD K mg a.ec usd
end Dg
set_option maxHeartbeats 0
namespace Dg
open PySem PySem.Spec PyProof.Rows L2 LwE LamX Lw DL
def lq_law : Str := (PyProof.Rows.envOfC "law" (defScope s_law) 0 0 .none).qual ++ "<lambda>"
def S__law_draw (_ : Adr) : List Dt → DL.M R := drawS
def S__law_rows (_ : Adr) : List Dt → DL.M R := rowsS
noncomputable def S_Table_eq (a : Adr) : List Dt → DL.M R := semOf 2
  (gRet (andV (toV (una (vVar 1) (isiD (ocs a) [(.own a.w_Table)]))) (andV (toV (bin (toV (una (vVar 0) (fldsD [a.w_Word, a.w_Table] "size"))) (toV (una (vVar 1) (fldsD [a.w_Word, a.w_Table] "size"))) (eqG false))) (bin (toV (una (vVar 0) (fldsD [a.w_Table] "rows"))) (toV (una (vVar 1) (fldsD [a.w_Table] "rows"))) (eqG false)))))
noncomputable def S__law_size (a : Adr) : List Dt → DL.M R := semOf 1
  (gRet (bin (toV (cC (.int 2))) (toV (cCall 2 (aCons (cVar 0) (aCons (cC (.int 5)) aNil)) (S__law_draw a))) addD))
noncomputable def S__law_letters (a : Adr) : List Dt → DL.M R := semOf 7
  (gSeq (gPar [4, 5, 6] (rCons (cCall 2 (aCons (cVar 0) (aCons (cC (.int 5)) aNil)) (S__law_draw a)) (rCons (cCall 2 (aCons (cVar 0) (aCons (bin (vVar 2) (toV (cC (.int 1))) addD) aNil)) (S__law_draw a)) (rCons (cLst aNil) rNil))))
  (gSeq (gSet 3 (bin (toV (cC (.int 1))) (toV (cCall 2 (aCons (cVar 0) (aCons (bin (vVar 1) (toV (cC (.int 1))) subD) aNil)) (S__law_draw a))) addD))
  (gSeq (gWhile (tBl (bin (toV (una (vVar 6) lenD)) (vVar 5) (cmpD fun x y => decide (x < y)))) (gIf (tBl (bin (vVar 4) (toV (cC (.int 0))) (eqG false))) (gApp 6 (bin (toV (cC (.int 1))) (toV (cCall 2 (aCons (cVar 0) (aCons (cVar 1) aNil)) (S__law_draw a))) addD)) (gIf (tBl (bin (vVar 4) (toV (cC (.int 1))) (eqG false))) (gApp 6 (bin (vVar 3) (toV (cCall 2 (aCons (cVar 0) (aCons (cC (.int 2)) aNil)) (S__law_draw a))) addD)) (gIf (tBl (bin (vVar 4) (toV (cC (.int 2))) (eqG false))) (gApp 6 (bin (toV (cLst (aCons (cVar 3) (aCons (cVar 3) (aCons (bin (toV (cC (.int 1))) (toV (cCall 2 (aCons (cVar 0) (aCons (cVar 1) aNil)) (S__law_draw a))) addD) aNil))))) (toV (cCall 2 (aCons (cVar 0) (aCons (cC (.int 3)) aNil)) (S__law_draw a))) ixD)) (gIf (tBl (bin (vVar 4) (toV (cC (.int 3))) (eqG false))) (gSet 6 (bin (vVar 6) (toV (bin (vVar 1) (toV (cCall 2 (aCons (cVar 0) (aCons (cVar 1) aNil)) (S__law_draw a))) ldn)) addD)) (gSet 6 (bin (vVar 6) (toV (bin (toV (bin (toV (cC (.int 1))) (toV (cCall 2 (aCons (cVar 0) (aCons (cVar 1) aNil)) (S__law_draw a))) addD)) (toV (bin (vVar 1) (toV (cC (.int 1))) addD)) lrg2)) addD)))))))
  (gRet (cSl (vVar 6) oNone (oSome (vVar 5)))))))
noncomputable def S_is_between (a : Adr) : List Dt → DL.M R := semOf 3
  (gRet (andV (toV (una (vVar 0) (isiD (ocs a) [(.ty "int")]))) (andV (toV (una (toV (una (vVar 0) (isiD (ocs a) [(.ty "bool")]))) notD)) (chain (vVar 1) (vVar 0) (cmpD fun x y => decide (x ≤ y)) (vVar 2) (cmpD fun x y => decide (x ≤ y))))))
noncomputable def S_check_size (a : Adr) : List Dt → DL.M R := semOf 1
  (gIf (tNotD (tV (toV (cCall 3 (aCons (cVar 0) (aCons (cC (.int 2)) (aCons (cC (.int 6)) aNil))) (S_is_between a))))) (gRaise 0 (a.ec.of .size) "value" (cVar 0)) gNx)
noncomputable def S_is_listing (a : Adr) : List Dt → DL.M R := semOf 1
  (gRet (una (vVar 0) (isiD (ocs a) [(.ty "list"), (.ty "tuple")])))
noncomputable def S_check_letters (a : Adr) : List Dt → DL.M R := semOf 4
  (gSeq (gIf (tNotD (tV (toV (cCall 1 (aCons (cVar 1) aNil) (S_is_listing a))))) (gRaise 1 (a.ec.of .letters) "place" (cC .non)) gNx)
  (gSeq (gIf (tBl (bin (toV (una (vVar 1) lenD)) (toV (cC (.int 40))) (cmpD fun x y => decide (y < x)))) (gRaise 9 (a.ec.of .great) "most" (cC (.int 40))) gNx)
  (gFor (wEn (toV (cVar 1))) (tgS [(tgN 2), (tgN 3)]) (gIf (tNotD (tV (toV (cCall 3 (aCons (cVar 3) (aCons (cC (.int 1)) (aCons (cVar 0) aNil))) (S_is_between a))))) (gRaise 1 (a.ec.of .letters) "place" (cVar 2)) gNx))))
noncomputable def S_Word_init (a : Adr) : List Dt → DL.M R := semI a.w_Word 3
  (gSeq (gDrop (cCall 1 (aCons (cVar 1) aNil) (S_check_size a)))
  (gSeq (gDrop (cCall 2 (aCons (cVar 1) (aCons (cVar 2) aNil)) (S_check_letters a)))
  (gSeq (gFld 0 a.w_Word "size" (cVar 1))
  (gFld 0 a.w_Word "letters" (una (vVar 2) tupleD)))))
noncomputable def S__law_odd (a : Adr) : List Dt → DL.M R := semOf 3
  (gSeq (gSet 2 (cLst (aCons (cC (.int 0)) (aCons (bin (vVar 1) (toV (cC (.int 1))) addD) (aCons (bin (toV (cC (.int 0))) (vVar 1) subD) (aCons (cC .non) (aCons (cC (.str "1")) (aCons (cC (.bl true)) (aCons (cC (.bl false)) (aCons (cTup (aCons (cC (.int 1)) aNil)) (aCons (cLst (aCons (cC (.int 1)) aNil)) (aCons cDict (aCons (bin (toV (cC (.int 10))) (toV (cC (.int 30))) powD) (aCons (cC (.str "")) (aCons (una (toV (bin (toV (cC (.int 10))) (toV (cC (.int 30))) powD)) negD) aNil)))))))))))))))
  (gRet (bin (vVar 2) (toV (cCall 2 (aCons (cVar 0) (aCons (cC (.int 13)) aNil)) (S__law_draw a))) ixD)))
noncomputable def S_is_rows (a : Adr) : List Dt → DL.M R := semOf 2
  (gRet (andV (toV (cCall 1 (aCons (cVar 0) aNil) (S_is_listing a))) (una (toV (cLc (wSeq (vVar 0)) (tgN 1) tYesD (cCall 1 (aCons (cVar 1) aNil) (S_is_listing a)) [1])) allD)))
noncomputable def S_stands_below (a : Adr) : List Dt → DL.M R := semOf 6
  (gSeq (gIf (tOrD (tNotD (tV (vVar 1))) (tBl (bin (toV (una (vVar 1) lenD)) (toV (una (vVar 2) lenD)) (cmpD fun x y => decide (y < x))))) (gRet (cC (.bl false))) gNx)
  (gSeq (gSet 3 (cC (.int 1)))
  (gSeq (gFor (wZp (cVar 1) (cVar 2)) (tgS [(tgN 4), (tgN 5)]) (gSeq (gIf (tNotD (tV (toV (cCall 3 (aCons (cVar 4) (aCons (bin (vVar 3) (toV (bin (vVar 5) (toV (cC (.int 1))) addD)) maxD) (aCons (cVar 0) aNil))) (S_is_between a))))) (gRet (cC (.bl false))) gNx)
  (gSet 3 (cVar 4))))
  (gRet (cC (.bl true))))))
noncomputable def S_check_rows (a : Adr) : List Dt → DL.M R := semOf 5
  (gSeq (gIf (tNotD (tV (toV (cCall 1 (aCons (cVar 1) aNil) (S_is_rows a))))) (gRaise 5 (a.ec.of .table) "row" (cC .non)) gNx)
  (gSeq (gIf (tBl (bin (toV (una (toV (cLc (wSeq (vVar 1)) (tgN 4) tYesD (una (vVar 4) lenD) [4])) sumG)) (toV (cC (.int 40))) (cmpD fun x y => decide (y < x)))) (gRaise 9 (a.ec.of .great) "most" (cC (.int 40))) gNx)
  (gSeq (gSet 2 (bin (toV (cLst (aCons (cC (.int 0)) aNil))) (toV (cC (.int 40))) mulG))
  (gFor (wEn (toV (cVar 1))) (tgS [(tgN 3), (tgN 4)]) (gSeq (gFrz 2 (gIf (tNotD (tV (toV (cCall 3 (aCons (cVar 0) (aCons (cVar 4) (aCons (cVar 2) aNil))) (S_stands_below a))))) (gRaise 5 (a.ec.of .table) "row" (cVar 3)) gNx))
  (gSet 2 (cVar 4)))))))
noncomputable def S_lengths (a : Adr) : List Dt → DL.M R := semOf 2
  (gRet (una (toV (cLc (wSeq (vVar 0)) (tgN 1) tYesD (una (vVar 1) lenD) [1])) tupleD))
noncomputable def S_Table_init (a : Adr) : List Dt → DL.M R := semI a.w_Table 4
  (gSeq (gDrop (cCall 1 (aCons (cVar 1) aNil) (S_check_size a)))
  (gSeq (gDrop (cCall 2 (aCons (cVar 1) (aCons (cVar 2) aNil)) (S_check_rows a)))
  (gSeq (gFld 0 a.w_Table "size" (cVar 1))
  (gSeq (gFld 0 a.w_Table "rows" (una (toV (cLc (wSeq (vVar 2)) (tgN 3) tYesD (una (vVar 3) tupleD) [3])) tupleD))
  (gFld 0 a.w_Table "shape" (cCall 1 (aCons (cFldI 0 a.w_Table "rows") aNil) (S_lengths a)))))))
noncomputable def S_count_up_to (a : Adr) : List Dt → DL.M R := semOf 3
  (gRet (una (toV (cLc (wSeq (vVar 0)) (tgN 2) (tBl (bin (vVar 2) (vVar 1) (cmpD fun x y => decide (x ≤ y)))) (cVar 2) [2])) lenD))
noncomputable def S_put_in (a : Adr) : List Dt → DL.M R := semOf 5
  (gSeq (gSet 0 (una (vVar 0) listD))
  (gSeq (gSet 2 (cC (.int 0)))
  (gSeq (gWhile (tAndD (tBl (bin (vVar 2) (toV (una (vVar 0) lenD)) (cmpD fun x y => decide (x < y)))) (tBl (bin (toV (bin (toV (bin (vVar 0) (vVar 2) ixD)) (toV (una (toV (cC (.int 1))) negD)) ixD)) (vVar 1) (cmpD fun x y => decide (y < x))))) (gSeq (gSet 3 (bin (vVar 0) (vVar 2) ixD))
  (gSeq (gSet 4 (cCall 2 (aCons (cVar 3) (aCons (cVar 1) aNil)) (S_count_up_to a)))
  (gSeq (gSetI 0 (bin (toV (bin (toV (cSl (vVar 3) oNone (oSome (vVar 4)))) (toV (cTup (aCons (cVar 1) aNil))) addD)) (toV (cSl (vVar 3) (oSome (toV (bin (vVar 4) (toV (cC (.int 1))) addD))) oNone)) addD) (vVar 2))
  (gSeq (gSet 1 (bin (vVar 3) (vVar 4) ixD))
  (gAug 2 (fun x y => x + y) (toV (cC (.int 1)))))))))
  (gSeq (gIf (tBl (bin (vVar 2) (toV (una (vVar 0) lenD)) (eqG false))) (gApp 0 (cTup aNil)) gNx)
  (gSeq (gSetI 0 (bin (toV (bin (vVar 0) (vVar 2) ixD)) (toV (cTup (aCons (cVar 1) aNil))) addD) (vVar 2))
  (gFrz 0 (gRet (cTup (aCons (cVar 0) (aCons (cVar 2) aNil))))))))))
noncomputable def S_inserted (a : Adr) : List Dt → DL.M R := semOf 4
  (gSeq (gIf (tNotD (tV (toV (cCall 3 (aCons (cVar 1) (aCons (cC (.int 1)) (aCons (una (vVar 0) (fldsD [a.w_Word, a.w_Table] "size")) aNil))) (S_is_between a))))) (gRaise 1 (a.ec.of .letters) "place" (cC .non)) gNx)
  (gSeq (gAsg (cCall 2 (aCons (una (vVar 0) (fldsD [a.w_Table] "rows")) (aCons (cVar 1) aNil)) (S_put_in a)) (tgS [(tgN 2), (tgN 3)]))
  (gRet (cTup (aCons (cMake 3 (aCons (una (vVar 0) (fldsD [a.w_Word, a.w_Table] "size")) (aCons (cVar 2) aNil)) (S_Table_init a)) (aCons (cVar 3) aNil))))))
noncomputable def S_grown (a : Adr) : List Dt → DL.M R := semOf 6
  (gSeq (gSet 1 (cLst aNil))
  (gSeq (gSet 2 (cLst aNil))
  (gSeq (gFor (wEn (toV (cVar 0))) (tgS [(tgN 3), (tgN 4)]) (gSeq (gFrz 1 (gAsg (cCall 2 (aCons (cVar 1) (aCons (cVar 4) aNil)) (S_put_in a)) (tgS [(tgN 1), (tgN 5)])))
  (gSeq (gIf (tBl (bin (vVar 5) (toV (una (vVar 2) lenD)) (eqG false))) (gApp 2 (cTup aNil)) gNx)
  (gSetI 2 (bin (toV (bin (vVar 2) (vVar 5) ixD)) (toV (cTup (aCons (cVar 3) aNil))) addD) (vVar 5)))))
  (gFrz 2 (gFrz 1 (gRet (cTup (aCons (cVar 1) (aCons (cVar 2) aNil)))))))))
noncomputable def S_recording (a : Adr) : List Dt → DL.M R := semOf 1
  (gRet (una (toV (bin (toV (cCall 1 (aCons (una (vVar 0) (fldsD [a.w_Word] "letters")) aNil) (S_grown a))) (toV (cC (.int 1))) ixD)) tupleD))
noncomputable def S__law_like (a : Adr) : List Dt → DL.M R := semOf 2
  (gRet (bin (toV (una (vVar 0) reprD)) (toV (una (vVar 1) reprD)) (eqG false)))
noncomputable def S_bumped (a : Adr) : List Dt → DL.M R := semOf 1
  (gRet (cMake 3 (aCons (una (vVar 0) (fldsD [a.w_Word, a.w_Table] "size")) (aCons (bin (toV (cCall 1 (aCons (una (vVar 0) (fldsD [a.w_Word] "letters")) aNil) (S_grown a))) (toV (cC (.int 0))) ixD) aNil)) (S_Table_init a)))
noncomputable def S__law_is_table (a : Adr) : List Dt → DL.M R := semOf 5
  (gSeq (gIf (tNotD (tV (toV (una (vVar 0) (isiD (ocs a) [(.own a.w_Table)]))))) (gRet (cC (.bl false))) gNx)
  (gSeq (gSet 3 (cTup (aCons (cVar 1) (aCons (una (toV (cLc (wSeq (vVar 2)) (tgN 4) tYesD (una (vVar 4) tupleD) [4])) tupleD) (aCons (una (toV (cLc (wSeq (vVar 2)) (tgN 4) tYesD (una (vVar 4) lenD) [4])) tupleD) aNil)))))
  (gRet (bin (toV (una (toV (cTup (aCons (una (vVar 0) (fldsD [a.w_Word, a.w_Table] "size")) (aCons (una (vVar 0) (fldsD [a.w_Table] "rows")) (aCons (una (vVar 0) (fldsD [a.w_Table] "shape")) aNil))))) reprD)) (toV (una (vVar 3) reprD)) (eqG false)))))
noncomputable def S__law_steps_right (a : Adr) : List Dt → DL.M R := semOf 12
  (gSeq (gSet 2 (cMake 3 (aCons (cVar 0) (aCons (cTup aNil) aNil)) (S_Table_init a)))
  (gSeq (gFor (wEn (toV (cVar 1))) (tgS [(tgN 3), (tgN 4)]) (gSeq (gSet 5 (cCall 2 (aCons (cVar 2) (aCons (cVar 4) aNil)) (S_inserted a)))
  (gSeq (gPar [8, 9] (rCons (cCall 1 (aCons (cSl (vVar 1) oNone (oSome (vVar 3))) aNil) (S__law_rows a)) (rCons (cCall 1 (aCons (cSl (vVar 1) oNone (oSome (toV (bin (vVar 3) (toV (cC (.int 1))) addD)))) aNil) (S__law_rows a)) rNil)))
  (gSeq (gSet 6 (bin (toV (cLc (wSeq (vVar 8)) (tgN 10) tYesD (una (vVar 10) lenD) [10])) (toV (cLst (aCons (cC (.int 0)) aNil))) addD))
  (gSeq (gSet 7 (cLc (wEn (vVar 9)) (tgT [tgN 11, tgN 10]) (tBl (bin (toV (una (vVar 10) lenD)) (toV (bin (vVar 6) (vVar 11) ixD)) (cmpD fun x y => decide (y < x)))) (cVar 11) [11, 10]))
  (gSeq (gFrz 9 (gIf (tOrD (tNotD (tV (toV (una (vVar 5) (isiD (ocs a) [(.ty "tuple")]))))) (tOrD (tBl (bin (toV (una (vVar 5) lenD)) (toV (cC (.int 2))) (eqG true))) (tNotD (tV (toV (cCall 3 (aCons (bin (vVar 5) (toV (cC (.int 0))) ixD) (aCons (cVar 0) (aCons (cVar 9) aNil))) (S__law_is_table a))))))) (gRet (cC (.bl false))) gNx))
  (gSeq (gFrz 8 (gIf (tOrD (tNotD (tV (toV (cCall 2 (aCons (bin (vVar 5) (toV (cC (.int 1))) ixD) (aCons (bin (vVar 7) (toV (cC (.int 0))) ixD) aNil)) (S__law_like a))))) (tNotD (tV (toV (cCall 3 (aCons (cVar 2) (aCons (cVar 0) (aCons (cVar 8) aNil))) (S__law_is_table a)))))) (gRet (cC (.bl false))) gNx))
  (gSet 2 (bin (vVar 5) (toV (cC (.int 0))) ixD)))))))))
  (gRet (cC (.bl true)))))
noncomputable def S__law_is_word (a : Adr) : List Dt → DL.M R := semOf 3
  (gRet (andV (toV (una (vVar 0) (isiD (ocs a) [(.own a.w_Word)]))) (bin (toV (una (toV (cTup (aCons (una (vVar 0) (fldsD [a.w_Word, a.w_Table] "size")) (aCons (una (vVar 0) (fldsD [a.w_Word] "letters")) aNil)))) reprD)) (toV (una (toV (cTup (aCons (cVar 1) (aCons (una (vVar 2) tupleD) aNil)))) reprD)) (eqG false))))
noncomputable def S__law_places (a : Adr) : List Dt → DL.M R := semOf 9
  (gSeq (gNest 1 (gSet 1 (cLst aNil)))
  (gSeq (gFor (wRng1 (toV (una (vVar 0) lenD))) (tgN 2) (gSeq (gPar [5, 6] (rCons (cCall 1 (aCons (cSl (vVar 0) oNone (oSome (vVar 2))) aNil) (S__law_rows a)) (rCons (cCall 1 (aCons (cSl (vVar 0) oNone (oSome (toV (bin (vVar 2) (toV (cC (.int 1))) addD)))) aNil) (S__law_rows a)) rNil)))
  (gSeq (gSet 3 (bin (toV (cLc (wSeq (vVar 5)) (tgN 7) tYesD (una (vVar 7) lenD) [7])) (toV (cLst (aCons (cC (.int 0)) aNil))) addD))
  (gSeq (gSet 4 (bin (toV (cLc (wEn (vVar 6)) (tgT [tgN 8, tgN 7]) (tBl (bin (toV (una (vVar 7) lenD)) (toV (bin (vVar 3) (vVar 8) ixD)) (cmpD fun x y => decide (y < x)))) (cVar 8) [8, 7])) (toV (cC (.int 0))) ixD))
  (gSeq (gIf (tBl (bin (vVar 4) (toV (una (vVarN 1) lenD)) (eqG false))) (gApp2 1 (cLst aNil)) gNx)
  (gAppI 1 (vVar 4) (cVar 2)))))))
  (gFrz 1 (gRet (cVar 1)))))
noncomputable def g_law (a : Adr) : List Sl → DL.M Fl :=
  (gSeq (gFor (wRng1 (toV (cC (.int 4)))) (tgN 2) (gSeq (gSet 3 (cCall 1 (aCons (cVar 1) aNil) (S__law_size a)))
  (gSeq (gSet 4 (cCall 3 (aCons (cVar 1) (aCons (cVar 3) (aCons (cC (.int 24)) aNil))) (S__law_letters a)))
  (gSeq (gFrz 4 (gSet 5 (cMake 3 (aCons (cVar 3) (aCons (cVar 4) aNil)) (S_Word_init a))))
  (gSeq (gFrz 4 (gIf (tOrD (tNotD (tV (toV (cCall 2 (aCons (cVar 3) (aCons (cVar 4) aNil)) (S__law_steps_right a))))) (tNotD (tV (toV (cCall 3 (aCons (cCall 1 (aCons (cVar 5) aNil) (S_bumped a)) (aCons (cVar 3) (aCons (cCall 1 (aCons (cVar 4) aNil) (S__law_rows a)) aNil))) (S__law_is_table a)))))) (gRet (cC (.bl false))) gNx))
  (gSeq (gFrz 4 (gIf (tNotD (tV (toV (cCall 2 (aCons (cCall 1 (aCons (cVar 5) aNil) (S_recording a)) (aCons (una (toV (cLc (wSeq (toV (cCall 1 (aCons (cVar 4) aNil) (S__law_places a)))) (tgN 9) tYesD (una (vVar 9) tupleD) [9])) tupleD) aNil)) (S__law_like a))))) (gRet (cC (.bl false))) gNx))
  (gSeq (gSet 6 (cCall 2 (aCons (cVar 1) (aCons (cVar 3) aNil)) (S__law_odd a)))
  (gSeq (gSet 7 (cMake 3 (aCons (cVar 3) (aCons (cLst (aCons (bin (toV (cLst (aCons (cC (.int 1)) aNil))) (toV (cC (.int 40))) mulG) aNil)) aNil)) (S_Table_init a)))
  (gSeq (gFor (wSeq (toV (cTup (aCons (cCall 1 (aCons (cVar 5) aNil) (S_bumped a)) (aCons (cVar 7) aNil))))) (tgN 8) (gIf (tBl (bin (toV (cHeard a.ec usd a.P_law lq_law (cCall 2 (aCons (cVar 8) (aCons (cVar 6) aNil)) (S_inserted a)))) (toV (cTup (aCons (cC (.str "letters")) (aCons (cC .non) aNil)))) (orOp (objL a.w_Table) (eqAn (ocs a) a.w_Table true (S_Table_eq a)) (orOp (prP a.w_Table) (nePr a.w_Table (S_Table_eq a)) (eqG true))))) (gRet (cC (.bl false))) gNx))
  (gSeq (gIf (tBl (bin (toV (cHeard a.ec usd a.P_law lq_law (cCall 2 (aCons (cVar 7) (aCons (bin (toV (cC (.int 1))) (toV (cCall 2 (aCons (cVar 1) (aCons (cVar 3) aNil)) (S__law_draw a))) addD) aNil)) (S_inserted a)))) (toV (cTup (aCons (cC (.str "great")) (aCons (cC (.int 40)) aNil)))) (orOp (objL a.w_Table) (eqAn (ocs a) a.w_Table true (S_Table_eq a)) (orOp (prP a.w_Table) (nePr a.w_Table (S_Table_eq a)) (eqG true))))) (gRet (cC (.bl false))) gNx)
  (gFrz 4 (gIf (tOrD (tNotD (tV (toV (cCall 3 (aCons (cVar 7) (aCons (cVar 3) (aCons (cLst (aCons (bin (toV (cLst (aCons (cC (.int 1)) aNil))) (toV (cC (.int 40))) mulG) aNil)) aNil))) (S__law_is_table a))))) (tNotD (tV (toV (cCall 3 (aCons (cVar 5) (aCons (cVar 3) (aCons (cVar 4) aNil))) (S__law_is_word a)))))) (gRet (cC (.bl false))) gNx))))))))))))
  (gSeq (gIf (tBl (bin (toV (cCall 2 (aCons (cMake 3 (aCons (cC (.int 3)) (aCons (cLst (aCons (cLst (aCons (cC (.int 1)) (aCons (cC (.int 2)) (aCons (cC (.int 2)) aNil)))) (aCons (cLst (aCons (cC (.int 3)) aNil)) aNil))) aNil)) (S_Table_init a)) (aCons (cC (.int 1)) aNil)) (S_inserted a))) (toV (cTup (aCons (cMake 3 (aCons (cC (.int 3)) (aCons (cLst (aCons (cLst (aCons (cC (.int 1)) (aCons (cC (.int 1)) (aCons (cC (.int 2)) aNil)))) (aCons (cLst (aCons (cC (.int 2)) aNil)) (aCons (cLst (aCons (cC (.int 3)) aNil)) aNil)))) aNil)) (S_Table_init a)) (aCons (cC (.int 2)) aNil)))) (orOp (objL a.w_Table) (eqAn (ocs a) a.w_Table true (S_Table_eq a)) (orOp (prP a.w_Table) (nePr a.w_Table (S_Table_eq a)) (eqG true))))) (gRet (cC (.bl false))) gNx)
  (gSeq (gIf (tOrD (tBl (bin (toV (una (toV (cCall 1 (aCons (cMake 3 (aCons (cC (.int 2)) (aCons (cTup aNil) aNil)) (S_Word_init a)) aNil) (S_bumped a))) (fldsD [a.w_Table] "rows"))) (toV (cTup aNil)) (orOp (objL a.w_Table) (eqAn (ocs a) a.w_Table true (S_Table_eq a)) (orOp (prP a.w_Table) (nePr a.w_Table (S_Table_eq a)) (eqG true))))) (tBl (bin (toV (cCall 1 (aCons (cMake 3 (aCons (cC (.int 2)) (aCons (cTup aNil) aNil)) (S_Word_init a)) aNil) (S_recording a))) (toV (cTup aNil)) (orOp (objL a.w_Table) (eqAn (ocs a) a.w_Table true (S_Table_eq a)) (orOp (prP a.w_Table) (nePr a.w_Table (S_Table_eq a)) (eqG true)))))) (gRet (cC (.bl false))) gNx)
  (gRet (bin (toV (cCall 1 (aCons (cMake 3 (aCons (cC (.int 3)) (aCons (cLst (aCons (cC (.int 3)) (aCons (cC (.int 1)) (aCons (cC (.int 2)) aNil)))) aNil)) (S_Word_init a)) aNil) (S_recording a))) (toV (cTup (aCons (cTup (aCons (cC (.int 0)) (aCons (cC (.int 2)) aNil))) (aCons (cTup (aCons (cC (.int 1)) aNil)) aNil)))) (orOp (objL a.w_Table) (eqAn (ocs a) a.w_Table false (S_Table_eq a)) (eqG false)))))))
section
variable {P : Program} {w : World} {K : PySem.W.Frag} {mg : Str → Option Value} {base : Heap} {a : Adr} {f : Addr} {fd : FuncData}
theorem d_Table_eq (T : Tp K mg base a) (F : Fun K "__eq__" "Table.__eq__" s_Table_eq f fd) (i : PySem.W.findIn K (.ref a.w_Table) "__eq__" = some (some (.ref f))) (ff : PySem.W.isFn K (.ref f) = true) (b : Binds K fd ["self", "other"] []) :
    Sd P w K mg base a.w_Table "__eq__" 2 ["self", "other"] (S_Table_eq a) :=
  ⟨f, fd, fnD_of F sc_Table_eq (k := 1) (fun cdv A outer s H E hcd hg hr => (dss_one (ds_ret (de_and (dv_e (de_isi T.oc (dv_var 1) (dc_o T.g_Table) T.B.isinstance)) (de_and (dv_e (de_cmp (op_eqG hr.units) (dv_e (de_fldG T.f_size (dv_var 0))) (dv_e (de_fldG T.f_size (dv_var 1))))) (de_one (de_cmp (op_eqG hr.units) (dv_e (de_fldG T.f_rows (dv_var 0))) (dv_e (de_fldG T.f_rows (dv_var 1)))))))))), i, ff, b⟩
theorem d__law_size (T : Tp K mg base a) (F : Fun K "_law_size" "_law_size" s__law_size f fd) (g : mg "_law_size" = some (.ref f)) (b : Binds K fd ["m"] []) (D__law_draw : Fd P w K mg base "_law_draw" 2 ["m", "limit"] (S__law_draw a)) :
    Fd P w K mg base "_law_size" 3 ["m"] (S__law_size a) :=
  ⟨f, fd, fnD_of F sc__law_size (k := 2) (fun cdv A outer s H E hcd hg hr => (dss_one (ds_ret (de_op op_addD (dv_e de_int) (dv_e (de_callF D__law_draw (by exact hg) hr (passes_call (takes_of rfl rfl rfl rfl) (fun _ _ _ _ z => z)) (da_cons (de_var 0) (da_cons de_int da_nil)))))))), g, F.kp, b⟩
theorem d__law_letters (T : Tp K mg base a) (F : Fun K "_law_letters" "_law_letters" s__law_letters f fd) (g : mg "_law_letters" = some (.ref f)) (b : Binds K fd ["m", "size", "most"] []) (D__law_draw : Fd P w K mg base "_law_draw" 2 ["m", "limit"] (S__law_draw a)) :
    Fd P w K mg base "_law_letters" 3 ["m", "size", "most"] (S__law_letters a) :=
  ⟨f, fd, fnD_of F sc__law_letters (k := 2) (fun cdv A outer s H E hcd hg hr => (dss_cons (ds_par3 4 5 6 rfl sc__law_letters.nd (dr_cons (de_callF D__law_draw (by exact hg) hr (passes_call (takes_of rfl rfl rfl rfl) (fun _ _ _ _ z => z)) (da_cons (de_var 0) (da_cons de_int da_nil))) (dr_cons (de_callF D__law_draw (by exact hg) hr (passes_call (takes_of rfl rfl rfl rfl) (fun _ _ _ _ z => z)) (da_cons (de_var 0) (da_cons (de_op op_addD (dv_var 2) (dv_e de_int)) da_nil))) (dr_cons (de_lst da_nil) dr_nil))))
    (dss_cons (ds_set 3 sc__law_letters.nd (de_op op_addD (dv_e de_int) (dv_e (de_callF D__law_draw (by exact hg) hr (passes_call (takes_of rfl rfl rfl rfl) (fun _ _ _ _ z => z)) (da_cons (de_var 0) (da_cons (de_op op_subD (dv_var 1) (dv_e de_int)) da_nil))))))
    (dss_cons (ds_while PassesOwn.leaving (dt_cmp op_ltD (dv_e (de_b1 cd_len (dv_var 6) T.B.len)) (dv_var 5)) (dss_one (ds_if (dt_cmp (op_eqG hr.units) (dv_var 4) (dv_e de_int)) (dss_one (ds_app 6 (fun t ht => ps_expr (pe_bm PySem.F.plainAttrs_list PySem.F.slot_list_append PySem.F.type_list_append mt_append (pv 6) (pa_cons ht pa_nil))) (de_op op_addD (dv_e de_int) (dv_e (de_callF D__law_draw (by exact hg) hr (passes_call (takes_of rfl rfl rfl rfl) (fun _ _ _ _ z => z)) (da_cons (de_var 0) (da_cons (de_var 1) da_nil))))))) (dss_one (ds_if (dt_cmp (op_eqG hr.units) (dv_var 4) (dv_e de_int)) (dss_one (ds_app 6 (fun t ht => ps_expr (pe_bm PySem.F.plainAttrs_list PySem.F.slot_list_append PySem.F.type_list_append mt_append (pv 6) (pa_cons ht pa_nil))) (de_op op_addD (dv_var 3) (dv_e (de_callF D__law_draw (by exact hg) hr (passes_call (takes_of rfl rfl rfl rfl) (fun _ _ _ _ z => z)) (da_cons (de_var 0) (da_cons de_int da_nil))))))) (dss_one (ds_if (dt_cmp (op_eqG hr.units) (dv_var 4) (dv_e de_int)) (dss_one (ds_app 6 (fun t ht => ps_expr (pe_bm PySem.F.plainAttrs_list PySem.F.slot_list_append PySem.F.type_list_append mt_append (pv 6) (pa_cons ht pa_nil))) (de_ix (dv_e (de_lst (da_cons (de_var 3) (da_cons (de_var 3) (da_cons (de_op op_addD (dv_e de_int) (dv_e (de_callF D__law_draw (by exact hg) hr (passes_call (takes_of rfl rfl rfl rfl) (fun _ _ _ _ z => z)) (da_cons (de_var 0) (da_cons (de_var 1) da_nil))))) da_nil))))) (dv_e (de_callF D__law_draw (by exact hg) hr (passes_call (takes_of rfl rfl rfl rfl) (fun _ _ _ _ z => z)) (da_cons (de_var 0) (da_cons de_int da_nil))))))) (dss_one (ds_if (dt_cmp (op_eqG hr.units) (dv_var 4) (dv_e de_int)) (dss_one (ds_set 6 sc__law_letters.nd (de_op op_addD (dv_var 6) (dv_e (de_ldn rfl (dv_var 1) (dv_e (de_callF D__law_draw (by exact hg) hr (passes_call (takes_of rfl rfl rfl rfl) (fun _ _ _ _ z => z)) (da_cons (de_var 0) (da_cons (de_var 1) da_nil)))) T.B.list T.B.range (by rfl) (by rfl) (fun t u pt pu => pe_listDn rfl (by rfl) T.B.list (by rfl) T.B.range (pa_cons pt (pa_cons pu (pa_cons (pe_un un_neg pe_int) pa_nil)))) (fun _ _ _ q => ⟨1, rfl, q⟩)))))) (dss_one (ds_set 6 sc__law_letters.nd (de_op op_addD (dv_var 6) (dv_e (de_lrg2 rfl (dv_e (de_op op_addD (dv_e de_int) (dv_e (de_callF D__law_draw (by exact hg) hr (passes_call (takes_of rfl rfl rfl rfl) (fun _ _ _ _ z => z)) (da_cons (de_var 0) (da_cons (de_var 1) da_nil)))))) (dv_e (de_op op_addD (dv_var 1) (dv_e de_int))) T.B.list T.B.range))))))))))))))
    (dss_one (ds_ret (de_sl (dv_var 6) do_none (do_some (dv_var 5))))))))), g, F.kp, b⟩
theorem d_is_between (T : Tp K mg base a) (F : Fun K "is_between" "is_between" s_is_between f fd) (g : mg "is_between" = some (.ref f)) (b : Binds K fd ["value", "least", "most"] []) :
    Fd P w K mg base "is_between" 2 ["value", "least", "most"] (S_is_between a) :=
  ⟨f, fd, fnD_of F sc_is_between (k := 1) (fun cdv A outer s H E hcd hg hr => (dss_one (ds_ret (de_and (dv_e (de_isi T.oc (dv_var 0) (dc_b T.B.int) T.B.isinstance)) (de_and (dv_e (de_not (dv_e (de_isi T.oc (dv_var 0) (dc_b T.B.bool) T.B.isinstance)))) (de_one (de_chain op_leD op_leD (dv_var 1) (dv_var 0) (dv_var 2)))))))), g, F.kp, b⟩
theorem d_check_size (T : Tp K mg base a) (F : Fun K "check_size" "check_size" s_check_size f fd) (g : mg "check_size" = some (.ref f)) (b : Binds K fd ["size"] []) (R_BadSize : RsD P w K mg base "BadSize" (a.ec.of .size) "value") (D_is_between : Fd P w K mg base "is_between" 2 ["value", "least", "most"] (S_is_between a)) :
    Fd P w K mg base "check_size" 3 ["size"] (S_check_size a) :=
  ⟨f, fd, fnD_of F sc_check_size (k := 2) (fun cdv A outer s H E hcd hg hr => (dss_one (ds_if (dt_not (dt_v (dv_e (de_callF D_is_between (by exact hg) hr (passes_call (takes_of rfl rfl rfl rfl) (fun _ _ _ _ z => z)) (da_cons (de_var 0) (da_cons (de_globIE T.n_LEAST_SIZE) (da_cons (de_globIE T.n_MOST_SIZE) da_nil))))))) (dss_one (ds_raise 0 rfl R_BadSize (takes_of rfl rfl rfl rfl) (hr.mono (by decide)) (de_var 0))) dss_nil))), g, F.kp, b⟩
theorem d_is_listing (T : Tp K mg base a) (F : Fun K "is_listing" "is_listing" s_is_listing f fd) (g : mg "is_listing" = some (.ref f)) (b : Binds K fd ["value"] []) :
    Fd P w K mg base "is_listing" 2 ["value"] (S_is_listing a) :=
  ⟨f, fd, fnD_of F sc_is_listing (k := 1) (fun cdv A outer s H E hcd hg hr => (dss_one (ds_ret (de_isiT T.oc (dv_var 0) (dcs_cons (dc_b T.B.list) (dcs_cons (dc_b T.B.tuple) dcs_nil)) (by decide) T.B.isinstance)))), g, F.kp, b⟩
theorem d_check_letters (T : Tp K mg base a) (F : Fun K "check_letters" "check_letters" s_check_letters f fd) (g : mg "check_letters" = some (.ref f)) (b : Binds K fd ["size", "letters"] []) (R_BadLetters : RsD P w K mg base "BadLetters" (a.ec.of .letters) "place") (R_TooGreat : RsD P w K mg base "TooGreat" (a.ec.of .great) "most") (D_is_between : Fd P w K mg base "is_between" 2 ["value", "least", "most"] (S_is_between a)) (D_is_listing : Fd P w K mg base "is_listing" 2 ["value"] (S_is_listing a)) :
    Fd P w K mg base "check_letters" 3 ["size", "letters"] (S_check_letters a) :=
  ⟨f, fd, fnD_of F sc_check_letters (k := 2) (fun cdv A outer s H E hcd hg hr => (dss_cons (ds_if (dt_not (dt_v (dv_e (de_callF D_is_listing (by exact hg) hr (passes_call (takes_of rfl rfl rfl rfl) (fun _ _ _ _ z => z)) (da_cons (de_var 1) da_nil))))) (dss_one (ds_raise 1 rfl R_BadLetters (takes_of rfl rfl rfl rfl) (hr.mono (by decide)) de_non)) dss_nil)
    (dss_cons (ds_if (dt_cmp op_gtD (dv_e (de_b1 cd_len (dv_var 1) T.B.len)) (dv_e (de_globIE T.n_MOST_LETTERS))) (dss_one (ds_raise 9 rfl R_TooGreat (takes_of rfl rfl rfl rfl) (hr.mono (by decide)) (de_globIE T.n_MOST_LETTERS))) dss_nil)
    (dss_one (ds_for PassesOwn.leaving rfl (di_en (de_var 1) T.B.enumerate) (dg_seq rfl (dgs_cons (dg_name 2 sc_check_letters.nd) (dgs_cons (dg_name 3 sc_check_letters.nd) dgs_nil))) (dss_one (ds_if (dt_not (dt_v (dv_e (de_callF D_is_between (by exact hg) hr (passes_call (takes_of rfl rfl rfl rfl) (fun _ _ _ _ z => z)) (da_cons (de_var 3) (da_cons de_int (da_cons (de_var 0) da_nil))))))) (dss_one (ds_raise 1 rfl R_BadLetters (takes_of rfl rfl rfl rfl) (hr.mono (by decide)) (de_var 2))) dss_nil))))))), g, F.kp, b⟩
theorem d_Word_init (T : Tp K mg base a) (F : Fun K "__init__" "Word.__init__" s_Word_init f fd) (mk : Mk K a.w_Word f) (b : Binds K fd ["self", "size", "letters"] []) (D_check_letters : Fd P w K mg base "check_letters" 3 ["size", "letters"] (S_check_letters a)) (D_check_size : Fd P w K mg base "check_size" 3 ["size"] (S_check_size a)) :
    MkD P w K mg base "Word" a.w_Word ["self", "size", "letters"] 4 (S_Word_init a) :=
  ⟨T.g_Word, f, fd, mk, b, fnI_of F sc_Word_init (k := 3) (fun cdv A outer s H E hcd hg hr => (dss_cons (ds_expr (de_callF D_check_size (by exact hg) hr (passes_call (takes_of rfl rfl rfl rfl) (fun _ _ _ _ z => z)) (da_cons (de_var 1) da_nil)))
    (dss_cons (ds_expr (de_callF D_check_letters (by exact hg) hr (passes_call (takes_of rfl rfl rfl rfl) (fun _ _ _ _ z => z)) (da_cons (de_var 1) (da_cons (de_var 2) da_nil))))
    (dss_cons (ds_fld 0 (fun t ht => ps_fld (pv 0) ht rfl) T.cl_Word (T.f_size _ (by simp)).2 (de_var 1))
    (dss_one (ds_fld 0 (fun t ht => ps_fld (pv 0) ht rfl) T.cl_Word (T.f_letters _ (by simp)).2 (de_t1 cd_tuple (dv_var 2) T.B.tuple)))))))⟩
theorem d__law_odd (T : Tp K mg base a) (F : Fun K "_law_odd" "_law_odd" s__law_odd f fd) (g : mg "_law_odd" = some (.ref f)) (b : Binds K fd ["m", "size"] []) (D__law_draw : Fd P w K mg base "_law_draw" 2 ["m", "limit"] (S__law_draw a)) :
    Fd P w K mg base "_law_odd" 3 ["m", "size"] (S__law_odd a) :=
  ⟨f, fd, fnD_of F sc__law_odd (k := 2) (fun cdv A outer s H E hcd hg hr => (dss_cons (ds_set 2 sc__law_odd.nd (de_lst (da_cons de_int (da_cons (de_op op_addD (dv_var 1) (dv_e de_int)) (da_cons (de_op op_subD (dv_e de_int) (dv_var 1)) (da_cons de_non (da_cons de_str (da_cons de_bl (da_cons de_bl (da_cons (de_tup (da_cons de_int da_nil)) (da_cons (de_lst (da_cons de_int da_nil)) (da_cons de_dict (da_cons (de_op op_powD (dv_e de_int) (dv_e de_int)) (da_cons de_str (da_cons (de_neg (dv_e (de_op op_powD (dv_e de_int) (dv_e de_int)))) da_nil)))))))))))))))
    (dss_one (ds_ret (de_ix (dv_var 2) (dv_e (de_callF D__law_draw (by exact hg) hr (passes_call (takes_of rfl rfl rfl rfl) (fun _ _ _ _ z => z)) (da_cons (de_var 0) (da_cons de_int da_nil))))))))), g, F.kp, b⟩
theorem d_is_rows (T : Tp K mg base a) (F : Fun K "is_rows" "is_rows" s_is_rows f fd) (g : mg "is_rows" = some (.ref f)) (b : Binds K fd ["value"] []) (D_is_listing : Fd P w K mg base "is_listing" 2 ["value"] (S_is_listing a)) :
    Fd P w K mg base "is_rows" 3 ["value"] (S_is_rows a) :=
  ⟨f, fd, fnD_of F sc_is_rows (k := 2) (fun cdv A outer s H E hcd hg hr => (dss_one (ds_ret (de_and (dv_e (de_callF D_is_listing (by exact hg) hr (passes_call (takes_of rfl rfl rfl rfl) (fun _ _ _ _ z => z)) (da_cons (de_var 0) da_nil))) (de_one (de_b1 (cd_all rfl) (dv_e (de_lc rfl sc_is_rows.nd (div_seq (dv_var 0)) (blkOk_by (N := ["value", "row"]) (sc := defScope s_is_rows) (own := [("row", 1)]) (by decide +kernel)) (jgw_name _ 1) (fun _ _ _ _ _ => (pg_name (i := 1) sc_is_rows.nd rfl (Or.inl rfl))) (fun _ _ _ _ _ => dts_nil) (fun _ _ _ _ _ => (de_callF D_is_listing (by exact hg) hr passL (da_cons (de_var 1) da_nil))))) T.B.all)))))), g, F.kp, b⟩
theorem d_stands_below (T : Tp K mg base a) (F : Fun K "stands_below" "stands_below" s_stands_below f fd) (g : mg "stands_below" = some (.ref f)) (b : Binds K fd ["size", "row", "above"] []) (D_is_between : Fd P w K mg base "is_between" 2 ["value", "least", "most"] (S_is_between a)) :
    Fd P w K mg base "stands_below" 3 ["size", "row", "above"] (S_stands_below a) :=
  ⟨f, fd, fnD_of F sc_stands_below (k := 2) (fun cdv A outer s H E hcd hg hr => (dss_cons (ds_if (dt_w (dw_or (dt_not (dt_v (dv_var 1))) (dw_or1 (dt_cmp op_gtD (dv_e (de_b1 cd_len (dv_var 1) T.B.len)) (dv_e (de_b1 cd_len (dv_var 2) T.B.len)))))) (dss_one (ds_ret de_bl)) dss_nil)
    (dss_cons (ds_set 3 sc_stands_below.nd de_int)
    (dss_cons (ds_for PassesOwn.leaving rfl (di_zip (de_var 1) (de_var 2) T.B.zip) (dg_seq rfl (dgs_cons (dg_name 4 sc_stands_below.nd) (dgs_cons (dg_name 5 sc_stands_below.nd) dgs_nil))) (dss_cons (ds_if (dt_not (dt_v (dv_e (de_callF D_is_between (by exact hg) hr (passes_call (takes_of rfl rfl rfl rfl) (fun _ _ _ _ z => z)) (da_cons (de_var 4) (da_cons (de_b2 (cd_max2 rfl) (dv_var 3) (dv_e (de_op op_addD (dv_var 5) (dv_e de_int))) T.B.max) (da_cons (de_var 0) da_nil))))))) (dss_one (ds_ret de_bl)) dss_nil)
    (dss_one (ds_set 3 sc_stands_below.nd (de_var 4)))))
    (dss_one (ds_ret de_bl)))))), g, F.kp, b⟩
theorem d_check_rows (T : Tp K mg base a) (F : Fun K "check_rows" "check_rows" s_check_rows f fd) (g : mg "check_rows" = some (.ref f)) (b : Binds K fd ["size", "rows"] []) (R_BadTable : RsD P w K mg base "BadTable" (a.ec.of .table) "row") (R_TooGreat : RsD P w K mg base "TooGreat" (a.ec.of .great) "most") (D_is_rows : Fd P w K mg base "is_rows" 3 ["value"] (S_is_rows a)) (D_stands_below : Fd P w K mg base "stands_below" 3 ["size", "row", "above"] (S_stands_below a)) :
    Fd P w K mg base "check_rows" 4 ["size", "rows"] (S_check_rows a) :=
  ⟨f, fd, fnD_of F sc_check_rows (k := 3) (fun cdv A outer s H E hcd hg hr => (dss_cons (ds_if (dt_not (dt_v (dv_e (de_callF D_is_rows (by exact hg) hr (passes_call (takes_of rfl rfl rfl rfl) (fun _ _ _ _ z => z)) (da_cons (de_var 1) da_nil))))) (dss_one (ds_raise 5 rfl R_BadTable (takes_of rfl rfl rfl rfl) (hr.mono (by decide)) de_non)) dss_nil)
    (dss_cons (ds_if (dt_cmp op_gtD (dv_e (de_b1 (cd_sumG rfl) (dv_e (de_lc rfl sc_check_rows.nd (div_seq (dv_var 1)) (blkOk_by (N := ["size", "rows", "above", "number", "row"]) (sc := defScope s_check_rows) (own := [("row", 4)]) (by decide +kernel)) (jgw_name _ 4) (fun _ _ _ _ _ => (pg_name (i := 4) sc_check_rows.nd rfl (Or.inl rfl))) (fun _ _ _ _ _ => dts_nil) (fun _ _ _ _ _ => (de_b1 cd_len (dv_var 4) T.B.len)))) T.B.sum)) (dv_e (de_globIE T.n_MOST_LETTERS))) (dss_one (ds_raise 9 rfl R_TooGreat (takes_of rfl rfl rfl rfl) (hr.mono (by decide)) (de_globIE T.n_MOST_LETTERS))) dss_nil)
    (dss_cons (ds_set 2 sc_check_rows.nd (de_op op_mulG (dv_e (de_lst (da_cons de_int da_nil))) (dv_e (de_globIE T.n_MOST_LETTERS))))
    (dss_one (ds_for PassesOwn.leaving rfl (di_en (de_var 1) T.B.enumerate) (dg_seq rfl (dgs_cons (dg_name 3 sc_check_rows.nd) (dgs_cons (dg_name 4 sc_check_rows.nd) dgs_nil))) (dss_cons (ds_frz 2 (ds_if (dt_not (dt_v (dv_e (de_callF D_stands_below (by exact hg) hr (passes_call (takes_of rfl rfl rfl rfl) (fun _ _ _ _ z => z)) (da_cons (de_var 0) (da_cons (de_var 4) (da_cons (de_var 2) da_nil))))))) (dss_one (ds_raise 5 rfl R_BadTable (takes_of rfl rfl rfl rfl) (hr.mono (by decide)) (de_var 3))) dss_nil))
    (dss_one (ds_set 2 sc_check_rows.nd (de_var 4)))))))))), g, F.kp, b⟩
theorem d_lengths (T : Tp K mg base a) (F : Fun K "lengths" "lengths" s_lengths f fd) (g : mg "lengths" = some (.ref f)) (b : Binds K fd ["rows"] []) :
    Fd P w K mg base "lengths" 2 ["rows"] (S_lengths a) :=
  ⟨f, fd, fnD_of F sc_lengths (k := 1) (fun cdv A outer s H E hcd hg hr => (dss_one (ds_ret (de_t1 cd_tuple (dv_e (de_lc rfl sc_lengths.nd (div_seq (dv_var 0)) (blkOk_by (N := ["rows", "row"]) (sc := defScope s_lengths) (own := [("row", 1)]) (by decide +kernel)) (jgw_name _ 1) (fun _ _ _ _ _ => (pg_name (i := 1) sc_lengths.nd rfl (Or.inl rfl))) (fun _ _ _ _ _ => dts_nil) (fun _ _ _ _ _ => (de_b1 cd_len (dv_var 1) T.B.len)))) T.B.tuple)))), g, F.kp, b⟩
theorem d_Table_init (T : Tp K mg base a) (F : Fun K "__init__" "Table.__init__" s_Table_init f fd) (mk : Mk K a.w_Table f) (b : Binds K fd ["self", "size", "rows"] []) (D_check_rows : Fd P w K mg base "check_rows" 4 ["size", "rows"] (S_check_rows a)) (D_check_size : Fd P w K mg base "check_size" 3 ["size"] (S_check_size a)) (D_lengths : Fd P w K mg base "lengths" 2 ["rows"] (S_lengths a)) :
    MkD P w K mg base "Table" a.w_Table ["self", "size", "rows"] 5 (S_Table_init a) :=
  ⟨T.g_Table, f, fd, mk, b, fnI_of F sc_Table_init (k := 4) (fun cdv A outer s H E hcd hg hr => (dss_cons (ds_expr (de_callF D_check_size (by exact hg) hr (passes_call (takes_of rfl rfl rfl rfl) (fun _ _ _ _ z => z)) (da_cons (de_var 1) da_nil)))
    (dss_cons (ds_expr (de_callF D_check_rows (by exact hg) hr (passes_call (takes_of rfl rfl rfl rfl) (fun _ _ _ _ z => z)) (da_cons (de_var 1) (da_cons (de_var 2) da_nil))))
    (dss_cons (ds_fld 0 (fun t ht => ps_fld (pv 0) ht rfl) T.cl_Table (T.f_size _ (by simp)).2 (de_var 1))
    (dss_cons (ds_fld 0 (fun t ht => ps_fld (pv 0) ht rfl) T.cl_Table (T.f_rows _ (by simp)).2 (de_t1 cd_tuple (dv_e (de_lc rfl sc_Table_init.nd (div_seq (dv_var 2)) (blkOk_by (N := ["self", "size", "rows", "row"]) (sc := defScope s_Table_init) (own := [("row", 3)]) (by decide +kernel)) (jgw_name _ 3) (fun _ _ _ _ _ => (pg_name (i := 3) sc_Table_init.nd rfl (Or.inl rfl))) (fun _ _ _ _ _ => dts_nil) (fun _ _ _ _ _ => (de_t1 cd_tuple (dv_var 3) T.B.tuple)))) T.B.tuple))
    (dss_one (ds_fld 0 (fun t ht => ps_fld (pv 0) ht rfl) T.cl_Table (T.f_shape _ (by simp)).2 (de_callF D_lengths (by exact hg) hr (passes_call (takes_of rfl rfl rfl rfl) (fun _ _ _ _ z => z)) (da_cons (de_fldI 0 T.cl_Table (T.f_rows _ (by simp)).2 (pe_fld (pv 0) rfl)) da_nil)))))))))⟩
theorem d_count_up_to (T : Tp K mg base a) (F : Fun K "count_up_to" "count_up_to" s_count_up_to f fd) (g : mg "count_up_to" = some (.ref f)) (b : Binds K fd ["row", "letter"] []) :
    Fd P w K mg base "count_up_to" 2 ["row", "letter"] (S_count_up_to a) :=
  ⟨f, fd, fnD_of F sc_count_up_to (k := 1) (fun cdv A outer s H E hcd hg hr => (dss_one (ds_ret (de_b1 cd_len (dv_e (de_lc rfl sc_count_up_to.nd (div_seq (dv_var 0)) (blkOk_by (N := ["row", "letter", "held"]) (sc := defScope s_count_up_to) (own := [("held", 2)]) (by decide +kernel)) (jgw_name _ 2) (fun _ _ _ _ _ => (pg_name (i := 2) sc_count_up_to.nd rfl (Or.inl rfl))) (fun _ _ _ _ _ => (dts_one (dt_cmp op_leD (dv_var 2) (dv_var 1)))) (fun _ _ _ _ _ => (de_var 2)))) T.B.len)))), g, F.kp, b⟩
theorem d_put_in (T : Tp K mg base a) (F : Fun K "put_in" "put_in" s_put_in f fd) (g : mg "put_in" = some (.ref f)) (b : Binds K fd ["rows", "letter"] []) (D_count_up_to : Fd P w K mg base "count_up_to" 2 ["row", "letter"] (S_count_up_to a)) :
    Fd P w K mg base "put_in" 3 ["rows", "letter"] (S_put_in a) :=
  ⟨f, fd, fnD_of F sc_put_in (k := 2) (fun cdv A outer s H E hcd hg hr => (dss_cons (ds_set 0 sc_put_in.nd (de_t1 cd_list (dv_var 0) T.B.list))
    (dss_cons (ds_set 2 sc_put_in.nd de_int)
    (dss_cons (ds_while PassesOwn.leaving (dt_w (dw_and (dt_cmp op_ltD (dv_var 2) (dv_e (de_b1 cd_len (dv_var 0) T.B.len))) (dw_and1 (dt_cmp op_gtD (dv_e (de_ix (dv_e (de_ix (dv_var 0) (dv_var 2))) (dv_e (de_neg (dv_e de_int))))) (dv_var 1))))) (dss_cons (ds_set 3 sc_put_in.nd (de_ix (dv_var 0) (dv_var 2)))
    (dss_cons (ds_set 4 sc_put_in.nd (de_callF D_count_up_to (by exact hg) hr (passes_call (takes_of rfl rfl rfl rfl) (fun _ _ _ _ z => z)) (da_cons (de_var 3) (da_cons (de_var 1) da_nil))))
    (dss_cons (ds_setI 0 (fun t u ht hu => ps_asg ht (pg_sub (pv 0) hu set_list)) (de_op op_addD (dv_e (de_op op_addD (dv_e (de_sl (dv_var 3) do_none (do_some (dv_var 4)))) (dv_e (de_tup (da_cons (de_var 1) da_nil))))) (dv_e (de_sl (dv_var 3) (do_some (dv_e (de_op op_addD (dv_var 4) (dv_e de_int)))) do_none))) (dv_var 2))
    (dss_cons (ds_set 1 sc_put_in.nd (de_ix (dv_var 3) (dv_var 4)))
    (dss_one (ds_aug 2 (g := (fun x y => x + y)) sc_put_in.nd ip_add (dv_e de_int))))))))
    (dss_cons (ds_if (dt_cmp (op_eqG hr.units) (dv_var 2) (dv_e (de_b1 cd_len (dv_var 0) T.B.len))) (dss_one (ds_app 0 (fun t ht => ps_expr (pe_bm PySem.F.plainAttrs_list PySem.F.slot_list_append PySem.F.type_list_append mt_append (pv 0) (pa_cons ht pa_nil))) (de_tup da_nil))) dss_nil)
    (dss_cons (ds_setI 0 (fun t u ht hu => ps_asg ht (pg_sub (pv 0) hu set_list)) (de_op op_addD (dv_e (de_ix (dv_var 0) (dv_var 2))) (dv_e (de_tup (da_cons (de_var 1) da_nil)))) (dv_var 2))
    (dss_one (ds_frz 0 (ds_ret (de_tup (da_cons (de_var 0) (da_cons (de_var 2) da_nil)))))))))))), g, F.kp, b⟩
theorem d_inserted (T : Tp K mg base a) (F : Fun K "inserted" "inserted" s_inserted f fd) (g : mg "inserted" = some (.ref f)) (b : Binds K fd ["table", "letter"] []) (D_Table_init : MkD P w K mg base "Table" a.w_Table ["self", "size", "rows"] 5 (S_Table_init a)) (R_BadLetters : RsD P w K mg base "BadLetters" (a.ec.of .letters) "place") (D_is_between : Fd P w K mg base "is_between" 2 ["value", "least", "most"] (S_is_between a)) (D_put_in : Fd P w K mg base "put_in" 3 ["rows", "letter"] (S_put_in a)) :
    Fd P w K mg base "inserted" 7 ["table", "letter"] (S_inserted a) :=
  ⟨f, fd, fnD_of F sc_inserted (k := 6) (fun cdv A outer s H E hcd hg hr => (dss_cons (ds_if (dt_not (dt_v (dv_e (de_callF D_is_between (by exact hg) hr (passes_call (takes_of rfl rfl rfl rfl) (fun _ _ _ _ z => z)) (da_cons (de_var 1) (da_cons de_int (da_cons (de_fldG T.f_size (dv_var 0)) da_nil))))))) (dss_one (ds_raise 1 rfl R_BadLetters (takes_of rfl rfl rfl rfl) (hr.mono (by decide)) de_non)) dss_nil)
    (dss_cons (ds_asg (de_callF D_put_in (by exact hg) hr (passes_call (takes_of rfl rfl rfl rfl) (fun _ _ _ _ z => z)) (da_cons (de_fldG T.f_rows (dv_var 0)) (da_cons (de_var 1) da_nil))) (dg_seq rfl (dgs_cons (dg_name 2 sc_inserted.nd) (dgs_cons (dg_name 3 sc_inserted.nd) dgs_nil))))
    (dss_one (ds_ret (de_tup (da_cons (de_makeF D_Table_init (by exact hg) hr (passes_call (takes_of rfl rfl rfl rfl) (fun _ _ _ _ z => z)) (da_cons (de_fldG T.f_size (dv_var 0)) (da_cons (de_var 2) da_nil))) (da_cons (de_var 3) da_nil)))))))), g, F.kp, b⟩
theorem d_grown (T : Tp K mg base a) (F : Fun K "grown" "grown" s_grown f fd) (g : mg "grown" = some (.ref f)) (b : Binds K fd ["letters"] []) (D_put_in : Fd P w K mg base "put_in" 3 ["rows", "letter"] (S_put_in a)) :
    Fd P w K mg base "grown" 4 ["letters"] (S_grown a) :=
  ⟨f, fd, fnD_of F sc_grown (k := 3) (fun cdv A outer s H E hcd hg hr => (dss_cons (ds_set 1 sc_grown.nd (de_lst da_nil))
    (dss_cons (ds_set 2 sc_grown.nd (de_lst da_nil))
    (dss_cons (ds_for PassesOwn.leaving rfl (di_en (de_var 0) T.B.enumerate) (dg_seq rfl (dgs_cons (dg_name 3 sc_grown.nd) (dgs_cons (dg_name 4 sc_grown.nd) dgs_nil))) (dss_cons (ds_frz 1 (ds_asg (de_callF D_put_in (by exact hg) hr (passes_call (takes_of rfl rfl rfl rfl) (fun _ _ _ _ z => z)) (da_cons (de_var 1) (da_cons (de_var 4) da_nil))) (dg_seq rfl (dgs_cons (dg_name 1 sc_grown.nd) (dgs_cons (dg_name 5 sc_grown.nd) dgs_nil)))))
    (dss_cons (ds_if (dt_cmp (op_eqG hr.units) (dv_var 5) (dv_e (de_b1 cd_len (dv_var 2) T.B.len))) (dss_one (ds_app 2 (fun t ht => ps_expr (pe_bm PySem.F.plainAttrs_list PySem.F.slot_list_append PySem.F.type_list_append mt_append (pv 2) (pa_cons ht pa_nil))) (de_tup da_nil))) dss_nil)
    (dss_one (ds_setI 2 (fun t u ht hu => ps_asg ht (pg_sub (pv 2) hu set_list)) (de_op op_addD (dv_e (de_ix (dv_var 2) (dv_var 5))) (dv_e (de_tup (da_cons (de_var 3) da_nil)))) (dv_var 5))))))
    (dss_one (ds_frz 2 (ds_frz 1 (ds_ret (de_tup (da_cons (de_var 1) (da_cons (de_var 2) da_nil))))))))))), g, F.kp, b⟩
theorem d_recording (T : Tp K mg base a) (F : Fun K "recording" "recording" s_recording f fd) (g : mg "recording" = some (.ref f)) (b : Binds K fd ["word"] []) (D_grown : Fd P w K mg base "grown" 4 ["letters"] (S_grown a)) :
    Fd P w K mg base "recording" 5 ["word"] (S_recording a) :=
  ⟨f, fd, fnD_of F sc_recording (k := 4) (fun cdv A outer s H E hcd hg hr => (dss_one (ds_ret (de_t1 cd_tuple (dv_e (de_ix (dv_e (de_callF D_grown (by exact hg) hr (passes_call (takes_of rfl rfl rfl rfl) (fun _ _ _ _ z => z)) (da_cons (de_fldG T.f_letters (dv_var 0)) da_nil))) (dv_e de_int))) T.B.tuple)))), g, F.kp, b⟩
theorem d__law_like (T : Tp K mg base a) (F : Fun K "_law_like" "_law_like" s__law_like f fd) (g : mg "_law_like" = some (.ref f)) (b : Binds K fd ["told", "due"] []) :
    Fd P w K mg base "_law_like" 2 ["told", "due"] (S__law_like a) :=
  ⟨f, fd, fnD_of F sc__law_like (k := 1) (fun cdv A outer s H E hcd hg hr => (dss_one (ds_ret (de_cmp (op_eqG hr.units) (dv_e (de_b1 (cd_repr T.sys (by exact hg) hr.units) (dv_var 0) T.B.repr)) (dv_e (de_b1 (cd_repr T.sys (by exact hg) hr.units) (dv_var 1) T.B.repr)))))), g, F.kp, b⟩
theorem d_bumped (T : Tp K mg base a) (F : Fun K "bumped" "bumped" s_bumped f fd) (g : mg "bumped" = some (.ref f)) (b : Binds K fd ["word"] []) (D_Table_init : MkD P w K mg base "Table" a.w_Table ["self", "size", "rows"] 5 (S_Table_init a)) (D_grown : Fd P w K mg base "grown" 4 ["letters"] (S_grown a)) :
    Fd P w K mg base "bumped" 7 ["word"] (S_bumped a) :=
  ⟨f, fd, fnD_of F sc_bumped (k := 6) (fun cdv A outer s H E hcd hg hr => (dss_one (ds_ret (de_makeF D_Table_init (by exact hg) hr (passes_call (takes_of rfl rfl rfl rfl) (fun _ _ _ _ z => z)) (da_cons (de_fldG T.f_size (dv_var 0)) (da_cons (de_ix (dv_e (de_callF D_grown (by exact hg) hr (passes_call (takes_of rfl rfl rfl rfl) (fun _ _ _ _ z => z)) (da_cons (de_fldG T.f_letters (dv_var 0)) da_nil))) (dv_e de_int)) da_nil)))))), g, F.kp, b⟩
theorem d__law_is_table (T : Tp K mg base a) (F : Fun K "_law_is_table" "_law_is_table" s__law_is_table f fd) (g : mg "_law_is_table" = some (.ref f)) (b : Binds K fd ["told", "size", "rows"] []) :
    Fd P w K mg base "_law_is_table" 2 ["told", "size", "rows"] (S__law_is_table a) :=
  ⟨f, fd, fnD_of F sc__law_is_table (k := 1) (fun cdv A outer s H E hcd hg hr => (dss_cons (ds_if (dt_not (dt_v (dv_e (de_isi T.oc (dv_var 0) (dc_o T.g_Table) T.B.isinstance)))) (dss_one (ds_ret de_bl)) dss_nil)
    (dss_cons (ds_set 3 sc__law_is_table.nd (de_tup (da_cons (de_var 1) (da_cons (de_t1 cd_tuple (dv_e (de_lc rfl sc__law_is_table.nd (div_seq (dv_var 2)) (blkOk_by (N := ["told", "size", "rows", "due", "row"]) (sc := defScope s__law_is_table) (own := [("row", 4)]) (by decide +kernel)) (jgw_name _ 4) (fun _ _ _ _ _ => (pg_name (i := 4) sc__law_is_table.nd rfl (Or.inl rfl))) (fun _ _ _ _ _ => dts_nil) (fun _ _ _ _ _ => (de_t1 cd_tuple (dv_var 4) T.B.tuple)))) T.B.tuple) (da_cons (de_t1 cd_tuple (dv_e (de_lc rfl sc__law_is_table.nd (div_seq (dv_var 2)) (blkOk_by (N := ["told", "size", "rows", "due", "row"]) (sc := defScope s__law_is_table) (own := [("row", 4)]) (by decide +kernel)) (jgw_name _ 4) (fun _ _ _ _ _ => (pg_name (i := 4) sc__law_is_table.nd rfl (Or.inl rfl))) (fun _ _ _ _ _ => dts_nil) (fun _ _ _ _ _ => (de_b1 cd_len (dv_var 4) T.B.len)))) T.B.tuple) da_nil)))))
    (dss_one (ds_ret (de_cmp (op_eqG hr.units) (dv_e (de_b1 (cd_repr T.sys (by exact hg) hr.units) (dv_e (de_tup (da_cons (de_fldG T.f_size (dv_var 0)) (da_cons (de_fldG T.f_rows (dv_var 0)) (da_cons (de_fldG T.f_shape (dv_var 0)) da_nil))))) T.B.repr)) (dv_e (de_b1 (cd_repr T.sys (by exact hg) hr.units) (dv_var 3) T.B.repr)))))))), g, F.kp, b⟩
theorem d__law_steps_right (T : Tp K mg base a) (F : Fun K "_law_steps_right" "_law_steps_right" s__law_steps_right f fd) (g : mg "_law_steps_right" = some (.ref f)) (b : Binds K fd ["size", "letters"] []) (D_Table_init : MkD P w K mg base "Table" a.w_Table ["self", "size", "rows"] 5 (S_Table_init a)) (D__law_is_table : Fd P w K mg base "_law_is_table" 2 ["told", "size", "rows"] (S__law_is_table a)) (D__law_like : Fd P w K mg base "_law_like" 2 ["told", "due"] (S__law_like a)) (D__law_rows : Fd P w K mg base "_law_rows" 1 ["letters"] (S__law_rows a)) (D_inserted : Fd P w K mg base "inserted" 7 ["table", "letter"] (S_inserted a)) :
    Fd P w K mg base "_law_steps_right" 8 ["size", "letters"] (S__law_steps_right a) :=
  ⟨f, fd, fnD_of F sc__law_steps_right (k := 7) (fun cdv A outer s H E hcd hg hr => (dss_cons (ds_set 2 sc__law_steps_right.nd (de_makeF D_Table_init (by exact hg) hr (passes_call (takes_of rfl rfl rfl rfl) (fun _ _ _ _ z => z)) (da_cons (de_var 0) (da_cons (de_tup da_nil) da_nil))))
    (dss_cons (ds_for PassesOwn.leaving rfl (di_en (de_var 1) T.B.enumerate) (dg_seq rfl (dgs_cons (dg_name 3 sc__law_steps_right.nd) (dgs_cons (dg_name 4 sc__law_steps_right.nd) dgs_nil))) (dss_cons (ds_set 5 sc__law_steps_right.nd (de_callF D_inserted (by exact hg) hr (passes_call (takes_of rfl rfl rfl rfl) (fun _ _ _ _ z => z)) (da_cons (de_var 2) (da_cons (de_var 4) da_nil))))
    (dss_cons (ds_par2 8 9 rfl sc__law_steps_right.nd (dr_cons (de_callF D__law_rows (by exact hg) hr (passes_call (takes_of rfl rfl rfl rfl) (fun _ _ _ _ z => z)) (da_cons (de_sl (dv_var 1) do_none (do_some (dv_var 3))) da_nil)) (dr_cons (de_callF D__law_rows (by exact hg) hr (passes_call (takes_of rfl rfl rfl rfl) (fun _ _ _ _ z => z)) (da_cons (de_sl (dv_var 1) do_none (do_some (dv_e (de_op op_addD (dv_var 3) (dv_e de_int))))) da_nil)) dr_nil)))
    (dss_cons (ds_set 6 sc__law_steps_right.nd (de_op op_addD (dv_e (de_lc rfl sc__law_steps_right.nd (div_seq (dv_var 8)) (blkOk_by (N := ["size", "letters", "table", "k", "letter", "told", "lengths_v", "grown_v", "ahead", "due", "row", "number"]) (sc := defScope s__law_steps_right) (own := [("row", 10)]) (by decide +kernel)) (jgw_name _ 10) (fun _ _ _ _ _ => (pg_name (i := 10) sc__law_steps_right.nd rfl (Or.inl rfl))) (fun _ _ _ _ _ => dts_nil) (fun _ _ _ _ _ => (de_b1 cd_len (dv_var 10) T.B.len)))) (dv_e (de_lst (da_cons de_int da_nil)))))
    (dss_cons (ds_setLc 7 rfl sc__law_steps_right.nd (div_en (dv_var 9) T.B.enumerate) (blkOk_by (N := ["size", "letters", "table", "k", "letter", "told", "lengths_v", "grown_v", "ahead", "due", "row", "number"]) (sc := defScope s__law_steps_right) (own := [("number", 11), ("row", 10)]) (by decide +kernel)) (jgw_two _ 11 10) (fun _ _ _ _ _ => (pg_tup rfl (pgs_cons (pg_name (i := 11) sc__law_steps_right.nd rfl (Or.inl rfl)) (pgs_cons (pg_name (i := 10) sc__law_steps_right.nd rfl (Or.inl rfl)) pgs_nil)))) (fun _ _ _ _ _ => (dts_one (dt_cmp op_gtD (dv_e (de_b1 cd_len (dv_var 10) T.B.len)) (dv_e (de_ix (dv_var 6) (dv_var 11)))))) (fun _ _ _ _ _ => (de_var 11)))
    (dss_cons (ds_frz 9 (ds_if (dt_w (dw_or (dt_not (dt_v (dv_e (de_isi T.oc (dv_var 5) (dc_b T.B.tuple) T.B.isinstance)))) (dw_or (dt_cmp (op_neG hr.units) (dv_e (de_b1 cd_len (dv_var 5) T.B.len)) (dv_e de_int)) (dw_or1 (dt_not (dt_v (dv_e (de_callF D__law_is_table (by exact hg) hr (passes_call (takes_of rfl rfl rfl rfl) (fun _ _ _ _ z => z)) (da_cons (de_ix (dv_var 5) (dv_e de_int)) (da_cons (de_var 0) (da_cons (de_var 9) da_nil))))))))))) (dss_one (ds_ret de_bl)) dss_nil))
    (dss_cons (ds_frz 8 (ds_if (dt_w (dw_or (dt_not (dt_v (dv_e (de_callF D__law_like (by exact hg) hr (passes_call (takes_of rfl rfl rfl rfl) (fun _ _ _ _ z => z)) (da_cons (de_ix (dv_var 5) (dv_e de_int)) (da_cons (de_ix (dv_var 7) (dv_e de_int)) da_nil)))))) (dw_or1 (dt_not (dt_v (dv_e (de_callF D__law_is_table (by exact hg) hr (passes_call (takes_of rfl rfl rfl rfl) (fun _ _ _ _ z => z)) (da_cons (de_var 2) (da_cons (de_var 0) (da_cons (de_var 8) da_nil)))))))))) (dss_one (ds_ret de_bl)) dss_nil))
    (dss_one (ds_set 2 sc__law_steps_right.nd (de_ix (dv_var 5) (dv_e de_int)))))))))))
    (dss_one (ds_ret de_bl))))), g, F.kp, b⟩
theorem d__law_is_word (T : Tp K mg base a) (F : Fun K "_law_is_word" "_law_is_word" s__law_is_word f fd) (g : mg "_law_is_word" = some (.ref f)) (b : Binds K fd ["told", "size", "letters"] []) :
    Fd P w K mg base "_law_is_word" 2 ["told", "size", "letters"] (S__law_is_word a) :=
  ⟨f, fd, fnD_of F sc__law_is_word (k := 1) (fun cdv A outer s H E hcd hg hr => (dss_one (ds_ret (de_and (dv_e (de_isi T.oc (dv_var 0) (dc_o T.g_Word) T.B.isinstance)) (de_one (de_cmp (op_eqG hr.units) (dv_e (de_b1 (cd_repr T.sys (by exact hg) hr.units) (dv_e (de_tup (da_cons (de_fldG T.f_size (dv_var 0)) (da_cons (de_fldG T.f_letters (dv_var 0)) da_nil)))) T.B.repr)) (dv_e (de_b1 (cd_repr T.sys (by exact hg) hr.units) (dv_e (de_tup (da_cons (de_var 1) (da_cons (de_t1 cd_tuple (dv_var 2) T.B.tuple) da_nil)))) T.B.repr)))))))), g, F.kp, b⟩
theorem d__law_places (T : Tp K mg base a) (F : Fun K "_law_places" "_law_places" s__law_places f fd) (g : mg "_law_places" = some (.ref f)) (b : Binds K fd ["letters"] []) (D__law_rows : Fd P w K mg base "_law_rows" 1 ["letters"] (S__law_rows a)) :
    Fd P w K mg base "_law_places" 2 ["letters"] (S__law_places a) :=
  ⟨f, fd, fnD_of F sc__law_places (k := 1) (fun cdv A outer s H E hcd hg hr => (dss_cons (ds_nest 1 (ds_set 1 sc__law_places.nd (de_lst da_nil)))
    (dss_cons (ds_for PassesOwn.leaving rfl (di_range1 (dv_e (de_b1 cd_len (dv_var 0) T.B.len)) (by rfl) T.B.range) (dg_name 2 sc__law_places.nd) (dss_cons (ds_par2 5 6 rfl sc__law_places.nd (dr_cons (de_callF D__law_rows (by exact hg) hr (passes_call (takes_of rfl rfl rfl rfl) (fun _ _ _ _ z => z)) (da_cons (de_sl (dv_var 0) do_none (do_some (dv_var 2))) da_nil)) (dr_cons (de_callF D__law_rows (by exact hg) hr (passes_call (takes_of rfl rfl rfl rfl) (fun _ _ _ _ z => z)) (da_cons (de_sl (dv_var 0) do_none (do_some (dv_e (de_op op_addD (dv_var 2) (dv_e de_int))))) da_nil)) dr_nil)))
    (dss_cons (ds_set 3 sc__law_places.nd (de_op op_addD (dv_e (de_lc rfl sc__law_places.nd (div_seq (dv_var 5)) (blkOk_by (N := ["letters", "found", "place", "lengths_v", "at", "ahead", "here", "row", "number"]) (sc := defScope s__law_places) (own := [("row", 7)]) (by decide +kernel)) (jgw_name _ 7) (fun _ _ _ _ _ => (pg_name (i := 7) sc__law_places.nd rfl (Or.inl rfl))) (fun _ _ _ _ _ => dts_nil) (fun _ _ _ _ _ => (de_b1 cd_len (dv_var 7) T.B.len)))) (dv_e (de_lst (da_cons de_int da_nil)))))
    (dss_cons (ds_set 4 sc__law_places.nd (de_ix (dv_e (de_lc rfl sc__law_places.nd (div_en (dv_var 6) T.B.enumerate) (blkOk_by (N := ["letters", "found", "place", "lengths_v", "at", "ahead", "here", "row", "number"]) (sc := defScope s__law_places) (own := [("number", 8), ("row", 7)]) (by decide +kernel)) (jgw_two _ 8 7) (fun _ _ _ _ _ => (pg_tup rfl (pgs_cons (pg_name (i := 8) sc__law_places.nd rfl (Or.inl rfl)) (pgs_cons (pg_name (i := 7) sc__law_places.nd rfl (Or.inl rfl)) pgs_nil)))) (fun _ _ _ _ _ => (dts_one (dt_cmp op_gtD (dv_e (de_b1 cd_len (dv_var 7) T.B.len)) (dv_e (de_ix (dv_var 3) (dv_var 8)))))) (fun _ _ _ _ _ => (de_var 8)))) (dv_e de_int)))
    (dss_cons (ds_if (dt_cmp (op_eqG hr.units) (dv_var 4) (dv_e (de_b1 cd_len (dv_varN 1) T.B.len))) (dss_one (ds_app2 1 (fun t ht => ps_expr (pe_bm PySem.F.plainAttrs_list PySem.F.slot_list_append PySem.F.type_list_append mt_append (pv 1) (pa_cons ht pa_nil))) (de_lst da_nil))) dss_nil)
    (dss_one (ds_appI 1 (fun u t hu ht => ps_expr (pe_bm PySem.F.plainAttrs_list PySem.F.slot_list_append PySem.F.type_list_append mt_append (pe_ix ix_list (pv 1) hu (by exact fun _ _ => rfl)) (pa_cons ht pa_nil))) (dv_var 4) (de_var 2))))))))
    (dss_one (ds_frz 1 (ds_ret (de_var 1))))))), g, F.kp, b⟩
theorem d_law (T : Tp K mg base a) {c : Addr} (TB : TabB base mg c a.P_law) (F : FunC K "law" "law" s_law c f fd) (b : Binds K fd ["script"] []) (D_Table_eq : Sd P w K mg base a.w_Table "__eq__" 2 ["self", "other"] (S_Table_eq a)) (D_Table_init : MkD P w K mg base "Table" a.w_Table ["self", "size", "rows"] 5 (S_Table_init a)) (D_Word_init : MkD P w K mg base "Word" a.w_Word ["self", "size", "letters"] 4 (S_Word_init a)) (D__law_draw : Fd P w K mg base "_law_draw" 2 ["m", "limit"] (S__law_draw a)) (D__law_is_table : Fd P w K mg base "_law_is_table" 2 ["told", "size", "rows"] (S__law_is_table a)) (D__law_is_word : Fd P w K mg base "_law_is_word" 2 ["told", "size", "letters"] (S__law_is_word a)) (D__law_letters : Fd P w K mg base "_law_letters" 3 ["m", "size", "most"] (S__law_letters a)) (D__law_like : Fd P w K mg base "_law_like" 2 ["told", "due"] (S__law_like a)) (D__law_odd : Fd P w K mg base "_law_odd" 3 ["m", "size"] (S__law_odd a)) (D__law_places : Fd P w K mg base "_law_places" 2 ["letters"] (S__law_places a)) (D__law_rows : Fd P w K mg base "_law_rows" 1 ["letters"] (S__law_rows a)) (D__law_size : Fd P w K mg base "_law_size" 3 ["m"] (S__law_size a)) (D__law_steps_right : Fd P w K mg base "_law_steps_right" 8 ["size", "letters"] (S__law_steps_right a)) (D_bumped : Fd P w K mg base "bumped" 7 ["word"] (S_bumped a)) (D_inserted : Fd P w K mg base "inserted" 7 ["table", "letter"] (S_inserted a)) (D_recording : Fd P w K mg base "recording" 5 ["word"] (S_recording a)) {fB : Addr} {dB : FuncData} (FB : Df K mg "_law_begun" sBegun fB dB) (bB : Binds K dB ["script"] []) (GB : FnOk P w K mg base CX0 2 fB dB ["script"] (spBegun K)) {Tl : List (Addr × Str)} (hp : Pass Tl ["script", "m", "turn", "size", "letters", "word", "wrong", "table", "one", "row"] (g_law a)) :
    FnG P w K mg base 10 f fd ["script"] (spLawD K Tl) :=
  lawC F sc_law (k := 9) (by decide) rfl (fun A outer s H E hro => ps_set (i := 1) sc_law.nd rfl (Or.inr rfl) (pe_call GB (hro.mono (by decide)) (by rfl) FB.g FB.fn.kp bB .nil pass0 (pa_cons (pv 0) pa_nil))) (fun A outer s H E hg hr => (dss_cons (ds_for PassesOwn.leaving rfl (di_range1 (dv_e de_int) (by rfl) T.B.range) (dg_name 2 sc_law.nd) (dss_cons (ds_set 3 sc_law.nd (de_callF D__law_size (by exact hg) hr (passes_call (takes_of rfl rfl rfl rfl) (fun _ _ _ _ z => z)) (da_cons (de_var 1) da_nil)))
    (dss_cons (ds_set 4 sc_law.nd (de_callF D__law_letters (by exact hg) hr (passes_call (takes_of rfl rfl rfl rfl) (fun _ _ _ _ z => z)) (da_cons (de_var 1) (da_cons (de_var 3) (da_cons de_int da_nil)))))
    (dss_cons (ds_frz 4 (ds_set 5 sc_law.nd (de_makeF D_Word_init (by exact hg) hr (passes_call (takes_of rfl rfl rfl rfl) (fun _ _ _ _ z => z)) (da_cons (de_var 3) (da_cons (de_var 4) da_nil)))))
    (dss_cons (ds_frz 4 (ds_if (dt_w (dw_or (dt_not (dt_v (dv_e (de_callF D__law_steps_right (by exact hg) hr (passes_call (takes_of rfl rfl rfl rfl) (fun _ _ _ _ z => z)) (da_cons (de_var 3) (da_cons (de_var 4) da_nil)))))) (dw_or1 (dt_not (dt_v (dv_e (de_callF D__law_is_table (by exact hg) hr (passes_call (takes_of rfl rfl rfl rfl) (fun _ _ _ _ z => z)) (da_cons (de_callF D_bumped (by exact hg) hr (passes_call (takes_of rfl rfl rfl rfl) (fun _ _ _ _ z => z)) (da_cons (de_var 5) da_nil)) (da_cons (de_var 3) (da_cons (de_callF D__law_rows (by exact hg) hr (passes_call (takes_of rfl rfl rfl rfl) (fun _ _ _ _ z => z)) (da_cons (de_var 4) da_nil)) da_nil)))))))))) (dss_one (ds_ret de_bl)) dss_nil))
    (dss_cons (ds_frz 4 (ds_if (dt_not (dt_v (dv_e (de_callF D__law_like (by exact hg) hr (passes_call (takes_of rfl rfl rfl rfl) (fun _ _ _ _ z => z)) (da_cons (de_callF D_recording (by exact hg) hr (passes_call (takes_of rfl rfl rfl rfl) (fun _ _ _ _ z => z)) (da_cons (de_var 5) da_nil)) (da_cons (de_t1 cd_tuple (dv_e (de_lc rfl sc_law.nd (div_seq (dv_e (de_callF D__law_places (by exact hg) hr (passes_call (takes_of rfl rfl rfl rfl) (fun _ _ _ _ z => z)) (da_cons (de_var 4) da_nil)))) (blkOk_by (N := ["script", "m", "turn", "size", "letters", "word", "wrong", "table", "one", "row"]) (sc := defScope s_law) (own := [("row", 9)]) (by decide +kernel)) (jgw_name _ 9) (fun _ _ _ _ _ => (pg_name (i := 9) sc_law.nd rfl (Or.inl rfl))) (fun _ _ _ _ _ => dts_nil) (fun _ _ _ _ _ => (de_t1 cd_tuple (dv_var 9) T.B.tuple)))) T.B.tuple) da_nil)))))) (dss_one (ds_ret de_bl)) dss_nil))
    (dss_cons (ds_set 6 sc_law.nd (de_callF D__law_odd (by exact hg) hr (passes_call (takes_of rfl rfl rfl rfl) (fun _ _ _ _ z => z)) (da_cons (de_var 1) (da_cons (de_var 3) da_nil))))
    (dss_cons (ds_set 7 sc_law.nd (de_makeF D_Table_init (by exact hg) hr (passes_call (takes_of rfl rfl rfl rfl) (fun _ _ _ _ z => z)) (da_cons (de_var 3) (da_cons (de_lst (da_cons (de_op op_mulG (dv_e (de_lst (da_cons de_int da_nil))) (dv_e de_int)) da_nil)) da_nil))))
    (dss_cons (ds_for PassesOwn.leaving rfl (di_seq (de_tup (da_cons (de_callF D_bumped (by exact hg) hr (passes_call (takes_of rfl rfl rfl rfl) (fun _ _ _ _ z => z)) (da_cons (de_var 5) da_nil)) (da_cons (de_var 7) da_nil)))) (dg_name 8 sc_law.nd) (dss_one (ds_if (dt_cmp (OpD.or (p := objL a.w_Table) (od_neFY T.oc D_Table_eq T.ne_Table T.mro_Table (by exact hg) hr (passes_call (takes_of rfl rfl rfl rfl) (fun _ _ _ _ z => z)) (by simp [ocs])) (OpD.or (p := prP a.w_Table) (od_nePF D_Table_eq (by exact hg) hr (passes_call (takes_of rfl rfl rfl rfl) (fun _ _ _ _ z => z))) (op_neG hr.units))) (dv_e (de_heard (X := (cxOf (L2.CX P w) P w K mg base ["script", "m", "turn", "size", "letters", "word", "wrong", "table", "one", "row"] "law" (defScope s_law) f (.ref c) A outer s H E)) (k := 7) T.hr TB rfl hr (lamS_by (sc := defScope s_law) (by decide +kernel)) rfl (fun _ _ _ _ _ => rfl) (fun A' outer' s' H' E' f' c' hgL hrL => (de_callF D_inserted (hgL.trans hg) hrL (passes_call (takes_of rfl rfl rfl rfl) (fun _ _ _ _ z => z)) (da_cons (de_var 8) (da_cons (de_var 6) da_nil)))))) (dv_e (de_tup (da_cons de_str (da_cons de_non da_nil))))) (dss_one (ds_ret de_bl)) dss_nil)))
    (dss_cons (ds_if (dt_cmp (OpD.or (p := objL a.w_Table) (od_neFY T.oc D_Table_eq T.ne_Table T.mro_Table (by exact hg) hr (passes_call (takes_of rfl rfl rfl rfl) (fun _ _ _ _ z => z)) (by simp [ocs])) (OpD.or (p := prP a.w_Table) (od_nePF D_Table_eq (by exact hg) hr (passes_call (takes_of rfl rfl rfl rfl) (fun _ _ _ _ z => z))) (op_neG hr.units))) (dv_e (de_heard (X := (cxOf (L2.CX P w) P w K mg base ["script", "m", "turn", "size", "letters", "word", "wrong", "table", "one", "row"] "law" (defScope s_law) f (.ref c) A outer s H E)) (k := 7) T.hr TB rfl hr (lamS_by (sc := defScope s_law) (by decide +kernel)) rfl (fun _ _ _ _ _ => rfl) (fun A' outer' s' H' E' f' c' hgL hrL => (de_callF D_inserted (hgL.trans hg) hrL (passes_call (takes_of rfl rfl rfl rfl) (fun _ _ _ _ z => z)) (da_cons (de_var 7) (da_cons (de_op op_addD (dv_e de_int) (dv_e (de_callF D__law_draw (hgL.trans hg) hrL (passes_call (takes_of rfl rfl rfl rfl) (fun _ _ _ _ z => z)) (da_cons (de_var 1) (da_cons (de_var 3) da_nil))))) da_nil)))))) (dv_e (de_tup (da_cons de_str (da_cons de_int da_nil))))) (dss_one (ds_ret de_bl)) dss_nil)
    (dss_one (ds_frz 4 (ds_if (dt_w (dw_or (dt_not (dt_v (dv_e (de_callF D__law_is_table (by exact hg) hr (passes_call (takes_of rfl rfl rfl rfl) (fun _ _ _ _ z => z)) (da_cons (de_var 7) (da_cons (de_var 3) (da_cons (de_lst (da_cons (de_op op_mulG (dv_e (de_lst (da_cons de_int da_nil))) (dv_e de_int)) da_nil)) da_nil))))))) (dw_or1 (dt_not (dt_v (dv_e (de_callF D__law_is_word (by exact hg) hr (passes_call (takes_of rfl rfl rfl rfl) (fun _ _ _ _ z => z)) (da_cons (de_var 5) (da_cons (de_var 3) (da_cons (de_var 4) da_nil)))))))))) (dss_one (ds_ret de_bl)) dss_nil)))))))))))))
    (dss_cons (ds_if (dt_cmp (OpD.or (p := objL a.w_Table) (od_neFY T.oc D_Table_eq T.ne_Table T.mro_Table (by exact hg) hr (passes_call (takes_of rfl rfl rfl rfl) (fun _ _ _ _ z => z)) (by simp [ocs])) (OpD.or (p := prP a.w_Table) (od_nePF D_Table_eq (by exact hg) hr (passes_call (takes_of rfl rfl rfl rfl) (fun _ _ _ _ z => z))) (op_neG hr.units))) (dv_e (de_callF D_inserted (by exact hg) hr (passes_call (takes_of rfl rfl rfl rfl) (fun _ _ _ _ z => z)) (da_cons (de_makeF D_Table_init (by exact hg) hr (passes_call (takes_of rfl rfl rfl rfl) (fun _ _ _ _ z => z)) (da_cons de_int (da_cons (de_lst (da_cons (de_lst (da_cons de_int (da_cons de_int (da_cons de_int da_nil)))) (da_cons (de_lst (da_cons de_int da_nil)) da_nil))) da_nil))) (da_cons de_int da_nil)))) (dv_e (de_tup (da_cons (de_makeF D_Table_init (by exact hg) hr (passes_call (takes_of rfl rfl rfl rfl) (fun _ _ _ _ z => z)) (da_cons de_int (da_cons (de_lst (da_cons (de_lst (da_cons de_int (da_cons de_int (da_cons de_int da_nil)))) (da_cons (de_lst (da_cons de_int da_nil)) (da_cons (de_lst (da_cons de_int da_nil)) da_nil)))) da_nil))) (da_cons de_int da_nil))))) (dss_one (ds_ret de_bl)) dss_nil)
    (dss_cons (ds_if (dt_w (dw_or (dt_cmp (OpD.or (p := objL a.w_Table) (od_neFY T.oc D_Table_eq T.ne_Table T.mro_Table (by exact hg) hr (passes_call (takes_of rfl rfl rfl rfl) (fun _ _ _ _ z => z)) (by simp [ocs])) (OpD.or (p := prP a.w_Table) (od_nePF D_Table_eq (by exact hg) hr (passes_call (takes_of rfl rfl rfl rfl) (fun _ _ _ _ z => z))) (op_neG hr.units))) (dv_e (de_fldG T.f_rows (dv_e (de_callF D_bumped (by exact hg) hr (passes_call (takes_of rfl rfl rfl rfl) (fun _ _ _ _ z => z)) (da_cons (de_makeF D_Word_init (by exact hg) hr (passes_call (takes_of rfl rfl rfl rfl) (fun _ _ _ _ z => z)) (da_cons de_int (da_cons (de_tup da_nil) da_nil))) da_nil))))) (dv_e (de_tup da_nil))) (dw_or1 (dt_cmp (OpD.or (p := objL a.w_Table) (od_neFY T.oc D_Table_eq T.ne_Table T.mro_Table (by exact hg) hr (passes_call (takes_of rfl rfl rfl rfl) (fun _ _ _ _ z => z)) (by simp [ocs])) (OpD.or (p := prP a.w_Table) (od_nePF D_Table_eq (by exact hg) hr (passes_call (takes_of rfl rfl rfl rfl) (fun _ _ _ _ z => z))) (op_neG hr.units))) (dv_e (de_callF D_recording (by exact hg) hr (passes_call (takes_of rfl rfl rfl rfl) (fun _ _ _ _ z => z)) (da_cons (de_makeF D_Word_init (by exact hg) hr (passes_call (takes_of rfl rfl rfl rfl) (fun _ _ _ _ z => z)) (da_cons de_int (da_cons (de_tup da_nil) da_nil))) da_nil))) (dv_e (de_tup da_nil)))))) (dss_one (ds_ret de_bl)) dss_nil)
    (dss_one (ds_ret (de_cmp (OpD.or (p := objL a.w_Table) (od_eqFY T.oc D_Table_eq (by exact hg) hr (passes_call (takes_of rfl rfl rfl rfl) (fun _ _ _ _ z => z)) (by simp [ocs])) (op_eqG hr.units)) (dv_e (de_callF D_recording (by exact hg) hr (passes_call (takes_of rfl rfl rfl rfl) (fun _ _ _ _ z => z)) (da_cons (de_makeF D_Word_init (by exact hg) hr (passes_call (takes_of rfl rfl rfl rfl) (fun _ _ _ _ z => z)) (da_cons de_int (da_cons (de_lst (da_cons de_int (da_cons de_int (da_cons de_int da_nil)))) da_nil))) da_nil))) (dv_e (de_tup (da_cons (de_tup (da_cons de_int (da_cons de_int da_nil))) (da_cons (de_tup (da_cons de_int da_nil)) da_nil))))))))))) hp
end
end Dg
namespace DL
open PySem L2
theorem bnd_ret {α β : Type} (a : α) (f : α → M β) : M.bnd (M.ret a) f = f a := rfl
theorem bnd_nn {β α : Type} (f : α → M β) : M.bnd (M.no : M α) f = M.no := rfl
theorem bnd_rse {α β : Type} (e : Exn) (f : α → M β) : M.bnd (M.rse e : M α) f = M.rse e := rfl
theorem bnd_ite {α β : Type} (c : Prop) [Decidable c] (x y : M α) (f : α → M β) : M.bnd (if c then x else y) f = if c then M.bnd x f else M.bnd y f := by split <;> rfl
theorem nx_ret {α : Type} (a : α) : M.nx (M.ret a) = M.ret a := rfl
theorem gWhile_eq1 (t : List Sl → M Bool) (body : List Sl → M Fl) (δ : List Sl) : gWhile t body δ = M.bnd (t δ) fun b => if b = true then M.bnd (body δ) fun
      | .nx δ2 => gWhile t body δ2
      | .ct δ2 => gWhile t body δ2
      | .bk δ2 => M.ret (.nx δ2)
      | .ret r => M.ret (.ret r)
    else M.ret (.nx δ) := by
  funext s
  have A : ∀ n r, whileN t body (n + 1) δ s = r → r ≠ .no → gWhile t body δ s = r := fun n r h hr => gWhile_of h hr
  have B : ∀ δ2 s2, gWhile t body δ2 s2 ≠ .no → ∃ n, whileN t body n δ2 s2 = gWhile t body δ2 s2 ∧ whileN t body n δ2 s2 ≠ .no := fun δ2 s2 h => by
    have hx : ∃ n, whileN t body n δ2 s2 ≠ .no := Classical.byContradiction fun hn => h (by unfold gWhile; rw [dif_neg hn])
    obtain ⟨n, hn⟩ := hx
    exact ⟨n, (gWhile_eq hn).symm, hn⟩
  have C : ∀ {r : Rs Fl}, r = .no → (∀ n, whileN t body (n + 1) δ s = .no) → gWhile t body δ s = r := fun e h => by
    rw [e]
    unfold gWhile
    rw [dif_neg]
    rintro ⟨n, hn⟩
    cases n with
    | zero => exact hn rfl
    | succ n => exact hn (h n)
  unfold M.bnd
  cases et : t δ s with
  | no => exact C rfl fun n => by unfold whileN M.bnd; rw [et]
  | ex a b =>
    refine A 0 _ ?_ (by intro z; cases z)
    unfold whileN M.bnd
    rw [et]
  | ok b s1 =>
    cases b with
    | false =>
      refine A 0 _ ?_ (by intro z; cases z)
      unfold whileN M.bnd
      rw [et]
      rfl
    | true =>
      simp only [if_true]
      cases eb : body δ s1 with
      | no => exact C rfl fun n => by unfold whileN M.bnd; rw [et]; simp only [if_true]; rw [eb]
      | ex a b =>
        refine A 0 _ ?_ (by intro z; cases z)
        unfold whileN M.bnd
        rw [et]
        simp only [if_true]
        rw [eb]
      | ok f s2 =>
        cases f with
        | ret r =>
          refine A 0 _ ?_ (by intro z; cases z)
          unfold whileN M.bnd
          rw [et]
          simp only [if_true]
          rw [eb]
        | bk δ2 =>
          refine A 0 _ ?_ (by intro z; cases z)
          unfold whileN M.bnd
          rw [et]
          simp only [if_true]
          rw [eb]
        | nx δ2 =>
          by_cases h : gWhile t body δ2 s2 = .no
          · refine C h fun n => ?_
            unfold whileN M.bnd
            rw [et]
            simp only [if_true]
            rw [eb]
            show whileN t body n δ2 s2 = .no
            refine Classical.byContradiction fun z => ?_
            exact z ((gWhile_eq z).symm.trans h)
          · obtain ⟨n, e1, e2⟩ := B δ2 s2 h
            refine A n _ ?_ h
            unfold whileN M.bnd
            rw [et]
            simp only [if_true]
            rw [eb]
            exact e1
        | ct δ2 =>
          by_cases h : gWhile t body δ2 s2 = .no
          · refine C h fun n => ?_
            unfold whileN M.bnd
            rw [et]
            simp only [if_true]
            rw [eb]
            show whileN t body n δ2 s2 = .no
            refine Classical.byContradiction fun z => ?_
            exact z ((gWhile_eq z).symm.trans h)
          · obtain ⟨n, e1, e2⟩ := B δ2 s2 h
            refine A n _ ?_ h
            unfold whileN M.bnd
            rw [et]
            simp only [if_true]
            rw [eb]
            exact e1
theorem gForL_step {tg : Dt → List Sl → Option (List Sl)} {body : List Sl → M Fl} {d : Dt} {ds : List Dt} {δ δ1 : List Sl} (h : tg d δ = some δ1) : gForL tg body (d :: ds) δ = M.bnd (body δ1) fun
      | .nx δ2 => gForL tg body ds δ2
      | .ct δ2 => gForL tg body ds δ2
      | .bk δ2 => M.ret (.nx δ2)
      | .ret r => M.ret (.ret r) := by
  show (match tg d δ with | some δ1 => _ | none => _) = _
  rw [h]
  try rfl
theorem for_ret {tg : Dt → List Sl → Option (List Sl)} {body : List Sl → M Fl} {l : List Dt} (P : Nat → List Sl → Prop) (h : ∀ k d δ, l[k]? = some d → P k δ → ∃ δ1 δ2, tg d δ = some δ1 ∧ body δ1 = M.ret (.nx δ2) ∧ P (k + 1) δ2) :
    ∀ (j n : Nat) (δ : List Sl), l.length = n + j → P n δ → ∃ δ', gForL tg body (l.drop n) δ = M.ret (.nx δ') ∧ P l.length δ'
  | 0, n, δ, hn, p => ⟨δ, by rw [List.drop_of_length_le (by omega)]; rfl, by rw [hn]; exact p⟩
  | j + 1, n, δ, hn, p => by
    have hlt : n < l.length := by omega
    obtain ⟨δ1, δ2, e1, e2, p2⟩ := h n l[n] δ (List.getElem?_eq_getElem hlt) p
    obtain ⟨δ', e, q⟩ := for_ret P h j (n + 1) δ2 (by omega) p2
    refine ⟨δ', ?_, q⟩
    rw [List.drop_eq_getElem_cons hlt, gForL_step e1, e2, bnd_ret]
    exact e
theorem for_ret0 {tg : Dt → List Sl → Option (List Sl)} {body : List Sl → M Fl} {l : List Dt} (P : Nat → List Sl → Prop) (h : ∀ k d δ, l[k]? = some d → P k δ → ∃ δ1 δ2, tg d δ = some δ1 ∧ body δ1 = M.ret (.nx δ2) ∧ P (k + 1) δ2) {δ : List Sl} (p : P 0 δ) :
    ∃ δ', gForL tg body l δ = M.ret (.nx δ') ∧ P l.length δ' := by
  obtain ⟨δ', e, q⟩ := for_ret P h l.length 0 δ (by omega) p
  exact ⟨δ', e, q⟩
theorem tst1_ty {cs : List Addr} {T : String} {d : Dt} {x : String} (h : tyN d = some x) : tst1 cs (.ty T) d = kitB x T := by
  cases d <;> first | (cases h; rfl) | cases h
theorem tst1_obj {cs : List Addr} {C D : Addr} {ns : List Str} {l : List Dt} (hC : C ∈ cs) (hD : D ∈ cs) : tst1 cs (.own C) (.obj D ns l) = some (decide (D = C)) := if_pos ⟨hC, hD⟩
theorem isi_one {cs : List Addr} {t : Tst} {d : Dt} {b : Bool} (h : tst1 cs t d = some b) : isiD cs [t] d = M.ret (.val (.bl b)) := by
  unfold isiD tstA
  rw [h]
  cases b <;> rfl
theorem isi_ty (cs : List Addr) (T : String) (d : Dt) {x : String} (h : tyN d = some x) {b : Bool} (hb : kitB x T = some b) : isiD cs [.ty T] d = M.ret (.val (.bl b)) := isi_one (by rw [tst1_ty h, hb])
theorem isi_obj (cs : List Addr) (C D : Addr) (ns : List Str) (l : List Dt) (hC : C ∈ cs) (hD : D ∈ cs) : isiD cs [.own C] (.obj D ns l) = M.ret (.val (.bl (decide (D = C)))) := isi_one (tst1_obj hC hD)
theorem isi_lt (cs : List Addr) (d : Dt) {x : String} (h : tyN d = some x) {b c : Bool} (hb : kitB x "list" = some b) (hc : kitB x "tuple" = some c) : isiD cs [.ty "list", .ty "tuple"] d = M.ret (.val (.bl (b || c))) := by
  unfold isiD tstA
  rw [tst1_ty h, hb]
  cases b with
  | true => rfl
  | false =>
    simp only [tstA]
    rw [tst1_ty h, hc]
    cases c <;> rfl
def btw : Dt → Int → Int → Bool
  | .int z, lo, hi => decide (lo ≤ z) && decide (z ≤ hi)
  | _, _, _ => false
def plainD (d : Dt) : Bool := (tyN d).isSome
def Dw {α : Type} (T : List (Addr × Str)) (k : Int) (x : M α) (P : α → Prop) : Prop := ∀ s : MS, 0 ≤ s.n → s.n + k ≤ 900000 → s.tabs = T → ∃ a s', x s = .ok a s' ∧ P a ∧ s.n ≤ s'.n ∧ s'.n ≤ s.n + k ∧ s'.tabs = T
section
variable {α β : Type} {T : List (Addr × Str)}
theorem Dw.ret {k : Int} {a : α} {P : α → Prop} (hk : 0 ≤ k) (h : P a) : Dw T k (M.ret a) P := fun s _ _ ht => ⟨a, s, rfl, h, Int.le_refl _, by omega, ht⟩
theorem Dw.bnd {k j : Int} {x : M α} {f : α → M β} {P : α → Prop} {Q : β → Prop} (hk : 0 ≤ k) (hj : 0 ≤ j) (h : Dw T k x P) (hf : ∀ a, P a → Dw T j (f a) Q) : Dw T (k + j) (M.bnd x f) Q := fun s h0 h1 ht => by
  obtain ⟨a, s1, e1, p, n1, n2, t1⟩ := h s h0 (by omega) ht
  obtain ⟨b, s2, e2, q, m1, m2, t2⟩ := hf a p s1 (by omega) (by omega) t1
  exact ⟨b, s2, by rw [M.bnd_ok e1, e2], q, by omega, by omega, t2⟩
theorem Dw.le {k j : Int} {x : M α} {P : α → Prop} (h : Dw T k x P) (hk : k ≤ j) : Dw T j x P := fun s h0 h1 ht => by
  obtain ⟨a, s1, e1, p, n1, n2, t1⟩ := h s h0 (by omega) ht
  exact ⟨a, s1, e1, p, n1, by omega, t1⟩
theorem Dw.imp {k : Int} {x : M α} {P Q : α → Prop} (h : Dw T k x P) (i : ∀ a, P a → Q a) : Dw T k x Q := fun s h0 h1 ht => by
  obtain ⟨a, s1, e1, p, n⟩ := h s h0 h1 ht
  exact ⟨a, s1, e1, i a p, n⟩
theorem Dw.of_eq {k : Int} {x y : M α} {P : α → Prop} (h : Dw T k y P) (e : x = y) : Dw T k x P := e ▸ h
theorem for_dw {tg : Dt → List Sl → Option (List Sl)} {body : List Sl → M Fl} {l : List Dt} {c : Int} (hc : 0 ≤ c) (P : Nat → List Sl → Prop) (h : ∀ k d δ, l[k]? = some d → P k δ → ∃ δ1, tg d δ = some δ1 ∧ Dw T c (body δ1) (fun f => ∃ δ2, f = .nx δ2 ∧ P (k + 1) δ2)) :
    ∀ (j n : Nat) (δ : List Sl), l.length = n + j → P n δ → Dw T (c * j) (gForL tg body (l.drop n) δ) (fun f => ∃ δ', f = .nx δ' ∧ P l.length δ')
  | 0, n, δ, hn, p => by
    rw [List.drop_of_length_le (by omega)]
    exact Dw.ret (by simp) ⟨δ, rfl, by rw [hn]; exact p⟩
  | j + 1, n, δ, hn, p => by
    have hlt : n < l.length := by omega
    obtain ⟨δ1, e1, e2⟩ := h n l[n] δ (List.getElem?_eq_getElem hlt) p
    rw [List.drop_eq_getElem_cons hlt, gForL_step e1]
    have e : c * ((j + 1 : Nat) : Int) = c + c * (j : Int) := by
      rw [Int.natCast_succ, Int.mul_add, Int.mul_one, Int.add_comm]
    rw [e]
    refine Dw.bnd hc (Int.mul_nonneg hc (by omega)) e2 fun f hf => ?_
    obtain ⟨δ2, rfl, p2⟩ := hf
    exact for_dw hc P h j (n + 1) δ2 (by omega) p2
theorem for_dw0 {tg : Dt → List Sl → Option (List Sl)} {body : List Sl → M Fl} {l : List Dt} {c k : Int} (hc : 0 ≤ c) (P : Nat → List Sl → Prop) (h : ∀ k d δ, l[k]? = some d → P k δ → ∃ δ1, tg d δ = some δ1 ∧ Dw T c (body δ1) (fun f => ∃ δ2, f = .nx δ2 ∧ P (k + 1) δ2)) {δ : List Sl} (p : P 0 δ) (hk : c * (l.length : Nat) ≤ k) :
    Dw T k (gForL tg body l δ) (fun f => ∃ δ', f = .nx δ' ∧ P l.length δ') := (for_dw hc P h l.length 0 δ (by omega) p).le hk
theorem Dw.draw {lim : Int} (h1 : 1 ≤ lim) (h2 : lim < 1073741824) : Dw T 1 (drawS [.drw, .int lim]) (fun r => ∃ z : Int, r = .val (.int z) ∧ 0 ≤ z ∧ z < lim) := fun s h0 hn ht => by
  obtain ⟨b1, b2⟩ := Lw.drawP_bd s.n s.gs s.cs h1
  refine ⟨.val (.int (Lw.drawP s.n s.gs s.cs lim).1), { s with n := s.n + 1, gs := (Lw.drawP s.n s.gs s.cs lim).2 }, ?_, ⟨_, rfl, b1, b2⟩, by show s.n ≤ s.n + 1; omega, by show s.n + 1 ≤ s.n + 1; omega, ht⟩
  show (if 1 ≤ lim ∧ lim < 1073741824 ∧ s.n ≤ 900000 then _ else _) = _
  rw [if_pos ⟨h1, h2, by omega⟩]
end
theorem pass_of {T : List (Addr × Str)} {N : List Str} {g : List Sl → M Fl} (h : Dw T 800000 (g (δ0 N)) (fun f => f = .ret (.val (.bl true)))) : Pass T N g := fun s h0 h1 _ _ _ => by
  obtain ⟨a, s', e, p, _⟩ := h s (by omega) (by omega) h1
  exact ⟨s', by rw [e, p]⟩
end DL
namespace LwE
open PySem PySem.Spec PyProof.Rows L2
mutual
def smD : PyData → Bool
  | .none | .bool _ => true
  | .int i => decide (i.natAbs ≤ 100000)
  | .str _ => false
  | .list xs | .tuple xs => smA xs
  | .dict _ => false
def smA : List PyData → Bool
  | [] => true
  | x :: xs => smD x && smA xs
end
mutual
def wtD : PyData → Nat
  | .none => 4
  | .bool _ => 5
  | .int _ => 18
  | .str _ => 0
  | .list xs | .tuple xs => wtA xs + 3
  | .dict _ => 0
def wtA : List PyData → Nat
  | [] => 0
  | x :: xs => wtD x + 2 + wtA xs
end
theorem textFrom_le : ∀ (ts : List Str) (k : Nat) (acc : Str), (textFrom k acc ts).length ≤ acc.length + piled ts
  | [], k, acc => by simp [textFrom]
  | t :: ts, k, acc => by
    have ih := textFrom_le ts (k + 1) (acc ++ (if k > 0 then ", " else "" : String) ++ t)
    have e : (acc ++ (if k > 0 then ", " else "" : String) ++ t).length ≤ acc.length + 2 + t.length := by
      rw [strLen_append, strLen_append]
      split
      · have : ((", " : String) : Str).length = 2 := rfl
        omega
      · have : (("" : String) : Str).length = 0 := rfl
        omega
    rw [piled_cons]
    show (textFrom (k + 1) _ ts).length ≤ _
    omega
theorem listText_le (ts : List Str) : (listText ts).length ≤ piled ts + 2 := by
  unfold listText
  rw [strLen_append]
  have h := textFrom_le ts 0 "["
  have e1 : (("[" : String) : Str).length = 1 := rfl
  have e2 : (("]" : String) : Str).length = 1 := rfl
  omega
theorem tupleText_le (ts : List Str) : (tupleText ts).length ≤ piled ts + 3 := by
  unfold tupleText
  rw [strLen_append, strLen_append]
  have e1 : ((("(" : String) : Str)).length = 1 := rfl
  have e3 : (((if ts.length == 1 then ",)" else ")" : String) : Str)).length ≤ 2 := by split <;> decide
  by_cases h : ts = []
  · subst h
    have : (Str.join ", " []).length = 0 := rfl
    omega
  · have := join_length_add ts h
    omega
theorem log_small (i : Int) (h : i.natAbs ≤ 100000) : i.natAbs.log2 < 17 := by
  rcases Nat.eq_zero_or_pos i.natAbs with z | z
  · rw [z]
    decide
  · exact (Nat.log2_lt (by omega)).mpr (by omega)
mutual
theorem sm_all : ∀ d : PyData, smD d = true → d.showable = true ∧ d.hasDict = false ∧ d.shown.length ≤ wtD d
  | .none, _ => ⟨rfl, rfl, by simp only [PyData.shown, wtD]; decide⟩
  | .bool b, _ => ⟨rfl, rfl, by simp only [PyData.shown, wtD]; cases b <;> decide⟩
  | .int i, h => by
    have hi : i.natAbs ≤ 100000 := by simpa [smD] using h
    have h1 := log_small i hi
    have h2 := int_text_length_le (by decide : 0 < 17) h1
    refine ⟨?_, rfl, ?_⟩
    · simp only [PyData.showable, decide_eq_true_eq]
      omega
    · simp only [PyData.shown, wtD]
      show (Str.ofString (toString i)).length ≤ 18
      rw [PySem.ofString_length]
      omega
  | .str x, h => by simp [smD] at h
  | .list xs, h => by
    obtain ⟨a, b, c⟩ := sm_allA xs (by simpa [smD] using h)
    refine ⟨by simpa [PyData.showable] using a, by simpa [PyData.hasDict] using b, ?_⟩
    simp only [PyData.shown, wtD]
    have := listText_le (PyData.shownAll xs)
    omega
  | .tuple xs, h => by
    obtain ⟨a, b, c⟩ := sm_allA xs (by simpa [smD] using h)
    refine ⟨by simpa [PyData.showable] using a, by simpa [PyData.hasDict] using b, ?_⟩
    simp only [PyData.shown, wtD]
    have := tupleText_le (PyData.shownAll xs)
    omega
  | .dict _, h => by simp [smD] at h
theorem sm_allA : ∀ xs : List PyData, smA xs = true → PyData.showableAll xs = true ∧ PyData.hasDictAll xs = false ∧ piled (PyData.shownAll xs) ≤ wtA xs
  | [], _ => ⟨rfl, rfl, by simp [PyData.shownAll, piled, wtA]⟩
  | x :: xs, h => by
    have h' : smD x = true ∧ smA xs = true := by simpa [smA] using h
    obtain ⟨a, b, c⟩ := sm_all x h'.1
    obtain ⟨a2, b2, c2⟩ := sm_allA xs h'.2
    refine ⟨by simp [PyData.showableAll, a, a2], by simp [PyData.hasDictAll, b, b2], ?_⟩
    simp only [PyData.shownAll, wtA, piled_cons]
    omega
end
theorem sm_ints : ∀ l : List Int, (∀ x ∈ l, x.natAbs ≤ 100000) → smA (l.map PyData.int) = true
  | [], _ => rfl
  | x :: l, h => by
    have ih := sm_ints l fun y hy => h y (List.mem_cons_of_mem _ hy)
    have hx := h x (List.mem_cons_self ..)
    simp [smA, smD, ih, hx]
theorem wt_ints : ∀ l : List Int, wtA (l.map PyData.int) = 20 * l.length
  | [] => rfl
  | x :: l => by
    have ih := wt_ints l
    simp only [List.map_cons, wtA, wtD, List.length_cons, ih]
    omega
end LwE
namespace DL
open PySem L2 LwE
def Tx (n w : Nat) (d : Dt) : Prop := ∃ x, convX d = some x ∧ x.showable = true ∧ x.depth ≤ n ∧ x.shown.length ≤ w
def Txs (n w : Nat) (l : List Dt) : Prop := ∃ xs, convXs l = some xs ∧ PyData.showableAll xs = true ∧ PyData.depthAll xs ≤ n ∧ piled (PyData.shownAll xs) ≤ w
theorem Tx.mono {n m w v : Nat} {d : Dt} (h : Tx n w d) (h1 : n ≤ m) (h2 : w ≤ v) : Tx m v d := let ⟨x, a, b, c, e⟩ := h; ⟨x, a, b, by omega, by omega⟩
theorem Txs.mono {n m w v : Nat} {d : List Dt} (h : Txs n w d) (h1 : n ≤ m) (h2 : w ≤ v) : Txs m v d := let ⟨x, a, b, c, e⟩ := h; ⟨x, a, b, by omega, by omega⟩
theorem Txs.nil : Txs 0 0 [] := ⟨[], rfl, rfl, Nat.le_refl _, by simp [PyData.shownAll, piled]⟩
theorem Txs.cons {n m w v : Nat} {d : Dt} {l : List Dt} (h : Tx n w d) (k : Txs m v l) : Txs (max n m) (w + 2 + v) (d :: l) := by
  obtain ⟨x, a, b, c, e⟩ := h
  obtain ⟨xs, a2, b2, c2, e2⟩ := k
  refine ⟨x :: xs, ?_, by simp [PyData.showableAll, b, b2], ?_, ?_⟩
  · show (match convX d, convXs l with | some x, some xs => some (x :: xs) | _, _ => none) = _
    rw [a, a2]
  · simp only [PyData.depthAll]
    omega
  · simp only [PyData.shownAll, piled_cons]
    omega
theorem Tx.tup {n w : Nat} {l : List Dt} (h : Txs n w l) : Tx (n + 1) (w + 3) (.tup l) := by
  obtain ⟨xs, a, b, c, e⟩ := h
  refine ⟨.tuple xs, ?_, by simpa [PyData.showable] using b, ?_, ?_⟩
  · show (convXs l).map PyData.tuple = _
    rw [a]
    rfl
  · simp only [PyData.depth]
    omega
  · simp only [PyData.shown]
    have := tupleText_le (PyData.shownAll xs)
    omega
theorem Tx.lst {n w : Nat} {l : List Dt} (h : Txs n w l) : Tx (n + 1) (w + 2) (.lst l) := by
  obtain ⟨xs, a, b, c, e⟩ := h
  refine ⟨.list xs, ?_, by simpa [PyData.showable] using b, ?_, ?_⟩
  · show (convXs l).map PyData.list = _
    rw [a]
    rfl
  · simp only [PyData.depth]
    omega
  · simp only [PyData.shown]
    have := listText_le (PyData.shownAll xs)
    omega
theorem Tx.sm {d : Dt} {x : PyData} (h : convX d = some x) (s : smD x = true) : Tx x.depth (wtD x) d := by
  obtain ⟨h1, h2, h3⟩ := sm_all x s
  exact ⟨x, h, h1, Nat.le_refl _, h3⟩
theorem Tx.int {z : Int} (h : z.natAbs ≤ 100000) : Tx 0 18 (.int z) := (Tx.sm (x := .int z) rfl (by simp [smD, h])).mono (by simp [PyData.depth]) (by simp [wtD])
theorem Tx.bl (b : Bool) : Tx 0 5 (.bl b) := (Tx.sm (x := .bool b) rfl rfl).mono (by simp [PyData.depth]) (by simp [wtD])
theorem Tx.non : Tx 0 4 .non := (Tx.sm (x := .none) rfl rfl).mono (by simp [PyData.depth]) (by simp [wtD])
theorem Txs.ints : ∀ {l : List Int}, (∀ x ∈ l, x.natAbs ≤ 100000) → Txs 0 (20 * l.length) (l.map .int)
  | [], _ => Txs.nil
  | x :: l, h => (Txs.cons (Tx.int (h x (List.mem_cons_self ..))) (Txs.ints fun y hy => h y (List.mem_cons_of_mem _ hy))).mono (by omega) (by rw [List.length_cons]; omega)
theorem Txs.all {n w : Nat} : ∀ {l : List Dt}, (∀ d ∈ l, Tx n w d) → Txs n ((w + 2) * l.length) l
  | [], _ => Txs.nil.mono (by omega) (by simp)
  | d :: l, h => (Txs.cons (h d (List.mem_cons_self ..)) (Txs.all fun y hy => h y (List.mem_cons_of_mem _ hy))).mono (by omega) (by rw [List.length_cons, Nat.mul_succ]; omega)
theorem Tx.repr {n w : Nat} {d : Dt} (h : Tx n w d) (hn : n ≤ 8) (hw : w ≤ 100000) : ∃ s, reprD d = M.ret (.val (.str s)) := by
  obtain ⟨x, a, b, c, e⟩ := h
  refine ⟨x.shown, ?_⟩
  unfold reprD
  rw [a]
  simp only [if_pos (show x.showable = true ∧ x.depth ≤ 8 ∧ x.shown.length ≤ 100000 from ⟨b, by omega, by omega⟩)]
theorem eq_self {d : Dt} {x : PyData} (neg : Bool) (h : conv d = some x) (s : SeqAt.shaped x = true) (hs : ∀ y, d ≠ .str y) (k : kneD d d = false) : eqG neg d d = M.ret (.val (.bl (neg ^^ true))) := by
  refine (eqG_def _ _ _ hs).trans ?_
  rw [k, if_neg (by decide)]
  unfold eqD
  rw [h]
  simp only [s, Bool.and_self, if_true, SeqAt.eqv_refl x (SeqAt.canLay_of_shaped s)]
end DL
namespace LwM
def stq (i : Int) (s : List (Int × Int) × List Int) (p x : Int) : List (Int × Int) × List Int :=
  if x = i + 1 then (s.1, s.2 ++ [p]) else if x = i then (if s.2 = [] then s else (s.1 ++ [(lst s.2, p)], s.2.dropLast)) else s
def gq (i : Int) (f : Int → Int) : List (Int × Int) × List Int → List Int → List (Int × Int) × List Int
  | s, [] => s
  | s, p :: r => gq i f (stq i s p (f p)) r
theorem gq_app (i : Int) (f : Int → Int) : ∀ (A B : List Int) (s : List (Int × Int) × List Int), gq i f s (A ++ B) = gq i f (gq i f s A) B
  | [], B, s => rfl
  | p :: A, B, s => gq_app i f A B _
def allp (n : Nat) : List Int := (List.range n).map fun j => ((j : Nat) : Int)
def prS (i : Int) (ls : List Int) (n : Nat) : List (Int × Int) × List Int := gq i (val ls) ([], []) (allp n)
def prB (i : Int) (ls : List Int) : List (Int × Int) := (prS i ls ls.length).1
theorem gq_pre (i : Int) (f : Int → Int) : ∀ (B : List Int) (x : List (Int × Int)) (s : List (Int × Int) × List Int), gq i f (x ++ s.1, s.2) B = (x ++ (gq i f s B).1, (gq i f s B).2)
  | [], x, s => rfl
  | p :: B, x, s => by
    have e : stq i (x ++ s.1, s.2) p (f p) = (x ++ (stq i s p (f p)).1, (stq i s p (f p)).2) := by
      unfold stq
      split
      · rfl
      · split
        · split
          · rfl
          · simp
        · rfl
    show gq i f (stq i (x ++ s.1, s.2) p (f p)) B = _
    rw [e]
    exact gq_pre i f B x _
theorem gq_filter (i : Int) (f : Int → Int) : ∀ (A : List Int) (s : List (Int × Int) × List Int), gq i f s (A.filter fun p => decide (f p = i ∨ f p = i + 1)) = gq i f s A
  | [], s => rfl
  | p :: A, s => by
    rw [List.filter_cons]
    by_cases h : f p = i ∨ f p = i + 1
    · rw [if_pos (by simpa using h)]
      exact gq_filter i f A _
    · rw [if_neg (by simpa using h)]
      show gq i f s _ = gq i f (stq i s p (f p)) A
      have e : stq i s p (f p) = s := by
        unfold stq
        rw [if_neg (fun z => h (.inr z)), if_neg (fun z => h (.inl z))]
      rw [e]
      exact gq_filter i f A s
theorem gq_pair (i : Int) (f : Int → Int) (A B : List Int) {p q : Int} (hp : f p = i + 1) (hq : f q = i) : (gq i f ([], []) (A ++ p :: q :: B)).1.Perm ((p, q) :: (gq i f ([], []) (A ++ B)).1) := by
  rw [gq_app, gq_app]
  generalize gq i f ([], []) A = s
  obtain ⟨P, W⟩ := s
  show (gq i f (stq i (stq i (P, W) p (f p)) q (f q)) B).1.Perm _
  have e : stq i (stq i (P, W) p (f p)) q (f q) = ((P ++ [(p, q)]) ++ [], W) := by
    rw [hp, hq]
    unfold stq
    rw [if_pos rfl, if_neg (by omega), if_pos rfl, if_neg (by simp), lst_app _ _ (by simp)]
    simp [lst]
  have e2 : ((P, W) : List (Int × Int) × List Int) = (P ++ [], W) := by rw [List.append_nil]
  rw [e, e2, gq_pre i f B (P ++ [(p, q)]) ([], W), gq_pre i f B P ([], W)]
  simp only [List.append_assoc, List.singleton_append]
  exact List.perm_middle
theorem gq_ups (i : Int) (f : Int → Int) : ∀ (B : List Int) (P : List (Int × Int)) (W : List Int), (∀ p ∈ B, f p = i + 1) → (gq i f (P, W) B).1 = P
  | [], P, W, _ => rfl
  | p :: B, P, W, h => by
    show (gq i f (stq i (P, W) p (f p)) B).1 = _
    have e : stq i (P, W) p (f p) = (P, W ++ [p]) := by
      unfold stq
      rw [if_pos (h p (List.mem_cons_self ..))]
    rw [e]
    exact gq_ups i f B P _ fun q hq => h q (List.mem_cons_of_mem _ hq)
theorem gq_end (i : Int) (f : Int → Int) : ∀ (A : List Int), (∀ p ∈ A, f p = i ∨ f p = i + 1) → NoAdj i f A → (gq i f ([], []) A).1 = []
  | [], _, _ => rfl
  | p :: A, h, hn => by
    have hA : ∀ q ∈ A, f q = i ∨ f q = i + 1 := fun q hq => h q (List.mem_cons_of_mem _ hq)
    rcases h p (List.mem_cons_self ..) with z | z
    · show (gq i f (stq i ([], []) p (f p)) A).1 = _
      have e : stq i ([], []) p (f p) = ([], []) := by
        unfold stq
        rw [if_neg (by omega), if_pos z, if_pos rfl]
      rw [e]
      exact gq_end i f A hA hn.tail
    · have hall := NoAdj.all hn z hA
      exact gq_ups i f (p :: A) [] [] fun q hq => by
        rcases List.mem_cons.mp hq with y | y
        · rw [y]; exact z
        · exact hall q y
theorem prB_plc (i : Int) (ls : List Int) : prB i ls = (gq i (val ls) ([], []) (plc i ls ls.length)).1 := by
  unfold plc
  rw [gq_filter]
  rfl
def PI (i : Int) (ls rest : List Int) (l : List (Int × Int)) : Prop := (l ++ (gq i (val ls) ([], []) rest).1).Perm (prB i ls)
theorem PI.start (i : Int) (ls : List Int) : PI i ls (plc i ls ls.length) [] := by
  unfold PI
  rw [← prB_plc]
  exact List.Perm.refl _
theorem PI.take {i : Int} {ls rest : List Int} {l : List (Int × Int)} {n : Nat} (o : PI i ls rest l) {a b : Int} (ha : rest[n]? = some a) (hb : rest[n + 1]? = some b) (h1 : val ls a = i + 1) (h2 : val ls b = i) : PI i ls (rest.take n ++ rest.drop (n + 2)) (l ++ [(a, b)]) := by
  unfold PI at o ⊢
  refine List.Perm.trans ?_ o
  have e := split_at ha hb
  conv => rhs; rw [e]
  rw [List.append_assoc, List.singleton_append]
  exact (List.Perm.append_left l (gq_pair i (val ls) (rest.take n) (rest.drop (n + 2)) h1 h2)).symm
theorem PI.done {i : Int} {ls rest : List Int} {l : List (Int × Int)} {n : Nat} (o : PI i ls rest l) (q : Out i ls rest n) (h : rest.length ≤ n + 1) : l.Perm (prB i ls) := by
  have hn : NoAdj i (val ls) rest := fun j a b ha hb => by
    have := (List.getElem?_eq_some_iff.mp hb).1
    exact q.far j a b (by omega) ha hb
  unfold PI at o
  rw [gq_end i (val ls) rest q.two hn, List.append_nil] at o
  exact o
end LwM
namespace Dg
open PySem DL LwM
def isI : Dt → Bool
  | .int _ => true
  | .bl _ => true
  | _ => false
def isB : Dt → Bool
  | .bl _ => true
  | _ => false
def isLT : Dt → Bool
  | .lst _ => true
  | .tup _ => true
  | _ => false
theorem isi_int (cs : List Addr) {d : Dt} (h : plainD d = true) : isiD cs [.ty "int"] d = DL.M.ret (.val (.bl (isI d))) := by
  cases d <;> first | exact isi_ty cs "int" _ rfl (b := true) (by decide +kernel) | exact isi_ty cs "int" _ rfl (b := false) (by decide +kernel) | (cases h; done)
theorem isi_bool (cs : List Addr) {d : Dt} (h : plainD d = true) : isiD cs [.ty "bool"] d = DL.M.ret (.val (.bl (isB d))) := by
  cases d <;> first | exact isi_ty cs "bool" _ rfl (b := true) (by decide +kernel) | exact isi_ty cs "bool" _ rfl (b := false) (by decide +kernel) | (cases h; done)
theorem isi_rows (cs : List Addr) {d : Dt} (h : plainD d = true) : isiD cs [.ty "list", .ty "tuple"] d = DL.M.ret (.val (.bl (isLT d))) := by
  cases d <;> first | exact isi_lt cs _ rfl (b := false) (c := false) (by decide +kernel) (by decide +kernel) | exact isi_lt cs _ rfl (b := true) (c := false) (by decide +kernel) (by decide +kernel) | exact isi_lt cs _ rfl (b := false) (c := true) (by decide +kernel) (by decide +kernel) | (cases h; done)
variable {a : Adr}
theorem between {d : Dt} (lo hi : Int) (h : plainD d = true) : S_is_between a [d, .int lo, .int hi] = DL.M.ret (.val (.bl (btw d lo hi))) := by
  unfold S_is_between
  simp only [bnd_ret, bnd_nn, bnd_rse, bnd_ite, bnd_bnd, semOf, gSeq, gNx, gSet, gDrop, gRet, gRetV, gRetN, gIf, gBk, gCt, gFrz, frz, gApp, gExt, gSetI, gAsg, gPar, gPop, gSetPop, gAppPop, gRaise, gFld, cVar, vVar, cC, toV, bin, una, aNil, aCons, cTup, cLst, rNil, rCons, setAll, addD, subD, negD, cmpD, notD, cCall, cMeth, cMeth0, cMake, objR, tV, truD, tNotD, tAndD, tOrD, tBl, andV, orV, cIf, chain, oNone, oSome, cSl, slD, ixD, lenD, tupleD, listD, cDict, tgN, tgS, tgT, tgs, wSeq, wEn, R.sl, R.d, Sl.isIns, oneIns, List.getElem?_cons_zero, List.getElem?_cons_succ, List.getElem?_nil, List.set_cons_zero, List.set_cons_succ, List.map_cons, List.map_nil, List.length_cons, List.length_nil, List.nil_append, List.cons_append, List.append_nil, List.replicate, List.all_cons, List.all_nil, Nat.reduceSub, Nat.reduceAdd, Nat.reduceLeDiff, Nat.reduceLT, Nat.reduceEqDiff, if_true, if_false, ite_true, ite_false, Bool.not_true, Bool.not_false, Bool.true_and, Bool.and_true, Bool.false_and, Bool.and_false, Bool.true_or, Bool.or_true, Bool.false_or, Bool.or_false, decide_true, decide_false, Bool.false_eq_true, reduceCtorEq, true_and, and_true, List.mem_cons_self]
  rw [isi_int _ h]
  cases d <;> first | (cases h; done) | (simp only [bnd_ret, bnd_nn, bnd_rse, bnd_ite, bnd_bnd, semOf, gSeq, gNx, gSet, gDrop, gRet, gRetV, gRetN, gIf, gBk, gCt, gFrz, frz, gApp, gExt, gSetI, gAsg, gPar, gPop, gSetPop, gAppPop, gRaise, gFld, cVar, vVar, cC, toV, bin, una, aNil, aCons, cTup, cLst, rNil, rCons, setAll, addD, subD, negD, cmpD, notD, cCall, cMeth, cMeth0, cMake, objR, tV, truD, tNotD, tAndD, tOrD, tBl, andV, orV, cIf, chain, oNone, oSome, cSl, slD, ixD, lenD, tupleD, listD, cDict, tgN, tgS, tgT, tgs, wSeq, wEn, R.sl, R.d, Sl.isIns, oneIns, List.getElem?_cons_zero, List.getElem?_cons_succ, List.getElem?_nil, List.set_cons_zero, List.set_cons_succ, List.map_cons, List.map_nil, List.length_cons, List.length_nil, List.nil_append, List.cons_append, List.append_nil, List.replicate, List.all_cons, List.all_nil, Nat.reduceSub, Nat.reduceAdd, Nat.reduceLeDiff, Nat.reduceLT, Nat.reduceEqDiff, if_true, if_false, ite_true, ite_false, Bool.not_true, Bool.not_false, Bool.true_and, Bool.and_true, Bool.false_and, Bool.and_false, Bool.true_or, Bool.or_true, Bool.false_or, Bool.or_false, decide_true, decide_false, Bool.false_eq_true, reduceCtorEq, true_and, and_true, List.mem_cons_self, isI, btw]; done) | skip
  · simp only [bnd_ret, bnd_nn, bnd_rse, bnd_ite, bnd_bnd, semOf, gSeq, gNx, gSet, gDrop, gRet, gRetV, gRetN, gIf, gBk, gCt, gFrz, frz, gApp, gExt, gSetI, gAsg, gPar, gPop, gSetPop, gAppPop, gRaise, gFld, cVar, vVar, cC, toV, bin, una, aNil, aCons, cTup, cLst, rNil, rCons, setAll, addD, subD, negD, cmpD, notD, cCall, cMeth, cMeth0, cMake, objR, tV, truD, tNotD, tAndD, tOrD, tBl, andV, orV, cIf, chain, oNone, oSome, cSl, slD, ixD, lenD, tupleD, listD, cDict, tgN, tgS, tgT, tgs, wSeq, wEn, R.sl, R.d, Sl.isIns, oneIns, List.getElem?_cons_zero, List.getElem?_cons_succ, List.getElem?_nil, List.set_cons_zero, List.set_cons_succ, List.map_cons, List.map_nil, List.length_cons, List.length_nil, List.nil_append, List.cons_append, List.append_nil, List.replicate, List.all_cons, List.all_nil, Nat.reduceSub, Nat.reduceAdd, Nat.reduceLeDiff, Nat.reduceLT, Nat.reduceEqDiff, if_true, if_false, ite_true, ite_false, Bool.not_true, Bool.not_false, Bool.true_and, Bool.and_true, Bool.false_and, Bool.and_false, Bool.true_or, Bool.or_true, Bool.false_or, Bool.or_false, decide_true, decide_false, Bool.false_eq_true, reduceCtorEq, true_and, and_true, List.mem_cons_self, isI]
    rw [isi_bool _ h]
    simp only [bnd_ret, bnd_nn, bnd_rse, bnd_ite, bnd_bnd, semOf, gSeq, gNx, gSet, gDrop, gRet, gRetV, gRetN, gIf, gBk, gCt, gFrz, frz, gApp, gExt, gSetI, gAsg, gPar, gPop, gSetPop, gAppPop, gRaise, gFld, cVar, vVar, cC, toV, bin, una, aNil, aCons, cTup, cLst, rNil, rCons, setAll, addD, subD, negD, cmpD, notD, cCall, cMeth, cMeth0, cMake, objR, tV, truD, tNotD, tAndD, tOrD, tBl, andV, orV, cIf, chain, oNone, oSome, cSl, slD, ixD, lenD, tupleD, listD, cDict, tgN, tgS, tgT, tgs, wSeq, wEn, R.sl, R.d, Sl.isIns, oneIns, List.getElem?_cons_zero, List.getElem?_cons_succ, List.getElem?_nil, List.set_cons_zero, List.set_cons_succ, List.map_cons, List.map_nil, List.length_cons, List.length_nil, List.nil_append, List.cons_append, List.append_nil, List.replicate, List.all_cons, List.all_nil, Nat.reduceSub, Nat.reduceAdd, Nat.reduceLeDiff, Nat.reduceLT, Nat.reduceEqDiff, if_true, if_false, ite_true, ite_false, Bool.not_true, Bool.not_false, Bool.true_and, Bool.and_true, Bool.false_and, Bool.and_false, Bool.true_or, Bool.or_true, Bool.false_or, Bool.or_false, decide_true, decide_false, Bool.false_eq_true, reduceCtorEq, true_and, and_true, List.mem_cons_self, isB, btw]
  · simp only [bnd_ret, bnd_nn, bnd_rse, bnd_ite, bnd_bnd, semOf, gSeq, gNx, gSet, gDrop, gRet, gRetV, gRetN, gIf, gBk, gCt, gFrz, frz, gApp, gExt, gSetI, gAsg, gPar, gPop, gSetPop, gAppPop, gRaise, gFld, cVar, vVar, cC, toV, bin, una, aNil, aCons, cTup, cLst, rNil, rCons, setAll, addD, subD, negD, cmpD, notD, cCall, cMeth, cMeth0, cMake, objR, tV, truD, tNotD, tAndD, tOrD, tBl, andV, orV, cIf, chain, oNone, oSome, cSl, slD, ixD, lenD, tupleD, listD, cDict, tgN, tgS, tgT, tgs, wSeq, wEn, R.sl, R.d, Sl.isIns, oneIns, List.getElem?_cons_zero, List.getElem?_cons_succ, List.getElem?_nil, List.set_cons_zero, List.set_cons_succ, List.map_cons, List.map_nil, List.length_cons, List.length_nil, List.nil_append, List.cons_append, List.append_nil, List.replicate, List.all_cons, List.all_nil, Nat.reduceSub, Nat.reduceAdd, Nat.reduceLeDiff, Nat.reduceLT, Nat.reduceEqDiff, if_true, if_false, ite_true, ite_false, Bool.not_true, Bool.not_false, Bool.true_and, Bool.and_true, Bool.false_and, Bool.and_false, Bool.true_or, Bool.or_true, Bool.false_or, Bool.or_false, decide_true, decide_false, Bool.false_eq_true, reduceCtorEq, true_and, and_true, List.mem_cons_self, isI]
    rw [isi_bool _ h]
    rename_i z
    by_cases h1 : lo ≤ z
    · simp only [bnd_ret, bnd_nn, bnd_rse, bnd_ite, bnd_bnd, semOf, gSeq, gNx, gSet, gDrop, gRet, gRetV, gRetN, gIf, gBk, gCt, gFrz, frz, gApp, gExt, gSetI, gAsg, gPar, gPop, gSetPop, gAppPop, gRaise, gFld, cVar, vVar, cC, toV, bin, una, aNil, aCons, cTup, cLst, rNil, rCons, setAll, addD, subD, negD, cmpD, notD, cCall, cMeth, cMeth0, cMake, objR, tV, truD, tNotD, tAndD, tOrD, tBl, andV, orV, cIf, chain, oNone, oSome, cSl, slD, ixD, lenD, tupleD, listD, cDict, tgN, tgS, tgT, tgs, wSeq, wEn, R.sl, R.d, Sl.isIns, oneIns, List.getElem?_cons_zero, List.getElem?_cons_succ, List.getElem?_nil, List.set_cons_zero, List.set_cons_succ, List.map_cons, List.map_nil, List.length_cons, List.length_nil, List.nil_append, List.cons_append, List.append_nil, List.replicate, List.all_cons, List.all_nil, Nat.reduceSub, Nat.reduceAdd, Nat.reduceLeDiff, Nat.reduceLT, Nat.reduceEqDiff, if_true, if_false, ite_true, ite_false, Bool.not_true, Bool.not_false, Bool.true_and, Bool.and_true, Bool.false_and, Bool.and_false, Bool.true_or, Bool.or_true, Bool.false_or, Bool.or_false, decide_true, decide_false, Bool.false_eq_true, reduceCtorEq, true_and, and_true, List.mem_cons_self, isB, btw, h1]
    · simp only [bnd_ret, bnd_nn, bnd_rse, bnd_ite, bnd_bnd, semOf, gSeq, gNx, gSet, gDrop, gRet, gRetV, gRetN, gIf, gBk, gCt, gFrz, frz, gApp, gExt, gSetI, gAsg, gPar, gPop, gSetPop, gAppPop, gRaise, gFld, cVar, vVar, cC, toV, bin, una, aNil, aCons, cTup, cLst, rNil, rCons, setAll, addD, subD, negD, cmpD, notD, cCall, cMeth, cMeth0, cMake, objR, tV, truD, tNotD, tAndD, tOrD, tBl, andV, orV, cIf, chain, oNone, oSome, cSl, slD, ixD, lenD, tupleD, listD, cDict, tgN, tgS, tgT, tgs, wSeq, wEn, R.sl, R.d, Sl.isIns, oneIns, List.getElem?_cons_zero, List.getElem?_cons_succ, List.getElem?_nil, List.set_cons_zero, List.set_cons_succ, List.map_cons, List.map_nil, List.length_cons, List.length_nil, List.nil_append, List.cons_append, List.append_nil, List.replicate, List.all_cons, List.all_nil, Nat.reduceSub, Nat.reduceAdd, Nat.reduceLeDiff, Nat.reduceLT, Nat.reduceEqDiff, if_true, if_false, ite_true, ite_false, Bool.not_true, Bool.not_false, Bool.true_and, Bool.and_true, Bool.false_and, Bool.and_false, Bool.true_or, Bool.or_true, Bool.false_or, Bool.or_false, decide_true, decide_false, Bool.false_eq_true, reduceCtorEq, true_and, and_true, List.mem_cons_self, isB, btw, h1]
theorem ck_size {z : Int} (h0 : 2 ≤ z) (h1 : z ≤ 6) : S_check_size a [.int z] = DL.M.ret (.val .non) := by
  unfold S_check_size
  simp only [bnd_ret, bnd_nn, bnd_rse, bnd_ite, bnd_bnd, semOf, gSeq, gNx, gSet, gDrop, gRet, gRetV, gRetN, gIf, gBk, gCt, gFrz, frz, gApp, gExt, gSetI, gAsg, gPar, gPop, gSetPop, gAppPop, gRaise, gFld, cVar, vVar, cC, toV, bin, una, aNil, aCons, cTup, cLst, rNil, rCons, setAll, addD, subD, negD, cmpD, notD, cCall, cMeth, cMeth0, cMake, objR, tV, truD, tNotD, tAndD, tOrD, tBl, andV, orV, cIf, chain, oNone, oSome, cSl, slD, ixD, lenD, tupleD, listD, cDict, tgN, tgS, tgT, tgs, wSeq, wEn, R.sl, R.d, Sl.isIns, oneIns, List.getElem?_cons_zero, List.getElem?_cons_succ, List.getElem?_nil, List.set_cons_zero, List.set_cons_succ, List.map_cons, List.map_nil, List.length_cons, List.length_nil, List.nil_append, List.cons_append, List.append_nil, List.replicate, List.all_cons, List.all_nil, Nat.reduceSub, Nat.reduceAdd, Nat.reduceLeDiff, Nat.reduceLT, Nat.reduceEqDiff, if_true, if_false, ite_true, ite_false, Bool.not_true, Bool.not_false, Bool.true_and, Bool.and_true, Bool.false_and, Bool.and_false, Bool.true_or, Bool.or_true, Bool.false_or, Bool.or_false, decide_true, decide_false, Bool.false_eq_true, reduceCtorEq, true_and, and_true, List.mem_cons_self]
  rw [between _ _ rfl]
  simp only [bnd_ret, bnd_nn, bnd_rse, bnd_ite, bnd_bnd, semOf, gSeq, gNx, gSet, gDrop, gRet, gRetV, gRetN, gIf, gBk, gCt, gFrz, frz, gApp, gExt, gSetI, gAsg, gPar, gPop, gSetPop, gAppPop, gRaise, gFld, cVar, vVar, cC, toV, bin, una, aNil, aCons, cTup, cLst, rNil, rCons, setAll, addD, subD, negD, cmpD, notD, cCall, cMeth, cMeth0, cMake, objR, tV, truD, tNotD, tAndD, tOrD, tBl, andV, orV, cIf, chain, oNone, oSome, cSl, slD, ixD, lenD, tupleD, listD, cDict, tgN, tgS, tgT, tgs, wSeq, wEn, R.sl, R.d, Sl.isIns, oneIns, List.getElem?_cons_zero, List.getElem?_cons_succ, List.getElem?_nil, List.set_cons_zero, List.set_cons_succ, List.map_cons, List.map_nil, List.length_cons, List.length_nil, List.nil_append, List.cons_append, List.append_nil, List.replicate, List.all_cons, List.all_nil, Nat.reduceSub, Nat.reduceAdd, Nat.reduceLeDiff, Nat.reduceLT, Nat.reduceEqDiff, if_true, if_false, ite_true, ite_false, Bool.not_true, Bool.not_false, Bool.true_and, Bool.and_true, Bool.false_and, Bool.and_false, Bool.true_or, Bool.or_true, Bool.false_or, Bool.or_false, decide_true, decide_false, Bool.false_eq_true, reduceCtorEq, true_and, and_true, List.mem_cons_self, btw, h0, h1]
theorem listing {d : Dt} (h : plainD d = true) : S_is_listing a [d] = DL.M.ret (.val (.bl (isLT d))) := by
  unfold S_is_listing
  simp only [bnd_ret, bnd_nn, bnd_rse, bnd_ite, bnd_bnd, semOf, gSeq, gNx, gSet, gDrop, gRet, gRetV, gRetN, gIf, gBk, gCt, gFrz, frz, gApp, gExt, gSetI, gAsg, gPar, gPop, gSetPop, gAppPop, gRaise, gFld, cVar, vVar, cC, toV, bin, una, aNil, aCons, cTup, cLst, rNil, rCons, setAll, addD, subD, negD, cmpD, notD, cCall, cMeth, cMeth0, cMake, objR, tV, truD, tNotD, tAndD, tOrD, tBl, andV, orV, cIf, chain, oNone, oSome, cSl, slD, ixD, lenD, tupleD, listD, cDict, tgN, tgS, tgT, tgs, wSeq, wEn, R.sl, R.d, Sl.isIns, oneIns, List.getElem?_cons_zero, List.getElem?_cons_succ, List.getElem?_nil, List.set_cons_zero, List.set_cons_succ, List.map_cons, List.map_nil, List.length_cons, List.length_nil, List.nil_append, List.cons_append, List.append_nil, List.replicate, List.all_cons, List.all_nil, Nat.reduceSub, Nat.reduceAdd, Nat.reduceLeDiff, Nat.reduceLT, Nat.reduceEqDiff, if_true, if_false, ite_true, ite_false, Bool.not_true, Bool.not_false, Bool.true_and, Bool.and_true, Bool.false_and, Bool.and_false, Bool.true_or, Bool.or_true, Bool.false_or, Bool.or_false, decide_true, decide_false, Bool.false_eq_true, reduceCtorEq, true_and, and_true, List.mem_cons_self]
  rw [isi_rows _ h]
  rfl
structure Lt (size : Int) (ls : List Int) : Prop where
  s0 : 2 ≤ size
  s1 : size ≤ 6
  len : ls.length ≤ 40
  bd : ∀ x ∈ ls, 1 ≤ x ∧ x ≤ size
abbrev nis (l : List Int) : List Dt := l.map .int
theorem enum_at {ls : List Int} {k : Nat} {d : Dt} (h : (enumD 0 (nis ls))[k]? = some d) : ∃ x, ls[k]? = some x ∧ d = .tup [.int (k : Nat), .int x] := by
  rw [enumD_get, List.getElem?_map] at h
  cases hx : ls[k]? with
  | none => rw [hx] at h; cases h
  | some x =>
    rw [hx] at h
    cases h
    exact ⟨x, rfl, by rw [Nat.zero_add]⟩
theorem ck_loop {size : Int} {d : Dt} {ls : List Int} (h : ∀ x ∈ ls, 1 ≤ x ∧ x ≤ size) : ∃ δ', gForL (tgS [(tgN 2), (tgN 3)]) (gIf (tNotD (tV (toV (cCall 3 (aCons (cVar 3) (aCons (cC (.int 1)) (aCons (cVar 0) aNil))) (S_is_between a))))) (gRaise 1 (a.ec.of .letters) "place" (cVar 2)) gNx) (enumD 0 (nis ls)) [.val (.int size), .val d, .non, .non] = DL.M.ret (.nx δ') := by
  obtain ⟨δ', e, _⟩ := for_ret0 (tg := tgS [(tgN 2), (tgN 3)]) (body := gIf (tNotD (tV (toV (cCall 3 (aCons (cVar 3) (aCons (cC (.int 1)) (aCons (cVar 0) aNil))) (S_is_between a))))) (gRaise 1 (a.ec.of .letters) "place" (cVar 2)) gNx) (l := enumD 0 (nis ls)) (fun _ δ => ∃ u v, δ = [.val (.int size), .val d, u, v]) (fun k x δ hx ⟨u, v, e⟩ => by
    obtain ⟨z, hz, rfl⟩ := enum_at hx
    obtain ⟨h0, h1⟩ := h z (List.mem_of_getElem? hz)
    subst e
    refine ⟨_, [.val (.int size), .val d, .val (.int (k : Nat)), .val (.int z)], rfl, ?_, _, _, rfl⟩
    simp only [bnd_ret, bnd_nn, bnd_rse, bnd_ite, bnd_bnd, semOf, gSeq, gNx, gSet, gDrop, gRet, gRetV, gRetN, gIf, gBk, gCt, gFrz, frz, gApp, gExt, gSetI, gAsg, gPar, gPop, gSetPop, gAppPop, gRaise, gFld, cVar, vVar, cC, toV, bin, una, aNil, aCons, cTup, cLst, rNil, rCons, setAll, addD, subD, negD, cmpD, notD, cCall, cMeth, cMeth0, cMake, objR, tV, truD, tNotD, tAndD, tOrD, tBl, andV, orV, cIf, chain, oNone, oSome, cSl, slD, ixD, lenD, tupleD, listD, cDict, tgN, tgS, tgT, tgs, wSeq, wEn, R.sl, R.d, Sl.isIns, oneIns, List.getElem?_cons_zero, List.getElem?_cons_succ, List.getElem?_nil, List.set_cons_zero, List.set_cons_succ, List.map_cons, List.map_nil, List.length_cons, List.length_nil, List.nil_append, List.cons_append, List.append_nil, List.replicate, List.all_cons, List.all_nil, Nat.reduceSub, Nat.reduceAdd, Nat.reduceLeDiff, Nat.reduceLT, Nat.reduceEqDiff, if_true, if_false, ite_true, ite_false, Bool.not_true, Bool.not_false, Bool.true_and, Bool.and_true, Bool.false_and, Bool.and_false, Bool.true_or, Bool.or_true, Bool.false_or, Bool.or_false, decide_true, decide_false, Bool.false_eq_true, reduceCtorEq, true_and, and_true, List.mem_cons_self]
    rw [between _ _ rfl]
    simp only [bnd_ret, bnd_nn, bnd_rse, bnd_ite, bnd_bnd, semOf, gSeq, gNx, gSet, gDrop, gRet, gRetV, gRetN, gIf, gBk, gCt, gFrz, frz, gApp, gExt, gSetI, gAsg, gPar, gPop, gSetPop, gAppPop, gRaise, gFld, cVar, vVar, cC, toV, bin, una, aNil, aCons, cTup, cLst, rNil, rCons, setAll, addD, subD, negD, cmpD, notD, cCall, cMeth, cMeth0, cMake, objR, tV, truD, tNotD, tAndD, tOrD, tBl, andV, orV, cIf, chain, oNone, oSome, cSl, slD, ixD, lenD, tupleD, listD, cDict, tgN, tgS, tgT, tgs, wSeq, wEn, R.sl, R.d, Sl.isIns, oneIns, List.getElem?_cons_zero, List.getElem?_cons_succ, List.getElem?_nil, List.set_cons_zero, List.set_cons_succ, List.map_cons, List.map_nil, List.length_cons, List.length_nil, List.nil_append, List.cons_append, List.append_nil, List.replicate, List.all_cons, List.all_nil, Nat.reduceSub, Nat.reduceAdd, Nat.reduceLeDiff, Nat.reduceLT, Nat.reduceEqDiff, if_true, if_false, ite_true, ite_false, Bool.not_true, Bool.not_false, Bool.true_and, Bool.and_true, Bool.false_and, Bool.and_false, Bool.true_or, Bool.or_true, Bool.false_or, Bool.or_false, decide_true, decide_false, Bool.false_eq_true, reduceCtorEq, true_and, and_true, List.mem_cons_self, btw, h0, h1]) (δ := [.val (.int size), .val d, .non, .non]) ⟨_, _, rfl⟩
  exact ⟨δ', e⟩
theorem ck_letters {size : Int} {ls : List Int} {d : Dt} (hd : d = .lst (nis ls) ∨ d = .tup (nis ls)) (L : Lt size ls) : S_check_letters a [.int size, d] = DL.M.ret (.val .non) := by
  obtain ⟨δ', e⟩ := ck_loop (a := a) (d := d) L.bd
  have hl := L.len
  have hp : plainD d = true := by rcases hd with rfl | rfl <;> rfl
  have hlt : isLT d = true := by rcases hd with rfl | rfl <;> rfl
  have hlen : lenD d = DL.M.ret (.val (.int (ls.length : Nat))) := by rcases hd with rfl | rfl <;> (simp only [lenD, List.length_map])
  have h40 : ¬ ((40 : Int) < (ls.length : Nat)) := by omega
  unfold S_check_letters
  simp only [semOf, gSeq, gIf, tNotD, tV, toV, cCall, aCons, cVar, aNil, bnd_bnd, bnd_ret, List.map_cons, List.map_nil, List.length_cons, List.length_nil, Nat.reduceSub, Nat.reduceAdd, List.replicate, List.cons_append, List.nil_append, List.getElem?_cons_zero, List.getElem?_cons_succ, if_true, R.d, listing hp, hlt, truD, Bool.not_true, Bool.false_eq_true, if_false, gNx, tBl, bin, una, vVar, hlen, cC, cmpD, h40, decide_false, gFor, wEn, wSeq]
  rcases hd with rfl | rfl
  · simp only [bnd_ret]
    rw [e]
    rfl
  · simp only [bnd_ret]
    rw [e]
    rfl
theorem make_word {size : Int} {ls : List Int} {d : Dt} (hd : d = .lst (nis ls) ∨ d = .tup (nis ls)) (L : Lt size ls) : S_Word_init a [.int size, d] = DL.M.ret (.val (.obj a.w_Word ["size", "letters"] [.int size, .tup (nis ls)])) := by
  have ht : tupleD d = DL.M.ret (.val (.tup (nis ls))) := by rcases hd with rfl | rfl <;> rfl
  have n1 : (([] : List Str).contains ("size" : Str)) = false := rfl
  have n2 : ((["size"] : List Str).contains ("letters" : Str)) = false := by decide +kernel
  unfold S_Word_init
  simp only [semI, gSeq, gDrop, cCall, aCons, cVar, aNil, bnd_bnd, bnd_ret, List.map_cons, List.map_nil, List.length_cons, List.length_nil, Nat.reduceSub, Nat.reduceAdd, List.replicate, List.cons_append, List.nil_append, List.append_nil, List.getElem?_cons_zero, List.getElem?_cons_succ, if_true, R.d, ck_size L.s0 L.s1, ck_letters hd L, gFld, n1, true_and, Nat.reduceLT, oneIns, List.set_cons_zero, List.all_cons, List.all_nil, Sl.isIns, Bool.not_false, Bool.and_true, n2, una, vVar, ht, selfD]
end Dg
namespace LwM
theorem set_bd {l : List Int} {n : Int} (h : ∀ x ∈ l, 1 ≤ x ∧ x ≤ n) (p : Nat) {z : Int} (z0 : 1 ≤ z) (z1 : z ≤ n) : ∀ x ∈ l.set p z, 1 ≤ x ∧ x ≤ n := fun y hy => by
  rcases List.mem_or_eq_of_mem_set hy with q | q
  · exact h y q
  · rw [q]
    exact ⟨z0, z1⟩
end LwM
namespace LwM
def ix (d : Int) : Int := if 0 < d then d else -d
def FarD (d e : Int) : Prop := ix d + 1 < ix e ∨ ix e + 1 < ix d
theorem FarD.symm {d e : Int} (h : FarD d e) : FarD e d := h.elim .inr .inl
inductive Ming : List Int → List Int → List Int → Prop
  | nil : Ming [] [] []
  | left {d : Int} {a b r : List Int} : Ming a b r → Ming (d :: a) b (d :: r)
  | right {e : Int} {a b r : List Int} : Ming a b r → Ming a (e :: b) (e :: r)
theorem Ming.others : ∀ b : List Int, Ming [] b b
  | [] => .nil
  | _ :: b => .right (others b)
theorem Ming.app : ∀ a b : List Int, Ming a b (a ++ b)
  | [], b => others b
  | _ :: a, b => .left (app a b)
end LwM
namespace LwM
end LwM
namespace LwM
end LwM
namespace LwM
end LwM
namespace Dg
open PySem DL LwM
variable {a : Adr}
theorem eq_ii (neg : Bool) (x y : Int) : eqG neg (.int x) (.int y) = DL.M.ret (.val (.bl (neg ^^ decide (x = y)))) := by
  refine (eqG_def _ _ _ (fun _ h => by cases h)).trans ?_
  unfold kneD
  simp only [Bool.false_eq_true, if_false]
  unfold eqD conv
  have : PyData.eqv (.int x) (.int y) = decide (x = y) := by
    simp only [PyData.eqv]
    exact Bool.beq_eq_decide_eq x y
  have s1 : SeqAt.shaped (.int x) = true := by simp [SeqAt.shaped, PyData.canLay0, PyData.depth]
  have s2 : SeqAt.shaped (.int y) = true := by simp [SeqAt.shaped, PyData.canLay0, PyData.depth]
  simp only [s1, s2, Bool.and_self, if_true, this]
def AllP (ps : List Dt) : Prop := ∃ l : List (Int × Int), ps = l.map pairD
theorem AllP.snoc {ps : List Dt} (h : AllP ps) (x y : Int) : AllP (ps ++ [.tup [.int x, .int y]]) := by
  obtain ⟨l, rfl⟩ := h
  exact ⟨l ++ [(x, y)], by rw [List.map_append]; rfl⟩
theorem nis_snoc (l : List Int) (x : Int) : nis l ++ [Dt.int x] = nis (l ++ [x]) := by
  unfold nis
  rw [List.map_append]
  rfl
end Dg
namespace DL
open PySem
theorem enum_get {l : List Dt} {k : Nat} {d : Dt} (h : (enumD 0 l)[k]? = some d) : ∃ x, l[k]? = some x ∧ d = .tup [.int (k : Nat), x] := by
  rw [enumD_get] at h
  obtain ⟨x, h1, h2⟩ := Option.map_eq_some_iff.mp h
  exact ⟨x, h1, by rw [← h2, Nat.zero_add]⟩
end DL
namespace Dg
open PySem DL LwM
variable {a : Adr} {T : List (Addr × Str)}
end Dg
namespace Dg
open PySem DL LwM
variable {a : Adr}
abbrev wordD (a : Adr) (size : Int) (ls : List Int) : Dt := .obj a.w_Word ["size", "letters"] [.int size, .tup (nis ls)]
theorem fld_size {cs : List Addr} (size : Int) (ls : List Int) : fldsD cs "size" (wordD a size ls) = if a.w_Word ∈ cs then DL.M.ret (.val (.int size)) else DL.M.no := by
  show (if a.w_Word ∈ cs then (match List.lookup ("size" : Str) ((["size", "letters"] : List Str).zip [Dt.int size, Dt.tup (nis ls)]) with | some d => DL.M.ret (R.val d) | none => DL.M.no) else DL.M.no) = _
  have : List.lookup ("size" : Str) ((["size", "letters"] : List Str).zip [Dt.int size, Dt.tup (nis ls)]) = some (Dt.int size) := by simp [List.lookup]
  rw [this]
theorem fld_letters {cs : List Addr} (size : Int) (ls : List Int) : fldsD cs "letters" (wordD a size ls) = if a.w_Word ∈ cs then DL.M.ret (.val (.tup (nis ls))) else DL.M.no := by
  show (if a.w_Word ∈ cs then (match List.lookup ("letters" : Str) ((["size", "letters"] : List Str).zip [Dt.int size, Dt.tup (nis ls)]) with | some d => DL.M.ret (R.val d) | none => DL.M.no) else DL.M.no) = _
  have h : (("letters" : Str) == ("size" : Str)) = false := by decide +kernel
  have : List.lookup ("letters" : Str) ((["size", "letters"] : List Str).zip [Dt.int size, Dt.tup (nis ls)]) = some (Dt.tup (nis ls)) := by simp [List.lookup, h]
  rw [this]
theorem cut_hi (l : List Dt) {p : Int} (h : 0 ≤ p) : cutD l none (some p) = l.take p.toNat := by
  unfold cutD
  have e : HT.sIx l.length l.length (some p) = min p.toNat l.length := by
    have q := HT.sIx_nat l.length l.length p.toNat
    rw [Int.toNat_of_nonneg h] at q
    exact q
  rw [HT.sIx_none, e, List.drop_zero, Nat.sub_zero]
  rcases Nat.le_total p.toNat l.length with z | z
  · rw [Nat.min_eq_left z]
  · rw [Nat.min_eq_right z, List.take_length, List.take_of_length_le z]
theorem cut_lo (l : List Dt) {p : Int} (h : 0 ≤ p) : cutD l (some p) none = l.drop p.toNat := by
  unfold cutD
  have e : HT.sIx l.length 0 (some p) = min p.toNat l.length := by
    have q := HT.sIx_nat l.length 0 p.toNat
    rw [Int.toNat_of_nonneg h] at q
    exact q
  rw [HT.sIx_none, e, List.take_of_length_le (by rw [List.length_drop]; omega)]
  rcases Nat.le_total p.toNat l.length with z | z
  · rw [Nat.min_eq_left z]
  · rw [Nat.min_eq_right z, List.drop_of_length_le (Nat.le_refl _), List.drop_of_length_le z]
theorem Lt.set {size : Int} {ls : List Int} (L : Lt size ls) (p : Nat) {x : Int} (h0 : 1 ≤ x) (h1 : x ≤ size) : Lt size (ls.set p x) := ⟨L.s0, L.s1, by rw [List.length_set]; exact L.len, set_bd L.bd p h0 h1⟩
theorem at_last {l : List Int} (h : l ≠ []) : L2.atI (nis l) (-1) = some (.int (lst l)) := by
  obtain ⟨r, e⟩ := lst_snoc h
  have hl : l.length = r.length + 1 := by rw [e, List.length_append]; rfl
  unfold L2.atI L2.ixN
  rw [List.length_map, if_neg (by omega), if_pos (by omega)]
  have e2 : ((-1 : Int) + (l.length : Nat)).toNat = r.length := by omega
  show (nis l)[_]? = _
  rw [e2, List.getElem?_map]
  conv => lhs; rw [e]
  rw [List.getElem?_append_right (Nat.le_refl _), Nat.sub_self]
  rfl
theorem at01 (x y : Dt) : L2.atI [x, y] 0 = some x ∧ L2.atI [x, y] 1 = some y := ⟨rfl, rfl⟩
end Dg
namespace DL
open PySem
theorem compL_eq {tg : Dt → List Sl → Option (List Sl)} {tt : List Sl → M Bool} {fe : List Sl → M R} {δ : List Sl} (p : Dt → Bool) (f : Dt → Dt) : ∀ {l : List Dt}, (∀ d ∈ l, ∃ δ1, tg d δ = some δ1 ∧ tt δ1 = M.ret (p d) ∧ (p d = true → ∃ r, fe δ1 = M.ret r ∧ r.d = f d)) → compL tg tt fe δ l = M.ret ((l.filter p).map f)
  | [], _ => rfl
  | d :: ds, h => by
    obtain ⟨δ1, e1, e2, e3⟩ := h d (List.mem_cons_self ..)
    have ih := compL_eq p f (l := ds) fun x hx => h x (List.mem_cons_of_mem _ hx)
    unfold compL
    rw [e1]
    simp only [e2, bnd_ret]
    cases hp : p d with
    | false => simp only [Bool.false_eq_true, if_false]; rw [ih, List.filter_cons_of_neg (by simp [hp])]
    | true =>
      obtain ⟨r, e4, e5⟩ := e3 hp
      simp only [if_true, e4, bnd_ret]
      rw [ih, List.filter_cons_of_pos hp, bnd_ret, List.map_cons, e5]
theorem lc_eq {src : List Sl → M (List Dt)} {tg : Dt → List Sl → Option (List Sl)} {tt : List Sl → M Bool} {fe : List Sl → M R} {vs : List Nat} {δ : List Sl} {l r : List Dt} (hs : src δ = M.ret l) (hl : l.length ≤ 100000) (hc : compL tg tt fe (wipeD δ vs) l = M.ret r) : cLc src tg tt fe vs δ = M.ret (.new r) := by
  unfold cLc
  rw [hs, bnd_ret, if_pos hl, hc, nx_ret, bnd_ret]
end DL
namespace Dg
open PySem DL LwM
variable {a : Adr}
def enF : Dt → Dt
  | .tup [d, _] => d
  | d => d
theorem at_nat {l : List Int} {n : Nat} {x : Int} (h : l[n]? = some x) : L2.atI (nis l) (n : Int) = some (.int x) := by
  have hn := (List.getElem?_eq_some_iff.mp h).1
  unfold L2.atI L2.ixN
  rw [List.length_map, if_pos (by omega), if_pos (by omega)]
  show (nis l)[(n : Int).toNat]? = _
  rw [Int.toNat_natCast, List.getElem?_map, h]
  rfl
end Dg
namespace Dg
open PySem DL LwM
variable {a : Adr} {T : List (Addr × Str)}
theorem draw_ {lim : Int} (h1 : 1 ≤ lim) (h2 : lim < 1073741824) : Dw T 1 (S__law_draw a [.drw, .int lim]) (fun r => ∃ z : Int, r = .val (.int z) ∧ 0 ≤ z ∧ z < lim) := Dw.draw h1 h2
theorem size_ : Dw T 1 (S__law_size a [.drw]) (fun r => ∃ z : Int, r = .val (.int z) ∧ 2 ≤ z ∧ z ≤ 6) := by
  unfold S__law_size
  simp only [bnd_ret, bnd_nn, bnd_rse, bnd_ite, bnd_bnd, semOf, gSeq, gNx, gSet, gDrop, gRet, gRetV, gRetN, gIf, gBk, gCt, gFrz, frz, gApp, gExt, gSetI, gAsg, gPar, gPop, gSetPop, gAppPop, gRaise, gFld, cVar, vVar, cC, toV, bin, una, aNil, aCons, cTup, cLst, rNil, rCons, setAll, addD, subD, negD, cmpD, notD, cCall, cMeth, cMeth0, cMake, objR, tV, truD, tNotD, tAndD, tOrD, tBl, andV, orV, cIf, chain, oNone, oSome, cSl, slD, ixD, lenD, tupleD, listD, cDict, tgN, tgS, tgT, tgs, wSeq, wEn, R.sl, R.d, Sl.isIns, oneIns, List.getElem?_cons_zero, List.getElem?_cons_succ, List.getElem?_nil, List.set_cons_zero, List.set_cons_succ, List.map_cons, List.map_nil, List.length_cons, List.length_nil, List.nil_append, List.cons_append, List.append_nil, List.replicate, List.all_cons, List.all_nil, Nat.reduceSub, Nat.reduceAdd, Nat.reduceLeDiff, Nat.reduceLT, Nat.reduceEqDiff, if_true, if_false, ite_true, ite_false, Bool.not_true, Bool.not_false, Bool.true_and, Bool.and_true, Bool.false_and, Bool.and_false, Bool.true_or, Bool.or_true, Bool.false_or, Bool.or_false, decide_true, decide_false, Bool.false_eq_true, reduceCtorEq, true_and, and_true, List.mem_cons_self]
  refine Dw.bnd (k := 1) (j := 0) (by decide) (by decide) (draw_ (lim := 5) (by decide) (by decide)) fun r hr => ?_
  obtain ⟨z, rfl, z0, z1⟩ := hr
  simp only [bnd_ret, bnd_nn, bnd_rse, bnd_ite, bnd_bnd, semOf, gSeq, gNx, gSet, gDrop, gRet, gRetV, gRetN, gIf, gBk, gCt, gFrz, frz, gApp, gExt, gSetI, gAsg, gPar, gPop, gSetPop, gAppPop, gRaise, gFld, cVar, vVar, cC, toV, bin, una, aNil, aCons, cTup, cLst, rNil, rCons, setAll, addD, subD, negD, cmpD, notD, cCall, cMeth, cMeth0, cMake, objR, tV, truD, tNotD, tAndD, tOrD, tBl, andV, orV, cIf, chain, oNone, oSome, cSl, slD, ixD, lenD, tupleD, listD, cDict, tgN, tgS, tgT, tgs, wSeq, wEn, R.sl, R.d, Sl.isIns, oneIns, List.getElem?_cons_zero, List.getElem?_cons_succ, List.getElem?_nil, List.set_cons_zero, List.set_cons_succ, List.map_cons, List.map_nil, List.length_cons, List.length_nil, List.nil_append, List.cons_append, List.append_nil, List.replicate, List.all_cons, List.all_nil, Nat.reduceSub, Nat.reduceAdd, Nat.reduceLeDiff, Nat.reduceLT, Nat.reduceEqDiff, if_true, if_false, ite_true, ite_false, Bool.not_true, Bool.not_false, Bool.true_and, Bool.and_true, Bool.false_and, Bool.and_false, Bool.true_or, Bool.or_true, Bool.false_or, Bool.or_false, decide_true, decide_false, Bool.false_eq_true, reduceCtorEq, true_and, and_true, List.mem_cons_self]
  exact Dw.ret (by decide) ⟨_, rfl, by omega, by omega⟩
def Lb (size : Int) (l : List Int) : Prop := ∀ x ∈ l, 1 ≤ x ∧ x ≤ size
theorem Lb.snoc {size : Int} {l : List Int} (h : Lb size l) {x : Int} (h0 : 1 ≤ x) (h1 : x ≤ size) : Lb size (l ++ [x]) := fun y hy => by
  rcases List.mem_append.mp hy with z | z
  · exact h y z
  · rw [List.mem_singleton.mp z]; exact ⟨h0, h1⟩
theorem Lb.app {size : Int} {l m : List Int} (h : Lb size l) (k : Lb size m) : Lb size (l ++ m) := fun y hy => (List.mem_append.mp hy).elim (h y) (k y)
def dnI (x y : Int) : List Int := (List.range (x - y).toNat).map fun (n : Nat) => x - (n : Int)
def upI (x y : Int) : List Int := (List.range (y - x).toNat).map fun (n : Nat) => x + (n : Int)
theorem dnD_eq (x y : Int) : dnD x y = nis (dnI x y) := by unfold dnD dnI nis; rw [List.map_map]; rfl
theorem rgD_eq (x y : Int) : rgD x y = nis (upI x y) := by unfold rgD upI nis; rw [List.map_map]; rfl
abbrev tLet : List Sl → DL.M Bool := tBl (bin (toV (una (vVar 6) lenD)) (vVar 5) (cmpD fun x y => decide (x < y)))
abbrev bLet (a : Adr) : List Sl → DL.M Fl := gIf (tBl (bin (vVar 4) (toV (cC (.int 0))) (eqG false))) (gApp 6 (bin (toV (cC (.int 1))) (toV (cCall 2 (aCons (cVar 0) (aCons (cVar 1) aNil)) (S__law_draw a))) addD)) (gIf (tBl (bin (vVar 4) (toV (cC (.int 1))) (eqG false))) (gApp 6 (bin (vVar 3) (toV (cCall 2 (aCons (cVar 0) (aCons (cC (.int 2)) aNil)) (S__law_draw a))) addD)) (gIf (tBl (bin (vVar 4) (toV (cC (.int 2))) (eqG false))) (gApp 6 (bin (toV (cLst (aCons (cVar 3) (aCons (cVar 3) (aCons (bin (toV (cC (.int 1))) (toV (cCall 2 (aCons (cVar 0) (aCons (cVar 1) aNil)) (S__law_draw a))) addD) aNil))))) (toV (cCall 2 (aCons (cVar 0) (aCons (cC (.int 3)) aNil)) (S__law_draw a))) ixD)) (gIf (tBl (bin (vVar 4) (toV (cC (.int 3))) (eqG false))) (gSet 6 (bin (vVar 6) (toV (bin (vVar 1) (toV (cCall 2 (aCons (cVar 0) (aCons (cVar 1) aNil)) (S__law_draw a))) ldn)) addD)) (gSet 6 (bin (vVar 6) (toV (bin (toV (bin (toV (cC (.int 1))) (toV (cCall 2 (aCons (cVar 0) (aCons (cVar 1) aNil)) (S__law_draw a))) addD)) (toV (bin (vVar 1) (toV (cC (.int 1))) addD)) lrg2)) addD)))))
theorem let_body {size most low kind many : Int} {l : List Int} (s0 : 2 ≤ size) (s1 : size ≤ 6) (w0 : 1 ≤ low) (w1 : low ≤ size - 1) (hb : Lb size l) (hl : l.length ≤ 100) :
    Dw T 2 (bLet a [.val .drw, .val (.int size), .val (.int most), .val (.int low), .val (.int kind), .val (.int many), .own (nis l)]) (fun f => ∃ l', f = .nx [.val .drw, .val (.int size), .val (.int most), .val (.int low), .val (.int kind), .val (.int many), .own (nis l')] ∧ Lb size l' ∧ l.length < l'.length ∧ l'.length ≤ l.length + 6) := by
  have hlen : (nis l).length < 100000 := by rw [List.length_map]; omega
  unfold bLet
  by_cases k0 : kind = 0
  · simp only [bnd_ret, bnd_nn, bnd_rse, bnd_ite, bnd_bnd, semOf, gSeq, gNx, gSet, gDrop, gRet, gRetV, gRetN, gIf, gBk, gCt, gFrz, frz, gApp, gExt, gSetI, gAsg, gPar, gPop, gSetPop, gAppPop, gRaise, gFld, cVar, vVar, cC, toV, bin, una, aNil, aCons, cTup, cLst, rNil, rCons, setAll, addD, subD, negD, cmpD, notD, cCall, cMeth, cMeth0, cMake, objR, tV, truD, tNotD, tAndD, tOrD, tBl, andV, orV, cIf, chain, oNone, oSome, cSl, slD, ixD, lenD, tupleD, listD, cDict, tgN, tgS, tgT, tgs, wSeq, wEn, R.sl, R.d, Sl.isIns, oneIns, List.getElem?_cons_zero, List.getElem?_cons_succ, List.getElem?_nil, List.set_cons_zero, List.set_cons_succ, List.map_cons, List.map_nil, List.length_cons, List.length_nil, List.nil_append, List.cons_append, List.append_nil, List.replicate, List.all_cons, List.all_nil, Nat.reduceSub, Nat.reduceAdd, Nat.reduceLeDiff, Nat.reduceLT, Nat.reduceEqDiff, if_true, if_false, ite_true, ite_false, Bool.not_true, Bool.not_false, Bool.true_and, Bool.and_true, Bool.false_and, Bool.and_false, Bool.true_or, Bool.or_true, Bool.false_or, Bool.or_false, decide_true, decide_false, Bool.false_eq_true, reduceCtorEq, true_and, and_true, List.mem_cons_self, eq_ii, k0, Bool.false_xor]
    refine (Dw.bnd (k := 1) (j := 0) (by decide) (by decide) (draw_ (lim := size) (by omega) (by omega)) fun r hr => ?_).le (by decide)
    obtain ⟨z, rfl, z0, z1⟩ := hr
    simp only [bnd_ret, bnd_nn, bnd_rse, bnd_ite, bnd_bnd, semOf, gSeq, gNx, gSet, gDrop, gRet, gRetV, gRetN, gIf, gBk, gCt, gFrz, frz, gApp, gExt, gSetI, gAsg, gPar, gPop, gSetPop, gAppPop, gRaise, gFld, cVar, vVar, cC, toV, bin, una, aNil, aCons, cTup, cLst, rNil, rCons, setAll, addD, subD, negD, cmpD, notD, cCall, cMeth, cMeth0, cMake, objR, tV, truD, tNotD, tAndD, tOrD, tBl, andV, orV, cIf, chain, oNone, oSome, cSl, slD, ixD, lenD, tupleD, listD, cDict, tgN, tgS, tgT, tgs, wSeq, wEn, R.sl, R.d, Sl.isIns, oneIns, List.getElem?_cons_zero, List.getElem?_cons_succ, List.getElem?_nil, List.set_cons_zero, List.set_cons_succ, List.map_cons, List.map_nil, List.length_cons, List.length_nil, List.nil_append, List.cons_append, List.append_nil, List.replicate, List.all_cons, List.all_nil, Nat.reduceSub, Nat.reduceAdd, Nat.reduceLeDiff, Nat.reduceLT, Nat.reduceEqDiff, if_true, if_false, ite_true, ite_false, Bool.not_true, Bool.not_false, Bool.true_and, Bool.and_true, Bool.false_and, Bool.and_false, Bool.true_or, Bool.or_true, Bool.false_or, Bool.or_false, decide_true, decide_false, Bool.false_eq_true, reduceCtorEq, true_and, and_true, List.mem_cons_self, hlen]
    exact Dw.ret (by decide) ⟨l ++ [1 + z], by rw [nis_snoc], hb.snoc (by omega) (by omega), by simp, by simp⟩
  by_cases k1 : kind = 1
  · simp only [bnd_ret, bnd_nn, bnd_rse, bnd_ite, bnd_bnd, semOf, gSeq, gNx, gSet, gDrop, gRet, gRetV, gRetN, gIf, gBk, gCt, gFrz, frz, gApp, gExt, gSetI, gAsg, gPar, gPop, gSetPop, gAppPop, gRaise, gFld, cVar, vVar, cC, toV, bin, una, aNil, aCons, cTup, cLst, rNil, rCons, setAll, addD, subD, negD, cmpD, notD, cCall, cMeth, cMeth0, cMake, objR, tV, truD, tNotD, tAndD, tOrD, tBl, andV, orV, cIf, chain, oNone, oSome, cSl, slD, ixD, lenD, tupleD, listD, cDict, tgN, tgS, tgT, tgs, wSeq, wEn, R.sl, R.d, Sl.isIns, oneIns, List.getElem?_cons_zero, List.getElem?_cons_succ, List.getElem?_nil, List.set_cons_zero, List.set_cons_succ, List.map_cons, List.map_nil, List.length_cons, List.length_nil, List.nil_append, List.cons_append, List.append_nil, List.replicate, List.all_cons, List.all_nil, Nat.reduceSub, Nat.reduceAdd, Nat.reduceLeDiff, Nat.reduceLT, Nat.reduceEqDiff, if_true, if_false, ite_true, ite_false, Bool.not_true, Bool.not_false, Bool.true_and, Bool.and_true, Bool.false_and, Bool.and_false, Bool.true_or, Bool.or_true, Bool.false_or, Bool.or_false, decide_true, decide_false, Bool.false_eq_true, reduceCtorEq, true_and, and_true, List.mem_cons_self, eq_ii, k1, Bool.false_xor, show ¬ (1 : Int) = 0 by decide]
    refine (Dw.bnd (k := 1) (j := 0) (by decide) (by decide) (draw_ (lim := 2) (by decide) (by decide)) fun r hr => ?_).le (by decide)
    obtain ⟨z, rfl, z0, z1⟩ := hr
    simp only [bnd_ret, bnd_nn, bnd_rse, bnd_ite, bnd_bnd, semOf, gSeq, gNx, gSet, gDrop, gRet, gRetV, gRetN, gIf, gBk, gCt, gFrz, frz, gApp, gExt, gSetI, gAsg, gPar, gPop, gSetPop, gAppPop, gRaise, gFld, cVar, vVar, cC, toV, bin, una, aNil, aCons, cTup, cLst, rNil, rCons, setAll, addD, subD, negD, cmpD, notD, cCall, cMeth, cMeth0, cMake, objR, tV, truD, tNotD, tAndD, tOrD, tBl, andV, orV, cIf, chain, oNone, oSome, cSl, slD, ixD, lenD, tupleD, listD, cDict, tgN, tgS, tgT, tgs, wSeq, wEn, R.sl, R.d, Sl.isIns, oneIns, List.getElem?_cons_zero, List.getElem?_cons_succ, List.getElem?_nil, List.set_cons_zero, List.set_cons_succ, List.map_cons, List.map_nil, List.length_cons, List.length_nil, List.nil_append, List.cons_append, List.append_nil, List.replicate, List.all_cons, List.all_nil, Nat.reduceSub, Nat.reduceAdd, Nat.reduceLeDiff, Nat.reduceLT, Nat.reduceEqDiff, if_true, if_false, ite_true, ite_false, Bool.not_true, Bool.not_false, Bool.true_and, Bool.and_true, Bool.false_and, Bool.and_false, Bool.true_or, Bool.or_true, Bool.false_or, Bool.or_false, decide_true, decide_false, Bool.false_eq_true, reduceCtorEq, true_and, and_true, List.mem_cons_self, hlen]
    exact Dw.ret (by decide) ⟨l ++ [low + z], by rw [nis_snoc], hb.snoc (by omega) (by omega), by simp, by simp⟩
  by_cases k2 : kind = 2
  · simp only [bnd_ret, bnd_nn, bnd_rse, bnd_ite, bnd_bnd, semOf, gSeq, gNx, gSet, gDrop, gRet, gRetV, gRetN, gIf, gBk, gCt, gFrz, frz, gApp, gExt, gSetI, gAsg, gPar, gPop, gSetPop, gAppPop, gRaise, gFld, cVar, vVar, cC, toV, bin, una, aNil, aCons, cTup, cLst, rNil, rCons, setAll, addD, subD, negD, cmpD, notD, cCall, cMeth, cMeth0, cMake, objR, tV, truD, tNotD, tAndD, tOrD, tBl, andV, orV, cIf, chain, oNone, oSome, cSl, slD, ixD, lenD, tupleD, listD, cDict, tgN, tgS, tgT, tgs, wSeq, wEn, R.sl, R.d, Sl.isIns, oneIns, List.getElem?_cons_zero, List.getElem?_cons_succ, List.getElem?_nil, List.set_cons_zero, List.set_cons_succ, List.map_cons, List.map_nil, List.length_cons, List.length_nil, List.nil_append, List.cons_append, List.append_nil, List.replicate, List.all_cons, List.all_nil, Nat.reduceSub, Nat.reduceAdd, Nat.reduceLeDiff, Nat.reduceLT, Nat.reduceEqDiff, if_true, if_false, ite_true, ite_false, Bool.not_true, Bool.not_false, Bool.true_and, Bool.and_true, Bool.false_and, Bool.and_false, Bool.true_or, Bool.or_true, Bool.false_or, Bool.or_false, decide_true, decide_false, Bool.false_eq_true, reduceCtorEq, true_and, and_true, List.mem_cons_self, eq_ii, k2, Bool.false_xor, show ¬ (2 : Int) = 0 by decide, show ¬ (2 : Int) = 1 by decide]
    refine Dw.bnd (k := 1) (j := 1) (by decide) (by decide) (draw_ (lim := size) (by omega) (by omega)) fun r hr => ?_
    obtain ⟨z, rfl, z0, z1⟩ := hr
    simp only [bnd_ret, bnd_nn, bnd_rse, bnd_ite, bnd_bnd, semOf, gSeq, gNx, gSet, gDrop, gRet, gRetV, gRetN, gIf, gBk, gCt, gFrz, frz, gApp, gExt, gSetI, gAsg, gPar, gPop, gSetPop, gAppPop, gRaise, gFld, cVar, vVar, cC, toV, bin, una, aNil, aCons, cTup, cLst, rNil, rCons, setAll, addD, subD, negD, cmpD, notD, cCall, cMeth, cMeth0, cMake, objR, tV, truD, tNotD, tAndD, tOrD, tBl, andV, orV, cIf, chain, oNone, oSome, cSl, slD, ixD, lenD, tupleD, listD, cDict, tgN, tgS, tgT, tgs, wSeq, wEn, R.sl, R.d, Sl.isIns, oneIns, List.getElem?_cons_zero, List.getElem?_cons_succ, List.getElem?_nil, List.set_cons_zero, List.set_cons_succ, List.map_cons, List.map_nil, List.length_cons, List.length_nil, List.nil_append, List.cons_append, List.append_nil, List.replicate, List.all_cons, List.all_nil, Nat.reduceSub, Nat.reduceAdd, Nat.reduceLeDiff, Nat.reduceLT, Nat.reduceEqDiff, if_true, if_false, ite_true, ite_false, Bool.not_true, Bool.not_false, Bool.true_and, Bool.and_true, Bool.false_and, Bool.and_false, Bool.true_or, Bool.or_true, Bool.false_or, Bool.or_false, decide_true, decide_false, Bool.false_eq_true, reduceCtorEq, true_and, and_true, List.mem_cons_self]
    refine Dw.bnd (k := 1) (j := 0) (by decide) (by decide) (draw_ (lim := 3) (by decide) (by decide)) fun r hr => ?_
    obtain ⟨y, rfl, y0, y1⟩ := hr
    obtain ⟨x, hx, x0, x1⟩ : ∃ x, L2.atI [Dt.int low, .int low, .int (1 + z)] y = some (.int x) ∧ 1 ≤ x ∧ x ≤ size := by
      have : y = 0 ∨ y = 1 ∨ y = 2 := by omega
      rcases this with rfl | rfl | rfl
      · exact ⟨low, rfl, by omega, by omega⟩
      · exact ⟨low, rfl, by omega, by omega⟩
      · exact ⟨1 + z, rfl, by omega, by omega⟩
    simp only [bnd_ret, bnd_nn, bnd_rse, bnd_ite, bnd_bnd, semOf, gSeq, gNx, gSet, gDrop, gRet, gRetV, gRetN, gIf, gBk, gCt, gFrz, frz, gApp, gExt, gSetI, gAsg, gPar, gPop, gSetPop, gAppPop, gRaise, gFld, cVar, vVar, cC, toV, bin, una, aNil, aCons, cTup, cLst, rNil, rCons, setAll, addD, subD, negD, cmpD, notD, cCall, cMeth, cMeth0, cMake, objR, tV, truD, tNotD, tAndD, tOrD, tBl, andV, orV, cIf, chain, oNone, oSome, cSl, slD, ixD, lenD, tupleD, listD, cDict, tgN, tgS, tgT, tgs, wSeq, wEn, R.sl, R.d, Sl.isIns, oneIns, List.getElem?_cons_zero, List.getElem?_cons_succ, List.getElem?_nil, List.set_cons_zero, List.set_cons_succ, List.map_cons, List.map_nil, List.length_cons, List.length_nil, List.nil_append, List.cons_append, List.append_nil, List.replicate, List.all_cons, List.all_nil, Nat.reduceSub, Nat.reduceAdd, Nat.reduceLeDiff, Nat.reduceLT, Nat.reduceEqDiff, if_true, if_false, ite_true, ite_false, Bool.not_true, Bool.not_false, Bool.true_and, Bool.and_true, Bool.false_and, Bool.and_false, Bool.true_or, Bool.or_true, Bool.false_or, Bool.or_false, decide_true, decide_false, Bool.false_eq_true, reduceCtorEq, true_and, and_true, List.mem_cons_self, hx, hlen]
    exact Dw.ret (by decide) ⟨l ++ [x], by rw [nis_snoc], hb.snoc x0 x1, by simp, by simp⟩
  by_cases k3 : kind = 3
  · simp only [bnd_ret, bnd_nn, bnd_rse, bnd_ite, bnd_bnd, semOf, gSeq, gNx, gSet, gDrop, gRet, gRetV, gRetN, gIf, gBk, gCt, gFrz, frz, gApp, gExt, gSetI, gAsg, gPar, gPop, gSetPop, gAppPop, gRaise, gFld, cVar, vVar, cC, toV, bin, una, aNil, aCons, cTup, cLst, rNil, rCons, setAll, addD, subD, negD, cmpD, notD, cCall, cMeth, cMeth0, cMake, objR, tV, truD, tNotD, tAndD, tOrD, tBl, andV, orV, cIf, chain, oNone, oSome, cSl, slD, ixD, lenD, tupleD, listD, cDict, tgN, tgS, tgT, tgs, wSeq, wEn, R.sl, R.d, Sl.isIns, oneIns, List.getElem?_cons_zero, List.getElem?_cons_succ, List.getElem?_nil, List.set_cons_zero, List.set_cons_succ, List.map_cons, List.map_nil, List.length_cons, List.length_nil, List.nil_append, List.cons_append, List.append_nil, List.replicate, List.all_cons, List.all_nil, Nat.reduceSub, Nat.reduceAdd, Nat.reduceLeDiff, Nat.reduceLT, Nat.reduceEqDiff, if_true, if_false, ite_true, ite_false, Bool.not_true, Bool.not_false, Bool.true_and, Bool.and_true, Bool.false_and, Bool.and_false, Bool.true_or, Bool.or_true, Bool.false_or, Bool.or_false, decide_true, decide_false, Bool.false_eq_true, reduceCtorEq, true_and, and_true, List.mem_cons_self, eq_ii, k3, Bool.false_xor, show ¬ (3 : Int) = 0 by decide, show ¬ (3 : Int) = 1 by decide, show ¬ (3 : Int) = 2 by decide]
    refine (Dw.bnd (k := 1) (j := 0) (by decide) (by decide) (draw_ (lim := size) (by omega) (by omega)) fun r hr => ?_).le (by decide)
    obtain ⟨z, rfl, z0, z1⟩ := hr
    have hbd : -1000 ≤ size ∧ size ≤ 1000 ∧ -1000 ≤ z ∧ z ≤ 1000 := by omega
    have hd : (dnI size z).length = (size - z).toNat := by unfold dnI; rw [List.length_map, List.length_range]
    have hll : (nis l).length + (nis (dnI size z)).length ≤ 100000 := by rw [List.length_map, List.length_map, hd]; omega
    simp only [bnd_ret, bnd_nn, bnd_rse, bnd_ite, bnd_bnd, semOf, gSeq, gNx, gSet, gDrop, gRet, gRetV, gRetN, gIf, gBk, gCt, gFrz, frz, gApp, gExt, gSetI, gAsg, gPar, gPop, gSetPop, gAppPop, gRaise, gFld, cVar, vVar, cC, toV, bin, una, aNil, aCons, cTup, cLst, rNil, rCons, setAll, addD, subD, negD, cmpD, notD, cCall, cMeth, cMeth0, cMake, objR, tV, truD, tNotD, tAndD, tOrD, tBl, andV, orV, cIf, chain, oNone, oSome, cSl, slD, ixD, lenD, tupleD, listD, cDict, tgN, tgS, tgT, tgs, wSeq, wEn, R.sl, R.d, Sl.isIns, oneIns, List.getElem?_cons_zero, List.getElem?_cons_succ, List.getElem?_nil, List.set_cons_zero, List.set_cons_succ, List.map_cons, List.map_nil, List.length_cons, List.length_nil, List.nil_append, List.cons_append, List.append_nil, List.replicate, List.all_cons, List.all_nil, Nat.reduceSub, Nat.reduceAdd, Nat.reduceLeDiff, Nat.reduceLT, Nat.reduceEqDiff, if_true, if_false, ite_true, ite_false, Bool.not_true, Bool.not_false, Bool.true_and, Bool.and_true, Bool.false_and, Bool.and_false, Bool.true_or, Bool.or_true, Bool.false_or, Bool.or_false, decide_true, decide_false, Bool.false_eq_true, reduceCtorEq, true_and, and_true, List.mem_cons_self, ldn, hbd, dnD_eq, hll]
    refine Dw.ret (by decide) ⟨l ++ dnI size z, by unfold nis; rw [List.map_append], hb.app fun x hx => ?_, by rw [List.length_append, hd]; omega, by rw [List.length_append, hd]; omega⟩
    obtain ⟨n, hn, rfl⟩ := List.mem_map.mp hx
    have := List.mem_range.mp hn
    omega
  · simp only [bnd_ret, bnd_nn, bnd_rse, bnd_ite, bnd_bnd, semOf, gSeq, gNx, gSet, gDrop, gRet, gRetV, gRetN, gIf, gBk, gCt, gFrz, frz, gApp, gExt, gSetI, gAsg, gPar, gPop, gSetPop, gAppPop, gRaise, gFld, cVar, vVar, cC, toV, bin, una, aNil, aCons, cTup, cLst, rNil, rCons, setAll, addD, subD, negD, cmpD, notD, cCall, cMeth, cMeth0, cMake, objR, tV, truD, tNotD, tAndD, tOrD, tBl, andV, orV, cIf, chain, oNone, oSome, cSl, slD, ixD, lenD, tupleD, listD, cDict, tgN, tgS, tgT, tgs, wSeq, wEn, R.sl, R.d, Sl.isIns, oneIns, List.getElem?_cons_zero, List.getElem?_cons_succ, List.getElem?_nil, List.set_cons_zero, List.set_cons_succ, List.map_cons, List.map_nil, List.length_cons, List.length_nil, List.nil_append, List.cons_append, List.append_nil, List.replicate, List.all_cons, List.all_nil, Nat.reduceSub, Nat.reduceAdd, Nat.reduceLeDiff, Nat.reduceLT, Nat.reduceEqDiff, if_true, if_false, ite_true, ite_false, Bool.not_true, Bool.not_false, Bool.true_and, Bool.and_true, Bool.false_and, Bool.and_false, Bool.true_or, Bool.or_true, Bool.false_or, Bool.or_false, decide_true, decide_false, Bool.false_eq_true, reduceCtorEq, true_and, and_true, List.mem_cons_self, eq_ii, k0, k1, k2, k3, Bool.false_xor]
    refine (Dw.bnd (k := 1) (j := 0) (by decide) (by decide) (draw_ (lim := size) (by omega) (by omega)) fun r hr => ?_).le (by decide)
    obtain ⟨z, rfl, z0, z1⟩ := hr
    have hbd : -100000 ≤ 1 + z ∧ 1 + z ≤ 100000 ∧ -100000 ≤ size + 1 ∧ size + 1 ≤ 100000 := by omega
    have hd : (upI (1 + z) (size + 1)).length = (size + 1 - (1 + z)).toNat := by unfold upI; rw [List.length_map, List.length_range]
    have hll : (nis l).length + (nis (upI (1 + z) (size + 1))).length ≤ 100000 := by rw [List.length_map, List.length_map, hd]; omega
    simp only [bnd_ret, bnd_nn, bnd_rse, bnd_ite, bnd_bnd, semOf, gSeq, gNx, gSet, gDrop, gRet, gRetV, gRetN, gIf, gBk, gCt, gFrz, frz, gApp, gExt, gSetI, gAsg, gPar, gPop, gSetPop, gAppPop, gRaise, gFld, cVar, vVar, cC, toV, bin, una, aNil, aCons, cTup, cLst, rNil, rCons, setAll, addD, subD, negD, cmpD, notD, cCall, cMeth, cMeth0, cMake, objR, tV, truD, tNotD, tAndD, tOrD, tBl, andV, orV, cIf, chain, oNone, oSome, cSl, slD, ixD, lenD, tupleD, listD, cDict, tgN, tgS, tgT, tgs, wSeq, wEn, R.sl, R.d, Sl.isIns, oneIns, List.getElem?_cons_zero, List.getElem?_cons_succ, List.getElem?_nil, List.set_cons_zero, List.set_cons_succ, List.map_cons, List.map_nil, List.length_cons, List.length_nil, List.nil_append, List.cons_append, List.append_nil, List.replicate, List.all_cons, List.all_nil, Nat.reduceSub, Nat.reduceAdd, Nat.reduceLeDiff, Nat.reduceLT, Nat.reduceEqDiff, if_true, if_false, ite_true, ite_false, Bool.not_true, Bool.not_false, Bool.true_and, Bool.and_true, Bool.false_and, Bool.and_false, Bool.true_or, Bool.or_true, Bool.false_or, Bool.or_false, decide_true, decide_false, Bool.false_eq_true, reduceCtorEq, true_and, and_true, List.mem_cons_self, lrg2, hbd, rgD_eq, hll]
    refine Dw.ret (by decide) ⟨l ++ upI (1 + z) (size + 1), by unfold nis; rw [List.map_append], hb.app fun x hx => ?_, by rw [List.length_append, hd]; omega, by rw [List.length_append, hd]; omega⟩
    obtain ⟨n, hn, rfl⟩ := List.mem_map.mp hx
    have := List.mem_range.mp hn
    omega
theorem let_loop {size most low kind many : Int} (s0 : 2 ≤ size) (s1 : size ≤ 6) (w0 : 1 ≤ low) (w1 : low ≤ size - 1) (m1 : many ≤ 50) : ∀ (m : Nat) (l : List Int), many ≤ m + l.length → Lb size l → l.length ≤ 60 →
    Dw T (2 * m) (gWhile tLet (bLet a) [.val .drw, .val (.int size), .val (.int most), .val (.int low), .val (.int kind), .val (.int many), .own (nis l)]) (fun f => ∃ l', f = .nx [.val .drw, .val (.int size), .val (.int most), .val (.int low), .val (.int kind), .val (.int many), .own (nis l')] ∧ Lb size l' ∧ many ≤ l'.length ∧ l'.length ≤ 60)
  | m, l, hm, hb, hl => by
    rw [gWhile_eq1]
    by_cases c : (l.length : Int) < many
    · have et : tLet [.val .drw, .val (.int size), .val (.int most), .val (.int low), .val (.int kind), .val (.int many), .own (nis l)] = DL.M.ret true := by
        unfold tLet
        simp only [bnd_ret, bnd_nn, bnd_rse, bnd_ite, bnd_bnd, semOf, gSeq, gNx, gSet, gDrop, gRet, gRetV, gRetN, gIf, gBk, gCt, gFrz, frz, gApp, gExt, gSetI, gAsg, gPar, gPop, gSetPop, gAppPop, gRaise, gFld, cVar, vVar, cC, toV, bin, una, aNil, aCons, cTup, cLst, rNil, rCons, setAll, addD, subD, negD, cmpD, notD, cCall, cMeth, cMeth0, cMake, objR, tV, truD, tNotD, tAndD, tOrD, tBl, andV, orV, cIf, chain, oNone, oSome, cSl, slD, ixD, lenD, tupleD, listD, cDict, tgN, tgS, tgT, tgs, wSeq, wEn, R.sl, R.d, Sl.isIns, oneIns, List.getElem?_cons_zero, List.getElem?_cons_succ, List.getElem?_nil, List.set_cons_zero, List.set_cons_succ, List.map_cons, List.map_nil, List.length_cons, List.length_nil, List.nil_append, List.cons_append, List.append_nil, List.replicate, List.all_cons, List.all_nil, Nat.reduceSub, Nat.reduceAdd, Nat.reduceLeDiff, Nat.reduceLT, Nat.reduceEqDiff, if_true, if_false, ite_true, ite_false, Bool.not_true, Bool.not_false, Bool.true_and, Bool.and_true, Bool.false_and, Bool.and_false, Bool.true_or, Bool.or_true, Bool.false_or, Bool.or_false, decide_true, decide_false, Bool.false_eq_true, reduceCtorEq, true_and, and_true, List.mem_cons_self, List.length_map, c]
      rw [et, bnd_ret, if_pos rfl]
      obtain ⟨m', rfl⟩ : ∃ m', m = m' + 1 := ⟨m - 1, by omega⟩
      have e : (2 : Int) * ((m' + 1 : Nat) : Int) = 2 + 2 * (m' : Int) := by omega
      rw [e]
      refine Dw.bnd (by decide) (by omega) (let_body (a := a) (T := T) s0 s1 w0 w1 hb (by omega)) fun f hf => ?_
      obtain ⟨l', rfl, b', h1, h2⟩ := hf
      exact let_loop s0 s1 w0 w1 m1 m' l' (by omega) b' (by omega)
    · have et : tLet [.val .drw, .val (.int size), .val (.int most), .val (.int low), .val (.int kind), .val (.int many), .own (nis l)] = DL.M.ret false := by
        unfold tLet
        simp only [bnd_ret, bnd_nn, bnd_rse, bnd_ite, bnd_bnd, semOf, gSeq, gNx, gSet, gDrop, gRet, gRetV, gRetN, gIf, gBk, gCt, gFrz, frz, gApp, gExt, gSetI, gAsg, gPar, gPop, gSetPop, gAppPop, gRaise, gFld, cVar, vVar, cC, toV, bin, una, aNil, aCons, cTup, cLst, rNil, rCons, setAll, addD, subD, negD, cmpD, notD, cCall, cMeth, cMeth0, cMake, objR, tV, truD, tNotD, tAndD, tOrD, tBl, andV, orV, cIf, chain, oNone, oSome, cSl, slD, ixD, lenD, tupleD, listD, cDict, tgN, tgS, tgT, tgs, wSeq, wEn, R.sl, R.d, Sl.isIns, oneIns, List.getElem?_cons_zero, List.getElem?_cons_succ, List.getElem?_nil, List.set_cons_zero, List.set_cons_succ, List.map_cons, List.map_nil, List.length_cons, List.length_nil, List.nil_append, List.cons_append, List.append_nil, List.replicate, List.all_cons, List.all_nil, Nat.reduceSub, Nat.reduceAdd, Nat.reduceLeDiff, Nat.reduceLT, Nat.reduceEqDiff, if_true, if_false, ite_true, ite_false, Bool.not_true, Bool.not_false, Bool.true_and, Bool.and_true, Bool.false_and, Bool.and_false, Bool.true_or, Bool.or_true, Bool.false_or, Bool.or_false, decide_true, decide_false, Bool.false_eq_true, reduceCtorEq, true_and, and_true, List.mem_cons_self, List.length_map, c]
      rw [et, bnd_ret, if_neg (by decide)]
      exact Dw.ret (by omega) ⟨l, rfl, hb, by omega, hl⟩
termination_by m => m
theorem letters_ {size most : Int} (s0 : 2 ≤ size) (s1 : size ≤ 6) (m0 : 0 ≤ most) (m1 : most ≤ 40) : Dw T 103 (S__law_letters a [.drw, .int size, .int most]) (fun r => ∃ l, r = .new (nis l) ∧ Lb size l ∧ (l.length : Int) ≤ most) := by
  unfold S__law_letters
  simp only [bnd_ret, bnd_nn, bnd_rse, bnd_ite, bnd_bnd, semOf, gSeq, gNx, gSet, gDrop, gRet, gRetV, gRetN, gIf, gBk, gCt, gFrz, frz, gApp, gExt, gSetI, gAsg, gPar, gPop, gSetPop, gAppPop, gRaise, gFld, cVar, vVar, cC, toV, bin, una, aNil, aCons, cTup, cLst, rNil, rCons, setAll, addD, subD, negD, cmpD, notD, cCall, cMeth, cMeth0, cMake, objR, tV, truD, tNotD, tAndD, tOrD, tBl, andV, orV, cIf, chain, oNone, oSome, cSl, slD, ixD, lenD, tupleD, listD, cDict, tgN, tgS, tgT, tgs, wSeq, wEn, R.sl, R.d, Sl.isIns, oneIns, List.getElem?_cons_zero, List.getElem?_cons_succ, List.getElem?_nil, List.set_cons_zero, List.set_cons_succ, List.map_cons, List.map_nil, List.length_cons, List.length_nil, List.nil_append, List.cons_append, List.append_nil, List.replicate, List.all_cons, List.all_nil, Nat.reduceSub, Nat.reduceAdd, Nat.reduceLeDiff, Nat.reduceLT, Nat.reduceEqDiff, if_true, if_false, ite_true, ite_false, Bool.not_true, Bool.not_false, Bool.true_and, Bool.and_true, Bool.false_and, Bool.and_false, Bool.true_or, Bool.or_true, Bool.false_or, Bool.or_false, decide_true, decide_false, Bool.false_eq_true, reduceCtorEq, true_and, and_true, List.mem_cons_self]
  refine Dw.bnd (k := 1) (j := 102) (by decide) (by decide) (draw_ (lim := 5) (by decide) (by decide)) fun r hr => ?_
  obtain ⟨kind, rfl, k0, k1⟩ := hr
  simp only [bnd_ret, bnd_nn, bnd_rse, bnd_ite, bnd_bnd, semOf, gSeq, gNx, gSet, gDrop, gRet, gRetV, gRetN, gIf, gBk, gCt, gFrz, frz, gApp, gExt, gSetI, gAsg, gPar, gPop, gSetPop, gAppPop, gRaise, gFld, cVar, vVar, cC, toV, bin, una, aNil, aCons, cTup, cLst, rNil, rCons, setAll, addD, subD, negD, cmpD, notD, cCall, cMeth, cMeth0, cMake, objR, tV, truD, tNotD, tAndD, tOrD, tBl, andV, orV, cIf, chain, oNone, oSome, cSl, slD, ixD, lenD, tupleD, listD, cDict, tgN, tgS, tgT, tgs, wSeq, wEn, R.sl, R.d, Sl.isIns, oneIns, List.getElem?_cons_zero, List.getElem?_cons_succ, List.getElem?_nil, List.set_cons_zero, List.set_cons_succ, List.map_cons, List.map_nil, List.length_cons, List.length_nil, List.nil_append, List.cons_append, List.append_nil, List.replicate, List.all_cons, List.all_nil, Nat.reduceSub, Nat.reduceAdd, Nat.reduceLeDiff, Nat.reduceLT, Nat.reduceEqDiff, if_true, if_false, ite_true, ite_false, Bool.not_true, Bool.not_false, Bool.true_and, Bool.and_true, Bool.false_and, Bool.and_false, Bool.true_or, Bool.or_true, Bool.false_or, Bool.or_false, decide_true, decide_false, Bool.false_eq_true, reduceCtorEq, true_and, and_true, List.mem_cons_self]
  refine Dw.bnd (k := 1) (j := 101) (by decide) (by decide) (draw_ (lim := most + 1) (by omega) (by omega)) fun r hr => ?_
  obtain ⟨many, rfl, n0, n1⟩ := hr
  simp only [bnd_ret, bnd_nn, bnd_rse, bnd_ite, bnd_bnd, semOf, gSeq, gNx, gSet, gDrop, gRet, gRetV, gRetN, gIf, gBk, gCt, gFrz, frz, gApp, gExt, gSetI, gAsg, gPar, gPop, gSetPop, gAppPop, gRaise, gFld, cVar, vVar, cC, toV, bin, una, aNil, aCons, cTup, cLst, rNil, rCons, setAll, addD, subD, negD, cmpD, notD, cCall, cMeth, cMeth0, cMake, objR, tV, truD, tNotD, tAndD, tOrD, tBl, andV, orV, cIf, chain, oNone, oSome, cSl, slD, ixD, lenD, tupleD, listD, cDict, tgN, tgS, tgT, tgs, wSeq, wEn, R.sl, R.d, Sl.isIns, oneIns, List.getElem?_cons_zero, List.getElem?_cons_succ, List.getElem?_nil, List.set_cons_zero, List.set_cons_succ, List.map_cons, List.map_nil, List.length_cons, List.length_nil, List.nil_append, List.cons_append, List.append_nil, List.replicate, List.all_cons, List.all_nil, Nat.reduceSub, Nat.reduceAdd, Nat.reduceLeDiff, Nat.reduceLT, Nat.reduceEqDiff, if_true, if_false, ite_true, ite_false, Bool.not_true, Bool.not_false, Bool.true_and, Bool.and_true, Bool.false_and, Bool.and_false, Bool.true_or, Bool.or_true, Bool.false_or, Bool.or_false, decide_true, decide_false, Bool.false_eq_true, reduceCtorEq, true_and, and_true, List.mem_cons_self]
  refine Dw.bnd (k := 1) (j := 100) (by decide) (by decide) (draw_ (lim := size - 1) (by omega) (by omega)) fun r hr => ?_
  obtain ⟨low, rfl, w0, w1⟩ := hr
  simp only [bnd_ret, bnd_nn, bnd_rse, bnd_ite, bnd_bnd, semOf, gSeq, gNx, gSet, gDrop, gRet, gRetV, gRetN, gIf, gBk, gCt, gFrz, frz, gApp, gExt, gSetI, gAsg, gPar, gPop, gSetPop, gAppPop, gRaise, gFld, cVar, vVar, cC, toV, bin, una, aNil, aCons, cTup, cLst, rNil, rCons, setAll, addD, subD, negD, cmpD, notD, cCall, cMeth, cMeth0, cMake, objR, tV, truD, tNotD, tAndD, tOrD, tBl, andV, orV, cIf, chain, oNone, oSome, cSl, slD, ixD, lenD, tupleD, listD, cDict, tgN, tgS, tgT, tgs, wSeq, wEn, R.sl, R.d, Sl.isIns, oneIns, List.getElem?_cons_zero, List.getElem?_cons_succ, List.getElem?_nil, List.set_cons_zero, List.set_cons_succ, List.map_cons, List.map_nil, List.length_cons, List.length_nil, List.nil_append, List.cons_append, List.append_nil, List.replicate, List.all_cons, List.all_nil, Nat.reduceSub, Nat.reduceAdd, Nat.reduceLeDiff, Nat.reduceLT, Nat.reduceEqDiff, if_true, if_false, ite_true, ite_false, Bool.not_true, Bool.not_false, Bool.true_and, Bool.and_true, Bool.false_and, Bool.and_false, Bool.true_or, Bool.or_true, Bool.false_or, Bool.or_false, decide_true, decide_false, Bool.false_eq_true, reduceCtorEq, true_and, and_true, List.mem_cons_self]
  refine Dw.bnd (k := 2 * ((50 : Nat) : Int)) (j := 0) (by decide) (by decide) (let_loop (a := a) (T := T) (most := most) (kind := kind) (many := many) (low := 1 + low) s0 s1 (by omega) (by omega) (by omega) 50 [] (by simp; omega) (fun x hx => by simp at hx) (by decide)) fun f hf => ?_
  obtain ⟨l, rfl, hb, h1, h2⟩ := hf
  simp only [bnd_ret, bnd_nn, bnd_rse, bnd_ite, bnd_bnd, semOf, gSeq, gNx, gSet, gDrop, gRet, gRetV, gRetN, gIf, gBk, gCt, gFrz, frz, gApp, gExt, gSetI, gAsg, gPar, gPop, gSetPop, gAppPop, gRaise, gFld, cVar, vVar, cC, toV, bin, una, aNil, aCons, cTup, cLst, rNil, rCons, setAll, addD, subD, negD, cmpD, notD, cCall, cMeth, cMeth0, cMake, objR, tV, truD, tNotD, tAndD, tOrD, tBl, andV, orV, cIf, chain, oNone, oSome, cSl, slD, ixD, lenD, tupleD, listD, cDict, tgN, tgS, tgT, tgs, wSeq, wEn, R.sl, R.d, Sl.isIns, oneIns, List.getElem?_cons_zero, List.getElem?_cons_succ, List.getElem?_nil, List.set_cons_zero, List.set_cons_succ, List.map_cons, List.map_nil, List.length_cons, List.length_nil, List.nil_append, List.cons_append, List.append_nil, List.replicate, List.all_cons, List.all_nil, Nat.reduceSub, Nat.reduceAdd, Nat.reduceLeDiff, Nat.reduceLT, Nat.reduceEqDiff, if_true, if_false, ite_true, ite_false, Bool.not_true, Bool.not_false, Bool.true_and, Bool.and_true, Bool.false_and, Bool.and_false, Bool.true_or, Bool.or_true, Bool.false_or, Bool.or_false, decide_true, decide_false, Bool.false_eq_true, reduceCtorEq, true_and, and_true, List.mem_cons_self, cut_hi _ n0]
  refine Dw.ret (by decide) ⟨l.take many.toNat, by unfold nis; rw [List.map_take], fun x hx => hb x (List.mem_of_mem_take hx), by rw [List.length_take]; omega⟩
end Dg
namespace Dg
open PySem DL LwM
variable {a : Adr} {T : List (Addr × Str)}
theorem conv_nis : ∀ l : List Int, convs (nis l) = some (l.map PyData.int)
  | [] => rfl
  | x :: l => by
    show (match conv (.int x), convs (nis l) with | some x, some xs => some (x :: xs) | _, _ => none) = _
    rw [conv_nis l]
    rfl
theorem eq_tt (neg : Bool) (x y : List Int) : eqG neg (.tup (nis x)) (.tup (nis y)) = DL.M.ret (.val (.bl (neg ^^ decide (x = y)))) := by
  have e : ∀ l : List Int, conv (.tup (nis l)) = some (.tuple (l.map PyData.int)) := fun l => by
    show (convs (nis l)).map PyData.tuple = _
    rw [conv_nis]
    rfl
  have ev : PyData.eqv (.tuple (x.map PyData.int)) (.tuple (y.map PyData.int)) = decide (x = y) := Lw.eqv_nums x y
  refine (eqG_def _ _ _ (fun _ h => by cases h)).trans ?_
  rw [if_neg (by simp [kneD])]
  unfold eqD
  rw [e, e]
  simp only [Lw.shaped_tup, Bool.and_self, if_true, ev]
theorem eq_ss (neg : Bool) (x : Str) : eqG neg (.str x) (.str x) = DL.M.ret (.val (.bl (neg ^^ true))) := by
  show DL.M.ret (R.val (.bl (neg ^^ decide (x = x)))) = _
  rw [decide_eq_true rfl]
theorem w_in : a.w_Word ∈ ocs a := by simp [ocs]
theorem isi_w (size : Int) (ls : List Int) : isiD (ocs a) [.own a.w_Word] (wordD a size ls) = DL.M.ret (.val (.bl true)) := by
  rw [isi_obj _ _ _ _ _ w_in w_in, decide_eq_true rfl]
theorem repr_sm {d : Dt} {x : PyData} (h : convX d = some x) (s : LwE.smD x = true) (dp : x.depth ≤ 8) (w : LwE.wtD x ≤ 100000) : reprD d = DL.M.ret (.val (.str x.shown)) := by
  obtain ⟨h1, h2, h3⟩ := LwE.sm_all x s
  unfold reprD
  rw [h]
  simp only [if_pos (show x.showable = true ∧ x.depth ≤ 8 ∧ x.shown.length ≤ 100000 from ⟨h1, dp, by omega⟩)]
theorem convX_nis : ∀ l : List Int, convXs (nis l) = some (l.map PyData.int)
  | [] => rfl
  | x :: l => by
    show (match convX (.int x), convXs (nis l) with | some x, some xs => some (x :: xs) | _, _ => none) = _
    rw [convX_nis l]
    rfl
theorem dep_ints (l : List Int) : PyData.depthAll (l.map PyData.int) = 0 := (Lw.lay_nums l).2
theorem repr_word {size : Int} {ls : List Int} (L : Lt size ls) : reprD (.tup [.int size, .tup (nis ls)]) = DL.M.ret (.val (.str (PyData.tuple [.int size, .tuple (ls.map PyData.int)]).shown)) := by
  have s0 := L.s0
  have s1 := L.s1
  have ln := L.len
  refine repr_sm ?_ ?_ ?_ ?_
  · show (convXs [.int size, .tup (nis ls)]).map PyData.tuple = _
    have : convX (.tup (nis ls)) = some (.tuple (ls.map PyData.int)) := by
      show (convXs (nis ls)).map PyData.tuple = _
      rw [convX_nis]
      rfl
    show (match convX (.int size), convXs [.tup (nis ls)] with | some x, some xs => some (x :: xs) | _, _ => none : Option (List PyData)).map PyData.tuple = _
    have e2 : convXs [.tup (nis ls)] = some [.tuple (ls.map PyData.int)] := by
      show (match convX (.tup (nis ls)), convXs [] with | some x, some xs => some (x :: xs) | _, _ => none) = _
      rw [this]
      rfl
    rw [e2]
    rfl
  · have := LwE.sm_ints ls fun x hx => by have := L.bd x hx; omega
    have h2 : size.natAbs ≤ 100000 := by omega
    simp [LwE.smD, LwE.smA, this, h2]
  · have := dep_ints ls
    simp [PyData.depth, PyData.depthAll, this]
  · have := LwE.wt_ints ls
    simp only [LwE.wtD, LwE.wtA]
    omega
theorem is_word {size : Int} {ls : List Int} (L : Lt size ls) : S__law_is_word a [wordD a size ls, .int size, .lst (nis ls)] = DL.M.ret (.val (.bl true)) := by
  unfold S__law_is_word
  simp only [bnd_ret, bnd_nn, bnd_rse, bnd_ite, bnd_bnd, semOf, gSeq, gNx, gSet, gDrop, gRet, gRetV, gRetN, gIf, gBk, gCt, gFrz, frz, gApp, gExt, gSetI, gAsg, gPar, gPop, gSetPop, gAppPop, gRaise, gFld, cVar, vVar, cC, toV, bin, una, aNil, aCons, cTup, cLst, rNil, rCons, setAll, addD, subD, negD, cmpD, notD, cCall, cMeth, cMeth0, cMake, objR, tV, truD, tNotD, tAndD, tOrD, tBl, andV, orV, cIf, chain, oNone, oSome, cSl, slD, ixD, lenD, tupleD, listD, cDict, tgN, tgS, tgT, tgs, wSeq, wEn, R.sl, R.d, Sl.isIns, oneIns, List.getElem?_cons_zero, List.getElem?_cons_succ, List.getElem?_nil, List.set_cons_zero, List.set_cons_succ, List.map_cons, List.map_nil, List.length_cons, List.length_nil, List.nil_append, List.cons_append, List.append_nil, List.replicate, List.all_cons, List.all_nil, Nat.reduceSub, Nat.reduceAdd, Nat.reduceLeDiff, Nat.reduceLT, Nat.reduceEqDiff, if_true, if_false, ite_true, ite_false, Bool.not_true, Bool.not_false, Bool.true_and, Bool.and_true, Bool.false_and, Bool.and_false, Bool.true_or, Bool.or_true, Bool.false_or, Bool.or_false, decide_true, decide_false, Bool.false_eq_true, reduceCtorEq, true_and, and_true, List.mem_cons_self, isi_w, fld_size, fld_letters, repr_word L, eq_ss, Bool.false_xor]
theorem heard_no {P : Addr} {q : Str} {f : List Sl → DL.M R} {δ : List Sl} {e : Exn} {d : Dt} (ht : tabOk P q T) (h : f δ = DL.M.rse e) (hx : heardX a.ec usd e = some d) : Dw T 0 (cHeard a.ec usd P q f δ) (fun x => x = .val d) := fun s h0 h1 hT => by
  refine ⟨.val d, s, ?_, rfl, by omega, by omega, hT⟩
  unfold cHeard
  rw [hT, if_pos ht, h]
  show (match heardX a.ec usd e with | some d => Rs.ok (R.val d) s | none => .no) = _
  rw [hx]
end Dg
namespace LwM
def rs (i : Int) (n k : Nat) : List Int := List.replicate n i ++ List.replicate k (i + 1)
end LwM
namespace DL
open PySem
theorem Dw.nx {α : Type} {T : List (Addr × Str)} {k : Int} {x : M α} {P : α → Prop} (h : Dw T k x P) : Dw T k (M.nx x) P := fun s h0 h1 ht => by
  obtain ⟨b, s1, e1, p⟩ := h s h0 h1 ht
  refine ⟨b, s1, ?_, p⟩
  unfold M.nx
  rw [e1]
end DL
namespace Dg
open PySem DL LwM
variable {a : Adr} {T : List (Addr × Str)}
theorem Lt.up {size i : Int} {ls : List Int} (L : Lt size ls) (h0 : 1 ≤ i) (h1 : i ≤ size - 1) : Lt size (upL i ls) := L.set _ (by omega) (by omega)
theorem Lt.dn {size i : Int} {ls : List Int} (L : Lt size ls) (h0 : 1 ≤ i) (h1 : i ≤ size - 1) : Lt size (dnL i ls) := L.set _ (by omega) (by omega)
theorem at0 (x : Dt) : L2.atI [x] 0 = some x := rfl
theorem flat_one (x : Int) : ∀ n : Nat, (List.replicate n [Dt.int x]).flatten = nis (List.replicate n x)
  | 0 => rfl
  | n + 1 => by
    rw [List.replicate_succ, List.flatten_cons, flat_one x n]
    rfl
theorem mul_l (x k : Int) (h0 : 0 ≤ k) (h1 : k ≤ 2000) : mulG (.lst [.int x]) (.int k) = DL.M.ret (.new (nis (List.replicate k.toNat x))) := by
  show (if k ≤ 2000 ∧ -1000 ≤ k ∧ [Dt.int x].length ≤ 1000 then DL.M.ret (.new (List.replicate k.toNat [Dt.int x]).flatten) else DL.M.no : DL.M R) = _
  rw [if_pos ⟨h1, by omega, by simp⟩, flat_one]
theorem rng_at {n : Int} {k : Nat} {d : Dt} (h : (rngD 0 n.toNat)[k]? = some d) : d = .int (k : Nat) ∧ (k : Int) < n := by
  unfold rngD at h
  rw [List.getElem?_map] at h
  obtain ⟨j, e1, e2⟩ := Option.map_eq_some_iff.mp h
  obtain ⟨h1, h2⟩ := List.getElem?_eq_some_iff.mp e1
  rw [List.getElem_range] at h2
  rw [List.length_range] at h1
  subst h2 e2
  exact ⟨by rw [Int.zero_add], by omega⟩
end Dg
namespace Dg
open PySem DL LwM
variable {a : Adr} {T : List (Addr × Str)}
def TxtOk (d : Dt) : Prop := ∃ x, convX d = some x ∧ x.showable = true ∧ x.depth ≤ 5 ∧ x.shown.length ≤ 1000
theorem txt_sm {d : Dt} {x : PyData} (h : convX d = some x) (s : LwE.smD x = true) (dp : x.depth ≤ 5) (w : LwE.wtD x ≤ 1000) : TxtOk d := by
  obtain ⟨h1, h2, h3⟩ := LwE.sm_all x s
  exact ⟨x, h, h1, dp, by omega⟩
structure OddP (s : Int) (d : Dt) : Prop where
  pl : plainD d = true
  no : btw d 1 s = false
  tx : TxtOk d
theorem odd_int {s z : Int} (h : z < 1 ∨ s < z) (hz : z.natAbs ≤ 100000) : OddP s (.int z) := by
  refine ⟨rfl, ?_, txt_sm (x := .int z) rfl (by simp [LwE.smD, hz]) (by simp [PyData.depth]) (by simp [LwE.wtD])⟩
  show (decide (1 ≤ z) && decide (z ≤ s)) = false
  rcases h with h | h
  · rw [decide_eq_false (show ¬ 1 ≤ z by omega)]; rfl
  · rw [decide_eq_false (show ¬ z ≤ s by omega), Bool.and_false]
theorem odd_at {s z : Int} (s0 : 1 ≤ s) (s1 : s ≤ 6) (z0 : 0 ≤ z) (z1 : z < 13) : ∃ d, L2.atI [Dt.int 0, .int (s + 1), .int (0 - s), .non, .str "1", .bl true, .bl false, .tup [.int 1], .lst [.int 1], .dK [] [], .int (10 ^ 30), .str "", .int (-(10 ^ 30))] z = some d ∧ OddP s d := by
  have big : ∀ y : Int, (y = 10 ^ 30 ∨ y = -(10 ^ 30)) → OddP s (.int y) := fun y hy => by
    refine ⟨rfl, ?_, ⟨.int y, rfl, ?_, by simp [PyData.depth], ?_⟩⟩
    · show (decide (1 ≤ y) && decide (y ≤ s)) = false
      rcases hy with rfl | rfl
      · rw [decide_eq_false (show ¬ (10 : Int) ^ 30 ≤ s by omega), Bool.and_false]
      · rw [decide_eq_false (show ¬ (1 : Int) ≤ -(10 ^ 30) by omega)]; rfl
    · rcases hy with rfl | rfl <;> decide +kernel
    · rcases hy with rfl | rfl <;> decide +kernel
  have h : z = 0 ∨ z = 1 ∨ z = 2 ∨ z = 3 ∨ z = 4 ∨ z = 5 ∨ z = 6 ∨ z = 7 ∨ z = 8 ∨ z = 9 ∨ z = 10 ∨ z = 11 ∨ z = 12 := by omega
  rcases h with rfl | rfl | rfl | rfl | rfl | rfl | rfl | rfl | rfl | rfl | rfl | rfl | rfl
  · exact ⟨_, rfl, odd_int (by omega) (by omega)⟩
  · exact ⟨_, rfl, odd_int (by omega) (by omega)⟩
  · exact ⟨_, rfl, odd_int (by omega) (by omega)⟩
  · exact ⟨_, rfl, rfl, rfl, txt_sm (x := .none) rfl rfl (by simp [PyData.depth]) (by simp [LwE.wtD])⟩
  · exact ⟨_, rfl, rfl, rfl, .str "1", rfl, by decide +kernel, by simp [PyData.depth], by decide +kernel⟩
  · exact ⟨_, rfl, rfl, rfl, txt_sm (x := .bool true) rfl rfl (by simp [PyData.depth]) (by simp [LwE.wtD])⟩
  · exact ⟨_, rfl, rfl, rfl, txt_sm (x := .bool false) rfl rfl (by simp [PyData.depth]) (by simp [LwE.wtD])⟩
  · exact ⟨_, rfl, rfl, rfl, txt_sm (x := .tuple [.int 1]) rfl (by simp [LwE.smD, LwE.smA]) (by simp [PyData.depth, PyData.depthAll]) (by simp [LwE.wtD, LwE.wtA])⟩
  · exact ⟨_, rfl, rfl, rfl, txt_sm (x := .list [.int 1]) rfl (by simp [LwE.smD, LwE.smA]) (by simp [PyData.depth, PyData.depthAll]) (by simp [LwE.wtD, LwE.wtA])⟩
  · exact ⟨_, rfl, rfl, rfl, .dict [], rfl, by decide +kernel, by decide +kernel, by decide +kernel⟩
  · exact ⟨_, rfl, big _ (.inl rfl)⟩
  · exact ⟨_, rfl, rfl, rfl, .str "", rfl, by decide +kernel, by simp [PyData.depth], by decide +kernel⟩
  · exact ⟨_, rfl, big _ (.inr rfl)⟩
theorem pow30 : powD (.int 10) (.int 30) = DL.M.ret (.val (.int (10 ^ 30))) := by
  show (if 0 ≤ (30 : Int) ∧ (30 : Int) ≤ 1000000 ∧ (10 : Int).natAbs < 2 ^ 64 then DL.M.ret (.val (.int ((10 : Int) ^ (30 : Int).toNat))) else DL.M.no : DL.M R) = _
  rw [if_pos (by decide)]
  rfl
theorem odd_ {s : Int} (s0 : 1 ≤ s) (s1 : s ≤ 6) : Dw T 1 (S__law_odd a [.drw, .int s]) (fun r => ∃ d, r = .val d ∧ OddP s d) := by
  unfold S__law_odd
  simp only [bnd_ret, bnd_nn, bnd_rse, bnd_ite, bnd_bnd, semOf, gSeq, gNx, gSet, gDrop, gRet, gRetV, gRetN, gIf, gBk, gCt, gFrz, frz, gApp, gExt, gSetI, gAsg, gPar, gPop, gSetPop, gAppPop, gRaise, gFld, cVar, vVar, cC, toV, bin, una, aNil, aCons, cTup, cLst, rNil, rCons, setAll, addD, subD, negD, cmpD, notD, cCall, cMeth, cMeth0, cMake, objR, tV, truD, tNotD, tAndD, tOrD, tBl, andV, orV, cIf, chain, oNone, oSome, cSl, slD, ixD, lenD, tupleD, listD, cDict, tgN, tgS, tgT, tgs, wSeq, wEn, R.sl, R.d, Sl.isIns, oneIns, List.getElem?_cons_zero, List.getElem?_cons_succ, List.getElem?_nil, List.set_cons_zero, List.set_cons_succ, List.map_cons, List.map_nil, List.length_cons, List.length_nil, List.nil_append, List.cons_append, List.append_nil, List.replicate, List.all_cons, List.all_nil, Nat.reduceSub, Nat.reduceAdd, Nat.reduceLeDiff, Nat.reduceLT, Nat.reduceEqDiff, if_true, if_false, ite_true, ite_false, Bool.not_true, Bool.not_false, Bool.true_and, Bool.and_true, Bool.false_and, Bool.and_false, Bool.true_or, Bool.or_true, Bool.false_or, Bool.or_false, decide_true, decide_false, Bool.false_eq_true, reduceCtorEq, true_and, and_true, List.mem_cons_self, pow30]
  refine Dw.bnd (k := 1) (j := 0) (by decide) (by decide) (draw_ (lim := 13) (by decide) (by decide)) fun r hr => ?_
  obtain ⟨z, rfl, z0, z1⟩ := hr
  obtain ⟨d, e, o⟩ := odd_at s0 s1 z0 z1
  simp only [bnd_ret, bnd_nn, bnd_rse, bnd_ite, bnd_bnd, semOf, gSeq, gNx, gSet, gDrop, gRet, gRetV, gRetN, gIf, gBk, gCt, gFrz, frz, gApp, gExt, gSetI, gAsg, gPar, gPop, gSetPop, gAppPop, gRaise, gFld, cVar, vVar, cC, toV, bin, una, aNil, aCons, cTup, cLst, rNil, rCons, setAll, addD, subD, negD, cmpD, notD, cCall, cMeth, cMeth0, cMake, objR, tV, truD, tNotD, tAndD, tOrD, tBl, andV, orV, cIf, chain, oNone, oSome, cSl, slD, ixD, lenD, tupleD, listD, cDict, tgN, tgS, tgT, tgs, wSeq, wEn, R.sl, R.d, Sl.isIns, oneIns, List.getElem?_cons_zero, List.getElem?_cons_succ, List.getElem?_nil, List.set_cons_zero, List.set_cons_succ, List.map_cons, List.map_nil, List.length_cons, List.length_nil, List.nil_append, List.cons_append, List.append_nil, List.replicate, List.all_cons, List.all_nil, Nat.reduceSub, Nat.reduceAdd, Nat.reduceLeDiff, Nat.reduceLT, Nat.reduceEqDiff, if_true, if_false, ite_true, ite_false, Bool.not_true, Bool.not_false, Bool.true_and, Bool.and_true, Bool.false_and, Bool.and_false, Bool.true_or, Bool.or_true, Bool.false_or, Bool.or_false, decide_true, decide_false, Bool.false_eq_true, reduceCtorEq, true_and, and_true, List.mem_cons_self, e]
  exact Dw.ret (by decide) ⟨d, rfl, o⟩
end Dg
namespace Dg
open PySem DL LwM
variable {a : Adr} {T : List (Addr × Str)}
theorem like_same {n w : Nat} {d : Dt} (h : Tx n w d) (hn : n ≤ 8) (hw : w ≤ 100000) : S__law_like a [d, d] = DL.M.ret (.val (.bl true)) := by
  obtain ⟨s, e⟩ := h.repr hn hw
  unfold S__law_like
  simp only [bnd_ret, bnd_nn, bnd_rse, bnd_ite, bnd_bnd, semOf, gSeq, gNx, gSet, gDrop, gRet, gRetV, gRetN, gIf, gBk, gCt, gFrz, frz, gApp, gExt, gSetI, gAsg, gPar, gPop, gSetPop, gAppPop, gRaise, gFld, cVar, vVar, cC, toV, bin, una, aNil, aCons, cTup, cLst, rNil, rCons, setAll, addD, subD, negD, cmpD, notD, cCall, cMeth, cMeth0, cMake, objR, tV, truD, tNotD, tAndD, tOrD, tBl, andV, orV, cIf, chain, oNone, oSome, cSl, slD, ixD, lenD, tupleD, listD, cDict, tgN, tgS, tgT, tgs, wSeq, wEn, R.sl, R.d, Sl.isIns, oneIns, List.getElem?_cons_zero, List.getElem?_cons_succ, List.getElem?_nil, List.set_cons_zero, List.set_cons_succ, List.map_cons, List.map_nil, List.length_cons, List.length_nil, List.nil_append, List.cons_append, List.append_nil, List.replicate, List.all_cons, List.all_nil, Nat.reduceSub, Nat.reduceAdd, Nat.reduceLeDiff, Nat.reduceLT, Nat.reduceEqDiff, if_true, if_false, ite_true, ite_false, Bool.not_true, Bool.not_false, Bool.true_and, Bool.and_true, Bool.false_and, Bool.and_false, Bool.true_or, Bool.or_true, Bool.false_or, Bool.or_false, decide_true, decide_false, Bool.false_eq_true, reduceCtorEq, true_and, and_true, List.mem_cons_self, e, eq_ss, Bool.false_xor]
end Dg
namespace Dg
open PySem DL LwM
variable {a : Adr} {T : List (Addr × Str)}
theorem tx_nis {l : List Int} (h : ∀ x ∈ l, x.natAbs ≤ 100000) (n : Nat) (hn : l.length ≤ n) : Tx 1 (20 * n + 3) (.tup (nis l)) := (Tx.tup (Txs.ints h)).mono (by omega) (by omega)
end Dg
namespace Dg
open PySem DL LwM
variable {a : Adr} {T : List (Addr × Str)}
end Dg
set_option maxHeartbeats 0
set_option pp.maxSteps 3000
namespace Dg
open PySem DL LwM
variable {a : Adr} {T : List (Addr × Str)}
end Dg
set_option maxHeartbeats 0
set_option pp.maxSteps 3000
namespace DL
open PySem LwM
end DL
namespace Dg
open PySem DL LwM
variable {a : Adr} {T : List (Addr × Str)}
theorem btw_yes {z lo hi : Int} (h0 : lo ≤ z) (h1 : z ≤ hi) : btw (.int z) lo hi = true := by
  show (decide (lo ≤ z) && decide (z ≤ hi)) = true
  rw [decide_eq_true h0, decide_eq_true h1]
  rfl
end Dg
set_option maxHeartbeats 0
set_option pp.maxSteps 3000
namespace Dg
open PySem DL LwM
variable {a : Adr} {T : List (Addr × Str)}
structure Sb (size : Int) (row up : List Int) : Prop where
  ne : row ≠ []
  len : row.length ≤ up.length
  bd : ∀ x ∈ row, 1 ≤ x ∧ x ≤ size
  asc : row.Pairwise (· ≤ ·)
  col : ∀ (k : Nat) (x y : Int), row[k]? = some x → up[k]? = some y → y < x
def isRow (d : Dt) (l : List Int) : Prop := d = .lst (nis l) ∨ d = .tup (nis l)
noncomputable abbrev bSb (a : Adr) : List Sl → DL.M Fl := gSeq (gIf (tNotD (tV (toV (cCall 3 (aCons (cVar 4) (aCons (bin (vVar 3) (toV (bin (vVar 5) (toV (cC (.int 1))) addD)) maxD) (aCons (cVar 0) aNil))) (S_is_between a))))) (gRet (cC (.bl false))) gNx) (gSet 3 (cVar 4))
theorem asc_at {l : List Int} (h : l.Pairwise (· ≤ ·)) {i j : Nat} {x y : Int} (hi : l[i]? = some x) (hj : l[j]? = some y) (hij : i ≤ j) : x ≤ y := by
  obtain ⟨h1, rfl⟩ := List.getElem?_eq_some_iff.mp hi
  obtain ⟨h2, rfl⟩ := List.getElem?_eq_some_iff.mp hj
  rcases Nat.lt_or_eq_of_le hij with q | q
  · exact List.pairwise_iff_getElem.mp h i j h1 h2 q
  · subst q; exact Int.le_refl _
theorem nisAt {l : List Int} {k : Nat} {d : Dt} (h : (nis l)[k]? = some d) : ∃ x, l[k]? = some x ∧ d = .int x := by
  rw [List.getElem?_map] at h
  obtain ⟨x, h1, h2⟩ := Option.map_eq_some_iff.mp h
  exact ⟨x, h1, h2.symm⟩
theorem sb_loop {size : Int} {row up : List Int} {d e : Dt} (S : Sb size row up) : ∃ δ', gForL (tgS [(tgN 4), (tgN 5)]) (bSb a) (zipD (nis row) (nis up)) [.val (.int size), .val d, .val e, .val (.int 1), .non, .non] = DL.M.ret (.nx δ') := by
  obtain ⟨δ', q, _⟩ := for_ret0 (tg := tgS [(tgN 4), (tgN 5)]) (body := bSb a) (l := zipD (nis row) (nis up)) (fun k δ => ∃ (least : Int) (u v : Sl), δ = [.val (.int size), .val d, .val e, .val (.int least), u, v] ∧ ((k = 0 ∧ least = 1) ∨ (0 < k ∧ row[k - 1]? = some least))) (fun k z δ hz ⟨least, u, v, eδ, hl⟩ => by
    obtain ⟨dx, dy, h1, h2, rfl⟩ := zipD_get hz
    obtain ⟨x, gx, rfl⟩ := nisAt h1
    obtain ⟨y, gy, rfl⟩ := nisAt h2
    obtain ⟨x1, x2⟩ := S.bd x (List.mem_of_getElem? gx)
    have cl := S.col k x y gx gy
    have lx : least ≤ x := by
      rcases hl with ⟨h0, h1⟩ | ⟨h0, h1⟩
      · omega
      · exact asc_at S.asc h1 gx (by omega)
    have mx : (if y + 1 > least then y + 1 else least) ≤ x := by split <;> omega
    subst eδ
    refine ⟨_, [.val (.int size), .val d, .val e, .val (.int x), .val (.int x), .val (.int y)], rfl, ?_, x, _, _, rfl, .inr ⟨Nat.succ_pos _, gx⟩⟩
    unfold bSb
    simp only [bnd_ret, bnd_nn, bnd_rse, bnd_ite, bnd_bnd, semOf, gSeq, gNx, gSet, gDrop, gRet, gRetV, gRetN, gIf, gBk, gCt, gFrz, frz, gApp, gExt, gSetI, gAsg, gPar, gPop, gSetPop, gAppPop, gRaise, gFld, cVar, vVar, cC, toV, bin, una, aNil, aCons, cTup, cLst, rNil, rCons, setAll, addD, subD, negD, cmpD, notD, cCall, cMeth, cMeth0, cMake, objR, tV, truD, tNotD, tAndD, tOrD, tBl, andV, orV, cIf, chain, oNone, oSome, cSl, slD, ixD, lenD, tupleD, listD, cDict, tgN, tgS, tgT, tgs, wSeq, wEn, R.sl, R.d, Sl.isIns, oneIns, List.getElem?_cons_zero, List.getElem?_cons_succ, List.getElem?_nil, List.set_cons_zero, List.set_cons_succ, List.map_cons, List.map_nil, List.length_cons, List.length_nil, List.nil_append, List.cons_append, List.append_nil, List.replicate, List.all_cons, List.all_nil, Nat.reduceSub, Nat.reduceAdd, Nat.reduceLeDiff, Nat.reduceLT, Nat.reduceEqDiff, if_true, if_false, ite_true, ite_false, Bool.not_true, Bool.not_false, Bool.true_and, Bool.and_true, Bool.false_and, Bool.and_false, Bool.true_or, Bool.or_true, Bool.false_or, Bool.or_false, decide_true, decide_false, Bool.false_eq_true, reduceCtorEq, true_and, and_true, List.mem_cons_self, maxD]
    rw [between _ _ rfl, btw_yes mx x2]
    simp only [bnd_ret, bnd_nn, bnd_rse, bnd_ite, bnd_bnd, semOf, gSeq, gNx, gSet, gDrop, gRet, gRetV, gRetN, gIf, gBk, gCt, gFrz, frz, gApp, gExt, gSetI, gAsg, gPar, gPop, gSetPop, gAppPop, gRaise, gFld, cVar, vVar, cC, toV, bin, una, aNil, aCons, cTup, cLst, rNil, rCons, setAll, addD, subD, negD, cmpD, notD, cCall, cMeth, cMeth0, cMake, objR, tV, truD, tNotD, tAndD, tOrD, tBl, andV, orV, cIf, chain, oNone, oSome, cSl, slD, ixD, lenD, tupleD, listD, cDict, tgN, tgS, tgT, tgs, wSeq, wEn, R.sl, R.d, Sl.isIns, oneIns, List.getElem?_cons_zero, List.getElem?_cons_succ, List.getElem?_nil, List.set_cons_zero, List.set_cons_succ, List.map_cons, List.map_nil, List.length_cons, List.length_nil, List.nil_append, List.cons_append, List.append_nil, List.replicate, List.all_cons, List.all_nil, Nat.reduceSub, Nat.reduceAdd, Nat.reduceLeDiff, Nat.reduceLT, Nat.reduceEqDiff, if_true, if_false, ite_true, ite_false, Bool.not_true, Bool.not_false, Bool.true_and, Bool.and_true, Bool.false_and, Bool.and_false, Bool.true_or, Bool.or_true, Bool.false_or, Bool.or_false, decide_true, decide_false, Bool.false_eq_true, reduceCtorEq, true_and, and_true, List.mem_cons_self]) (δ := [.val (.int size), .val d, .val e, .val (.int 1), .non, .non]) ⟨_, _, _, rfl, .inl ⟨rfl, rfl⟩⟩
  exact ⟨δ', q⟩
theorem sb_ok {size : Int} {row up : List Int} {d e : Dt} (hd : isRow d row) (he : isRow e up) (S : Sb size row up) : S_stands_below a [.int size, d, e] = DL.M.ret (.val (.bl true)) := by
  have hn : (nis row).isEmpty = false := by
    cases row with
    | nil => exact absurd rfl S.ne
    | cons => rfl
  have h40 : ¬ ((up.length : Int) < (row.length : Int)) := by have := S.len; omega
  obtain ⟨δ', q⟩ := sb_loop (a := a) (d := d) (e := e) S
  unfold S_stands_below
  rcases hd with rfl | rfl <;> rcases he with rfl | rfl <;> (simp only [bnd_ret, bnd_nn, bnd_rse, bnd_ite, bnd_bnd, semOf, gSeq, gNx, gSet, gDrop, gRet, gRetV, gRetN, gIf, gBk, gCt, gFrz, frz, gApp, gExt, gSetI, gAsg, gPar, gPop, gSetPop, gAppPop, gRaise, gFld, cVar, vVar, cC, toV, bin, una, aNil, aCons, cTup, cLst, rNil, rCons, setAll, addD, subD, negD, cmpD, notD, cCall, cMeth, cMeth0, cMake, objR, tV, truD, tNotD, tAndD, tOrD, tBl, andV, orV, cIf, chain, oNone, oSome, cSl, slD, ixD, lenD, tupleD, listD, cDict, tgN, tgS, tgT, tgs, wSeq, wEn, R.sl, R.d, Sl.isIns, oneIns, List.getElem?_cons_zero, List.getElem?_cons_succ, List.getElem?_nil, List.set_cons_zero, List.set_cons_succ, List.map_cons, List.map_nil, List.length_cons, List.length_nil, List.nil_append, List.cons_append, List.append_nil, List.replicate, List.all_cons, List.all_nil, Nat.reduceSub, Nat.reduceAdd, Nat.reduceLeDiff, Nat.reduceLT, Nat.reduceEqDiff, if_true, if_false, ite_true, ite_false, Bool.not_true, Bool.not_false, Bool.true_and, Bool.and_true, Bool.false_and, Bool.and_false, Bool.true_or, Bool.or_true, Bool.false_or, Bool.or_false, decide_true, decide_false, Bool.false_eq_true, reduceCtorEq, true_and, and_true, List.mem_cons_self, List.length_map, h40, gFor, wZp, hn]; rw [q]; rfl)
theorem bls_yes : ∀ ds : List Dt, blsD (ds.map fun _ => Dt.bl true) = some (ds.map fun _ => true)
  | [] => rfl
  | d :: ds => by
    show (blsD (ds.map fun _ => Dt.bl true)).map _ = _
    rw [bls_yes ds]
    rfl
theorem all_yes (ds : List Dt) : allD (.lst (ds.map fun _ => Dt.bl true)) = DL.M.ret (.val (.bl true)) := by
  show (match blsD (ds.map fun _ => Dt.bl true) with | some ns => DL.M.ret (R.val (.bl (ns.all id))) | none => DL.M.no) = _
  rw [bls_yes]
  have : ((ds.map fun _ => true).all id) = true := by simp
  show DL.M.ret (R.val (.bl ((ds.map fun _ => true).all id))) = _
  rw [this]
structure isRows (d : Dt) (ds : List Dt) (rs : List (List Int)) : Prop where
  top : d = .lst ds ∨ d = .tup ds
  len : ds.length = rs.length
  row : ∀ (k : Nat) (x : Dt) (r : List Int), ds[k]? = some x → rs[k]? = some r → isRow x r
theorem isRow.lt {d : Dt} {l : List Int} (h : isRow d l) : isLT d = true ∧ plainD d = true ∧ lenD d = DL.M.ret (.val (.int (l.length : Nat))) ∧ tupleD d = DL.M.ret (.val (.tup (nis l))) := by
  rcases h with rfl | rfl
  · exact ⟨rfl, rfl, by simp only [lenD, List.length_map], rfl⟩
  · exact ⟨rfl, rfl, by simp only [lenD, List.length_map], rfl⟩
theorem isRows.at {d : Dt} {ds : List Dt} {rs : List (List Int)} (h : isRows d ds rs) {k : Nat} {x : Dt} (e : ds[k]? = some x) : ∃ r, rs[k]? = some r ∧ isRow x r := by
  have hk := (List.getElem?_eq_some_iff.mp e).1
  rw [h.len] at hk
  exact ⟨rs[k], List.getElem?_eq_getElem hk, h.row k x _ e (List.getElem?_eq_getElem hk)⟩
theorem isRows.mem {d : Dt} {ds : List Dt} {rs : List (List Int)} (h : isRows d ds rs) {x : Dt} (e : x ∈ ds) : ∃ r, r ∈ rs ∧ isRow x r := by
  obtain ⟨k, hk⟩ := List.mem_iff_getElem?.mp e
  obtain ⟨r, h1, h2⟩ := h.at hk
  exact ⟨r, List.mem_of_getElem? h1, h2⟩
theorem isRows.lst (rs : List (List Int)) : isRows (.lst (rs.map fun r => .lst (nis r))) (rs.map fun r => .lst (nis r)) rs := ⟨.inl rfl, List.length_map .., fun k x r e e' => by
  rw [List.getElem?_map, e'] at e
  cases e
  exact .inl rfl⟩
theorem isRows.tup (rs : List (List Int)) : isRows (.tup (rs.map fun r => .tup (nis r))) (rs.map fun r => .tup (nis r)) rs := ⟨.inr rfl, List.length_map .., fun k x r e e' => by
  rw [List.getElem?_map, e'] at e
  cases e
  exact .inr rfl⟩
structure Tb (size : Int) (rs : List (List Int)) : Prop where
  s0 : 2 ≤ size
  s1 : size ≤ 6
  sum : (rs.map List.length).sum ≤ 40
  bel : ∀ (k : Nat) (r : List Int), rs[k]? = some r → Sb size r (if k = 0 then List.replicate 40 0 else rs[k - 1]?.getD [])
theorem is_rows {d : Dt} {ds : List Dt} {rs : List (List Int)} (h : isRows d ds rs) (hl : ds.length ≤ 100000) : S_is_rows a [d] = DL.M.ret (.val (.bl true)) := by
  have hd : plainD d = true ∧ isLT d = true := by rcases h.top with rfl | rfl <;> exact ⟨rfl, rfl⟩
  have hs : wSeq (vVar 0) [.val d, .non] = DL.M.ret ds := by rcases h.top with rfl | rfl <;> rfl
  have hc : cLc (wSeq (vVar 0)) (tgN 1) tYesD (cCall 1 (aCons (cVar 1) aNil) (S_is_listing a)) [1] [.val d, .non] = DL.M.ret (.new (ds.map fun _ => .bl true)) := by
    refine lc_eq hs hl ?_
    have := compL_eq (tg := tgN 1) (tt := tYesD) (fe := cCall 1 (aCons (cVar 1) aNil) (S_is_listing a)) (δ := wipeD [.val d, .non] [1]) (fun _ => true) (fun _ => .bl true) (l := ds) (fun x hx => by
      obtain ⟨r, _, hr⟩ := h.mem hx
      refine ⟨[.val d, .val x], rfl, rfl, fun _ => ⟨.val (.bl true), ?_, rfl⟩⟩
      simp only [bnd_ret, bnd_nn, bnd_rse, bnd_ite, bnd_bnd, semOf, gSeq, gNx, gSet, gDrop, gRet, gRetV, gRetN, gIf, gBk, gCt, gFrz, frz, gApp, gExt, gSetI, gAsg, gPar, gPop, gSetPop, gAppPop, gRaise, gFld, cVar, vVar, cC, toV, bin, una, aNil, aCons, cTup, cLst, rNil, rCons, setAll, addD, subD, negD, cmpD, notD, cCall, cMeth, cMeth0, cMake, objR, tV, truD, tNotD, tAndD, tOrD, tBl, andV, orV, cIf, chain, oNone, oSome, cSl, slD, ixD, lenD, tupleD, listD, cDict, tgN, tgS, tgT, tgs, wSeq, wEn, R.sl, R.d, Sl.isIns, oneIns, List.getElem?_cons_zero, List.getElem?_cons_succ, List.getElem?_nil, List.set_cons_zero, List.set_cons_succ, List.map_cons, List.map_nil, List.length_cons, List.length_nil, List.nil_append, List.cons_append, List.append_nil, List.replicate, List.all_cons, List.all_nil, Nat.reduceSub, Nat.reduceAdd, Nat.reduceLeDiff, Nat.reduceLT, Nat.reduceEqDiff, if_true, if_false, ite_true, ite_false, Bool.not_true, Bool.not_false, Bool.true_and, Bool.and_true, Bool.false_and, Bool.and_false, Bool.true_or, Bool.or_true, Bool.false_or, Bool.or_false, decide_true, decide_false, Bool.false_eq_true, reduceCtorEq, true_and, and_true, List.mem_cons_self, listing hr.lt.2.1, hr.lt.1])
    rw [this, List.filter_eq_self.mpr (fun _ _ => rfl)]
  unfold S_is_rows
  simp only [bnd_ret, bnd_nn, bnd_rse, bnd_ite, bnd_bnd, semOf, gSeq, gNx, gSet, gDrop, gRet, gRetV, gRetN, gIf, gBk, gCt, gFrz, frz, gApp, gExt, gSetI, gAsg, gPar, gPop, gSetPop, gAppPop, gRaise, gFld, cVar, vVar, cC, toV, bin, una, aNil, aCons, cTup, cLst, rNil, rCons, setAll, addD, subD, negD, cmpD, notD, cCall, cMeth, cMeth0, cMake, objR, tV, truD, tNotD, tAndD, tOrD, tBl, andV, orV, cIf, chain, oNone, oSome, cSl, slD, ixD, lenD, tupleD, listD, cDict, tgN, tgS, tgT, tgs, wSeq, wEn, R.sl, R.d, Sl.isIns, oneIns, List.getElem?_cons_zero, List.getElem?_cons_succ, List.getElem?_nil, List.set_cons_zero, List.set_cons_succ, List.map_cons, List.map_nil, List.length_cons, List.length_nil, List.nil_append, List.cons_append, List.append_nil, List.replicate, List.all_cons, List.all_nil, Nat.reduceSub, Nat.reduceAdd, Nat.reduceLeDiff, Nat.reduceLT, Nat.reduceEqDiff, if_true, if_false, ite_true, ite_false, Bool.not_true, Bool.not_false, Bool.true_and, Bool.and_true, Bool.false_and, Bool.and_false, Bool.true_or, Bool.or_true, Bool.false_or, Bool.or_false, decide_true, decide_false, Bool.false_eq_true, reduceCtorEq, true_and, and_true, List.mem_cons_self, listing hd.1, hd.2, hc]
  rw [all_yes]
  rfl
theorem lc_rows {src : List Sl → DL.M (List Dt)} {fe : List Sl → DL.M R} {vs : List Nat} {δ : List Sl} {tg : Dt → List Sl → Option (List Sl)} {d : Dt} {ds : List Dt} {rs : List (List Int)} (h : isRows d ds rs) (hs : src δ = DL.M.ret ds) (hl : ds.length ≤ 100000) (g : List Int → Dt)
    (hf : ∀ x r, isRow x r → r ∈ rs → ∃ δ1, tg x (wipeD δ vs) = some δ1 ∧ ∃ q, fe δ1 = DL.M.ret q ∧ q.d = g r) : cLc src tg tYesD fe vs δ = DL.M.ret (.new (rs.map g)) := by
  refine lc_eq hs hl ?_
  clear hs
  have : ∀ (ds : List Dt) (rs' : List (List Int)), ds.length = rs'.length → (∀ (k : Nat) (x : Dt) (r : List Int), ds[k]? = some x → rs'[k]? = some r → isRow x r) → (∀ r ∈ rs', r ∈ rs) → compL tg tYesD fe (wipeD δ vs) ds = DL.M.ret (rs'.map g) := by
    intro ds
    induction ds with
    | nil => intro rs' e _ _; cases rs' with | nil => rfl | cons => cases e
    | cons x xs ih =>
      intro rs' e p m
      cases rs' with
      | nil => cases e
      | cons r rs' =>
        obtain ⟨δ1, e1, q, e2, e3⟩ := hf x r (p 0 x r rfl rfl) (m r (List.mem_cons_self ..))
        have t := ih rs' (by simpa using e) (fun k y s h1 h2 => p (k + 1) y s h1 h2) (fun s hs => m s (List.mem_cons_of_mem _ hs))
        unfold compL
        rw [e1]
        show DL.M.bnd (tYesD δ1) _ = _
        rw [show tYesD δ1 = DL.M.ret true from rfl, bnd_ret, if_pos rfl, e2, bnd_ret, t, bnd_ret, e3]
        rfl
  exact this ds rs h.len h.row fun r hr => hr
theorem lc_lens {src : List Sl → DL.M (List Dt)} {j : Nat} {δ : List Sl} {d : Dt} {ds : List Dt} {rs : List (List Int)} (h : isRows d ds rs) (hs : src δ = DL.M.ret ds) (hl : ds.length ≤ 100000) (hj : j < (wipeD δ [j]).length) :
    cLc src (tgN j) tYesD (una (vVar j) lenD) [j] δ = DL.M.ret (.new (nis (rs.map fun r => (r.length : Int)))) := by
  rw [lc_rows (tg := tgN j) (fe := una (vVar j) lenD) (vs := [j]) h hs hl (fun r => .int (r.length : Int)) fun x r hx _ => ⟨(wipeD δ [j]).set j (.val x), ?_, ?_⟩]
  · rw [nis, List.map_map]; rfl
  · rfl
  · refine ⟨.val (.int (r.length : Int)), ?_, rfl⟩
    show DL.M.bnd (vVar j _) lenD = _
    unfold vVar
    rw [List.getElem?_set_self hj]
    show lenD x = _
    exact hx.lt.2.2.1
def z40 : List Int := List.replicate 40 0
noncomputable abbrev bCrT (a : Adr) : List Sl → DL.M Fl := gSeq (gFrz 2 (gIf (tNotD (tV (toV (cCall 3 (aCons (cVar 0) (aCons (cVar 4) (aCons (cVar 2) aNil))) (S_stands_below a))))) (gRaise 5 (a.ec.of .table) "row" (cVar 3)) gNx)) (gSet 2 (cVar 4))
theorem crT_loop {size : Int} {d : Dt} {ds : List Dt} {rs : List (List Int)} (h : isRows d ds rs) (B : Tb size rs) : ∃ δ', gForL (tgS [(tgN 3), (tgN 4)]) (bCrT a) (enumD 0 ds) [.val (.int size), .val d, .own (nis z40), .non, .non] = DL.M.ret (.nx δ') := by
  obtain ⟨δ', q, _⟩ := for_ret0 (tg := tgS [(tgN 3), (tgN 4)]) (body := bCrT a) (l := enumD 0 ds) (fun k δ => ∃ (up u v : Sl), δ = [.val (.int size), .val d, up, u, v] ∧ ((k = 0 ∧ up = .own (nis z40)) ∨ (0 < k ∧ ∃ x r, up = .val x ∧ rs[k - 1]? = some r ∧ isRow x r))) (fun k z δ hz ⟨up, u, v, eδ, hl⟩ => by
    obtain ⟨x, hx, rfl⟩ := enum_get hz
    obtain ⟨r, hr, hxr⟩ := h.at hx
    have S := B.bel k r hr
    subst eδ
    refine ⟨_, [.val (.int size), .val d, .val x, .val (.int (k : Nat)), .val x], rfl, ?_, _, _, _, rfl, .inr ⟨Nat.succ_pos _, x, r, rfl, hr, hxr⟩⟩
    unfold bCrT
    rcases hl with ⟨h0, rfl⟩ | ⟨h0, y, s, rfl, hs, hys⟩
    · rw [if_pos h0] at S
      replace S : Sb size r z40 := S
      simp only [bnd_ret, bnd_nn, bnd_rse, bnd_ite, bnd_bnd, semOf, gSeq, gNx, gSet, gDrop, gRet, gRetV, gRetN, gIf, gBk, gCt, gFrz, frz, gApp, gExt, gSetI, gAsg, gPar, gPop, gSetPop, gAppPop, gRaise, gFld, cVar, vVar, cC, toV, bin, una, aNil, aCons, cTup, cLst, rNil, rCons, setAll, addD, subD, negD, cmpD, notD, cCall, cMeth, cMeth0, cMake, objR, tV, truD, tNotD, tAndD, tOrD, tBl, andV, orV, cIf, chain, oNone, oSome, cSl, slD, ixD, lenD, tupleD, listD, cDict, tgN, tgS, tgT, tgs, wSeq, wEn, R.sl, R.d, Sl.isIns, oneIns, List.getElem?_cons_zero, List.getElem?_cons_succ, List.getElem?_nil, List.set_cons_zero, List.set_cons_succ, List.map_cons, List.map_nil, List.length_cons, List.length_nil, List.nil_append, List.cons_append, List.append_nil, List.replicate, List.all_cons, List.all_nil, Nat.reduceSub, Nat.reduceAdd, Nat.reduceLeDiff, Nat.reduceLT, Nat.reduceEqDiff, if_true, if_false, ite_true, ite_false, Bool.not_true, Bool.not_false, Bool.true_and, Bool.and_true, Bool.false_and, Bool.and_false, Bool.true_or, Bool.or_true, Bool.false_or, Bool.or_false, decide_true, decide_false, Bool.false_eq_true, reduceCtorEq, true_and, and_true, List.mem_cons_self, sb_ok hxr (.inl rfl) S]
    · rw [if_neg (by omega), hs] at S
      simp only [bnd_ret, bnd_nn, bnd_rse, bnd_ite, bnd_bnd, semOf, gSeq, gNx, gSet, gDrop, gRet, gRetV, gRetN, gIf, gBk, gCt, gFrz, frz, gApp, gExt, gSetI, gAsg, gPar, gPop, gSetPop, gAppPop, gRaise, gFld, cVar, vVar, cC, toV, bin, una, aNil, aCons, cTup, cLst, rNil, rCons, setAll, addD, subD, negD, cmpD, notD, cCall, cMeth, cMeth0, cMake, objR, tV, truD, tNotD, tAndD, tOrD, tBl, andV, orV, cIf, chain, oNone, oSome, cSl, slD, ixD, lenD, tupleD, listD, cDict, tgN, tgS, tgT, tgs, wSeq, wEn, R.sl, R.d, Sl.isIns, oneIns, List.getElem?_cons_zero, List.getElem?_cons_succ, List.getElem?_nil, List.set_cons_zero, List.set_cons_succ, List.map_cons, List.map_nil, List.length_cons, List.length_nil, List.nil_append, List.cons_append, List.append_nil, List.replicate, List.all_cons, List.all_nil, Nat.reduceSub, Nat.reduceAdd, Nat.reduceLeDiff, Nat.reduceLT, Nat.reduceEqDiff, if_true, if_false, ite_true, ite_false, Bool.not_true, Bool.not_false, Bool.true_and, Bool.and_true, Bool.false_and, Bool.and_false, Bool.true_or, Bool.or_true, Bool.false_or, Bool.or_false, decide_true, decide_false, Bool.false_eq_true, reduceCtorEq, true_and, and_true, List.mem_cons_self, sb_ok hxr hys S]) (δ := [.val (.int size), .val d, .own (nis z40), .non, .non]) ⟨_, _, _, rfl, .inl ⟨rfl, rfl⟩⟩
  exact ⟨δ', q⟩
theorem rows_few : ∀ {rs : List (List Int)}, (∀ r ∈ rs, r ≠ []) → rs.length ≤ (rs.map List.length).sum
  | [], _ => Nat.le_refl _
  | r :: rs, h => by
    have ih := rows_few (rs := rs) fun s hs => h s (List.mem_cons_of_mem _ hs)
    have h1 : 0 < r.length := List.length_pos_iff.mpr (h r (List.mem_cons_self ..))
    simp only [List.length_cons, List.map_cons, List.sum_cons]
    omega
theorem Tb.few {size : Int} {rs : List (List Int)} (B : Tb size rs) : rs.length ≤ 40 := Nat.le_trans (rows_few fun r hr => by
  obtain ⟨k, hk⟩ := List.mem_iff_getElem?.mp hr
  exact (B.bel k r hk).ne) B.sum
theorem sum_cast : ∀ l : List (List Int), (l.map fun r => (r.length : Int)).sum = ((l.map List.length).sum : Nat)
  | [] => rfl
  | r :: l => by
    simp only [List.map_cons, List.sum_cons, Int.natCast_add]
    rw [sum_cast l]
theorem ck_rows {size : Int} {d : Dt} {ds : List Dt} {rs : List (List Int)} (h : isRows d ds rs) (B : Tb size rs) : S_check_rows a [.int size, d] = DL.M.ret (.val .non) := by
  have hf := B.few
  have hds : ds.length ≤ 100000 := by rw [h.len]; omega
  obtain ⟨δ', q⟩ := crT_loop (a := a) h B
  have h40 : ¬ ((40 : Int) < (rs.map fun r => (r.length : Int)).sum) := by rw [sum_cast]; have := B.sum; omega
  have hs : wSeq (vVar 1) [.val (.int size), .val d, .non, .non, .non] = DL.M.ret ds := by rcases h.top with rfl | rfl <;> rfl
  have hc := lc_lens (src := wSeq (vVar 1)) (j := 4) (δ := [.val (.int size), .val d, .non, .non, .non]) h hs hds (show 4 < 5 by decide)
  have hsum : sumG (.lst (nis (rs.map fun r => (r.length : Int)))) = DL.M.ret (.val (.int (rs.map fun r => (r.length : Int)).sum)) := sumG_row (.inl rfl)
  have hm : mulG (.lst [.int 0]) (.int 40) = DL.M.ret (.new (nis z40)) := by rfl
  unfold S_check_rows
  simp only [bnd_ret, bnd_nn, bnd_rse, bnd_ite, bnd_bnd, semOf, gSeq, gNx, gSet, gDrop, gRet, gRetV, gRetN, gIf, gBk, gCt, gFrz, frz, gApp, gExt, gSetI, gAsg, gPar, gPop, gSetPop, gAppPop, gRaise, gFld, cVar, vVar, cC, toV, bin, una, aNil, aCons, cTup, cLst, rNil, rCons, setAll, addD, subD, negD, cmpD, notD, cCall, cMeth, cMeth0, cMake, objR, tV, truD, tNotD, tAndD, tOrD, tBl, andV, orV, cIf, chain, oNone, oSome, cSl, slD, ixD, lenD, tupleD, listD, cDict, tgN, tgS, tgT, tgs, wSeq, wEn, R.sl, R.d, Sl.isIns, oneIns, List.getElem?_cons_zero, List.getElem?_cons_succ, List.getElem?_nil, List.set_cons_zero, List.set_cons_succ, List.map_cons, List.map_nil, List.length_cons, List.length_nil, List.nil_append, List.cons_append, List.append_nil, List.replicate, List.all_cons, List.all_nil, Nat.reduceSub, Nat.reduceAdd, Nat.reduceLeDiff, Nat.reduceLT, Nat.reduceEqDiff, if_true, if_false, ite_true, ite_false, Bool.not_true, Bool.not_false, Bool.true_and, Bool.and_true, Bool.false_and, Bool.and_false, Bool.true_or, Bool.or_true, Bool.false_or, Bool.or_false, decide_true, decide_false, Bool.false_eq_true, reduceCtorEq, true_and, and_true, List.mem_cons_self, is_rows h hds, hc, hsum, h40, hm, gFor]
  rcases h.top with e | e <;> subst e <;> simp only [bnd_ret, bnd_nn, bnd_rse, bnd_ite, bnd_bnd, semOf, gSeq, gNx, gSet, gDrop, gRet, gRetV, gRetN, gIf, gBk, gCt, gFrz, frz, gApp, gExt, gSetI, gAsg, gPar, gPop, gSetPop, gAppPop, gRaise, gFld, cVar, vVar, cC, toV, bin, una, aNil, aCons, cTup, cLst, rNil, rCons, setAll, addD, subD, negD, cmpD, notD, cCall, cMeth, cMeth0, cMake, objR, tV, truD, tNotD, tAndD, tOrD, tBl, andV, orV, cIf, chain, oNone, oSome, cSl, slD, ixD, lenD, tupleD, listD, cDict, tgN, tgS, tgT, tgs, wSeq, wEn, R.sl, R.d, Sl.isIns, oneIns, List.getElem?_cons_zero, List.getElem?_cons_succ, List.getElem?_nil, List.set_cons_zero, List.set_cons_succ, List.map_cons, List.map_nil, List.length_cons, List.length_nil, List.nil_append, List.cons_append, List.append_nil, List.replicate, List.all_cons, List.all_nil, Nat.reduceSub, Nat.reduceAdd, Nat.reduceLeDiff, Nat.reduceLT, Nat.reduceEqDiff, if_true, if_false, ite_true, ite_false, Bool.not_true, Bool.not_false, Bool.true_and, Bool.and_true, Bool.false_and, Bool.and_false, Bool.true_or, Bool.or_true, Bool.false_or, Bool.or_false, decide_true, decide_false, Bool.false_eq_true, reduceCtorEq, true_and, and_true, List.mem_cons_self] <;> (rw [q]; rfl)
end Dg
set_option maxHeartbeats 0
set_option pp.maxSteps 3000
namespace Dg
open PySem DL LwM
variable {a : Adr} {T : List (Addr × Str)}
abbrev rowT (r : List Int) : Dt := .tup (nis r)
abbrev lens (rs : List (List Int)) : List Int := rs.map fun r => (r.length : Int)
def tabD (a : Adr) (size : Int) (rs : List (List Int)) : Dt := .obj a.w_Table ["size", "rows", "shape"] [.int size, .tup (rs.map rowT), .tup (nis (lens rs))]
theorem lengths_ {rs : List (List Int)} (hl : rs.length ≤ 100000) : S_lengths a [.tup (rs.map rowT)] = DL.M.ret (.val (.tup (nis (lens rs)))) := by
  have hc := lc_lens (src := wSeq (vVar 0)) (j := 1) (δ := [.val (.tup (rs.map rowT)), .non]) (isRows.tup rs) rfl (by rw [List.length_map]; exact hl) (show 1 < 2 by decide)
  unfold S_lengths
  simp only [bnd_ret, bnd_nn, bnd_rse, bnd_ite, bnd_bnd, semOf, gSeq, gNx, gSet, gDrop, gRet, gRetV, gRetN, gIf, gBk, gCt, gFrz, frz, gApp, gExt, gSetI, gAsg, gPar, gPop, gSetPop, gAppPop, gRaise, gFld, cVar, vVar, cC, toV, bin, una, aNil, aCons, cTup, cLst, rNil, rCons, setAll, addD, subD, negD, cmpD, notD, cCall, cMeth, cMeth0, cMake, objR, tV, truD, tNotD, tAndD, tOrD, tBl, andV, orV, cIf, chain, oNone, oSome, cSl, slD, ixD, lenD, tupleD, listD, cDict, tgN, tgS, tgT, tgs, wSeq, wEn, R.sl, R.d, Sl.isIns, oneIns, List.getElem?_cons_zero, List.getElem?_cons_succ, List.getElem?_nil, List.set_cons_zero, List.set_cons_succ, List.map_cons, List.map_nil, List.length_cons, List.length_nil, List.nil_append, List.cons_append, List.append_nil, List.replicate, List.all_cons, List.all_nil, Nat.reduceSub, Nat.reduceAdd, Nat.reduceLeDiff, Nat.reduceLT, Nat.reduceEqDiff, if_true, if_false, ite_true, ite_false, Bool.not_true, Bool.not_false, Bool.true_and, Bool.and_true, Bool.false_and, Bool.and_false, Bool.true_or, Bool.or_true, Bool.false_or, Bool.or_false, decide_true, decide_false, Bool.false_eq_true, reduceCtorEq, true_and, and_true, List.mem_cons_self, hc]
theorem make_table {size : Int} {d : Dt} {ds : List Dt} {rs : List (List Int)} (h : isRows d ds rs) (B : Tb size rs) : S_Table_init a [.int size, d] = DL.M.ret (.val (tabD a size rs)) := by
  have hf := B.few
  have hds : ds.length ≤ 100000 := by rw [h.len]; omega
  have n1 : (([] : List Str).contains ("size" : Str)) = false := rfl
  have n2 : ((["size"] : List Str).contains ("rows" : Str)) = false := by decide +kernel
  have n3 : ((["size", "rows"] : List Str).contains ("shape" : Str)) = false := by decide +kernel
  have lr : ∀ x y : Dt, fldAt ["size", "rows"] [x, y] "rows" = some y := fun x y => by
    unfold fldAt
    rfl
  have hc : cLc (wSeq (vVar 2)) (tgN 3) tYesD (una (vVar 3) tupleD) [3] [.ins a.w_Table ["size"] [.int size], .val (.int size), .val d, .non] = DL.M.ret (.new (rs.map rowT)) := lc_rows h (by rcases h.top with rfl | rfl <;> rfl) hds rowT fun x r hx _ => ⟨_, rfl, .val (rowT r), by
    show DL.M.bnd (DL.M.ret x) tupleD = _
    rw [bnd_ret]
    exact hx.lt.2.2.2, rfl⟩
  unfold S_Table_init
  simp only [semI, gSeq, gDrop, cCall, aCons, cVar, aNil, bnd_bnd, bnd_ret, List.map_cons, List.map_nil, List.length_cons, List.length_nil, Nat.reduceSub, Nat.reduceAdd, List.replicate, List.cons_append, List.nil_append, List.append_nil, List.getElem?_cons_zero, List.getElem?_cons_succ, if_true, R.d, ck_size B.s0 B.s1, ck_rows h B, gFld, n1, n2, n3, true_and, Nat.reduceLT, oneIns, List.set_cons_zero, List.all_cons, List.all_nil, Sl.isIns, Bool.not_false, Bool.and_true, una, toV, hc, tupleD, cFldI, lr, lengths_ (Nat.le_trans hf (by decide)), selfD]
  rfl
def cnt (r : List Int) (x : Int) : Nat := (r.filter fun y => decide (y ≤ x)).length
theorem count_ {d : Dt} {r : List Int} {x : Int} (h : isRow d r) (hl : r.length ≤ 100000) : S_count_up_to a [d, .int x] = DL.M.ret (.val (.int (cnt r x : Nat))) := by
  have hs : wSeq (vVar 0) [.val d, .val (.int x), .non] = DL.M.ret (nis r) := by rcases h with rfl | rfl <;> rfl
  have hc : cLc (wSeq (vVar 0)) (tgN 2) (tBl (bin (vVar 2) (vVar 1) (cmpD fun x y => decide (x ≤ y)))) (cVar 2) [2] [.val d, .val (.int x), .non] = DL.M.ret (.new (nis (r.filter fun y => decide (y ≤ x)))) := by
    refine lc_eq hs (by rw [List.length_map]; exact hl) ?_
    have := compL_eq (tg := tgN 2) (tt := tBl (bin (vVar 2) (vVar 1) (cmpD fun x y => decide (x ≤ y)))) (fe := cVar 2) (δ := wipeD [.val d, .val (.int x), .non] [2]) (fun | .int y => decide (y ≤ x) | _ => false) id (l := nis r) (fun z hz => by
      obtain ⟨y, hy, rfl⟩ := List.mem_map.mp hz
      exact ⟨[.val d, .val (.int x), .val (.int y)], rfl, rfl, fun _ => ⟨.val (.int y), rfl, rfl⟩⟩)
    rw [this, List.map_id, nis, List.filter_map]
    rfl
  unfold S_count_up_to
  simp only [bnd_ret, bnd_nn, bnd_rse, bnd_ite, bnd_bnd, semOf, gSeq, gNx, gSet, gDrop, gRet, gRetV, gRetN, gIf, gBk, gCt, gFrz, frz, gApp, gExt, gSetI, gAsg, gPar, gPop, gSetPop, gAppPop, gRaise, gFld, cVar, vVar, cC, toV, bin, una, aNil, aCons, cTup, cLst, rNil, rCons, setAll, addD, subD, negD, cmpD, notD, cCall, cMeth, cMeth0, cMake, objR, tV, truD, tNotD, tAndD, tOrD, tBl, andV, orV, cIf, chain, oNone, oSome, cSl, slD, ixD, lenD, tupleD, listD, cDict, tgN, tgS, tgT, tgs, wSeq, wEn, R.sl, R.d, Sl.isIns, oneIns, List.getElem?_cons_zero, List.getElem?_cons_succ, List.getElem?_nil, List.set_cons_zero, List.set_cons_succ, List.map_cons, List.map_nil, List.length_cons, List.length_nil, List.nil_append, List.cons_append, List.append_nil, List.replicate, List.all_cons, List.all_nil, Nat.reduceSub, Nat.reduceAdd, Nat.reduceLeDiff, Nat.reduceLT, Nat.reduceEqDiff, if_true, if_false, ite_true, ite_false, Bool.not_true, Bool.not_false, Bool.true_and, Bool.and_true, Bool.false_and, Bool.and_false, Bool.true_or, Bool.or_true, Bool.false_or, Bool.or_false, decide_true, decide_false, Bool.false_eq_true, reduceCtorEq, true_and, and_true, List.mem_cons_self, hc, List.length_map]
  rfl
end Dg
set_option maxHeartbeats 0
set_option pp.maxSteps 3000
namespace Dg
open PySem DL LwM
variable {a : Adr} {T : List (Addr × Str)}
def swapR (r : List Int) (x : Int) : List Int := r.take (cnt r x) ++ x :: r.drop (cnt r x + 1)
def outR (r : List Int) (x : Int) : Int := r[cnt r x]?.getD 0
def putL : List (List Int) → Int → List (List Int)
  | [], x => [[x]]
  | r :: rs, x => if x < lst r then swapR r x :: putL rs (outR r x) else (r ++ [x]) :: rs
def putN : List (List Int) → Int → Nat
  | [], _ => 0
  | r :: rs, x => if x < lst r then putN rs (outR r x) + 1 else 0
theorem at_n {l : List Dt} {n : Nat} {d : Dt} (h : l[n]? = some d) : L2.atI l (n : Int) = some d := by
  have hn := (List.getElem?_eq_some_iff.mp h).1
  unfold L2.atI L2.ixN
  rw [if_pos (by omega), if_pos (by omega)]
  show l[(n : Int).toNat]? = _
  rw [Int.toNat_natCast, h]
theorem ix_n {m n : Nat} (h : n < m) : L2.ixN m (n : Int) = some n := by
  unfold L2.ixN
  rw [if_pos (by omega), if_pos (by omega), Int.toNat_natCast]
theorem lstMemT {r : List Int} (h : r ≠ []) : lst r ∈ r := by
  obtain ⟨q, e⟩ := lst_snoc h
  rw [e]
  have : lst (q ++ [lst r]) = lst r := by rw [← e]
  exact List.mem_append_right _ (by rw [this]; exact List.mem_singleton.mpr rfl)
theorem cnt_lt {r : List Int} {x : Int} (h : r ≠ []) (hx : x < lst r) : cnt r x < r.length := by
  unfold cnt
  refine Nat.lt_of_le_of_ne (List.length_filter_le ..) fun e => ?_
  have := List.length_filter_eq_length_iff.mp e (lst r) (lstMemT h)
  have := of_decide_eq_true this
  omega
theorem swap_len {r : List Int} {x : Int} (h : r ≠ []) (hx : x < lst r) : (swapR r x).length = r.length := by
  have := cnt_lt h hx
  unfold swapR
  rw [List.length_append, List.length_cons, List.length_take, List.length_drop]
  omega
noncomputable abbrev tPut : List Sl → DL.M Bool := tAndD (tBl (bin (vVar 2) (toV (una (vVar 0) lenD)) (cmpD fun x y => decide (x < y)))) (tBl (bin (toV (bin (toV (bin (vVar 0) (vVar 2) ixD)) (toV (una (toV (cC (.int 1))) negD)) ixD)) (vVar 1) (cmpD fun x y => decide (y < x))))
noncomputable abbrev bPut (a : Adr) : List Sl → DL.M Fl := gSeq (gSet 3 (bin (vVar 0) (vVar 2) ixD))
  (gSeq (gSet 4 (cCall 2 (aCons (cVar 3) (aCons (cVar 1) aNil)) (S_count_up_to a)))
  (gSeq (gSetI 0 (bin (toV (bin (toV (cSl (vVar 3) oNone (oSome (vVar 4)))) (toV (cTup (aCons (cVar 1) aNil))) addD)) (toV (cSl (vVar 3) (oSome (toV (bin (vVar 4) (toV (cC (.int 1))) addD))) oNone)) addD) (vVar 2))
  (gSeq (gSet 1 (bin (vVar 3) (vVar 4) ixD))
  (gAug 2 (fun x y => x + y) (toV (cC (.int 1)))))))
theorem tput_end {L : List Dt} {y n : Int} {u v : Sl} (h : ¬ n < (L.length : Nat)) : tPut [.own L, .val (.int y), .val (.int n), u, v] = DL.M.ret false := by
  unfold tPut
  simp only [bnd_ret, bnd_nn, bnd_rse, bnd_ite, bnd_bnd, semOf, gSeq, gNx, gSet, gDrop, gRet, gRetV, gRetN, gIf, gBk, gCt, gFrz, frz, gApp, gExt, gSetI, gAsg, gPar, gPop, gSetPop, gAppPop, gRaise, gFld, cVar, vVar, cC, toV, bin, una, aNil, aCons, cTup, cLst, rNil, rCons, setAll, addD, subD, negD, cmpD, notD, cCall, cMeth, cMeth0, cMake, objR, tV, truD, tNotD, tAndD, tOrD, tBl, andV, orV, cIf, chain, oNone, oSome, cSl, slD, ixD, lenD, tupleD, listD, cDict, tgN, tgS, tgT, tgs, wSeq, wEn, R.sl, R.d, Sl.isIns, oneIns, List.getElem?_cons_zero, List.getElem?_cons_succ, List.getElem?_nil, List.set_cons_zero, List.set_cons_succ, List.map_cons, List.map_nil, List.length_cons, List.length_nil, List.nil_append, List.cons_append, List.append_nil, List.replicate, List.all_cons, List.all_nil, Nat.reduceSub, Nat.reduceAdd, Nat.reduceLeDiff, Nat.reduceLT, Nat.reduceEqDiff, if_true, if_false, ite_true, ite_false, Bool.not_true, Bool.not_false, Bool.true_and, Bool.and_true, Bool.false_and, Bool.and_false, Bool.true_or, Bool.or_true, Bool.false_or, Bool.or_false, decide_true, decide_false, Bool.false_eq_true, reduceCtorEq, true_and, and_true, List.mem_cons_self, h]
theorem tput_at {L : List Dt} {r : List Int} {n : Nat} {y : Int} {u v : Sl} (h : L[n]? = some (rowT r)) (hr : r ≠ []) : tPut [.own L, .val (.int y), .val (.int (n : Nat)), u, v] = DL.M.ret (decide (y < lst r)) := by
  have hn := (List.getElem?_eq_some_iff.mp h).1
  have hn' : ((n : Nat) : Int) < ((L.length : Nat) : Int) := by omega
  have e1 := at_n h
  have e2 := at_last hr
  unfold tPut
  simp only [bnd_ret, bnd_nn, bnd_rse, bnd_ite, bnd_bnd, semOf, gSeq, gNx, gSet, gDrop, gRet, gRetV, gRetN, gIf, gBk, gCt, gFrz, frz, gApp, gExt, gSetI, gAsg, gPar, gPop, gSetPop, gAppPop, gRaise, gFld, cVar, vVar, cC, toV, bin, una, aNil, aCons, cTup, cLst, rNil, rCons, setAll, addD, subD, negD, cmpD, notD, cCall, cMeth, cMeth0, cMake, objR, tV, truD, tNotD, tAndD, tOrD, tBl, andV, orV, cIf, chain, oNone, oSome, cSl, slD, ixD, lenD, tupleD, listD, cDict, tgN, tgS, tgT, tgs, wSeq, wEn, R.sl, R.d, Sl.isIns, oneIns, List.getElem?_cons_zero, List.getElem?_cons_succ, List.getElem?_nil, List.set_cons_zero, List.set_cons_succ, List.map_cons, List.map_nil, List.length_cons, List.length_nil, List.nil_append, List.cons_append, List.append_nil, List.replicate, List.all_cons, List.all_nil, Nat.reduceSub, Nat.reduceAdd, Nat.reduceLeDiff, Nat.reduceLT, Nat.reduceEqDiff, if_true, if_false, ite_true, ite_false, Bool.not_true, Bool.not_false, Bool.true_and, Bool.and_true, Bool.false_and, Bool.and_false, Bool.true_or, Bool.or_true, Bool.false_or, Bool.or_false, decide_true, decide_false, Bool.false_eq_true, reduceCtorEq, true_and, and_true, List.mem_cons_self, hn', e1, e2]
theorem bput_at {L : List Dt} {r : List Int} {n : Nat} {y : Int} {u v : Sl} (h : L[n]? = some (rowT r)) (hr : r ≠ []) (hl : r.length ≤ 1000) (hy : y < lst r) : bPut a [.own L, .val (.int y), .val (.int (n : Nat)), u, v] = DL.M.ret (.nx [.own (L.set n (rowT (swapR r y))), .val (.int (outR r y)), .val (.int ((n : Nat) + 1)), .val (rowT r), .val (.int (cnt r y : Nat))]) := by
  have hn := (List.getElem?_eq_some_iff.mp h).1
  have e1 := at_n h
  have hc := cnt_lt hr hy
  have e2 := count_ (a := a) (d := rowT r) (r := r) (x := y) (.inr rfl) (by omega)
  have c1 := cut_hi (nis r) (p := (cnt r y : Nat)) (by omega)
  have c2 := cut_lo (nis r) (p := (cnt r y : Nat) + 1) (by omega)
  have e3 : L2.atI (nis r) (cnt r y : Nat) = some (.int (outR r y)) := by
    refine at_nat ?_
    unfold outR
    rw [List.getElem?_eq_getElem hc]
    rfl
  have t1 : ((cnt r y : Nat) : Int).toNat = cnt r y := Int.toNat_natCast _
  have t2 : (((cnt r y : Nat) : Int) + 1).toNat = cnt r y + 1 := by omega
  have l1 : ((nis r).take (cnt r y)).length + 1 ≤ 100000 := by rw [List.length_take, List.length_map]; omega
  have l2 : ((nis r).take (cnt r y) ++ [Dt.int y]).length + ((nis r).drop (cnt r y + 1)).length ≤ 100000 := by
    rw [List.length_append, List.length_take, List.length_drop, List.length_map, List.length_singleton]
    omega
  have ex : Dt.tup ((nis r).take (cnt r y) ++ [Dt.int y] ++ (nis r).drop (cnt r y + 1)) = rowT (swapR r y) := by
    unfold rowT swapR nis
    rw [List.map_append, List.map_cons, List.map_take, List.map_drop, List.append_assoc]
    rfl
  unfold bPut
  simp only [bnd_ret, bnd_nn, bnd_rse, bnd_ite, bnd_bnd, semOf, gSeq, gNx, gSet, gDrop, gRet, gRetV, gRetN, gIf, gBk, gCt, gFrz, frz, gApp, gExt, gSetI, gAsg, gPar, gPop, gSetPop, gAppPop, gRaise, gFld, cVar, vVar, cC, toV, bin, una, aNil, aCons, cTup, cLst, rNil, rCons, setAll, addD, subD, negD, cmpD, notD, cCall, cMeth, cMeth0, cMake, objR, tV, truD, tNotD, tAndD, tOrD, tBl, andV, orV, cIf, chain, oNone, oSome, cSl, slD, ixD, lenD, tupleD, listD, cDict, tgN, tgS, tgT, tgs, wSeq, wEn, R.sl, R.d, Sl.isIns, oneIns, List.getElem?_cons_zero, List.getElem?_cons_succ, List.getElem?_nil, List.set_cons_zero, List.set_cons_succ, List.map_cons, List.map_nil, List.length_cons, List.length_nil, List.nil_append, List.cons_append, List.append_nil, List.replicate, List.all_cons, List.all_nil, Nat.reduceSub, Nat.reduceAdd, Nat.reduceLeDiff, Nat.reduceLT, Nat.reduceEqDiff, if_true, if_false, ite_true, ite_false, Bool.not_true, Bool.not_false, Bool.true_and, Bool.and_true, Bool.false_and, Bool.and_false, Bool.true_or, Bool.or_true, Bool.false_or, Bool.or_false, decide_true, decide_false, Bool.false_eq_true, reduceCtorEq, true_and, and_true, List.mem_cons_self, e1, e2]
  rw [c1, t1, c2, t2, if_pos (show ((nis r).take (cnt r y)).length ≤ 99999 by omega), if_pos l2, ix_n hn, ex]
  simp only [bnd_ret, bnd_nn, bnd_rse, bnd_ite, bnd_bnd, semOf, gSeq, gNx, gSet, gDrop, gRet, gRetV, gRetN, gIf, gBk, gCt, gFrz, frz, gApp, gExt, gSetI, gAsg, gPar, gPop, gSetPop, gAppPop, gRaise, gFld, cVar, vVar, cC, toV, bin, una, aNil, aCons, cTup, cLst, rNil, rCons, setAll, addD, subD, negD, cmpD, notD, cCall, cMeth, cMeth0, cMake, objR, tV, truD, tNotD, tAndD, tOrD, tBl, andV, orV, cIf, chain, oNone, oSome, cSl, slD, ixD, lenD, tupleD, listD, cDict, tgN, tgS, tgT, tgs, wSeq, wEn, R.sl, R.d, Sl.isIns, oneIns, List.getElem?_cons_zero, List.getElem?_cons_succ, List.getElem?_nil, List.set_cons_zero, List.set_cons_succ, List.map_cons, List.map_nil, List.length_cons, List.length_nil, List.nil_append, List.cons_append, List.append_nil, List.replicate, List.all_cons, List.all_nil, Nat.reduceSub, Nat.reduceAdd, Nat.reduceLeDiff, Nat.reduceLT, Nat.reduceEqDiff, if_true, if_false, ite_true, ite_false, Bool.not_true, Bool.not_false, Bool.true_and, Bool.and_true, Bool.false_and, Bool.and_false, Bool.true_or, Bool.or_true, Bool.false_or, Bool.or_false, decide_true, decide_false, Bool.false_eq_true, reduceCtorEq, true_and, and_true, List.mem_cons_self, e3, gAug]
theorem while_put : ∀ (rest fin : List (List Int)) (y : Int) (u v : Sl), (∀ r ∈ rest, r ≠ [] ∧ r.length ≤ 1000) → ∃ (A : List (List Int)) (y' : Int) (u' v' : Sl) (n : Nat),
    gWhile tPut (bPut a) [.own ((fin ++ rest).map rowT), .val (.int y), .val (.int (fin.length : Nat)), u, v] = DL.M.ret (.nx [.own (A.map rowT), .val (.int y'), .val (.int (n : Nat)), u', v']) ∧ n = fin.length + putN rest y ∧
      ((n = A.length ∧ A ++ [[y']] = fin ++ putL rest y) ∨ ∃ r, A[n]? = some r ∧ A.set n (r ++ [y']) = fin ++ putL rest y)
  | [], fin, y, u, v, _ => by
    refine ⟨fin, y, u, v, fin.length, ?_, rfl, .inl ⟨rfl, rfl⟩⟩
    rw [gWhile_eq1, tput_end (by rw [List.append_nil, List.length_map]; omega), bnd_ret, if_neg (by decide), List.append_nil]
  | r :: rest, fin, y, u, v, h => by
    obtain ⟨h1, h2⟩ := h r (List.mem_cons_self ..)
    have at0 : ((fin ++ r :: rest).map rowT)[fin.length]? = some (rowT r) := by
      rw [List.getElem?_map, List.getElem?_append_right (Nat.le_refl _), Nat.sub_self]
      rfl
    by_cases hy : y < lst r
    · have e : ((fin ++ r :: rest).map rowT).set fin.length (rowT (swapR r y)) = ((fin ++ [swapR r y]) ++ rest).map rowT := by
        rw [← List.map_set, List.set_append_right _ _ (Nat.le_refl _), Nat.sub_self, List.set_cons_zero, List.append_assoc]
        rfl
      obtain ⟨A, y', u', v', n, q1, q2, q3⟩ := while_put rest (fin ++ [swapR r y]) (outR r y) (.val (rowT r)) (.val (.int (cnt r y : Nat))) fun s hs => h s (List.mem_cons_of_mem _ hs)
      have hn : ((fin ++ [swapR r y]).length : Int) = (fin.length : Nat) + 1 := by rw [List.length_append]; rfl
      have p1 : putL (r :: rest) y = swapR r y :: putL rest (outR r y) := if_pos hy
      have p2 : putN (r :: rest) y = putN rest (outR r y) + 1 := if_pos hy
      refine ⟨A, y', u', v', n, ?_, by rw [q2, p2, List.length_append, List.length_singleton]; omega, ?_⟩
      · rw [gWhile_eq1, tput_at at0 h1, bnd_ret, decide_eq_true hy, if_pos rfl, bput_at at0 h1 h2 hy, bnd_ret, e, ← hn]
        exact q1
      · rw [p1]
        rw [List.append_assoc] at q3
        exact q3
    · have p1 : putL (r :: rest) y = (r ++ [y]) :: rest := if_neg hy
      have p2 : putN (r :: rest) y = 0 := if_neg hy
      refine ⟨fin ++ r :: rest, y, u, v, fin.length, ?_, by rw [p2]; rfl, .inr ⟨r, ?_, ?_⟩⟩
      · rw [gWhile_eq1, tput_at at0 h1, bnd_ret, decide_eq_false hy, if_neg (by decide)]
      · rw [List.getElem?_append_right (Nat.le_refl _), Nat.sub_self]
        rfl
      · rw [p1, List.set_append_right _ _ (Nat.le_refl _), Nat.sub_self, List.set_cons_zero]
theorem putL_len : ∀ (rs : List (List Int)) (x : Int), (putL rs x).length ≤ rs.length + 1
  | [], x => Nat.le_refl _
  | r :: rs, x => by
    have ih := putL_len rs (outR r x)
    unfold putL
    split
    · simp only [List.length_cons]; omega
    · simp only [List.length_cons]; omega
theorem putL_row {M : Nat} : ∀ {rs : List (List Int)} (x : Int), (∀ r ∈ rs, r ≠ [] ∧ r.length ≤ M) → ∀ q ∈ putL rs x, q ≠ [] ∧ q.length ≤ M + 1
  | [], x, _, q, hq => by
    cases List.mem_singleton.mp hq
    exact ⟨by simp, by simp⟩
  | r :: rs, x, h, q, hq => by
    obtain ⟨h1, h2⟩ := h r (List.mem_cons_self ..)
    unfold putL at hq
    split at hq
    · rename_i hx
      rcases List.mem_cons.mp hq with rfl | hq
      · have := swap_len h1 hx
        exact ⟨by unfold swapR; simp, by omega⟩
      · exact putL_row (outR r x) (fun s hs => h s (List.mem_cons_of_mem _ hs)) q hq
    · rcases List.mem_cons.mp hq with rfl | hq
      · exact ⟨by simp, by rw [List.length_append, List.length_singleton]; omega⟩
      · have := h q (List.mem_cons_of_mem _ hq)
        exact ⟨this.1, by omega⟩
theorem put_in_ {d : Dt} {rs : List (List Int)} {x : Int} (hd : d = .lst (rs.map rowT) ∨ d = .tup (rs.map rowT)) (hr : ∀ r ∈ rs, r ≠ [] ∧ r.length ≤ 1000) (hl : rs.length ≤ 1000) : S_put_in a [d, .int x] = DL.M.ret (.val (.tup [.lst ((putL rs x).map rowT), .int (putN rs x : Nat)])) := by
  obtain ⟨A, y', u', v', n, q1, q2, q3⟩ := while_put (a := a) rs [] x .non .non hr
  have hn : n = putN rs x := by rw [q2]; simp
  have pl := putL_len rs x
  rw [← hn]
  have q1' : gWhile tPut (bPut a) [.own (rs.map rowT), .val (.int x), .val (.int 0), .non, .non] = DL.M.ret (.nx [.own (A.map rowT), .val (.int y'), .val (.int (n : Nat)), u', v']) := q1
  rcases q3 with ⟨e1, e2⟩ | ⟨r, e1, e2⟩
  · have e3 : putL rs x = A ++ [[y']] := e2.symm
    have a1 : L2.atI (A.map rowT ++ [Dt.tup []]) (n : Int) = some (.tup []) := at_n (by
      rw [e1, List.getElem?_append_right (by rw [List.length_map]; exact Nat.le_refl _), List.length_map, Nat.sub_self]
      rfl)
    have a2 : L2.ixN (A.map rowT ++ [Dt.tup []]).length (n : Int) = some n := ix_n (by rw [List.length_append, List.length_map]; simp; omega)
    have a3 : (A.map rowT ++ [Dt.tup []]).set n (.tup [.int y']) = (putL rs x).map rowT := by
      rw [e1, List.set_append_right _ _ (by rw [List.length_map]; exact Nat.le_refl _), List.length_map, Nat.sub_self, List.set_cons_zero, e3, List.map_append]
      rfl
    have hA : A.length < 100000 := by rw [e3, List.length_append, List.length_singleton] at pl; omega
    have dn : (false ^^ decide ((n : Int) = (A.length : Nat))) = true := by rw [e1]; simp
    unfold S_put_in
    rcases hd with rfl | rfl
    all_goals
      simp only [bnd_ret, bnd_nn, bnd_rse, bnd_ite, bnd_bnd, semOf, gSeq, gNx, gSet, gDrop, gRet, gRetV, gRetN, gIf, gBk, gCt, gFrz, frz, gApp, gExt, gSetI, gAsg, gPar, gPop, gSetPop, gAppPop, gRaise, gFld, cVar, vVar, cC, toV, bin, una, aNil, aCons, cTup, cLst, rNil, rCons, setAll, addD, subD, negD, cmpD, notD, cCall, cMeth, cMeth0, cMake, objR, tV, truD, tNotD, tAndD, tOrD, tBl, andV, orV, cIf, chain, oNone, oSome, cSl, slD, ixD, lenD, tupleD, listD, cDict, tgN, tgS, tgT, tgs, wSeq, wEn, R.sl, R.d, Sl.isIns, oneIns, List.getElem?_cons_zero, List.getElem?_cons_succ, List.getElem?_nil, List.set_cons_zero, List.set_cons_succ, List.map_cons, List.map_nil, List.length_cons, List.length_nil, List.nil_append, List.cons_append, List.append_nil, List.replicate, List.all_cons, List.all_nil, Nat.reduceSub, Nat.reduceAdd, Nat.reduceLeDiff, Nat.reduceLT, Nat.reduceEqDiff, if_true, if_false, ite_true, ite_false, Bool.not_true, Bool.not_false, Bool.true_and, Bool.and_true, Bool.false_and, Bool.and_false, Bool.true_or, Bool.or_true, Bool.false_or, Bool.or_false, decide_true, decide_false, Bool.false_eq_true, reduceCtorEq, true_and, and_true, List.mem_cons_self]
      rw [q1']
      simp only [bnd_ret, bnd_nn, bnd_rse, bnd_ite, bnd_bnd, semOf, gSeq, gNx, gSet, gDrop, gRet, gRetV, gRetN, gIf, gBk, gCt, gFrz, frz, gApp, gExt, gSetI, gAsg, gPar, gPop, gSetPop, gAppPop, gRaise, gFld, cVar, vVar, cC, toV, bin, una, aNil, aCons, cTup, cLst, rNil, rCons, setAll, addD, subD, negD, cmpD, notD, cCall, cMeth, cMeth0, cMake, objR, tV, truD, tNotD, tAndD, tOrD, tBl, andV, orV, cIf, chain, oNone, oSome, cSl, slD, ixD, lenD, tupleD, listD, cDict, tgN, tgS, tgT, tgs, wSeq, wEn, R.sl, R.d, Sl.isIns, oneIns, List.getElem?_cons_zero, List.getElem?_cons_succ, List.getElem?_nil, List.set_cons_zero, List.set_cons_succ, List.map_cons, List.map_nil, List.length_cons, List.length_nil, List.nil_append, List.cons_append, List.append_nil, List.replicate, List.all_cons, List.all_nil, Nat.reduceSub, Nat.reduceAdd, Nat.reduceLeDiff, Nat.reduceLT, Nat.reduceEqDiff, if_true, if_false, ite_true, ite_false, Bool.not_true, Bool.not_false, Bool.true_and, Bool.and_true, Bool.false_and, Bool.and_false, Bool.true_or, Bool.or_true, Bool.false_or, Bool.or_false, decide_true, decide_false, Bool.false_eq_true, reduceCtorEq, true_and, and_true, List.mem_cons_self, eq_ii, List.length_map]
      rw [dn, if_pos rfl, if_pos hA]
      simp only [bnd_ret, bnd_nn, bnd_rse, bnd_ite, bnd_bnd, semOf, gSeq, gNx, gSet, gDrop, gRet, gRetV, gRetN, gIf, gBk, gCt, gFrz, frz, gApp, gExt, gSetI, gAsg, gPar, gPop, gSetPop, gAppPop, gRaise, gFld, cVar, vVar, cC, toV, bin, una, aNil, aCons, cTup, cLst, rNil, rCons, setAll, addD, subD, negD, cmpD, notD, cCall, cMeth, cMeth0, cMake, objR, tV, truD, tNotD, tAndD, tOrD, tBl, andV, orV, cIf, chain, oNone, oSome, cSl, slD, ixD, lenD, tupleD, listD, cDict, tgN, tgS, tgT, tgs, wSeq, wEn, R.sl, R.d, Sl.isIns, oneIns, List.getElem?_cons_zero, List.getElem?_cons_succ, List.getElem?_nil, List.set_cons_zero, List.set_cons_succ, List.map_cons, List.map_nil, List.length_cons, List.length_nil, List.nil_append, List.cons_append, List.append_nil, List.replicate, List.all_cons, List.all_nil, Nat.reduceSub, Nat.reduceAdd, Nat.reduceLeDiff, Nat.reduceLT, Nat.reduceEqDiff, if_true, if_false, ite_true, ite_false, Bool.not_true, Bool.not_false, Bool.true_and, Bool.and_true, Bool.false_and, Bool.and_false, Bool.true_or, Bool.or_true, Bool.false_or, Bool.or_false, decide_true, decide_false, Bool.false_eq_true, reduceCtorEq, true_and, and_true, List.mem_cons_self, a1, a2, a3]
      try rfl
  · have hr2 : r.length ≤ 1000 := by
      have hm : (r ++ [y']) ∈ putL rs x := by
        have hk := (List.getElem?_eq_some_iff.mp e1).1
        rw [show putL rs x = A.set n (r ++ [y']) from e2.symm]
        exact List.mem_of_getElem? (i := n) (by rw [List.getElem?_set_self hk])
      have := (putL_row x hr _ hm).2
      rw [List.length_append, List.length_singleton] at this
      omega
    have hk := (List.getElem?_eq_some_iff.mp e1).1
    have a1 : L2.atI (A.map rowT) (n : Int) = some (rowT r) := at_n (by rw [List.getElem?_map, e1]; rfl)
    have a2 : L2.ixN A.length (n : Int) = some n := ix_n hk
    have a3 : (A.map rowT).set n (.tup (nis r ++ [.int y'])) = (putL rs x).map rowT := by
      rw [show putL rs x = A.set n (r ++ [y']) from e2.symm, List.map_set]
      unfold rowT nis
      rw [List.map_append]
      rfl
    have dn : (false ^^ decide ((n : Int) = (A.length : Nat))) = false := by rw [decide_eq_false (by omega)]; rfl
    unfold S_put_in
    rcases hd with rfl | rfl
    all_goals
      simp only [bnd_ret, bnd_nn, bnd_rse, bnd_ite, bnd_bnd, semOf, gSeq, gNx, gSet, gDrop, gRet, gRetV, gRetN, gIf, gBk, gCt, gFrz, frz, gApp, gExt, gSetI, gAsg, gPar, gPop, gSetPop, gAppPop, gRaise, gFld, cVar, vVar, cC, toV, bin, una, aNil, aCons, cTup, cLst, rNil, rCons, setAll, addD, subD, negD, cmpD, notD, cCall, cMeth, cMeth0, cMake, objR, tV, truD, tNotD, tAndD, tOrD, tBl, andV, orV, cIf, chain, oNone, oSome, cSl, slD, ixD, lenD, tupleD, listD, cDict, tgN, tgS, tgT, tgs, wSeq, wEn, R.sl, R.d, Sl.isIns, oneIns, List.getElem?_cons_zero, List.getElem?_cons_succ, List.getElem?_nil, List.set_cons_zero, List.set_cons_succ, List.map_cons, List.map_nil, List.length_cons, List.length_nil, List.nil_append, List.cons_append, List.append_nil, List.replicate, List.all_cons, List.all_nil, Nat.reduceSub, Nat.reduceAdd, Nat.reduceLeDiff, Nat.reduceLT, Nat.reduceEqDiff, if_true, if_false, ite_true, ite_false, Bool.not_true, Bool.not_false, Bool.true_and, Bool.and_true, Bool.false_and, Bool.and_false, Bool.true_or, Bool.or_true, Bool.false_or, Bool.or_false, decide_true, decide_false, Bool.false_eq_true, reduceCtorEq, true_and, and_true, List.mem_cons_self]
      rw [q1']
      simp only [bnd_ret, bnd_nn, bnd_rse, bnd_ite, bnd_bnd, semOf, gSeq, gNx, gSet, gDrop, gRet, gRetV, gRetN, gIf, gBk, gCt, gFrz, frz, gApp, gExt, gSetI, gAsg, gPar, gPop, gSetPop, gAppPop, gRaise, gFld, cVar, vVar, cC, toV, bin, una, aNil, aCons, cTup, cLst, rNil, rCons, setAll, addD, subD, negD, cmpD, notD, cCall, cMeth, cMeth0, cMake, objR, tV, truD, tNotD, tAndD, tOrD, tBl, andV, orV, cIf, chain, oNone, oSome, cSl, slD, ixD, lenD, tupleD, listD, cDict, tgN, tgS, tgT, tgs, wSeq, wEn, R.sl, R.d, Sl.isIns, oneIns, List.getElem?_cons_zero, List.getElem?_cons_succ, List.getElem?_nil, List.set_cons_zero, List.set_cons_succ, List.map_cons, List.map_nil, List.length_cons, List.length_nil, List.nil_append, List.cons_append, List.append_nil, List.replicate, List.all_cons, List.all_nil, Nat.reduceSub, Nat.reduceAdd, Nat.reduceLeDiff, Nat.reduceLT, Nat.reduceEqDiff, if_true, if_false, ite_true, ite_false, Bool.not_true, Bool.not_false, Bool.true_and, Bool.and_true, Bool.false_and, Bool.and_false, Bool.true_or, Bool.or_true, Bool.false_or, Bool.or_false, decide_true, decide_false, Bool.false_eq_true, reduceCtorEq, true_and, and_true, List.mem_cons_self, eq_ii, List.length_map]
      rw [dn, if_neg (by decide)]
      simp only [bnd_ret, bnd_nn, bnd_rse, bnd_ite, bnd_bnd, semOf, gSeq, gNx, gSet, gDrop, gRet, gRetV, gRetN, gIf, gBk, gCt, gFrz, frz, gApp, gExt, gSetI, gAsg, gPar, gPop, gSetPop, gAppPop, gRaise, gFld, cVar, vVar, cC, toV, bin, una, aNil, aCons, cTup, cLst, rNil, rCons, setAll, addD, subD, negD, cmpD, notD, cCall, cMeth, cMeth0, cMake, objR, tV, truD, tNotD, tAndD, tOrD, tBl, andV, orV, cIf, chain, oNone, oSome, cSl, slD, ixD, lenD, tupleD, listD, cDict, tgN, tgS, tgT, tgs, wSeq, wEn, R.sl, R.d, Sl.isIns, oneIns, List.getElem?_cons_zero, List.getElem?_cons_succ, List.getElem?_nil, List.set_cons_zero, List.set_cons_succ, List.map_cons, List.map_nil, List.length_cons, List.length_nil, List.nil_append, List.cons_append, List.append_nil, List.replicate, List.all_cons, List.all_nil, Nat.reduceSub, Nat.reduceAdd, Nat.reduceLeDiff, Nat.reduceLT, Nat.reduceEqDiff, if_true, if_false, ite_true, ite_false, Bool.not_true, Bool.not_false, Bool.true_and, Bool.and_true, Bool.false_and, Bool.and_false, Bool.true_or, Bool.or_true, Bool.false_or, Bool.or_false, decide_true, decide_false, Bool.false_eq_true, reduceCtorEq, true_and, and_true, List.mem_cons_self, a1, a2, List.length_map]
      rw [a3, if_pos (by omega)]
end Dg
set_option maxHeartbeats 0
set_option pp.maxSteps 3000
namespace Dg
open PySem DL LwM
variable {a : Adr} {T : List (Addr × Str)}
theorem putL_n : ∀ (rs : List (List Int)) (x : Int), putN rs x ≤ rs.length ∧ (putL rs x).length = if putN rs x = rs.length then rs.length + 1 else rs.length
  | [], x => ⟨Nat.le_refl _, rfl⟩
  | r :: rs, x => by
    obtain ⟨h1, h2⟩ := putL_n rs (outR r x)
    unfold putN putL
    split
    · refine ⟨by rw [List.length_cons]; omega, ?_⟩
      rw [List.length_cons, h2, List.length_cons]
      split <;> split <;> omega
    · refine ⟨Nat.zero_le _, ?_⟩
      rw [if_neg (by rw [List.length_cons]; omega)]
      rfl
def addP (P : List (List Int)) (n p : Nat) : List (List Int) := if n = P.length then P ++ [[(p : Int)]] else P.set n (P[n]?.getD [] ++ [(p : Int)])
def grK (l : List Int) : Nat → List (List Int) × List (List Int)
  | 0 => ([], [])
  | k + 1 => match l[k]? with
    | some x => (putL (grK l k).1 x, addP (grK l k).2 (putN (grK l k).1 x) k)
    | none => grK l k
theorem grK_s {l : List Int} {k : Nat} {x : Int} (h : l[k]? = some x) : grK l (k + 1) = (putL (grK l k).1 x, addP (grK l k).2 (putN (grK l k).1 x) k) := by
  show (match l[k]? with | some x => _ | none => _) = _
  rw [h]
def rowsL (l : List Int) : List (List Int) := l.foldl putL []
theorem grK_rows (l : List Int) : ∀ k, k ≤ l.length → (grK l k).1 = rowsL (l.take k)
  | 0, _ => rfl
  | k + 1, h => by
    have hx : l[k]? = some l[k] := List.getElem?_eq_getElem h
    rw [grK_s hx, grK_rows l k (by omega), List.take_add_one, hx]
    unfold rowsL
    rw [List.foldl_append]
    rfl
theorem addP_len {P : List (List Int)} {n p m : Nat} (h : P.length = m) : (addP P n p).length = if n = m then m + 1 else m := by
  unfold addP
  rw [h]
  split
  · rw [List.length_append, List.length_singleton, h]
  · rw [List.length_set, h]
theorem addP_row {P : List (List Int)} {n p M : Nat} (h : ∀ r ∈ P, r.length ≤ M) : ∀ r ∈ addP P n p, r.length ≤ M + 1 := by
  intro r hr
  unfold addP at hr
  split at hr
  · rcases List.mem_append.mp hr with hr | hr
    · have := h r hr; omega
    · cases List.mem_singleton.mp hr
      simp
  · rcases List.mem_or_eq_of_mem_set hr with hr | rfl
    · have := h r hr; omega
    · rw [List.length_append, List.length_singleton]
      cases e : P[n]? with
      | none => simp
      | some q =>
        have := h q (List.mem_of_getElem? e)
        show q.length + 1 ≤ M + 1
        omega
structure GrOk (k : Nat) (s : List (List Int) × List (List Int)) : Prop where
  row : ∀ r ∈ s.1, r ≠ [] ∧ r.length ≤ k
  len : s.1.length ≤ k
  same : s.2.length = s.1.length
  pl : ∀ r ∈ s.2, r.length ≤ k
theorem grK_ok (l : List Int) : ∀ k, k ≤ l.length → GrOk k (grK l k)
  | 0, _ => ⟨fun _ h => (by cases h), Nat.le_refl _, rfl, fun _ h => (by cases h)⟩
  | k + 1, h => by
    have hx : l[k]? = some l[k] := List.getElem?_eq_getElem h
    obtain ⟨h1, h2, h3, h4⟩ := grK_ok l k (by omega)
    rw [grK_s hx]
    exact ⟨putL_row _ h1, Nat.le_trans (putL_len ..) (by omega), (addP_len h3).trans (putL_n ..).2.symm, addP_row h4⟩
noncomputable abbrev bGr (a : Adr) : List Sl → DL.M Fl := gSeq (gFrz 1 (gAsg (cCall 2 (aCons (cVar 1) (aCons (cVar 4) aNil)) (S_put_in a)) (tgS [(tgN 1), (tgN 5)])))
  (gSeq (gIf (tBl (bin (vVar 5) (toV (una (vVar 2) lenD)) (eqG false))) (gApp 2 (cTup aNil)) gNx)
  (gSetI 2 (bin (toV (bin (vVar 2) (vVar 5) ixD)) (toV (cTup (aCons (cVar 3) aNil))) addD) (vVar 5)))
theorem bgr_at {R0 : Sl} {rs P : List (List Int)} {d : Dt} {x : Int} {k : Nat} {u : Sl} (O : GrOk k (rs, P)) (hk : k ≤ 900) (hR : (R0 = .own [] ∧ rs = []) ∨ R0 = .val (.lst (rs.map rowT))) : bGr a [.val d, R0, .own (P.map rowT), .val (.int (k : Nat)), .val (.int x), u] = DL.M.ret (.nx [.val d, .val (.lst ((putL rs x).map rowT)), .own ((addP P (putN rs x) k).map rowT), .val (.int (k : Nat)), .val (.int x), .val (.int (putN rs x : Nat))]) := by
  obtain ⟨h1, h2, h3, h4⟩ := O
  replace h1 : ∀ r ∈ rs, r ≠ [] ∧ r.length ≤ k := h1
  replace h2 : rs.length ≤ k := h2
  replace h3 : P.length = rs.length := h3
  replace h4 : ∀ r ∈ P, r.length ≤ k := h4
  have e := put_in_ (a := a) (d := .lst (rs.map rowT)) (rs := rs) (x := x) (.inl rfl) (fun r hr => ⟨(h1 r hr).1, by have := (h1 r hr).2; omega⟩) (by omega)
  have hn := (putL_n rs x).1
  have ef : frz 1 [.val d, R0, .own (P.map rowT), .val (.int (k : Nat)), .val (.int x), u] = [.val d, .val (.lst (rs.map rowT)), .own (P.map rowT), .val (.int (k : Nat)), .val (.int x), u] := by
    rcases hR with ⟨rfl, rfl⟩ | rfl <;> rfl
  generalize putN rs x = n at *
  unfold bGr
  show (gSeq _ _) _ = _
  rw [gSeq, gFrz, ef]
  by_cases hp : n = P.length
  · have a1 : L2.atI (P.map rowT ++ [Dt.tup []]) (n : Int) = some (.tup []) := at_n (by
      rw [hp, List.getElem?_append_right (by rw [List.length_map]; exact Nat.le_refl _), List.length_map, Nat.sub_self]
      rfl)
    have a2 : L2.ixN (P.map rowT ++ [Dt.tup []]).length (n : Int) = some n := ix_n (by rw [List.length_append, List.length_map]; simp; omega)
    have a3 : (P.map rowT ++ [Dt.tup []]).set n (.tup [.int (k : Nat)]) = (addP P n k).map rowT := by
      unfold addP
      rw [if_pos hp, hp, List.set_append_right _ _ (by rw [List.length_map]; exact Nat.le_refl _), List.length_map, Nat.sub_self, List.set_cons_zero, List.map_append]
      rfl
    have hA : P.length < 100000 := by omega
    have dn : (false ^^ decide ((n : Int) = (P.length : Nat))) = true := by rw [hp]; simp
    simp only [bnd_ret, bnd_nn, bnd_rse, bnd_ite, bnd_bnd, semOf, gSeq, gNx, gSet, gDrop, gRet, gRetV, gRetN, gIf, gBk, gCt, gFrz, frz, gApp, gExt, gSetI, gAsg, gPar, gPop, gSetPop, gAppPop, gRaise, gFld, cVar, vVar, cC, toV, bin, una, aNil, aCons, cTup, cLst, rNil, rCons, setAll, addD, subD, negD, cmpD, notD, cCall, cMeth, cMeth0, cMake, objR, tV, truD, tNotD, tAndD, tOrD, tBl, andV, orV, cIf, chain, oNone, oSome, cSl, slD, ixD, lenD, tupleD, listD, cDict, tgN, tgS, tgT, tgs, wSeq, wEn, R.sl, R.d, Sl.isIns, oneIns, List.getElem?_cons_zero, List.getElem?_cons_succ, List.getElem?_nil, List.set_cons_zero, List.set_cons_succ, List.map_cons, List.map_nil, List.length_cons, List.length_nil, List.nil_append, List.cons_append, List.append_nil, List.replicate, List.all_cons, List.all_nil, Nat.reduceSub, Nat.reduceAdd, Nat.reduceLeDiff, Nat.reduceLT, Nat.reduceEqDiff, if_true, if_false, ite_true, ite_false, Bool.not_true, Bool.not_false, Bool.true_and, Bool.and_true, Bool.false_and, Bool.and_false, Bool.true_or, Bool.or_true, Bool.false_or, Bool.or_false, decide_true, decide_false, Bool.false_eq_true, reduceCtorEq, true_and, and_true, List.mem_cons_self, e, eq_ii, List.length_map]
    rw [dn, if_pos rfl, if_pos hA]
    simp only [bnd_ret, bnd_nn, bnd_rse, bnd_ite, bnd_bnd, semOf, gSeq, gNx, gSet, gDrop, gRet, gRetV, gRetN, gIf, gBk, gCt, gFrz, frz, gApp, gExt, gSetI, gAsg, gPar, gPop, gSetPop, gAppPop, gRaise, gFld, cVar, vVar, cC, toV, bin, una, aNil, aCons, cTup, cLst, rNil, rCons, setAll, addD, subD, negD, cmpD, notD, cCall, cMeth, cMeth0, cMake, objR, tV, truD, tNotD, tAndD, tOrD, tBl, andV, orV, cIf, chain, oNone, oSome, cSl, slD, ixD, lenD, tupleD, listD, cDict, tgN, tgS, tgT, tgs, wSeq, wEn, R.sl, R.d, Sl.isIns, oneIns, List.getElem?_cons_zero, List.getElem?_cons_succ, List.getElem?_nil, List.set_cons_zero, List.set_cons_succ, List.map_cons, List.map_nil, List.length_cons, List.length_nil, List.nil_append, List.cons_append, List.append_nil, List.replicate, List.all_cons, List.all_nil, Nat.reduceSub, Nat.reduceAdd, Nat.reduceLeDiff, Nat.reduceLT, Nat.reduceEqDiff, if_true, if_false, ite_true, ite_false, Bool.not_true, Bool.not_false, Bool.true_and, Bool.and_true, Bool.false_and, Bool.and_false, Bool.true_or, Bool.or_true, Bool.false_or, Bool.or_false, decide_true, decide_false, Bool.false_eq_true, reduceCtorEq, true_and, and_true, List.mem_cons_self, a1, a2, a3]
  · have hlt : n < P.length := by omega
    have hq : P[n]? = some P[n] := List.getElem?_eq_getElem hlt
    have hql : P[n].length ≤ k := h4 _ (List.getElem_mem hlt)
    have a1 : L2.atI (P.map rowT) (n : Int) = some (rowT P[n]) := at_n (by rw [List.getElem?_map, hq]; rfl)
    have a2 : L2.ixN P.length (n : Int) = some n := ix_n hlt
    have a3 : (P.map rowT).set n (.tup (nis P[n] ++ [.int (k : Nat)])) = (addP P n k).map rowT := by
      unfold addP
      rw [if_neg hp, hq, List.map_set]
      unfold rowT nis
      rw [Option.getD_some, List.map_append]
      rfl
    have dn : (false ^^ decide ((n : Int) = (P.length : Nat))) = false := by rw [decide_eq_false (by omega)]; rfl
    simp only [bnd_ret, bnd_nn, bnd_rse, bnd_ite, bnd_bnd, semOf, gSeq, gNx, gSet, gDrop, gRet, gRetV, gRetN, gIf, gBk, gCt, gFrz, frz, gApp, gExt, gSetI, gAsg, gPar, gPop, gSetPop, gAppPop, gRaise, gFld, cVar, vVar, cC, toV, bin, una, aNil, aCons, cTup, cLst, rNil, rCons, setAll, addD, subD, negD, cmpD, notD, cCall, cMeth, cMeth0, cMake, objR, tV, truD, tNotD, tAndD, tOrD, tBl, andV, orV, cIf, chain, oNone, oSome, cSl, slD, ixD, lenD, tupleD, listD, cDict, tgN, tgS, tgT, tgs, wSeq, wEn, R.sl, R.d, Sl.isIns, oneIns, List.getElem?_cons_zero, List.getElem?_cons_succ, List.getElem?_nil, List.set_cons_zero, List.set_cons_succ, List.map_cons, List.map_nil, List.length_cons, List.length_nil, List.nil_append, List.cons_append, List.append_nil, List.replicate, List.all_cons, List.all_nil, Nat.reduceSub, Nat.reduceAdd, Nat.reduceLeDiff, Nat.reduceLT, Nat.reduceEqDiff, if_true, if_false, ite_true, ite_false, Bool.not_true, Bool.not_false, Bool.true_and, Bool.and_true, Bool.false_and, Bool.and_false, Bool.true_or, Bool.or_true, Bool.false_or, Bool.or_false, decide_true, decide_false, Bool.false_eq_true, reduceCtorEq, true_and, and_true, List.mem_cons_self, e, eq_ii, List.length_map]
    rw [dn, if_neg (by decide)]
    simp only [bnd_ret, bnd_nn, bnd_rse, bnd_ite, bnd_bnd, semOf, gSeq, gNx, gSet, gDrop, gRet, gRetV, gRetN, gIf, gBk, gCt, gFrz, frz, gApp, gExt, gSetI, gAsg, gPar, gPop, gSetPop, gAppPop, gRaise, gFld, cVar, vVar, cC, toV, bin, una, aNil, aCons, cTup, cLst, rNil, rCons, setAll, addD, subD, negD, cmpD, notD, cCall, cMeth, cMeth0, cMake, objR, tV, truD, tNotD, tAndD, tOrD, tBl, andV, orV, cIf, chain, oNone, oSome, cSl, slD, ixD, lenD, tupleD, listD, cDict, tgN, tgS, tgT, tgs, wSeq, wEn, R.sl, R.d, Sl.isIns, oneIns, List.getElem?_cons_zero, List.getElem?_cons_succ, List.getElem?_nil, List.set_cons_zero, List.set_cons_succ, List.map_cons, List.map_nil, List.length_cons, List.length_nil, List.nil_append, List.cons_append, List.append_nil, List.replicate, List.all_cons, List.all_nil, Nat.reduceSub, Nat.reduceAdd, Nat.reduceLeDiff, Nat.reduceLT, Nat.reduceEqDiff, if_true, if_false, ite_true, ite_false, Bool.not_true, Bool.not_false, Bool.true_and, Bool.and_true, Bool.false_and, Bool.and_false, Bool.true_or, Bool.or_true, Bool.false_or, Bool.or_false, decide_true, decide_false, Bool.false_eq_true, reduceCtorEq, true_and, and_true, List.mem_cons_self, a1, a2, List.length_map]
    rw [a3, if_pos (by omega)]
end Dg
set_option maxHeartbeats 0
set_option pp.maxSteps 3000
namespace Dg
open PySem DL LwM
theorem cnt_split (x : Int) : ∀ {r : List Int}, r.Pairwise (· ≤ ·) → (∀ y ∈ r.take (cnt r x), y ≤ x) ∧ ∀ y ∈ r.drop (cnt r x), x < y
  | [], _ => ⟨fun _ h => (by cases h), fun _ h => (by cases h)⟩
  | z :: r, h => by
    obtain ⟨h1, h2⟩ := List.pairwise_cons.mp h
    by_cases hz : z ≤ x
    · obtain ⟨i1, i2⟩ := cnt_split x h2
      have e : cnt (z :: r) x = cnt r x + 1 := by
        unfold cnt
        rw [List.filter_cons_of_pos (by simpa using hz), List.length_cons]
      rw [e]
      refine ⟨fun y hy => ?_, fun y hy => i2 y hy⟩
      rcases List.mem_cons.mp hy with rfl | hy
      · exact hz
      · exact i1 y hy
    · have e : cnt (z :: r) x = 0 := by
        unfold cnt
        rw [List.length_eq_zero_iff, List.filter_eq_nil_iff]
        intro y hy
        rcases List.mem_cons.mp hy with rfl | hy
        · simpa using hz
        · have := h1 y hy
          simp
          omega
      rw [e]
      refine ⟨fun _ h => (by cases h), fun y hy => ?_⟩
      rcases List.mem_cons.mp hy with rfl | hy
      · omega
      · have := h1 y hy
        omega
theorem cnt_le (r : List Int) (x : Int) : cnt r x ≤ r.length := List.length_filter_le ..
theorem cnt_lo {r : List Int} {x y : Int} (h : r.Pairwise (· ≤ ·)) {k : Nat} (e : r[k]? = some y) (hk : k < cnt r x) : y ≤ x := by
  refine (cnt_split x h).1 y (List.mem_of_getElem? (i := k) ?_)
  rw [List.getElem?_take, if_pos hk, e]
theorem cnt_hi {r : List Int} {x y : Int} (h : r.Pairwise (· ≤ ·)) {k : Nat} (e : r[k]? = some y) (hk : cnt r x ≤ k) : x < y := by
  refine (cnt_split x h).2 y (List.mem_of_getElem? (i := k - cnt r x) ?_)
  rw [List.getElem?_drop, show cnt r x + (k - cnt r x) = k by omega, e]
theorem swap_set {r : List Int} {x : Int} (h : cnt r x < r.length) : swapR r x = r.set (cnt r x) x := (List.set_eq_take_append_cons_drop).symm ▸ by rw [if_pos h]; rfl
theorem lst_at {r : List Int} (h : r ≠ []) : r[r.length - 1]? = some (lst r) := by
  obtain ⟨q, e⟩ := lst_snoc h
  have hl : r.length = q.length + 1 := by rw [e, List.length_append]; rfl
  rw [hl, Nat.add_sub_cancel]
  conv => lhs; rw [e]
  rw [List.getElem?_append_right (Nat.le_refl _), Nat.sub_self]
  rfl
inductive Ch (size : Int) : List Int → List (List Int) → Prop
  | nil (up) : Ch size up []
  | cons {up r rs} : Sb size r up → Ch size r rs → Ch size up (r :: rs)
theorem Sb.up {size : Int} {r up up' : List Int} (S : Sb size r up) (hl : up.length ≤ up'.length) (h : ∀ (k : Nat) (x y : Int), up[k]? = some x → up'[k]? = some y → y ≤ x) : Sb size r up' :=
  ⟨S.ne, Nat.le_trans S.len hl, S.bd, S.asc, fun k x y hx hy => by
    have hk := (List.getElem?_eq_some_iff.mp hx).1
    have hu : up[k]? = some (up[k]'(Nat.lt_of_lt_of_le hk S.len)) := List.getElem?_eq_getElem _
    have h1 := S.col k x _ hx hu
    have h2 := h k _ y hu hy
    omega⟩
theorem Ch.up {size : Int} {up up' : List Int} {rs : List (List Int)} (C : Ch size up rs) (hl : up.length ≤ up'.length) (h : ∀ (k : Nat) (x y : Int), up[k]? = some x → up'[k]? = some y → y ≤ x) : Ch size up' rs := by
  cases C with
  | nil => exact .nil _
  | cons S C => exact .cons (S.up hl h) C
def pos0 : List (List Int) → Int → Nat
  | [], _ => 0
  | r :: _, x => cnt r x
theorem ch_put {size : Int} : ∀ {rs : List (List Int)} {up : List Int} {x : Int} (c : Nat), Ch size up rs → 1 ≤ x ∧ x ≤ size → c < up.length → (∀ (k : Nat) (y : Int), k ≤ c → up[k]? = some y → y < x) → pos0 rs x ≤ c → Ch size up (putL rs x)
  | [], up, x, c, _, hx, hc, hf, _ => by
    refine .cons ⟨by simp, by simp; omega, fun y hy => by cases List.mem_singleton.mp hy; exact hx, List.pairwise_singleton .., fun k y z hy hz => ?_⟩ (.nil _)
    cases k with
    | zero => cases hy; exact hf 0 z (Nat.zero_le _) hz
    | succ k => cases hy
  | r :: rs, up, x, c, C, hx, hc, hf, hp => by
    cases C with
    | cons S C =>
    have hp : cnt r x ≤ c := hp
    by_cases hy : x < lst r
    · have hc' := cnt_lt S.ne hy
      have p1 : putL (r :: rs) x = swapR r x :: putL rs (outR r x) := if_pos hy
      have hz : r[cnt r x]? = some (outR r x) := by
        unfold outR
        rw [List.getElem?_eq_getElem hc']
        rfl
      have zx := cnt_hi S.asc hz (Nat.le_refl _)
      have zb := S.bd _ (List.mem_of_getElem? hz)
      have es := swap_set hc'
      have sl := swap_len S.ne hy
      have at' : ∀ k, (swapR r x)[k]? = if k = cnt r x then some x else r[k]? := fun k => by
        rw [es, List.getElem?_set]
        by_cases hk : cnt r x = k
        · subst hk; rw [if_pos rfl, if_pos hc', if_pos rfl]
        · rw [if_neg hk, if_neg (fun e => hk e.symm)]
      rw [p1]
      refine .cons ⟨by unfold swapR; simp, by rw [sl]; exact S.len, fun y hy' => ?_, ?_, fun k y z hy' hz' => ?_⟩ ?_
      · unfold swapR at hy'
        rcases List.mem_append.mp hy' with h | h
        · exact S.bd y (List.mem_of_mem_take h)
        · rcases List.mem_cons.mp h with rfl | h
          · exact hx
          · exact S.bd y (List.mem_of_mem_drop h)
      · obtain ⟨q1, q2⟩ := cnt_split x S.asc
        have q3 : ∀ y ∈ r.drop (cnt r x + 1), x < y := fun y h => q2 y (by
          rw [List.drop_eq_getElem_cons hc']
          exact List.mem_cons_of_mem _ h)
        unfold swapR
        refine List.pairwise_append.mpr ⟨S.asc.sublist (List.take_sublist ..), List.pairwise_cons.mpr ⟨fun y h => Int.le_of_lt (q3 y h), S.asc.sublist (List.drop_sublist ..)⟩, fun y h z h' => ?_⟩
        have := q1 y h
        rcases List.mem_cons.mp h' with rfl | h'
        · exact this
        · have := q3 z h'
          omega
      · rw [at'] at hy'
        split at hy'
        · rename_i e
          cases hy'
          exact hf k z (by omega) hz'
        · exact S.col k y z hy' hz'
      · have C' : Ch size (swapR r x) rs := C.up (by rw [sl]; exact Nat.le_refl _) fun k y z hy' hz' => by
          rw [at'] at hz'
          split at hz'
          · rename_i e
            cases hz'
            subst e
            rw [hz] at hy'
            cases hy'
            omega
          · rw [hy'] at hz'
            cases hz'
            exact Int.le_refl _
        refine ch_put (cnt r x) C' zb (by rw [sl]; exact hc') (fun k y hk hy' => ?_) ?_
        · rw [at'] at hy'
          split at hy'
          · cases hy'
            exact zx
          · have := cnt_lo S.asc hy' (show k < cnt r x by omega)
            omega
        · cases C with
          | nil => exact Nat.zero_le _
          | cons S2 C2 =>
            rename_i r2 rs2
            show cnt r2 (outR r x) ≤ cnt r x
            refine Nat.le_of_not_lt fun h => ?_
            have hl2 : cnt r x < r2.length := Nat.lt_of_lt_of_le h (cnt_le ..)
            have e2 : r2[cnt r x]? = some r2[cnt r x] := List.getElem?_eq_getElem hl2
            have h1 := cnt_lo S2.asc e2 h
            have h2 := S2.col _ _ _ e2 hz
            omega
    · have p1 : putL (r :: rs) x = (r ++ [x]) :: rs := if_neg hy
      have hle : ∀ y ∈ r, y ≤ x := fun y hy' => by
        obtain ⟨k, hk⟩ := List.mem_iff_getElem?.mp hy'
        have := (List.getElem?_eq_some_iff.mp hk).1
        have := asc_at S.asc hk (lst_at S.ne) (by omega)
        omega
      have hcn : cnt r x = r.length := by
        unfold cnt
        rw [List.filter_eq_self.mpr fun y hy' => decide_eq_true (hle y hy')]
      rw [p1]
      refine .cons ⟨by simp, by rw [List.length_append, List.length_singleton]; omega, fun y hy' => ?_, ?_, fun k y z hy' hz' => ?_⟩ (C.up (by simp) fun k y z hy' hz' => ?_)
      · rcases List.mem_append.mp hy' with h | h
        · exact S.bd y h
        · cases List.mem_singleton.mp h
          exact hx
      · refine List.pairwise_append.mpr ⟨S.asc, List.pairwise_singleton .., fun y h z h' => ?_⟩
        cases List.mem_singleton.mp h'
        exact hle y h
      · by_cases hk : k < r.length
        · rw [List.getElem?_append_left hk] at hy'
          exact S.col k y z hy' hz'
        · have hk2 : k = r.length := by
            have := (List.getElem?_eq_some_iff.mp hy').1
            rw [List.length_append, List.length_singleton] at this
            omega
          subst hk2
          rw [List.getElem?_append_right (Nat.le_refl _), Nat.sub_self] at hy'
          cases hy'
          exact hf _ z (by omega) hz'
      · rw [List.getElem?_append_left (List.getElem?_eq_some_iff.mp hy').1, hy'] at hz'
        cases hz'
        exact Int.le_refl _
end Dg
set_option maxHeartbeats 0
set_option pp.maxSteps 3000
namespace Dg
open PySem DL LwM
variable {a : Adr} {T : List (Addr × Str)}
abbrev szs (rs : List (List Int)) : Nat := (rs.map List.length).sum
theorem putL_sum : ∀ {rs : List (List Int)} (x : Int), (∀ r ∈ rs, r ≠ []) → szs (putL rs x) = szs rs + 1
  | [], _, _ => rfl
  | r :: rs, x, h => by
    have h1 := h r (List.mem_cons_self ..)
    unfold putL
    split
    · rename_i hx
      have ih := putL_sum (rs := rs) (outR r x) fun s hs => h s (List.mem_cons_of_mem _ hs)
      have := swap_len h1 hx
      unfold szs at ih ⊢
      simp only [List.map_cons, List.sum_cons]
      omega
    · unfold szs
      simp only [List.map_cons, List.sum_cons, List.length_append, List.length_singleton]
      omega
theorem Ch.ne {size : Int} {up : List Int} {rs : List (List Int)} (C : Ch size up rs) : ∀ r ∈ rs, r ≠ [] := by
  induction C with
  | nil => intro r h; cases h
  | cons S C ih =>
    intro r h
    rcases List.mem_cons.mp h with rfl | h
    · exact S.ne
    · exact ih r h
theorem Ch.bel {size : Int} {up : List Int} {rs : List (List Int)} (C : Ch size up rs) : ∀ (k : Nat) (r : List Int), rs[k]? = some r → Sb size r (if k = 0 then up else rs[k - 1]?.getD []) := by
  induction C with
  | nil => intro k r h; cases h
  | @cons up r0 rs S C ih =>
    intro k r h
    cases k with
    | zero => cases h; exact S
    | succ k =>
      have q := ih k r h
      rw [if_neg (by omega)]
      show Sb size r ((r0 :: rs)[k]?.getD [])
      cases k with
      | zero => exact q
      | succ k => exact q
theorem Ch.tb {size : Int} {rs : List (List Int)} (s0 : 2 ≤ size) (s1 : size ≤ 6) (C : Ch size (List.replicate 40 0) rs) (h : szs rs ≤ 40) : Tb size rs := ⟨s0, s1, h, C.bel⟩
theorem pos0_le {rs : List (List Int)} {x : Int} : pos0 rs x ≤ szs rs := by
  cases rs with
  | nil => exact Nat.le_refl _
  | cons r rs =>
    have := cnt_le r x
    show cnt r x ≤ _
    unfold szs
    simp only [List.map_cons, List.sum_cons]
    omega
theorem fold_put {size : Int} : ∀ (l : List Int) (rs : List (List Int)), (∀ x ∈ l, 1 ≤ x ∧ x ≤ size) → Ch size (List.replicate 40 0) rs → szs rs + l.length ≤ 40 → Ch size (List.replicate 40 0) (l.foldl putL rs) ∧ szs (l.foldl putL rs) = szs rs + l.length
  | [], rs, _, C, _ => ⟨C, rfl⟩
  | x :: l, rs, h, C, hl => by
    rw [List.length_cons] at hl
    have hx := h x (List.mem_cons_self ..)
    have hp := pos0_le (rs := rs) (x := x)
    have C' := ch_put (pos0 rs x) C hx (by rw [List.length_replicate]; omega) (fun k y _ hy => by
      rw [List.getElem?_replicate] at hy
      split at hy
      · cases hy; omega
      · cases hy) (Nat.le_refl _)
    have hs := putL_sum x C.ne
    obtain ⟨q1, q2⟩ := fold_put l (putL rs x) (fun y hy => h y (List.mem_cons_of_mem _ hy)) C' (by omega)
    refine ⟨q1, ?_⟩
    show szs (l.foldl putL (putL rs x)) = _
    rw [q2, List.length_cons]
    omega
theorem rowsL_tb {size : Int} {l : List Int} (L : Lt size l) : Tb size (rowsL l) ∧ szs (rowsL l) = l.length := by
  obtain ⟨q1, q2⟩ := fold_put l [] L.bd (.nil _) (by have := L.len; show 0 + l.length ≤ 40; omega)
  have e : szs (rowsL l) = l.length := by
    refine q2.trans ?_
    show 0 + l.length = l.length
    omega
  exact ⟨q1.tb L.s0 L.s1 (by have := L.len; show szs (rowsL l) ≤ 40; omega), e⟩
def placesL (l : List Int) : List (List Int) := (grK l l.length).2
theorem grown_ {l : List Int} (hl : l.length ≤ 900) : S_grown a [.tup (nis l)] = DL.M.ret (.val (.tup [.lst ((rowsL l).map rowT), .lst ((placesL l).map rowT)])) := by
  obtain ⟨δ', q, u, v, w, R0, e, hR⟩ := for_ret0 (tg := tgS [(tgN 3), (tgN 4)]) (body := bGr a) (l := enumD 0 (nis l)) (fun k δ => ∃ (u v w R0 : Sl), δ = [.val (.tup (nis l)), R0, .own ((grK l k).2.map rowT), u, v, w] ∧ ((R0 = .own [] ∧ (grK l k).1 = []) ∨ R0 = .val (.lst ((grK l k).1.map rowT)))) (fun k d δ hd ⟨u, v, w, R0, e, hR⟩ => by
    obtain ⟨x, hx, rfl⟩ := enum_at hd
    have hk : k < l.length := (List.getElem?_eq_some_iff.mp hx).1
    have O := grK_ok l k (by omega)
    subst e
    refine ⟨_, _, rfl, bgr_at (rs := (grK l k).1) (P := (grK l k).2) O (by omega) hR, ?_⟩
    rw [grK_s hx]
    exact ⟨_, _, _, _, rfl, .inr rfl⟩) (δ := [.val (.tup (nis l)), .own [], .own [], .non, .non, .non]) ⟨_, _, _, _, rfl, .inl ⟨rfl, rfl⟩⟩
  have hle : (enumD 0 (nis l)).length = l.length := by rw [enumD_len, List.length_map]
  rw [hle] at e hR
  have hr : (grK l l.length).1 = rowsL l := by rw [grK_rows l _ (Nat.le_refl _), List.take_length]
  rw [hr] at hR
  subst e
  unfold S_grown
  simp only [bnd_ret, bnd_nn, bnd_rse, bnd_ite, bnd_bnd, semOf, gSeq, gNx, gSet, gDrop, gRet, gRetV, gRetN, gIf, gBk, gCt, gFrz, frz, gApp, gExt, gSetI, gAsg, gPar, gPop, gSetPop, gAppPop, gRaise, gFld, cVar, vVar, cC, toV, bin, una, aNil, aCons, cTup, cLst, rNil, rCons, setAll, addD, subD, negD, cmpD, notD, cCall, cMeth, cMeth0, cMake, objR, tV, truD, tNotD, tAndD, tOrD, tBl, andV, orV, cIf, chain, oNone, oSome, cSl, slD, ixD, lenD, tupleD, listD, cDict, tgN, tgS, tgT, tgs, wSeq, wEn, R.sl, R.d, Sl.isIns, oneIns, List.getElem?_cons_zero, List.getElem?_cons_succ, List.getElem?_nil, List.set_cons_zero, List.set_cons_succ, List.map_cons, List.map_nil, List.length_cons, List.length_nil, List.nil_append, List.cons_append, List.append_nil, List.replicate, List.all_cons, List.all_nil, Nat.reduceSub, Nat.reduceAdd, Nat.reduceLeDiff, Nat.reduceLT, Nat.reduceEqDiff, if_true, if_false, ite_true, ite_false, Bool.not_true, Bool.not_false, Bool.true_and, Bool.and_true, Bool.false_and, Bool.and_false, Bool.true_or, Bool.or_true, Bool.false_or, Bool.or_false, decide_true, decide_false, Bool.false_eq_true, reduceCtorEq, true_and, and_true, List.mem_cons_self, gFor]
  rw [q]
  rcases hR with ⟨rfl, h⟩ | rfl
  · rw [h]
    rfl
  · rfl
theorem fldW {cs : List Addr} (h : a.w_Word ∈ cs) (size : Int) (l : List Int) : fldsD cs "size" (wordD a size l) = DL.M.ret (.val (.int size)) ∧ fldsD cs "letters" (wordD a size l) = DL.M.ret (.val (.tup (nis l))) := by
  exact ⟨by rw [fld_size, if_pos h], by rw [fld_letters, if_pos h]⟩
theorem fldWs {cs : List Addr} {size : Int} {l : List Int} (h : a.w_Word ∈ cs) : fldsD cs "size" (wordD a size l) = DL.M.ret (.val (.int size)) := (fldW h size l).1
theorem fldWl {cs : List Addr} {size : Int} {l : List Int} (h : a.w_Word ∈ cs) : fldsD cs "letters" (wordD a size l) = DL.M.ret (.val (.tup (nis l))) := (fldW h size l).2
theorem bumped_ {size : Int} {l : List Int} (L : Lt size l) : S_bumped a [wordD a size l] = DL.M.ret (.val (tabD a size (rowsL l))) := by
  have hl := L.len
  have g := grown_ (a := a) (l := l) (by omega)
  have mk := make_table (a := a) (d := .lst ((rowsL l).map rowT)) (ds := (rowsL l).map rowT) (rs := rowsL l) ⟨.inl rfl, List.length_map .., fun k x r e e' => by
    rw [List.getElem?_map, e'] at e
    cases e
    exact .inr rfl⟩ (rowsL_tb L).1
  have i0 : L2.atI [Dt.lst ((rowsL l).map rowT), .lst ((placesL l).map rowT)] 0 = some (.lst ((rowsL l).map rowT)) := rfl
  unfold S_bumped
  generalize hw : wordD a size l = w
  simp only [bnd_ret, bnd_nn, bnd_rse, bnd_ite, bnd_bnd, semOf, gSeq, gNx, gSet, gDrop, gRet, gRetV, gRetN, gIf, gBk, gCt, gFrz, frz, gApp, gExt, gSetI, gAsg, gPar, gPop, gSetPop, gAppPop, gRaise, gFld, cVar, vVar, cC, toV, bin, una, aNil, aCons, cTup, cLst, rNil, rCons, setAll, addD, subD, negD, cmpD, notD, cCall, cMeth, cMeth0, cMake, objR, tV, truD, tNotD, tAndD, tOrD, tBl, andV, orV, cIf, chain, oNone, oSome, cSl, slD, ixD, lenD, tupleD, listD, cDict, tgN, tgS, tgT, tgs, wSeq, wEn, R.sl, R.d, Sl.isIns, oneIns, List.getElem?_cons_zero, List.getElem?_cons_succ, List.getElem?_nil, List.set_cons_zero, List.set_cons_succ, List.map_cons, List.map_nil, List.length_cons, List.length_nil, List.nil_append, List.cons_append, List.append_nil, List.replicate, List.all_cons, List.all_nil, Nat.reduceSub, Nat.reduceAdd, Nat.reduceLeDiff, Nat.reduceLT, Nat.reduceEqDiff, if_true, if_false, ite_true, ite_false, Bool.not_true, Bool.not_false, Bool.true_and, Bool.and_true, Bool.false_and, Bool.and_false, Bool.true_or, Bool.or_true, Bool.false_or, Bool.or_false, decide_true, decide_false, Bool.false_eq_true, reduceCtorEq, true_and, and_true, List.mem_cons_self]
  subst hw
  rw [fldWl, fldWs]
  · simp only [bnd_ret, bnd_nn, bnd_rse, bnd_ite, bnd_bnd, semOf, gSeq, gNx, gSet, gDrop, gRet, gRetV, gRetN, gIf, gBk, gCt, gFrz, frz, gApp, gExt, gSetI, gAsg, gPar, gPop, gSetPop, gAppPop, gRaise, gFld, cVar, vVar, cC, toV, bin, una, aNil, aCons, cTup, cLst, rNil, rCons, setAll, addD, subD, negD, cmpD, notD, cCall, cMeth, cMeth0, cMake, objR, tV, truD, tNotD, tAndD, tOrD, tBl, andV, orV, cIf, chain, oNone, oSome, cSl, slD, ixD, lenD, tupleD, listD, cDict, tgN, tgS, tgT, tgs, wSeq, wEn, R.sl, R.d, Sl.isIns, oneIns, List.getElem?_cons_zero, List.getElem?_cons_succ, List.getElem?_nil, List.set_cons_zero, List.set_cons_succ, List.map_cons, List.map_nil, List.length_cons, List.length_nil, List.nil_append, List.cons_append, List.append_nil, List.replicate, List.all_cons, List.all_nil, Nat.reduceSub, Nat.reduceAdd, Nat.reduceLeDiff, Nat.reduceLT, Nat.reduceEqDiff, if_true, if_false, ite_true, ite_false, Bool.not_true, Bool.not_false, Bool.true_and, Bool.and_true, Bool.false_and, Bool.and_false, Bool.true_or, Bool.or_true, Bool.false_or, Bool.or_false, decide_true, decide_false, Bool.false_eq_true, reduceCtorEq, true_and, and_true, List.mem_cons_self, g, i0, mk]
    rfl
  all_goals simp
end Dg
set_option maxHeartbeats 0
set_option pp.maxSteps 3000
namespace Dg
open PySem DL LwM
variable {a : Adr} {T : List (Addr × Str)}
theorem rowIns_cnt (x : Int) : ∀ {r : List Int}, r.Pairwise (· ≤ ·) → rowIns x r = (r[cnt r x]?, if cnt r x < r.length then r.set (cnt r x) x else r ++ [x])
  | [], _ => rfl
  | y :: r, h => by
    obtain ⟨h1, h2⟩ := List.pairwise_cons.mp h
    by_cases hy : x < y
    · have e : cnt (y :: r) x = 0 := by
        unfold cnt
        rw [List.length_eq_zero_iff, List.filter_eq_nil_iff]
        intro z hz
        rcases List.mem_cons.mp hz with rfl | hz
        · simpa using hy
        · have := h1 z hz
          simp
          omega
      rw [rowIns_lt hy, e]
      rfl
    · have e : cnt (y :: r) x = cnt r x + 1 := by
        unfold cnt
        rw [List.filter_cons_of_pos (by simp; omega), List.length_cons]
      have ih := rowIns_cnt x h2
      show (if x < y then (some y, x :: r) else ((rowIns x r).1, y :: (rowIns x r).2)) = _
      rw [if_neg hy, ih, e]
      by_cases hc : cnt r x < r.length
      · rw [if_pos hc, if_pos (by rw [List.length_cons]; omega)]
        rfl
      · rw [if_neg hc, if_neg (by rw [List.length_cons]; omega)]
        rfl
theorem insT_put : ∀ {rs : List (List Int)} (x : Int), (∀ r ∈ rs, r ≠ [] ∧ r.Pairwise (· ≤ ·)) → insT x rs = putL rs x
  | [], _, _ => rfl
  | r :: rs, x, h => by
    obtain ⟨h1, h2⟩ := h r (List.mem_cons_self ..)
    have e := rowIns_cnt x h2
    rw [insT_cons, e]
    by_cases hy : x < lst r
    · have hc := cnt_lt h1 hy
      have hz : r[cnt r x]? = some (outR r x) := by
        unfold outR
        rw [List.getElem?_eq_getElem hc]
        rfl
      have p1 : putL (r :: rs) x = swapR r x :: putL rs (outR r x) := if_pos hy
      rw [p1, hz, if_pos hc, swap_set hc]
      show r.set (cnt r x) x :: insT (outR r x) rs = _
      rw [insT_put (outR r x) fun s hs => h s (List.mem_cons_of_mem _ hs)]
    · have hc : ¬ cnt r x < r.length := fun hc => by
        have q : r[cnt r x]? = some r[cnt r x] := List.getElem?_eq_getElem hc
        have q1 := cnt_hi h2 q (Nat.le_refl _)
        have q2 := asc_at h2 q (lst_at h1) (by omega)
        omega
      have p1 : putL (r :: rs) x = (r ++ [x]) :: rs := if_neg hy
      rw [p1, if_neg hc, List.getElem?_eq_none (by omega)]
theorem Ch.asc {size : Int} {up : List Int} {rs : List (List Int)} (C : Ch size up rs) : ∀ r ∈ rs, r ≠ [] ∧ r.Pairwise (· ≤ ·) := by
  induction C with
  | nil => intro r h; cases h
  | cons S C ih =>
    intro r h
    rcases List.mem_cons.mp h with rfl | h
    · exact ⟨S.ne, S.asc⟩
    · exact ih r h
theorem tab_rows {size : Int} {l : List Int} (h : ∀ x ∈ l, 1 ≤ x ∧ x ≤ size) (hl : l.length ≤ 40) : tabL l = rowsL l := by
  have key : ∀ k, k ≤ l.length → tabL (l.take k) = rowsL (l.take k) := by
    intro k
    induction k with
    | zero => intro _; rfl
    | succ k ih =>
      intro hk
      have hx : l[k]? = some l[k] := List.getElem?_eq_getElem hk
      obtain ⟨q1, _⟩ := fold_put (l.take k) [] (fun x hx => h x (List.mem_of_mem_take hx)) (.nil _) (by show 0 + (l.take k).length ≤ 40; rw [List.length_take]; omega)
      rw [List.take_add_one, hx]
      show tabL (l.take k ++ [l[k]]) = rowsL (l.take k ++ [l[k]])
      rw [tabL_snoc, ih (by omega)]
      unfold rowsL
      rw [List.foldl_append, insT_put _ q1.asc]
      rfl
  have := key l.length (Nat.le_refl _)
  rwa [List.take_length] at this
theorem fldT {cs : List Addr} {size : Int} {rs : List (List Int)} (h : a.w_Table ∈ cs) : fldsD cs "size" (tabD a size rs) = DL.M.ret (.val (.int size)) ∧ fldsD cs "rows" (tabD a size rs) = DL.M.ret (.val (.tup (rs.map rowT))) ∧ fldsD cs "shape" (tabD a size rs) = DL.M.ret (.val (.tup (nis (lens rs)))) := by
  unfold fldsD tabD
  simp only [if_pos h]
  exact ⟨rfl, rfl, rfl⟩
theorem fldTs {cs : List Addr} {size : Int} {rs : List (List Int)} (h : a.w_Table ∈ cs) : fldsD cs "size" (tabD a size rs) = DL.M.ret (.val (.int size)) := (fldT h).1
theorem fldTr {cs : List Addr} {size : Int} {rs : List (List Int)} (h : a.w_Table ∈ cs) : fldsD cs "rows" (tabD a size rs) = DL.M.ret (.val (.tup (rs.map rowT))) := (fldT h).2.1
theorem fldTh {cs : List Addr} {size : Int} {rs : List (List Int)} (h : a.w_Table ∈ cs) : fldsD cs "shape" (tabD a size rs) = DL.M.ret (.val (.tup (nis (lens rs)))) := (fldT h).2.2
theorem flat_len (rs : List (List Int)) : rs.flatten.length = szs rs := List.length_flatten
end Dg
set_option maxHeartbeats 0
set_option pp.maxSteps 3000
namespace Dg
open PySem DL LwM
variable {a : Adr} {T : List (Addr × Str)}
structure Sp (size : Int) (sh : List Int) : Prop where
  s0 : 2 ≤ size
  s1 : size ≤ 6
  len : (sh.length : Int) ≤ size
  bd : ∀ (k : Nat) (x : Int), sh[k]? = some x → 1 ≤ x ∧ x ≤ (if k = 0 then 40 else sh[k - 1]?.getD 0)
  sum : sh.sum ≤ 40
end Dg
set_option maxHeartbeats 0
set_option pp.maxSteps 3000
namespace Dg
open PySem DL LwM
variable {a : Adr} {T : List (Addr × Str)}
theorem Ch.few {size : Int} {up : List Int} {rs : List (List Int)} (C : Ch size up rs) : ∀ u, up[0]? = some u → u ≤ size → (rs.length : Int) ≤ size - u := by
  induction C with
  | nil => intro u _ h; show (0 : Int) ≤ _; omega
  | @cons up r rs S C ih =>
    intro u hu _
    have h0 : 0 < r.length := List.length_pos_iff.mpr S.ne
    have e : r[0]? = some r[0] := List.getElem?_eq_getElem h0
    have h1 := S.col 0 _ u e hu
    have h2 := (S.bd _ (List.mem_of_getElem? e)).2
    have := ih r[0] e h2
    rw [List.length_cons]
    omega
theorem rowsL_ch {size : Int} {l : List Int} (L : Lt size l) : Ch size (List.replicate 40 0) (rowsL l) :=
  (fold_put l [] L.bd (.nil _) (by have := L.len; show 0 + l.length ≤ 40; omega)).1
end Dg
set_option maxHeartbeats 0
set_option pp.maxSteps 3000
namespace Dg
open PySem DL LwM
variable {a : Adr} {T : List (Addr × Str)}
structure Sp0 (most : Int) (sh : List Int) : Prop where
  bd : ∀ (k : Nat) (x : Int), sh[k]? = some x → 1 ≤ x ∧ x ≤ (if k = 0 then 40 else sh[k - 1]?.getD 0)
theorem Sp0.snoc {most z : Int} {sh : List Int} (S : Sp0 most sh) (z0 : 1 ≤ z) (z1 : z ≤ 40) (z2 : sh ≠ [] → z ≤ lst sh) : Sp0 most (sh ++ [z]) := ⟨fun k x hx => by
  by_cases hk : k < sh.length
  · rw [List.getElem?_append_left hk] at hx
    obtain ⟨h1, h2⟩ := S.bd k x hx
    refine ⟨h1, ?_⟩
    by_cases h0 : k = 0
    · rw [if_pos h0] at h2 ⊢; exact h2
    · rw [if_neg h0] at h2 ⊢
      rw [List.getElem?_append_left (by omega)]
      exact h2
  · have hl := (List.getElem?_eq_some_iff.mp hx).1
    rw [List.length_append, List.length_singleton] at hl
    have e : k = sh.length := by omega
    subst e
    rw [List.getElem?_append_right (Nat.le_refl _), Nat.sub_self] at hx
    cases hx
    refine ⟨z0, ?_⟩
    by_cases h0 : sh.length = 0
    · rw [if_pos h0]; exact z1
    · have hne : sh ≠ [] := fun e => h0 (by rw [e]; rfl)
      rw [if_neg h0, List.getElem?_append_left (by omega), lst_at hne]
      exact z2 hne⟩
theorem Sp0.last {most : Int} {sh : List Int} (S : Sp0 most sh) (h : sh ≠ []) : 1 ≤ lst sh := (S.bd _ _ (lst_at h)).1
end Dg
set_option maxHeartbeats 0
set_option pp.maxSteps 3000
namespace Dg
open PySem DL LwM
variable {a : Adr} {T : List (Addr × Str)}
theorem isi_tb (size : Int) (rs : List (List Int)) : isiD (ocs a) [.own a.w_Table] (tabD a size rs) = DL.M.ret (.val (.bl true)) := by
  simp [isiD, tstA, tst1, tyN, tabD, ocs]
abbrev pyR (rs : List (List Int)) : List PyData := rs.map fun r => .tuple (r.map PyData.int)
theorem conv_rows : ∀ rs : List (List Int), convs (rs.map rowT) = some (pyR rs)
  | [] => rfl
  | r :: rs => by
    show (match conv (rowT r), convs (rs.map rowT) with | some x, some xs => some (x :: xs) | _, _ => none) = _
    have e : conv (rowT r) = some (.tuple (r.map PyData.int)) := by
      show (convs (nis r)).map PyData.tuple = _
      rw [conv_nis]
      rfl
    rw [e, conv_rows rs]
    rfl
theorem eqv_rows : ∀ r1 r2 : List (List Int), PyData.eqvAll (pyR r1) (pyR r2) = decide (r1 = r2)
  | [], [] => by simp [PyData.eqvAll]
  | [], r :: rs => by simp [PyData.eqvAll]
  | r :: rs, [] => by simp [PyData.eqvAll]
  | r :: rs, q :: qs => by
    show PyData.eqvAll (.tuple (r.map PyData.int) :: pyR rs) (.tuple (q.map PyData.int) :: pyR qs) = _
    have h := Lw.eqv_nums r q
    have h : PyData.eqv (.tuple (r.map PyData.int)) (.tuple (q.map PyData.int)) = decide (r = q) := by simpa [PyData.eqv] using h
    simp only [PyData.eqvAll]
    rw [eqv_rows rs qs, h]
    by_cases e1 : r = q <;> by_cases e2 : rs = qs <;> simp [e1, e2]
theorem lay_rows : ∀ rs : List (List Int), PyData.canLayAll0 (pyR rs) = true ∧ PyData.depthAll (pyR rs) ≤ 1
  | [] => by simp [PyData.canLayAll0, PyData.depthAll]
  | r :: rs => by
    obtain ⟨h1, h2⟩ := lay_rows rs
    have h := Lw.lay_nums r
    constructor
    · show PyData.canLayAll0 (.tuple (r.map PyData.int) :: pyR rs) = true
      simp [PyData.canLayAll0, PyData.canLay0, h.1, h1]
    · show PyData.depthAll (.tuple (r.map PyData.int) :: pyR rs) ≤ 1
      simp only [PyData.depthAll, PyData.depth, h.2]
      omega
theorem shaped_rows (rs : List (List Int)) : SeqAt.shaped (.tuple (pyR rs)) = true := by
  obtain ⟨h1, h2⟩ := lay_rows rs
  unfold SeqAt.shaped
  rw [show PyData.canLay0 (.tuple (pyR rs)) = PyData.canLayAll0 (pyR rs) from by simp [PyData.canLay0], h1, Bool.true_and]
  exact decide_eq_true (by simp only [PyData.depth]; omega)
theorem eq_rr (neg : Bool) (r1 r2 : List (List Int)) : eqG neg (.tup (r1.map rowT)) (.tup (r2.map rowT)) = DL.M.ret (.val (.bl (neg ^^ decide (r1 = r2)))) := by
  refine (eqG_def _ _ _ (fun _ h => by cases h)).trans ?_
  rw [if_neg (by simp [kneD])]
  unfold eqD
  have c : ∀ rs : List (List Int), conv (.tup (rs.map rowT)) = some (.tuple (pyR rs)) := fun rs => by
    show (convs (rs.map rowT)).map PyData.tuple = _
    rw [conv_rows]
    rfl
  have e : PyData.eqv (.tuple (pyR r1)) (.tuple (pyR r2)) = decide (r1 = r2) := by
    rw [← eqv_rows]
    simp [PyData.eqv]
  rw [c, c]
  simp only [shaped_rows, Bool.and_self, if_true, e]
abbrev rowL (r : List Int) : Dt := .lst (nis r)
theorem tab_eq {s1 s2 : Int} {r1 r2 : List (List Int)} : S_Table_eq a [tabD a s1 r1, tabD a s2 r2] = DL.M.ret (.val (.bl (decide (s1 = s2 ∧ r1 = r2)))) := by
  have i := isi_tb (a := a) s2 r2
  unfold S_Table_eq
  generalize h1 : tabD a s1 r1 = d1 at *
  generalize h2 : tabD a s2 r2 = d2 at *
  simp only [bnd_ret, bnd_nn, bnd_rse, bnd_ite, bnd_bnd, semOf, gSeq, gNx, gSet, gDrop, gRet, gRetV, gRetN, gIf, gBk, gCt, gFrz, frz, gApp, gExt, gSetI, gAsg, gPar, gPop, gSetPop, gAppPop, gRaise, gFld, cVar, vVar, cC, toV, bin, una, aNil, aCons, cTup, cLst, rNil, rCons, setAll, addD, subD, negD, cmpD, notD, cCall, cMeth, cMeth0, cMake, objR, tV, truD, tNotD, tAndD, tOrD, tBl, andV, orV, cIf, chain, oNone, oSome, cSl, slD, ixD, lenD, tupleD, listD, cDict, tgN, tgS, tgT, tgs, wSeq, wEn, R.sl, R.d, Sl.isIns, oneIns, List.getElem?_cons_zero, List.getElem?_cons_succ, List.getElem?_nil, List.set_cons_zero, List.set_cons_succ, List.map_cons, List.map_nil, List.length_cons, List.length_nil, List.nil_append, List.cons_append, List.append_nil, List.replicate, List.all_cons, List.all_nil, Nat.reduceSub, Nat.reduceAdd, Nat.reduceLeDiff, Nat.reduceLT, Nat.reduceEqDiff, if_true, if_false, ite_true, ite_false, Bool.not_true, Bool.not_false, Bool.true_and, Bool.and_true, Bool.false_and, Bool.and_false, Bool.true_or, Bool.or_true, Bool.false_or, Bool.or_false, decide_true, decide_false, Bool.false_eq_true, reduceCtorEq, true_and, and_true, List.mem_cons_self, i]
  subst h1 h2
  rw [fldTs (by simp), fldTs (by simp), fldTr (by simp), fldTr (by simp)]
  simp only [bnd_ret, bnd_nn, bnd_rse, bnd_ite, bnd_bnd, semOf, gSeq, gNx, gSet, gDrop, gRet, gRetV, gRetN, gIf, gBk, gCt, gFrz, frz, gApp, gExt, gSetI, gAsg, gPar, gPop, gSetPop, gAppPop, gRaise, gFld, cVar, vVar, cC, toV, bin, una, aNil, aCons, cTup, cLst, rNil, rCons, setAll, addD, subD, negD, cmpD, notD, cCall, cMeth, cMeth0, cMake, objR, tV, truD, tNotD, tAndD, tOrD, tBl, andV, orV, cIf, chain, oNone, oSome, cSl, slD, ixD, lenD, tupleD, listD, cDict, tgN, tgS, tgT, tgs, wSeq, wEn, R.sl, R.d, Sl.isIns, oneIns, List.getElem?_cons_zero, List.getElem?_cons_succ, List.getElem?_nil, List.set_cons_zero, List.set_cons_succ, List.map_cons, List.map_nil, List.length_cons, List.length_nil, List.nil_append, List.cons_append, List.append_nil, List.replicate, List.all_cons, List.all_nil, Nat.reduceSub, Nat.reduceAdd, Nat.reduceLeDiff, Nat.reduceLT, Nat.reduceEqDiff, if_true, if_false, ite_true, ite_false, Bool.not_true, Bool.not_false, Bool.true_and, Bool.and_true, Bool.false_and, Bool.and_false, Bool.true_or, Bool.or_true, Bool.false_or, Bool.or_false, decide_true, decide_false, Bool.false_eq_true, reduceCtorEq, true_and, and_true, List.mem_cons_self, eq_ii, eq_rr, Bool.false_xor]
  by_cases e : s1 = s2
  · by_cases e2 : r1 = r2 <;> simp [e, e2]
  · simp [e]
noncomputable abbrev eqT (a : Adr) (neg : Bool) : Dt → Dt → DL.M R := orOp (objL a.w_Table) (eqAn (ocs a) a.w_Table neg (S_Table_eq a)) (eqG neg)
theorem eqT_g (neg : Bool) {d e : Dt} (h : ∀ C ns l, d ≠ .obj C ns l) : eqT a neg d e = eqG neg d e := by
  have c : objL a.w_Table d e = false := by
    unfold objL isObj
    cases d <;> first | rfl | exact absurd rfl (h _ _ _)
  unfold eqT orOp
  rw [c]
  rfl
theorem eqT_t (neg : Bool) {l : List Dt} {e : Dt} : eqT a neg (.tup l) e = eqG neg (.tup l) e := eqT_g neg fun _ _ _ h => by cases h
theorem rowT_tx {r : List Int} (h : ∀ x ∈ r, x.natAbs ≤ 100000) (hl : r.length ≤ 100) : Tx 1 2003 (rowT r) := (Tx.tup (Txs.ints h)).mono (by omega) (by omega)
end Dg
set_option maxHeartbeats 0
set_option pp.maxSteps 3000
namespace Dg
open PySem DL LwM
variable {a : Adr} {T : List (Addr × Str)}
structure Tc (size : Int) (rs : List (List Int)) : Prop where
  s0 : 2 ≤ size
  s1 : size ≤ 6
  ch : Ch size (List.replicate 40 0) rs
  sum : szs rs ≤ 40
theorem Tc.tb {size : Int} {rs : List (List Int)} (C : Tc size rs) : Tb size rs := C.ch.tb C.s0 C.s1 C.sum
theorem Tc.rows {size : Int} {rs : List (List Int)} (C : Tc size rs) : (rs.length : Int) ≤ size := by
  have := C.ch.few 0 rfl (by have := C.s0; omega)
  omega
theorem Tc.small {size : Int} {rs : List (List Int)} (C : Tc size rs) : ∀ r ∈ rs, r.length ≤ 40 ∧ r ≠ [] ∧ ∀ x ∈ r, 1 ≤ x ∧ x ≤ size := fun r hr => by
  obtain ⟨k, hk⟩ := List.mem_iff_getElem?.mp hr
  have S := C.tb.bel k r hk
  refine ⟨?_, S.ne, S.bd⟩
  have h1 := (List.sublist_flatten_of_mem hr).length_le
  have h2 := flat_len rs
  have h3 := C.sum
  omega
theorem Lt.tc {size : Int} {l : List Int} (L : Lt size l) : Tc size (rowsL l) := ⟨L.s0, L.s1, rowsL_ch L, by rw [(rowsL_tb L).2]; exact L.len⟩
theorem Tc.lt {size : Int} {rs : List (List Int)} (C : Tc size rs) : Lt size rs.reverse.flatten := ⟨C.s0, C.s1, by
    have h := flat_len rs.reverse
    have h2 : szs rs.reverse = szs rs := by unfold szs; rw [List.map_reverse, List.sum_reverse]
    have h3 := C.sum
    omega, fun x hx => by
    obtain ⟨r, hr, hx⟩ := List.mem_flatten.mp hx
    exact (C.small r (List.mem_reverse.mp hr)).2.2 x hx⟩
theorem Tc.tx {size : Int} {rs : List (List Int)} (C : Tc size rs) : Tx 3 20000 (.tup [.int size, .tup (rs.map rowT), .tup (nis (lens rs))]) := by
  have h1 := C.rows
  have h2 := C.s1
  have h3 := C.s0
  have hl : rs.length ≤ 6 := by omega
  have t1 : Tx 2 12100 (.tup (rs.map rowT)) := (Tx.tup (Txs.all (n := 1) (w := 2003) fun d hd => by
    obtain ⟨r, hr, rfl⟩ := List.mem_map.mp hd
    obtain ⟨b1, _, b2⟩ := C.small r hr
    exact rowT_tx (fun x hx => by have := b2 x hx; omega) (by omega))).mono (by omega) (by rw [List.length_map]; omega)
  have t2 : Tx 1 123 (.tup (nis (lens rs))) := tx_nis (fun x hx => by
    obtain ⟨r, hr, rfl⟩ := List.mem_map.mp hx
    have := (C.small r hr).1
    omega) 6 (by rw [List.length_map]; exact hl)
  exact (Tx.tup (.cons (Tx.int (z := size) (by omega)) (.cons t1 (.cons t2 .nil)))).mono (by omega) (by omega)
theorem is_table {size : Int} {d : Dt} {ds : List Dt} {rs : List (List Int)} (h : isRows d ds rs) (C : Tc size rs) : S__law_is_table a [tabD a size rs, .int size, d] = DL.M.ret (.val (.bl true)) := by
  have hl : ds.length ≤ 100000 := by have h1 := C.rows; have h2 := C.s1; rw [h.len]; omega
  have i := isi_tb (a := a) size rs
  obtain ⟨s, hs⟩ := C.tx.repr (by decide) (by decide)
  have c1 : ∀ x3 x4, cLc (wSeq (vVar 2)) (tgN 4) tYesD (una (vVar 4) tupleD) [4] [.val (tabD a size rs), .val (.int size), .val d, x3, x4] = DL.M.ret (.new (rs.map rowT)) := fun x3 x4 => lc_rows h (by rcases h.top with rfl | rfl <;> rfl) hl rowT fun x r hx _ => ⟨_, rfl, .val (rowT r), by
    show DL.M.bnd (DL.M.ret x) tupleD = _
    rw [bnd_ret]
    exact hx.lt.2.2.2, rfl⟩
  have c2 : ∀ x3 x4, cLc (wSeq (vVar 2)) (tgN 4) tYesD (una (vVar 4) lenD) [4] [.val (tabD a size rs), .val (.int size), .val d, x3, x4] = DL.M.ret (.new (nis (lens rs))) := fun x3 x4 => lc_lens (j := 4) h (by rcases h.top with rfl | rfl <;> rfl) hl (by simp [wipeD])
  have f1 : ∀ cs, a.w_Table ∈ cs → _ := fun cs hc => fldTs (a := a) (cs := cs) (size := size) (rs := rs) hc
  have f2 : ∀ cs, a.w_Table ∈ cs → _ := fun cs hc => fldTr (a := a) (cs := cs) (size := size) (rs := rs) hc
  have f3 : ∀ cs, a.w_Table ∈ cs → _ := fun cs hc => fldTh (a := a) (cs := cs) (size := size) (rs := rs) hc
  unfold S__law_is_table
  generalize tabD a size rs = td at *
  simp only [bnd_ret, bnd_nn, bnd_rse, bnd_ite, bnd_bnd, semOf, gSeq, gNx, gSet, gDrop, gRet, gRetV, gRetN, gIf, gBk, gCt, gFrz, frz, gApp, gExt, gSetI, gAsg, gPar, gPop, gSetPop, gAppPop, gRaise, gFld, cVar, vVar, cC, toV, bin, una, aNil, aCons, cTup, cLst, rNil, rCons, setAll, addD, subD, negD, cmpD, notD, cCall, cMeth, cMeth0, cMake, objR, tV, truD, tNotD, tAndD, tOrD, tBl, andV, orV, cIf, chain, oNone, oSome, cSl, slD, ixD, lenD, tupleD, listD, cDict, tgN, tgS, tgT, tgs, wSeq, wEn, R.sl, R.d, Sl.isIns, oneIns, List.getElem?_cons_zero, List.getElem?_cons_succ, List.getElem?_nil, List.set_cons_zero, List.set_cons_succ, List.map_cons, List.map_nil, List.length_cons, List.length_nil, List.nil_append, List.cons_append, List.append_nil, List.replicate, List.all_cons, List.all_nil, Nat.reduceSub, Nat.reduceAdd, Nat.reduceLeDiff, Nat.reduceLT, Nat.reduceEqDiff, if_true, if_false, ite_true, ite_false, Bool.not_true, Bool.not_false, Bool.true_and, Bool.and_true, Bool.false_and, Bool.and_false, Bool.true_or, Bool.or_true, Bool.false_or, Bool.or_false, decide_true, decide_false, Bool.false_eq_true, reduceCtorEq, true_and, and_true, List.mem_cons_self, i, c1, c2, hs]
  rw [f1 _ (by simp), f2 _ (by simp), f3 _ (by simp)]
  simp only [bnd_ret, bnd_nn, bnd_rse, bnd_ite, bnd_bnd, semOf, gSeq, gNx, gSet, gDrop, gRet, gRetV, gRetN, gIf, gBk, gCt, gFrz, frz, gApp, gExt, gSetI, gAsg, gPar, gPop, gSetPop, gAppPop, gRaise, gFld, cVar, vVar, cC, toV, bin, una, aNil, aCons, cTup, cLst, rNil, rCons, setAll, addD, subD, negD, cmpD, notD, cCall, cMeth, cMeth0, cMake, objR, tV, truD, tNotD, tAndD, tOrD, tBl, andV, orV, cIf, chain, oNone, oSome, cSl, slD, ixD, lenD, tupleD, listD, cDict, tgN, tgS, tgT, tgs, wSeq, wEn, R.sl, R.d, Sl.isIns, oneIns, List.getElem?_cons_zero, List.getElem?_cons_succ, List.getElem?_nil, List.set_cons_zero, List.set_cons_succ, List.map_cons, List.map_nil, List.length_cons, List.length_nil, List.nil_append, List.cons_append, List.append_nil, List.replicate, List.all_cons, List.all_nil, Nat.reduceSub, Nat.reduceAdd, Nat.reduceLeDiff, Nat.reduceLT, Nat.reduceEqDiff, if_true, if_false, ite_true, ite_false, Bool.not_true, Bool.not_false, Bool.true_and, Bool.and_true, Bool.false_and, Bool.and_false, Bool.true_or, Bool.or_true, Bool.false_or, Bool.or_false, decide_true, decide_false, Bool.false_eq_true, reduceCtorEq, true_and, and_true, List.mem_cons_self, hs, eq_ss, Bool.false_xor]
theorem Sb.drop {size : Int} {r up : List Int} (S : Sb size r up) {m : Nat} (h : m < r.length) : Sb size (r.drop m) (up.drop m) :=
  ⟨fun e => by have := congrArg List.length e; rw [List.length_drop] at this; simp at this; omega, by have := S.len; rw [List.length_drop, List.length_drop]; omega, fun x hx => S.bd x (List.mem_of_mem_drop hx), S.asc.sublist (List.drop_sublist _ _), fun k x y hx hy => by
    rw [List.getElem?_drop] at hx hy
    exact S.col _ x y hx hy⟩
theorem Ch.le {size : Int} {up : List Int} {rs : List (List Int)} (C : Ch size up rs) : ∀ r ∈ rs, r.length ≤ up.length := by
  induction C with
  | nil => intro r h; cases h
  | cons S C ih =>
    intro r h
    rcases List.mem_cons.mp h with rfl | h
    · exact S.len
    · exact Nat.le_trans (ih r h) S.len
theorem isRows.lstT (rs : List (List Int)) : isRows (.lst (rs.map rowT)) (rs.map rowT) rs := ⟨.inl rfl, List.length_map .., fun k x r e e' => by
  rw [List.getElem?_map, e'] at e
  cases e
  exact .inr rfl⟩
end Dg
set_option maxHeartbeats 0
set_option pp.maxSteps 3000
namespace Dg
open PySem DL LwM
variable {a : Adr} {T : List (Addr × Str)}
theorem Tx.str {x : Str} (h : (PyData.str x).showable = true) : Tx 0 (PyData.str x).shown.length (.str x) := ⟨.str x, rfl, h, Nat.le_refl _, Nat.le_refl _⟩
end Dg
set_option maxHeartbeats 0
set_option pp.maxSteps 3000
namespace Dg
open PySem DL LwM
variable {a : Adr} {T : List (Addr × Str)}
theorem ints_nis : ∀ l : List Int, intsD (nis l) = some l
  | [] => rfl
  | x :: l => by
    show (intsD (nis l)).map (x :: ·) = _
    rw [ints_nis l]
    rfl
theorem law_rows_ {size : Int} {l : List Int} (L : Lt size l) : S__law_rows a [.lst (nis l)] = DL.M.ret (.new ((rowsL l).map fun r => .lst (nis r))) := by
  have hl : l.length ≤ 40 := by have := L.len; omega
  have hb : ∀ x ∈ l, 1 ≤ x ∧ x ≤ 6 := fun x hx => ⟨(L.bd x hx).1, Int.le_trans (L.bd x hx).2 L.s1⟩
  show rowsS [.lst (nis l)] = _
  unfold rowsS
  simp only [ints_nis]
  rw [if_pos ⟨hl, hb⟩, tab_rows L.bd hl]
end Dg
namespace DL
open PySem
variable {T : List (Addr × Str)}
theorem seq_set {P : Fl → Prop} {k : Nat} {f : List Sl → M R} {g : List Sl → M Fl} {δ : List Sl} {Q : R → Prop} {c d : Int} (hc : 0 ≤ c) (hd : 0 ≤ d) (h : Dw T c (f δ) Q) (h2 : ∀ r, Q r → Dw T d (g (δ.set k r.sl)) P) : Dw T (c + d) (gSeq (gSet k f) g δ) P := by
  have : gSeq (gSet k f) g δ = M.bnd (f δ) fun r => g (δ.set k r.sl) := by
    simp only [gSeq, gSet, bnd_bnd, bnd_ret]
  rw [this]
  exact Dw.bnd hc hd h h2
theorem set_nx {k : Nat} {f : List Sl → M R} {δ : List Sl} {r : R} (h : f δ = M.ret r) : gSet k f δ = M.ret (.nx (δ.set k r.sl)) := by
  unfold gSet
  rw [h, bnd_ret]
theorem seq_nx {f g : List Sl → M Fl} {δ δ' : List Sl} (e : f δ = M.ret (.nx δ')) : gSeq f g δ = g δ' := by
  simp only [gSeq, e, bnd_ret]
theorem seq_dw {P : Fl → Prop} {f g : List Sl → M Fl} {δ : List Sl} {Q : List Sl → Prop} {c d : Int} (hc : 0 ≤ c) (hd : 0 ≤ d) (h : Dw T c (f δ) (fun r => ∃ δ', r = .nx δ' ∧ Q δ')) (h2 : ∀ δ', Q δ' → Dw T d (g δ') P) : Dw T (c + d) (gSeq f g δ) P := by
  unfold gSeq
  refine Dw.bnd hc hd h fun r hr => ?_
  obtain ⟨δ', rfl, q⟩ := hr
  exact h2 δ' q
end DL
set_option maxHeartbeats 0
set_option pp.maxSteps 3000
namespace Dg
open PySem DL LwM
variable {a : Adr} {T : List (Addr × Str)}
theorem lens_put : ∀ (rs : List (List Int)) (x : Int), (∀ r ∈ rs, r ≠ []) → ∀ k : Nat, (lens (putL rs x))[k]? = if k = putN rs x then some ((lens rs)[k]?.getD 0 + 1) else (lens rs)[k]?
  | [], x, _, k => by
    cases k with
    | zero => rfl
    | succ k => rfl
  | r :: rs, x, h, k => by
    have hr := h r (List.mem_cons_self ..)
    unfold putL putN
    by_cases hx : x < lst r
    · rw [if_pos hx, if_pos hx]
      have sl := swap_len hr hx
      have ih := lens_put rs (outR r x) (fun s hs => h s (List.mem_cons_of_mem _ hs))
      cases k with
      | zero =>
        rw [if_neg (by omega)]
        show some ((swapR r x).length : Int) = some (r.length : Int)
        rw [sl]
      | succ k =>
        show (lens (putL rs (outR r x)))[k]? = _
        rw [ih k]
        by_cases hk : k = putN rs (outR r x)
        · rw [if_pos hk, if_pos (by omega)]; rfl
        · rw [if_neg hk, if_neg (by omega)]; rfl
    · rw [if_neg hx, if_neg hx]
      cases k with
      | zero =>
        rw [if_pos rfl]
        show some ((r ++ [x]).length : Int) = some ((r.length : Int) + 1)
        rw [List.length_append, List.length_singleton]
        rfl
      | succ k =>
        rw [if_neg (by omega)]
        rfl
def grP (L0 : List Int) (d : Dt) : Bool := match d with
  | .tup [.int n, .lst l] => decide (L0[n.toNat]?.getD 0 < (l.length : Int))
  | _ => false
theorem filt_one {α : Type} (p : α → Bool) : ∀ (l : List α) (n : Nat) (x : α), l[n]? = some x → p x = true → (∀ k y, l[k]? = some y → k ≠ n → p y = false) → l.filter p = [x]
  | [], n, x, h, _, _ => by cases h
  | y :: l, 0, x, h, hp, hn => by
    cases h
    rw [List.filter_cons_of_pos hp, List.filter_eq_nil_iff.mpr fun z hz => by
      obtain ⟨k, hk⟩ := List.mem_iff_getElem?.mp hz
      rw [hn (k + 1) z hk (by omega)]
      decide]
  | y :: l, n + 1, x, h, hp, hn => by
    rw [List.filter_cons_of_neg (by rw [hn 0 y rfl (by omega)]; decide)]
    exact filt_one p l n x h hp fun k z hk hne => hn (k + 1) z hk (by omega)
theorem grow_one {rs : List (List Int)} {x : Int} (h : ∀ r ∈ rs, r ≠ []) : ((enumD 0 ((putL rs x).map rowL)).filter (grP (lens rs ++ [0]))).map enF = [Dt.int (putN rs x : Nat)] := by
  have hn := putL_n rs x
  have lk := lens_put rs x h
  have at0 : ∀ k, k ≤ rs.length → (lens rs ++ [0])[k]?.getD 0 = (lens rs)[k]?.getD 0 := fun k hk => by
    by_cases e : k < rs.length
    · rw [List.getElem?_append_left (by rw [List.length_map]; exact e)]
    · have e : k = rs.length := by omega
      have hl : (lens rs).length = rs.length := List.length_map ..
      have g1 : (lens rs ++ [0])[rs.length]? = some 0 := by rw [← hl]; simp
      have g2 : (lens rs)[rs.length]? = none := List.getElem?_eq_none (by rw [hl]; exact Nat.le_refl _)
      rw [e, g1, g2]
      rfl
  have rowAt : ∀ (k : Nat) (q : List Int), (putL rs x)[k]? = some q → (lens (putL rs x))[k]? = some (q.length : Int) := fun k q e => by rw [List.getElem?_map, e]; rfl
  have le : (putL rs x).length ≤ rs.length + 1 := putL_len rs x
  have hlt : putN rs x < (putL rs x).length := by
    rw [hn.2]
    split <;> omega
  have e0 : (putL rs x)[putN rs x]? = some (putL rs x)[putN rs x] := List.getElem?_eq_getElem hlt
  have en : ∀ (k : Nat) (y : Dt), (enumD 0 ((putL rs x).map rowL))[k]? = some y → ∃ q, (putL rs x)[k]? = some q ∧ y = .tup [.int (k : Nat), rowL q] := fun k y e => by
    obtain ⟨z, hz, rfl⟩ := enum_get e
    rw [List.getElem?_map] at hz
    obtain ⟨q, hq, rfl⟩ := Option.map_eq_some_iff.mp hz
    exact ⟨q, hq, rfl⟩
  have e1 : (enumD 0 ((putL rs x).map rowL))[putN rs x]? = some (.tup [.int (putN rs x : Nat), rowL (putL rs x)[putN rs x]]) := by
    rw [enumD_get, List.getElem?_map, e0, Nat.zero_add]
    rfl
  rw [filt_one (grP (lens rs ++ [0])) _ _ _ e1 ?_ ?_]
  · rfl
  · have h1 := lk (putN rs x)
    rw [if_pos rfl, rowAt _ _ e0] at h1
    have h1 := Option.some.inj h1
    show decide ((lens rs ++ [0])[((putN rs x : Nat) : Int).toNat]?.getD 0 < ((nis (putL rs x)[putN rs x]).length : Int)) = true
    rw [Int.toNat_natCast, at0 _ hn.1, List.length_map, h1]
    exact decide_eq_true (by omega)
  · intro k y hy hk
    obtain ⟨q, hq, rfl⟩ := en k y hy
    have h1 := lk k
    rw [if_neg hk, rowAt _ _ hq] at h1
    have hkl : k < (putL rs x).length := (List.getElem?_eq_some_iff.mp hq).1
    show decide ((lens rs ++ [0])[((k : Nat) : Int).toNat]?.getD 0 < ((nis q).length : Int)) = false
    rw [Int.toNat_natCast, at0 k (by omega), List.length_map, ← h1]
    exact decide_eq_false (by show ¬ ((q.length : Int) < (q.length : Int)); omega)
theorem Tc.put {size x : Int} {rs : List (List Int)} (C : Tc size rs) (x0 : 1 ≤ x) (x1 : x ≤ size) (hs : szs rs < 40) : Tc size (putL rs x) := by
  have hp := pos0_le (rs := rs) (x := x)
  refine ⟨C.s0, C.s1, ch_put (pos0 rs x) C.ch ⟨x0, x1⟩ (by rw [List.length_replicate]; omega) (fun k y _ hy => ?_) (Nat.le_refl _), by rw [putL_sum x C.ch.ne]; omega⟩
  rw [List.getElem?_replicate] at hy
  split at hy
  · cases hy; omega
  · cases hy
def exLt (a : Adr) : Exn := ⟨1, a.ec.of .letters, some ("place", .non)⟩
def exGt (a : Adr) : Exn := ⟨9, a.ec.of .great, some ("most", .int 40)⟩
theorem hx_lt (hu : usd .letters = true := by rfl) : heardX a.ec usd (exLt a) = some (.tup [.str "letters", .non]) := by
  show (if usd .letters = true ∧ a.ec.of .letters = a.ec.of .letters ∧ ("place" : Str) = Lw.Kd.field .letters then some (Dt.tup [.str (Lw.Kd.word .letters), .non]) else none) = _
  rw [if_pos ⟨hu, rfl, rfl⟩]
  rfl
theorem hx_gt (hu : usd .great = true := by rfl) : heardX a.ec usd (exGt a) = some (.tup [.str "great", .int 40]) := by
  show (if usd .great = true ∧ a.ec.of .great = a.ec.of .great ∧ ("most" : Str) = Lw.Kd.field .great then some (Dt.tup [.str (Lw.Kd.word .great), .int 40]) else none) = _
  rw [if_pos ⟨hu, rfl, rfl⟩]
  rfl
theorem put_of {size x : Int} {rs : List (List Int)} (C : Tc size rs) : S_put_in a [.tup (rs.map rowT), .int x] = DL.M.ret (.val (.tup [.lst ((putL rs x).map rowT), .int (putN rs x : Nat)])) :=
  put_in_ (.inr rfl) (fun r hr => ⟨(C.small r hr).2.1, by have := (C.small r hr).1; omega⟩) (by have := C.rows; have := C.s1; omega)
theorem inserted_ok {size x : Int} {rs : List (List Int)} (C : Tc size rs) (x0 : 1 ≤ x) (x1 : x ≤ size) (hs : szs rs < 40) : S_inserted a [tabD a size rs, .int x] = DL.M.ret (.val (.tup [tabD a size (putL rs x), .int (putN rs x : Nat)])) := by
  have f1 : ∀ cs, a.w_Table ∈ cs → _ := fun cs hc => fldTs (a := a) (cs := cs) (size := size) (rs := rs) hc
  have f2 : ∀ cs, a.w_Table ∈ cs → _ := fun cs hc => fldTr (a := a) (cs := cs) (size := size) (rs := rs) hc
  have p := put_of (a := a) (x := x) C
  have mk := make_table (a := a) (isRows.lstT (putL rs x)) (C.put x0 x1 hs).tb
  have b := btw_yes x0 x1
  unfold S_inserted
  generalize tabD a size rs = td at *
  simp only [bnd_ret, bnd_nn, bnd_rse, bnd_ite, bnd_bnd, semOf, gSeq, gNx, gSet, gDrop, gRet, gRetV, gRetN, gIf, gBk, gCt, gFrz, frz, gApp, gExt, gSetI, gAsg, gPar, gPop, gSetPop, gAppPop, gRaise, gFld, cVar, vVar, cC, toV, bin, una, aNil, aCons, cTup, cLst, rNil, rCons, setAll, addD, subD, negD, cmpD, notD, cCall, cMeth, cMeth0, cMake, objR, tV, truD, tNotD, tAndD, tOrD, tBl, andV, orV, cIf, chain, oNone, oSome, cSl, slD, ixD, lenD, tupleD, listD, cDict, tgN, tgS, tgT, tgs, wSeq, wEn, R.sl, R.d, Sl.isIns, oneIns, List.getElem?_cons_zero, List.getElem?_cons_succ, List.getElem?_nil, List.set_cons_zero, List.set_cons_succ, List.map_cons, List.map_nil, List.length_cons, List.length_nil, List.nil_append, List.cons_append, List.append_nil, List.replicate, List.all_cons, List.all_nil, Nat.reduceSub, Nat.reduceAdd, Nat.reduceLeDiff, Nat.reduceLT, Nat.reduceEqDiff, if_true, if_false, ite_true, ite_false, Bool.not_true, Bool.not_false, Bool.true_and, Bool.and_true, Bool.false_and, Bool.and_false, Bool.true_or, Bool.or_true, Bool.false_or, Bool.or_false, decide_true, decide_false, Bool.false_eq_true, reduceCtorEq, true_and, and_true, List.mem_cons_self]
  rw [f1 _ (by simp)]
  simp only [bnd_ret, bnd_nn, bnd_rse, bnd_ite, bnd_bnd, semOf, gSeq, gNx, gSet, gDrop, gRet, gRetV, gRetN, gIf, gBk, gCt, gFrz, frz, gApp, gExt, gSetI, gAsg, gPar, gPop, gSetPop, gAppPop, gRaise, gFld, cVar, vVar, cC, toV, bin, una, aNil, aCons, cTup, cLst, rNil, rCons, setAll, addD, subD, negD, cmpD, notD, cCall, cMeth, cMeth0, cMake, objR, tV, truD, tNotD, tAndD, tOrD, tBl, andV, orV, cIf, chain, oNone, oSome, cSl, slD, ixD, lenD, tupleD, listD, cDict, tgN, tgS, tgT, tgs, wSeq, wEn, R.sl, R.d, Sl.isIns, oneIns, List.getElem?_cons_zero, List.getElem?_cons_succ, List.getElem?_nil, List.set_cons_zero, List.set_cons_succ, List.map_cons, List.map_nil, List.length_cons, List.length_nil, List.nil_append, List.cons_append, List.append_nil, List.replicate, List.all_cons, List.all_nil, Nat.reduceSub, Nat.reduceAdd, Nat.reduceLeDiff, Nat.reduceLT, Nat.reduceEqDiff, if_true, if_false, ite_true, ite_false, Bool.not_true, Bool.not_false, Bool.true_and, Bool.and_true, Bool.false_and, Bool.and_false, Bool.true_or, Bool.or_true, Bool.false_or, Bool.or_false, decide_true, decide_false, Bool.false_eq_true, reduceCtorEq, true_and, and_true, List.mem_cons_self, between _ _ (show plainD (.int x) = true from rfl), b]
  rw [f2 _ (by simp)]
  simp only [bnd_ret, bnd_nn, bnd_rse, bnd_ite, bnd_bnd, semOf, gSeq, gNx, gSet, gDrop, gRet, gRetV, gRetN, gIf, gBk, gCt, gFrz, frz, gApp, gExt, gSetI, gAsg, gPar, gPop, gSetPop, gAppPop, gRaise, gFld, cVar, vVar, cC, toV, bin, una, aNil, aCons, cTup, cLst, rNil, rCons, setAll, addD, subD, negD, cmpD, notD, cCall, cMeth, cMeth0, cMake, objR, tV, truD, tNotD, tAndD, tOrD, tBl, andV, orV, cIf, chain, oNone, oSome, cSl, slD, ixD, lenD, tupleD, listD, cDict, tgN, tgS, tgT, tgs, wSeq, wEn, R.sl, R.d, Sl.isIns, oneIns, List.getElem?_cons_zero, List.getElem?_cons_succ, List.getElem?_nil, List.set_cons_zero, List.set_cons_succ, List.map_cons, List.map_nil, List.length_cons, List.length_nil, List.nil_append, List.cons_append, List.append_nil, List.replicate, List.all_cons, List.all_nil, Nat.reduceSub, Nat.reduceAdd, Nat.reduceLeDiff, Nat.reduceLT, Nat.reduceEqDiff, if_true, if_false, ite_true, ite_false, Bool.not_true, Bool.not_false, Bool.true_and, Bool.and_true, Bool.false_and, Bool.and_false, Bool.true_or, Bool.or_true, Bool.false_or, Bool.or_false, decide_true, decide_false, Bool.false_eq_true, reduceCtorEq, true_and, and_true, List.mem_cons_self, p]
  rw [f1 _ (by simp)]
  simp only [bnd_ret, bnd_nn, bnd_rse, bnd_ite, bnd_bnd, semOf, gSeq, gNx, gSet, gDrop, gRet, gRetV, gRetN, gIf, gBk, gCt, gFrz, frz, gApp, gExt, gSetI, gAsg, gPar, gPop, gSetPop, gAppPop, gRaise, gFld, cVar, vVar, cC, toV, bin, una, aNil, aCons, cTup, cLst, rNil, rCons, setAll, addD, subD, negD, cmpD, notD, cCall, cMeth, cMeth0, cMake, objR, tV, truD, tNotD, tAndD, tOrD, tBl, andV, orV, cIf, chain, oNone, oSome, cSl, slD, ixD, lenD, tupleD, listD, cDict, tgN, tgS, tgT, tgs, wSeq, wEn, R.sl, R.d, Sl.isIns, oneIns, List.getElem?_cons_zero, List.getElem?_cons_succ, List.getElem?_nil, List.set_cons_zero, List.set_cons_succ, List.map_cons, List.map_nil, List.length_cons, List.length_nil, List.nil_append, List.cons_append, List.append_nil, List.replicate, List.all_cons, List.all_nil, Nat.reduceSub, Nat.reduceAdd, Nat.reduceLeDiff, Nat.reduceLT, Nat.reduceEqDiff, if_true, if_false, ite_true, ite_false, Bool.not_true, Bool.not_false, Bool.true_and, Bool.and_true, Bool.false_and, Bool.and_false, Bool.true_or, Bool.or_true, Bool.false_or, Bool.or_false, decide_true, decide_false, Bool.false_eq_true, reduceCtorEq, true_and, and_true, List.mem_cons_self, mk]
  rfl
theorem inserted_no {size : Int} {rs : List (List Int)} {d : Dt} (hd : plainD d = true) (hb : btw d 1 size = false) : S_inserted a [tabD a size rs, d] = DL.M.rse (exLt a) := by
  have f1 : ∀ cs, a.w_Table ∈ cs → _ := fun cs hc => fldTs (a := a) (cs := cs) (size := size) (rs := rs) hc
  unfold S_inserted
  generalize tabD a size rs = td at *
  simp only [bnd_ret, bnd_nn, bnd_rse, bnd_ite, bnd_bnd, semOf, gSeq, gNx, gSet, gDrop, gRet, gRetV, gRetN, gIf, gBk, gCt, gFrz, frz, gApp, gExt, gSetI, gAsg, gPar, gPop, gSetPop, gAppPop, gRaise, gFld, cVar, vVar, cC, toV, bin, una, aNil, aCons, cTup, cLst, rNil, rCons, setAll, addD, subD, negD, cmpD, notD, cCall, cMeth, cMeth0, cMake, objR, tV, truD, tNotD, tAndD, tOrD, tBl, andV, orV, cIf, chain, oNone, oSome, cSl, slD, ixD, lenD, tupleD, listD, cDict, tgN, tgS, tgT, tgs, wSeq, wEn, R.sl, R.d, Sl.isIns, oneIns, List.getElem?_cons_zero, List.getElem?_cons_succ, List.getElem?_nil, List.set_cons_zero, List.set_cons_succ, List.map_cons, List.map_nil, List.length_cons, List.length_nil, List.nil_append, List.cons_append, List.append_nil, List.replicate, List.all_cons, List.all_nil, Nat.reduceSub, Nat.reduceAdd, Nat.reduceLeDiff, Nat.reduceLT, Nat.reduceEqDiff, if_true, if_false, ite_true, ite_false, Bool.not_true, Bool.not_false, Bool.true_and, Bool.and_true, Bool.false_and, Bool.and_false, Bool.true_or, Bool.or_true, Bool.false_or, Bool.or_false, decide_true, decide_false, Bool.false_eq_true, reduceCtorEq, true_and, and_true, List.mem_cons_self]
  rw [f1 _ (by simp)]
  simp only [bnd_ret, bnd_nn, bnd_rse, bnd_ite, bnd_bnd, semOf, gSeq, gNx, gSet, gDrop, gRet, gRetV, gRetN, gIf, gBk, gCt, gFrz, frz, gApp, gExt, gSetI, gAsg, gPar, gPop, gSetPop, gAppPop, gRaise, gFld, cVar, vVar, cC, toV, bin, una, aNil, aCons, cTup, cLst, rNil, rCons, setAll, addD, subD, negD, cmpD, notD, cCall, cMeth, cMeth0, cMake, objR, tV, truD, tNotD, tAndD, tOrD, tBl, andV, orV, cIf, chain, oNone, oSome, cSl, slD, ixD, lenD, tupleD, listD, cDict, tgN, tgS, tgT, tgs, wSeq, wEn, R.sl, R.d, Sl.isIns, oneIns, List.getElem?_cons_zero, List.getElem?_cons_succ, List.getElem?_nil, List.set_cons_zero, List.set_cons_succ, List.map_cons, List.map_nil, List.length_cons, List.length_nil, List.nil_append, List.cons_append, List.append_nil, List.replicate, List.all_cons, List.all_nil, Nat.reduceSub, Nat.reduceAdd, Nat.reduceLeDiff, Nat.reduceLT, Nat.reduceEqDiff, if_true, if_false, ite_true, ite_false, Bool.not_true, Bool.not_false, Bool.true_and, Bool.and_true, Bool.false_and, Bool.and_false, Bool.true_or, Bool.or_true, Bool.false_or, Bool.or_false, decide_true, decide_false, Bool.false_eq_true, reduceCtorEq, true_and, and_true, List.mem_cons_self, between _ _ hd, hb]
  rfl
theorem ck_great {size : Int} {d : Dt} {ds : List Dt} {rs : List (List Int)} (h : isRows d ds rs) (hl : rs.length ≤ 1000) (hs : 40 < szs rs) : S_check_rows a [.int size, d] = DL.M.rse (exGt a) := by
  have hds : ds.length ≤ 100000 := by rw [h.len]; omega
  have h40 : (40 : Int) < (rs.map fun r => (r.length : Int)).sum := by rw [sum_cast]; unfold szs at hs; omega
  have hs : wSeq (vVar 1) [.val (.int size), .val d, .non, .non, .non] = DL.M.ret ds := by rcases h.top with rfl | rfl <;> rfl
  have hc := lc_lens (src := wSeq (vVar 1)) (j := 4) (δ := [.val (.int size), .val d, .non, .non, .non]) h hs hds (show 4 < 5 by decide)
  have hsum : sumG (.lst (nis (rs.map fun r => (r.length : Int)))) = DL.M.ret (.val (.int (rs.map fun r => (r.length : Int)).sum)) := sumG_row (.inl rfl)
  unfold S_check_rows
  simp only [bnd_ret, bnd_nn, bnd_rse, bnd_ite, bnd_bnd, semOf, gSeq, gNx, gSet, gDrop, gRet, gRetV, gRetN, gIf, gBk, gCt, gFrz, frz, gApp, gExt, gSetI, gAsg, gPar, gPop, gSetPop, gAppPop, gRaise, gFld, cVar, vVar, cC, toV, bin, una, aNil, aCons, cTup, cLst, rNil, rCons, setAll, addD, subD, negD, cmpD, notD, cCall, cMeth, cMeth0, cMake, objR, tV, truD, tNotD, tAndD, tOrD, tBl, andV, orV, cIf, chain, oNone, oSome, cSl, slD, ixD, lenD, tupleD, listD, cDict, tgN, tgS, tgT, tgs, wSeq, wEn, R.sl, R.d, Sl.isIns, oneIns, List.getElem?_cons_zero, List.getElem?_cons_succ, List.getElem?_nil, List.set_cons_zero, List.set_cons_succ, List.map_cons, List.map_nil, List.length_cons, List.length_nil, List.nil_append, List.cons_append, List.append_nil, List.replicate, List.all_cons, List.all_nil, Nat.reduceSub, Nat.reduceAdd, Nat.reduceLeDiff, Nat.reduceLT, Nat.reduceEqDiff, if_true, if_false, ite_true, ite_false, Bool.not_true, Bool.not_false, Bool.true_and, Bool.and_true, Bool.false_and, Bool.and_false, Bool.true_or, Bool.or_true, Bool.false_or, Bool.or_false, decide_true, decide_false, Bool.false_eq_true, reduceCtorEq, true_and, and_true, List.mem_cons_self, is_rows h hds, hc, hsum, h40]
  rfl
theorem table_great {size : Int} {d : Dt} {ds : List Dt} {rs : List (List Int)} (s0 : 2 ≤ size) (s1 : size ≤ 6) (h : isRows d ds rs) (hl : rs.length ≤ 1000) (hs : 40 < szs rs) : S_Table_init a [.int size, d] = DL.M.rse (exGt a) := by
  have ck := ck_great (a := a) (size := size) h hl hs
  unfold S_Table_init
  simp only [semI, gSeq, gDrop, cCall, aCons, cVar, aNil, bnd_bnd, bnd_ret, bnd_rse, List.map_cons, List.map_nil, List.length_cons, List.length_nil, Nat.reduceSub, Nat.reduceAdd, List.replicate, List.cons_append, List.nil_append, List.append_nil, List.getElem?_cons_zero, List.getElem?_cons_succ, if_true, R.d, ck_size s0 s1, ck]
theorem inserted_great {size x : Int} {rs : List (List Int)} (C : Tc size rs) (x0 : 1 ≤ x) (x1 : x ≤ size) (hs : szs rs = 40) : S_inserted a [tabD a size rs, .int x] = DL.M.rse (exGt a) := by
  have f1 : ∀ cs, a.w_Table ∈ cs → _ := fun cs hc => fldTs (a := a) (cs := cs) (size := size) (rs := rs) hc
  have f2 : ∀ cs, a.w_Table ∈ cs → _ := fun cs hc => fldTr (a := a) (cs := cs) (size := size) (rs := rs) hc
  have p := put_of (a := a) (x := x) C
  have hr := C.rows
  have h1 := C.s1
  have pl := putL_len rs x
  have mk := table_great (a := a) C.s0 C.s1 (isRows.lstT (putL rs x)) (by omega) (by rw [putL_sum x C.ch.ne]; omega)
  have b := btw_yes x0 x1
  unfold S_inserted
  generalize tabD a size rs = td at *
  simp only [bnd_ret, bnd_nn, bnd_rse, bnd_ite, bnd_bnd, semOf, gSeq, gNx, gSet, gDrop, gRet, gRetV, gRetN, gIf, gBk, gCt, gFrz, frz, gApp, gExt, gSetI, gAsg, gPar, gPop, gSetPop, gAppPop, gRaise, gFld, cVar, vVar, cC, toV, bin, una, aNil, aCons, cTup, cLst, rNil, rCons, setAll, addD, subD, negD, cmpD, notD, cCall, cMeth, cMeth0, cMake, objR, tV, truD, tNotD, tAndD, tOrD, tBl, andV, orV, cIf, chain, oNone, oSome, cSl, slD, ixD, lenD, tupleD, listD, cDict, tgN, tgS, tgT, tgs, wSeq, wEn, R.sl, R.d, Sl.isIns, oneIns, List.getElem?_cons_zero, List.getElem?_cons_succ, List.getElem?_nil, List.set_cons_zero, List.set_cons_succ, List.map_cons, List.map_nil, List.length_cons, List.length_nil, List.nil_append, List.cons_append, List.append_nil, List.replicate, List.all_cons, List.all_nil, Nat.reduceSub, Nat.reduceAdd, Nat.reduceLeDiff, Nat.reduceLT, Nat.reduceEqDiff, if_true, if_false, ite_true, ite_false, Bool.not_true, Bool.not_false, Bool.true_and, Bool.and_true, Bool.false_and, Bool.and_false, Bool.true_or, Bool.or_true, Bool.false_or, Bool.or_false, decide_true, decide_false, Bool.false_eq_true, reduceCtorEq, true_and, and_true, List.mem_cons_self]
  rw [f1 _ (by simp)]
  simp only [bnd_ret, bnd_nn, bnd_rse, bnd_ite, bnd_bnd, semOf, gSeq, gNx, gSet, gDrop, gRet, gRetV, gRetN, gIf, gBk, gCt, gFrz, frz, gApp, gExt, gSetI, gAsg, gPar, gPop, gSetPop, gAppPop, gRaise, gFld, cVar, vVar, cC, toV, bin, una, aNil, aCons, cTup, cLst, rNil, rCons, setAll, addD, subD, negD, cmpD, notD, cCall, cMeth, cMeth0, cMake, objR, tV, truD, tNotD, tAndD, tOrD, tBl, andV, orV, cIf, chain, oNone, oSome, cSl, slD, ixD, lenD, tupleD, listD, cDict, tgN, tgS, tgT, tgs, wSeq, wEn, R.sl, R.d, Sl.isIns, oneIns, List.getElem?_cons_zero, List.getElem?_cons_succ, List.getElem?_nil, List.set_cons_zero, List.set_cons_succ, List.map_cons, List.map_nil, List.length_cons, List.length_nil, List.nil_append, List.cons_append, List.append_nil, List.replicate, List.all_cons, List.all_nil, Nat.reduceSub, Nat.reduceAdd, Nat.reduceLeDiff, Nat.reduceLT, Nat.reduceEqDiff, if_true, if_false, ite_true, ite_false, Bool.not_true, Bool.not_false, Bool.true_and, Bool.and_true, Bool.false_and, Bool.and_false, Bool.true_or, Bool.or_true, Bool.false_or, Bool.or_false, decide_true, decide_false, Bool.false_eq_true, reduceCtorEq, true_and, and_true, List.mem_cons_self, between _ _ (show plainD (.int x) = true from rfl), b]
  rw [f2 _ (by simp)]
  simp only [bnd_ret, bnd_nn, bnd_rse, bnd_ite, bnd_bnd, semOf, gSeq, gNx, gSet, gDrop, gRet, gRetV, gRetN, gIf, gBk, gCt, gFrz, frz, gApp, gExt, gSetI, gAsg, gPar, gPop, gSetPop, gAppPop, gRaise, gFld, cVar, vVar, cC, toV, bin, una, aNil, aCons, cTup, cLst, rNil, rCons, setAll, addD, subD, negD, cmpD, notD, cCall, cMeth, cMeth0, cMake, objR, tV, truD, tNotD, tAndD, tOrD, tBl, andV, orV, cIf, chain, oNone, oSome, cSl, slD, ixD, lenD, tupleD, listD, cDict, tgN, tgS, tgT, tgs, wSeq, wEn, R.sl, R.d, Sl.isIns, oneIns, List.getElem?_cons_zero, List.getElem?_cons_succ, List.getElem?_nil, List.set_cons_zero, List.set_cons_succ, List.map_cons, List.map_nil, List.length_cons, List.length_nil, List.nil_append, List.cons_append, List.append_nil, List.replicate, List.all_cons, List.all_nil, Nat.reduceSub, Nat.reduceAdd, Nat.reduceLeDiff, Nat.reduceLT, Nat.reduceEqDiff, if_true, if_false, ite_true, ite_false, Bool.not_true, Bool.not_false, Bool.true_and, Bool.and_true, Bool.false_and, Bool.and_false, Bool.true_or, Bool.or_true, Bool.false_or, Bool.or_false, decide_true, decide_false, Bool.false_eq_true, reduceCtorEq, true_and, and_true, List.mem_cons_self, p]
  rw [f1 _ (by simp)]
  simp only [bnd_ret, bnd_nn, bnd_rse, bnd_ite, bnd_bnd, semOf, gSeq, gNx, gSet, gDrop, gRet, gRetV, gRetN, gIf, gBk, gCt, gFrz, frz, gApp, gExt, gSetI, gAsg, gPar, gPop, gSetPop, gAppPop, gRaise, gFld, cVar, vVar, cC, toV, bin, una, aNil, aCons, cTup, cLst, rNil, rCons, setAll, addD, subD, negD, cmpD, notD, cCall, cMeth, cMeth0, cMake, objR, tV, truD, tNotD, tAndD, tOrD, tBl, andV, orV, cIf, chain, oNone, oSome, cSl, slD, ixD, lenD, tupleD, listD, cDict, tgN, tgS, tgT, tgs, wSeq, wEn, R.sl, R.d, Sl.isIns, oneIns, List.getElem?_cons_zero, List.getElem?_cons_succ, List.getElem?_nil, List.set_cons_zero, List.set_cons_succ, List.map_cons, List.map_nil, List.length_cons, List.length_nil, List.nil_append, List.cons_append, List.append_nil, List.replicate, List.all_cons, List.all_nil, Nat.reduceSub, Nat.reduceAdd, Nat.reduceLeDiff, Nat.reduceLT, Nat.reduceEqDiff, if_true, if_false, ite_true, ite_false, Bool.not_true, Bool.not_false, Bool.true_and, Bool.and_true, Bool.false_and, Bool.and_false, Bool.true_or, Bool.or_true, Bool.false_or, Bool.or_false, decide_true, decide_false, Bool.false_eq_true, reduceCtorEq, true_and, and_true, List.mem_cons_self, mk]
def Dx {α : Type} (T : List (Addr × Str)) (k : Int) (x : DL.M α) (e : Exn) : Prop := ∀ s : MS, 0 ≤ s.n → s.n + k ≤ 900000 → s.tabs = T → ∃ s', x s = .ex e s' ∧ s.n ≤ s'.n ∧ s'.n ≤ s.n + k ∧ s'.tabs = T
theorem Dx.rse {α : Type} {k : Int} {e : Exn} (hk : 0 ≤ k) : Dx T k (DL.M.rse e : DL.M α) e := fun s _ _ ht => ⟨s, rfl, Int.le_refl _, by omega, ht⟩
theorem Dx.bnd {α β : Type} {k j : Int} {x : DL.M α} {f : α → DL.M β} {P : α → Prop} {e : Exn} (hk : 0 ≤ k) (hj : 0 ≤ j) (h : Dw T k x P) (hf : ∀ a, P a → Dx T j (f a) e) : Dx T (k + j) (DL.M.bnd x f) e := fun s h0 h1 ht => by
  obtain ⟨r, s1, e1, p, n1, n2, t1⟩ := h s h0 (by omega) ht
  obtain ⟨s2, e2, n3, n4, t2⟩ := hf r p s1 (by omega) (by omega) t1
  exact ⟨s2, by unfold DL.M.bnd; rw [e1]; exact e2, by omega, by omega, t2⟩
theorem heard_dx {P : Addr} {q : Str} {f : List Sl → DL.M R} {δ : List Sl} {k : Int} {e : Exn} {d : Dt} (ht : tabOk P q T) (h : Dx T k (f δ) e) (hx : heardX a.ec usd e = some d) : Dw T k (cHeard a.ec usd P q f δ) (fun x => x = .val d) := fun s h0 h1 hT => by
  obtain ⟨s', e1, n1, n2, t1⟩ := h s h0 h1 hT
  refine ⟨.val d, s', ?_, rfl, n1, n2, t1⟩
  unfold cHeard
  rw [hT, if_pos ht, e1]
  show (match heardX a.ec usd e with | some d => Rs.ok (R.val d) s' | none => .no) = _
  rw [hx]
theorem recording_ok {size : Int} {l : List Int} (L : Lt size l) : S_recording a [wordD a size l] = DL.M.ret (.val (.tup ((placesL l).map rowT))) := by
  have g := grown_ (a := a) (l := l) (by have := L.len; omega)
  unfold S_recording
  generalize hw : wordD a size l = wd
  simp only [bnd_ret, bnd_nn, bnd_rse, bnd_ite, bnd_bnd, semOf, gSeq, gNx, gSet, gDrop, gRet, gRetV, gRetN, gIf, gBk, gCt, gFrz, frz, gApp, gExt, gSetI, gAsg, gPar, gPop, gSetPop, gAppPop, gRaise, gFld, cVar, vVar, cC, toV, bin, una, aNil, aCons, cTup, cLst, rNil, rCons, setAll, addD, subD, negD, cmpD, notD, cCall, cMeth, cMeth0, cMake, objR, tV, truD, tNotD, tAndD, tOrD, tBl, andV, orV, cIf, chain, oNone, oSome, cSl, slD, ixD, lenD, tupleD, listD, cDict, tgN, tgS, tgT, tgs, wSeq, wEn, R.sl, R.d, Sl.isIns, oneIns, List.getElem?_cons_zero, List.getElem?_cons_succ, List.getElem?_nil, List.set_cons_zero, List.set_cons_succ, List.map_cons, List.map_nil, List.length_cons, List.length_nil, List.nil_append, List.cons_append, List.append_nil, List.replicate, List.all_cons, List.all_nil, Nat.reduceSub, Nat.reduceAdd, Nat.reduceLeDiff, Nat.reduceLT, Nat.reduceEqDiff, if_true, if_false, ite_true, ite_false, Bool.not_true, Bool.not_false, Bool.true_and, Bool.and_true, Bool.false_and, Bool.and_false, Bool.true_or, Bool.or_true, Bool.false_or, Bool.or_false, decide_true, decide_false, Bool.false_eq_true, reduceCtorEq, true_and, and_true, List.mem_cons_self]
  subst hw
  rw [fld_letters, if_pos (by simp)]
  simp only [bnd_ret, bnd_nn, bnd_rse, bnd_ite, bnd_bnd, semOf, gSeq, gNx, gSet, gDrop, gRet, gRetV, gRetN, gIf, gBk, gCt, gFrz, frz, gApp, gExt, gSetI, gAsg, gPar, gPop, gSetPop, gAppPop, gRaise, gFld, cVar, vVar, cC, toV, bin, una, aNil, aCons, cTup, cLst, rNil, rCons, setAll, addD, subD, negD, cmpD, notD, cCall, cMeth, cMeth0, cMake, objR, tV, truD, tNotD, tAndD, tOrD, tBl, andV, orV, cIf, chain, oNone, oSome, cSl, slD, ixD, lenD, tupleD, listD, cDict, tgN, tgS, tgT, tgs, wSeq, wEn, R.sl, R.d, Sl.isIns, oneIns, List.getElem?_cons_zero, List.getElem?_cons_succ, List.getElem?_nil, List.set_cons_zero, List.set_cons_succ, List.map_cons, List.map_nil, List.length_cons, List.length_nil, List.nil_append, List.cons_append, List.append_nil, List.replicate, List.all_cons, List.all_nil, Nat.reduceSub, Nat.reduceAdd, Nat.reduceLeDiff, Nat.reduceLT, Nat.reduceEqDiff, if_true, if_false, ite_true, ite_false, Bool.not_true, Bool.not_false, Bool.true_and, Bool.and_true, Bool.false_and, Bool.and_false, Bool.true_or, Bool.or_true, Bool.false_or, Bool.or_false, decide_true, decide_false, Bool.false_eq_true, reduceCtorEq, true_and, and_true, List.mem_cons_self, g, (at01 _ _).2]
theorem tc_ones {size : Int} (s0 : 2 ≤ size) (s1 : size ≤ 6) : Tc size [List.replicate 40 1] := by
  refine ⟨s0, s1, .cons ⟨by decide, by decide, fun x hx => by rw [List.eq_of_mem_replicate hx]; omega, List.pairwise_replicate.mpr (.inr (Int.le_refl _)), fun k x y hx hy => ?_⟩ (.nil _), by decide⟩
  rw [List.eq_of_mem_replicate (List.mem_of_getElem? hx), List.eq_of_mem_replicate (List.mem_of_getElem? hy)]
  decide
end Dg
set_option maxHeartbeats 0
set_option pp.maxSteps 3000
namespace Dg
open PySem DL LwM
variable {a : Adr} {T : List (Addr × Str)}
noncomputable def pp1 (a : Adr) : List Sl → DL.M Fl :=
  (gPar [5, 6] (rCons (cCall 1 (aCons (cSl (vVar 0) oNone (oSome (vVar 2))) aNil) (S__law_rows a)) (rCons (cCall 1 (aCons (cSl (vVar 0) oNone (oSome (toV (bin (vVar 2) (toV (cC (.int 1))) addD)))) aNil) (S__law_rows a)) rNil)))
noncomputable def pp2 (a : Adr) : List Sl → DL.M Fl :=
  (gSet 3 (bin (toV (cLc (wSeq (vVar 5)) (tgN 7) tYesD (una (vVar 7) lenD) [7])) (toV (cLst (aCons (cC (.int 0)) aNil))) addD))
noncomputable def pp3 (a : Adr) : List Sl → DL.M Fl :=
  (gSet 4 (bin (toV (cLc (wEn (vVar 6)) (tgT [tgN 8, tgN 7]) (tBl (bin (toV (una (vVar 7) lenD)) (toV (bin (vVar 3) (vVar 8) ixD)) (cmpD fun x y => decide (y < x)))) (cVar 8) [8, 7])) (toV (cC (.int 0))) ixD))
noncomputable def pp4 (a : Adr) : List Sl → DL.M Fl :=
  (gIf (tBl (bin (vVar 4) (toV (una (vVarN 1) lenD)) (eqG false))) (gApp2 1 (cLst aNil)) gNx)
noncomputable def pp5 (a : Adr) : List Sl → DL.M Fl :=
  (gAppI 1 (vVar 4) (cVar 2))
noncomputable def ppB (a : Adr) : List Sl → DL.M Fl :=
  gSeq (pp1 a) (gSeq (pp2 a) (gSeq (pp3 a) (gSeq (pp4 a) (pp5 a))))
noncomputable def st1 (a : Adr) : List Sl → DL.M Fl :=
  (gSet 5 (cCall 2 (aCons (cVar 2) (aCons (cVar 4) aNil)) (S_inserted a)))
noncomputable def st2 (a : Adr) : List Sl → DL.M Fl :=
  (gPar [8, 9] (rCons (cCall 1 (aCons (cSl (vVar 1) oNone (oSome (vVar 3))) aNil) (S__law_rows a)) (rCons (cCall 1 (aCons (cSl (vVar 1) oNone (oSome (toV (bin (vVar 3) (toV (cC (.int 1))) addD)))) aNil) (S__law_rows a)) rNil)))
noncomputable def st3 (a : Adr) : List Sl → DL.M Fl :=
  (gSet 6 (bin (toV (cLc (wSeq (vVar 8)) (tgN 10) tYesD (una (vVar 10) lenD) [10])) (toV (cLst (aCons (cC (.int 0)) aNil))) addD))
noncomputable def st4 (a : Adr) : List Sl → DL.M Fl :=
  (gSet 7 (cLc (wEn (vVar 9)) (tgT [tgN 11, tgN 10]) (tBl (bin (toV (una (vVar 10) lenD)) (toV (bin (vVar 6) (vVar 11) ixD)) (cmpD fun x y => decide (y < x)))) (cVar 11) [11, 10]))
noncomputable def st5 (a : Adr) : List Sl → DL.M Fl :=
  (gFrz 9 (gIf (tOrD (tNotD (tV (toV (una (vVar 5) (isiD (ocs a) [(.ty "tuple")]))))) (tOrD (tBl (bin (toV (una (vVar 5) lenD)) (toV (cC (.int 2))) (eqG true))) (tNotD (tV (toV (cCall 3 (aCons (bin (vVar 5) (toV (cC (.int 0))) ixD) (aCons (cVar 0) (aCons (cVar 9) aNil))) (S__law_is_table a))))))) (gRet (cC (.bl false))) gNx))
noncomputable def st6 (a : Adr) : List Sl → DL.M Fl :=
  (gFrz 8 (gIf (tOrD (tNotD (tV (toV (cCall 2 (aCons (bin (vVar 5) (toV (cC (.int 1))) ixD) (aCons (bin (vVar 7) (toV (cC (.int 0))) ixD) aNil)) (S__law_like a))))) (tNotD (tV (toV (cCall 3 (aCons (cVar 2) (aCons (cVar 0) (aCons (cVar 8) aNil))) (S__law_is_table a)))))) (gRet (cC (.bl false))) gNx))
noncomputable def st7 (a : Adr) : List Sl → DL.M Fl :=
  (gSet 2 (bin (vVar 5) (toV (cC (.int 0))) ixD))
noncomputable def stB (a : Adr) : List Sl → DL.M Fl :=
  gSeq (st1 a) (gSeq (st2 a) (gSeq (st3 a) (gSeq (st4 a) (gSeq (st5 a) (gSeq (st6 a) (st7 a))))))

theorem cut_k (l : List Int) (k : Nat) : cutD (nis l) none (some (k : Int)) = nis (l.take k) := by
  rw [cut_hi _ (by omega), Int.toNat_natCast]
  unfold nis
  rw [List.map_take]
theorem cut_k1 (l : List Int) (k : Nat) : cutD (nis l) none (some ((k : Int) + 1)) = nis (l.take (k + 1)) := cut_k l (k + 1)
theorem Lt.tk {size : Int} {l : List Int} (L : Lt size l) (n : Nat) : Lt size (l.take n) := ⟨L.s0, L.s1, by have := L.len; have h := List.length_take_le n l; rw [List.length_take]; omega, fun x hx => L.bd x (List.mem_of_mem_take hx)⟩
theorem rowsL_s {l : List Int} {k : Nat} {x : Int} (h : l[k]? = some x) : rowsL (l.take (k + 1)) = putL (rowsL (l.take k)) x := by
  unfold rowsL
  rw [List.take_succ, h, List.foldl_append]
  rfl
theorem grown_c {δ : List Sl} {rs : List (List Int)} {x : Int} {i L n r : Nat} (h : ∀ q ∈ rs, q ≠ []) (hl : rs.length ≤ 1000) (hi : (wipeD δ [n, r])[i]? = some (.own ((putL rs x).map rowL)) ∨ (wipeD δ [n, r])[i]? = some (.val (.lst ((putL rs x).map rowL)))) (hi2 : δ[i]? = (wipeD δ [n, r])[i]?)
    (hL : (wipeD δ [n, r])[L]? = some (.own (nis (lens rs ++ [0])))) (hnr : n ≠ r) (hLn : L ≠ n) (hLr : L ≠ r) (hn : n < δ.length) (hr : r < δ.length) : cLc (wEn (vVar i)) (tgT [tgN n, tgN r]) (tBl (bin (toV (una (vVar r) lenD)) (toV (bin (vVar L) (vVar n) ixD)) (cmpD fun x y => decide (y < x)))) (cVar n) [n, r] δ = DL.M.ret (.new [.int (putN rs x : Nat)]) := by
  have le : (putL rs x).length ≤ rs.length + 1 := putL_len rs x
  have hlen : (wipeD δ [n, r]).length = δ.length := by simp [wipeD]
  refine lc_eq (l := enumD 0 ((putL rs x).map rowL)) ?_ (by rw [enumD_len, List.length_map]; omega) ?_
  · rw [← hi2] at hi
    have hv : vVar i δ = DL.M.ret (.lst ((putL rs x).map rowL)) := by unfold vVar; rcases hi with hi | hi <;> rw [hi]
    unfold wEn wSeq
    rw [hv]
    rfl
  · have := compL_eq (tg := tgT [tgN n, tgN r]) (tt := tBl (bin (toV (una (vVar r) lenD)) (toV (bin (vVar L) (vVar n) ixD)) (cmpD fun x y => decide (y < x)))) (fe := cVar n) (δ := wipeD δ [n, r]) (grP (lens rs ++ [0])) enF (l := enumD 0 ((putL rs x).map rowL)) (fun d hd => by
      obtain ⟨k, hk⟩ := List.mem_iff_getElem?.mp hd
      obtain ⟨z, hz, rfl⟩ := enum_get hk
      rw [List.getElem?_map] at hz
      obtain ⟨q, hq, rfl⟩ := Option.map_eq_some_iff.mp hz
      have hkl : k < (putL rs x).length := (List.getElem?_eq_some_iff.mp hq).1
      have hk2 : k < (lens rs ++ [0]).length := by rw [List.length_append, List.length_map, List.length_singleton]; omega
      have hat : L2.atI (nis (lens rs ++ [0])) ((k : Nat) : Int) = some (.int ((lens rs ++ [0])[k])) := at_nat (List.getElem?_eq_getElem hk2)
      have g1 : (((wipeD δ [n, r]).set n (.val (.int (k : Nat)))).set r (.val (rowL q)))[r]? = some (.val (rowL q)) := List.getElem?_set_self (by rw [List.length_set, hlen]; exact hr)
      have g2 : (((wipeD δ [n, r]).set n (.val (.int (k : Nat)))).set r (.val (rowL q)))[n]? = some (.val (.int (k : Nat))) := by
        rw [List.getElem?_set_ne (fun e => hnr e.symm), List.getElem?_set_self (by rw [hlen]; exact hn)]
      have g3 : (((wipeD δ [n, r]).set n (.val (.int (k : Nat)))).set r (.val (rowL q)))[L]? = some (.own (nis (lens rs ++ [0]))) := by
        rw [List.getElem?_set_ne (fun e => hLr e.symm), List.getElem?_set_ne (fun e => hLn e.symm)]
        exact hL
      refine ⟨((wipeD δ [n, r]).set n (.val (.int (k : Nat)))).set r (.val (rowL q)), rfl, ?_, fun _ => ⟨.val (.int (k : Nat)), ?_, rfl⟩⟩
      · have e1 : grP (lens rs ++ [0]) (.tup [.int (k : Nat), rowL q]) = decide ((lens rs ++ [0])[k] < (q.length : Int)) := by
          show decide ((lens rs ++ [0])[((k : Nat) : Int).toNat]?.getD 0 < ((nis q).length : Int)) = _
          rw [Int.toNat_natCast, List.getElem?_eq_getElem hk2, List.length_map]
          rfl
        rw [e1]
        simp only [bnd_ret, bnd_nn, bnd_rse, bnd_ite, bnd_bnd, semOf, gSeq, gNx, gSet, gDrop, gRet, gRetV, gRetN, gIf, gBk, gCt, gFrz, frz, gApp, gExt, gSetI, gAsg, gPar, gPop, gSetPop, gAppPop, gRaise, gFld, cVar, vVar, cC, toV, bin, una, aNil, aCons, cTup, cLst, rNil, rCons, setAll, addD, subD, negD, cmpD, notD, cCall, cMeth, cMeth0, cMake, objR, tV, truD, tNotD, tAndD, tOrD, tBl, andV, orV, cIf, chain, oNone, oSome, cSl, slD, ixD, lenD, tupleD, listD, cDict, tgN, tgS, tgT, tgs, wSeq, wEn, R.sl, R.d, Sl.isIns, oneIns, List.getElem?_cons_zero, List.getElem?_cons_succ, List.getElem?_nil, List.set_cons_zero, List.set_cons_succ, List.map_cons, List.map_nil, List.length_cons, List.length_nil, List.nil_append, List.cons_append, List.append_nil, List.replicate, List.all_cons, List.all_nil, Nat.reduceSub, Nat.reduceAdd, Nat.reduceLeDiff, Nat.reduceLT, Nat.reduceEqDiff, if_true, if_false, ite_true, ite_false, Bool.not_true, Bool.not_false, Bool.true_and, Bool.and_true, Bool.false_and, Bool.and_false, Bool.true_or, Bool.or_true, Bool.false_or, Bool.or_false, decide_true, decide_false, Bool.false_eq_true, reduceCtorEq, true_and, and_true, List.mem_cons_self, g1, g2, g3, hat, List.length_map]
      · simp only [bnd_ret, bnd_nn, bnd_rse, bnd_ite, bnd_bnd, semOf, gSeq, gNx, gSet, gDrop, gRet, gRetV, gRetN, gIf, gBk, gCt, gFrz, frz, gApp, gExt, gSetI, gAsg, gPar, gPop, gSetPop, gAppPop, gRaise, gFld, cVar, vVar, cC, toV, bin, una, aNil, aCons, cTup, cLst, rNil, rCons, setAll, addD, subD, negD, cmpD, notD, cCall, cMeth, cMeth0, cMake, objR, tV, truD, tNotD, tAndD, tOrD, tBl, andV, orV, cIf, chain, oNone, oSome, cSl, slD, ixD, lenD, tupleD, listD, cDict, tgN, tgS, tgT, tgs, wSeq, wEn, R.sl, R.d, Sl.isIns, oneIns, List.getElem?_cons_zero, List.getElem?_cons_succ, List.getElem?_nil, List.set_cons_zero, List.set_cons_succ, List.map_cons, List.map_nil, List.length_cons, List.length_nil, List.nil_append, List.cons_append, List.append_nil, List.replicate, List.all_cons, List.all_nil, Nat.reduceSub, Nat.reduceAdd, Nat.reduceLeDiff, Nat.reduceLT, Nat.reduceEqDiff, if_true, if_false, ite_true, ite_false, Bool.not_true, Bool.not_false, Bool.true_and, Bool.and_true, Bool.false_and, Bool.and_false, Bool.true_or, Bool.or_true, Bool.false_or, Bool.or_false, decide_true, decide_false, Bool.false_eq_true, reduceCtorEq, true_and, and_true, List.mem_cons_self, g2])
    rw [this, grow_one h]
theorem lens_c {δ : List Sl} {rs : List (List Int)} {i j : Nat} (hl : rs.length ≤ 1000) (hi : δ[i]? = some (.own (rs.map rowL)) ∨ δ[i]? = some (.val (.lst (rs.map rowL)))) (hj : j < δ.length) : bin (toV (cLc (wSeq (vVar i)) (tgN j) tYesD (una (vVar j) lenD) [j])) (toV (cLst (aCons (cC (.int 0)) aNil))) addD δ = DL.M.ret (.new (nis (lens rs ++ [0]))) := by
  have c := lc_lens (src := wSeq (vVar i)) (j := j) (δ := δ) (isRows.lst rs) (by
    have hv : vVar i δ = DL.M.ret (.lst (rs.map rowL)) := by unfold vVar; rcases hi with hi | hi <;> rw [hi]
    unfold wSeq
    rw [hv]
    rfl) (by rw [List.length_map]; omega) (by simpa [wipeD] using hj)
  simp only [bnd_ret, bnd_nn, bnd_rse, bnd_ite, bnd_bnd, semOf, gSeq, gNx, gSet, gDrop, gRet, gRetV, gRetN, gIf, gBk, gCt, gFrz, frz, gApp, gExt, gSetI, gAsg, gPar, gPop, gSetPop, gAppPop, gRaise, gFld, cVar, vVar, cC, toV, bin, una, aNil, aCons, cTup, cLst, rNil, rCons, setAll, addD, subD, negD, cmpD, notD, cCall, cMeth, cMeth0, cMake, objR, tV, truD, tNotD, tAndD, tOrD, tBl, andV, orV, cIf, chain, oNone, oSome, cSl, slD, ixD, lenD, tupleD, listD, cDict, tgN, tgS, tgT, tgs, wSeq, wEn, R.sl, R.d, Sl.isIns, oneIns, List.getElem?_cons_zero, List.getElem?_cons_succ, List.getElem?_nil, List.set_cons_zero, List.set_cons_succ, List.map_cons, List.map_nil, List.length_cons, List.length_nil, List.nil_append, List.cons_append, List.append_nil, List.replicate, List.all_cons, List.all_nil, Nat.reduceSub, Nat.reduceAdd, Nat.reduceLeDiff, Nat.reduceLT, Nat.reduceEqDiff, if_true, if_false, ite_true, ite_false, Bool.not_true, Bool.not_false, Bool.true_and, Bool.and_true, Bool.false_and, Bool.and_false, Bool.true_or, Bool.or_true, Bool.false_or, Bool.or_false, decide_true, decide_false, Bool.false_eq_true, reduceCtorEq, true_and, and_true, List.mem_cons_self, c, List.length_map, show rs.length + 1 ≤ 100000 by omega]
  simp [nis, List.map_append]
theorem pp_body {size : Int} {l : List Int} (L : Lt size l) {k : Nat} {x : Int} (hx : l[k]? = some x) {x3 x4 x5 x6 x7 x8 : Sl} : ∃ y3 y4 y5 y6, ppB a [.val (.lst (nis l)), .nst ((grK l k).2.map nis), .val (.int (k : Nat)), x3, x4, x5, x6, x7, x8] = DL.M.ret (.nx [.val (.lst (nis l)), .nst ((grK l (k + 1)).2.map nis), .val (.int (k : Nat)), y3, y4, y5, y6, x7, x8]) := by
  have hk : k < l.length := (List.getElem?_eq_some_iff.mp hx).1
  have hl := L.len
  have O := grK_ok l k (by omega)
  have hr : (grK l k).1 = rowsL (l.take k) := grK_rows l k (by omega)
  have C := (L.tk k).tc
  have r1 := law_rows_ (a := a) (L.tk k)
  have r2 := law_rows_ (a := a) (L.tk (k + 1))
  have c1 := cut_k l k
  have c2 := cut_k1 l k
  have rl := C.rows
  have s1 := C.s1
  rw [rowsL_s hx] at r2
  rw [grK_s hx, hr]
  have OP : ∀ r ∈ (grK l k).2, r.length ≤ k := O.pl
  have hP : (grK l k).2.length = (rowsL (l.take k)).length := by rw [O.same, hr]
  have hn := (putL_n (rowsL (l.take k)) x).1
  have pp1_ : pp1 a [.val (.lst (nis l)), .nst ((grK l k).2.map nis), .val (.int (k : Nat)), x3, x4, x5, x6, x7, x8] = DL.M.ret (.nx [.val (.lst (nis l)), .nst ((grK l k).2.map nis), .val (.int (k : Nat)), x3, x4, .own ((rowsL (l.take k)).map rowL), .own ((putL (rowsL (l.take k)) x).map rowL), x7, x8]) := by
    unfold pp1
    simp only [bnd_ret, bnd_nn, bnd_rse, bnd_ite, bnd_bnd, semOf, gSeq, gNx, gSet, gDrop, gRet, gRetV, gRetN, gIf, gBk, gCt, gFrz, frz, gApp, gExt, gSetI, gAsg, gPar, gPop, gSetPop, gAppPop, gRaise, gFld, cVar, vVar, cC, toV, bin, una, aNil, aCons, cTup, cLst, rNil, rCons, setAll, addD, subD, negD, cmpD, notD, cCall, cMeth, cMeth0, cMake, objR, tV, truD, tNotD, tAndD, tOrD, tBl, andV, orV, cIf, chain, oNone, oSome, cSl, slD, ixD, lenD, tupleD, listD, cDict, tgN, tgS, tgT, tgs, wSeq, wEn, R.sl, R.d, Sl.isIns, oneIns, List.getElem?_cons_zero, List.getElem?_cons_succ, List.getElem?_nil, List.set_cons_zero, List.set_cons_succ, List.map_cons, List.map_nil, List.length_cons, List.length_nil, List.nil_append, List.cons_append, List.append_nil, List.replicate, List.all_cons, List.all_nil, Nat.reduceSub, Nat.reduceAdd, Nat.reduceLeDiff, Nat.reduceLT, Nat.reduceEqDiff, if_true, if_false, ite_true, ite_false, Bool.not_true, Bool.not_false, Bool.true_and, Bool.and_true, Bool.false_and, Bool.and_false, Bool.true_or, Bool.or_true, Bool.false_or, Bool.or_false, decide_true, decide_false, Bool.false_eq_true, reduceCtorEq, true_and, and_true, List.mem_cons_self, c1, c2, r1, r2]
  have pp2_ : pp2 a [.val (.lst (nis l)), .nst ((grK l k).2.map nis), .val (.int (k : Nat)), x3, x4, .own ((rowsL (l.take k)).map rowL), .own ((putL (rowsL (l.take k)) x).map rowL), x7, x8] = DL.M.ret (.nx [.val (.lst (nis l)), .nst ((grK l k).2.map nis), .val (.int (k : Nat)), .own (nis (lens (rowsL (l.take k)) ++ [0])), x4, .own ((rowsL (l.take k)).map rowL), .own ((putL (rowsL (l.take k)) x).map rowL), x7, x8]) := by
    unfold pp2
    exact set_nx (lens_c (by omega) (.inl rfl) (by simp))
  have gc := grown_c (δ := [.val (.lst (nis l)), .nst ((grK l k).2.map nis), .val (.int (k : Nat)), .own (nis (lens (rowsL (l.take k)) ++ [0])), x4, .own ((rowsL (l.take k)).map rowL), .own ((putL (rowsL (l.take k)) x).map rowL), x7, x8]) (rs := rowsL (l.take k)) (x := x) (i := 6) (L := 3) (n := 8) (r := 7) C.ch.ne (by omega) (.inl rfl) rfl rfl (by decide) (by decide) (by decide) (by simp) (by simp)
  have pp3_ : pp3 a [.val (.lst (nis l)), .nst ((grK l k).2.map nis), .val (.int (k : Nat)), .own (nis (lens (rowsL (l.take k)) ++ [0])), x4, .own ((rowsL (l.take k)).map rowL), .own ((putL (rowsL (l.take k)) x).map rowL), x7, x8] = DL.M.ret (.nx [.val (.lst (nis l)), .nst ((grK l k).2.map nis), .val (.int (k : Nat)), .own (nis (lens (rowsL (l.take k)) ++ [0])), .val (.int (putN (rowsL (l.take k)) x : Nat)), .own ((rowsL (l.take k)).map rowL), .own ((putL (rowsL (l.take k)) x).map rowL), x7, x8]) := by
    unfold pp3
    simp only [bnd_ret, bnd_nn, bnd_rse, bnd_ite, bnd_bnd, semOf, gSeq, gNx, gSet, gDrop, gRet, gRetV, gRetN, gIf, gBk, gCt, gFrz, frz, gApp, gExt, gSetI, gAsg, gPar, gPop, gSetPop, gAppPop, gRaise, gFld, cVar, vVar, cC, toV, bin, una, aNil, aCons, cTup, cLst, rNil, rCons, setAll, addD, subD, negD, cmpD, notD, cCall, cMeth, cMeth0, cMake, objR, tV, truD, tNotD, tAndD, tOrD, tBl, andV, orV, cIf, chain, oNone, oSome, cSl, slD, ixD, lenD, tupleD, listD, cDict, tgN, tgS, tgT, tgs, wSeq, wEn, R.sl, R.d, Sl.isIns, oneIns, List.getElem?_cons_zero, List.getElem?_cons_succ, List.getElem?_nil, List.set_cons_zero, List.set_cons_succ, List.map_cons, List.map_nil, List.length_cons, List.length_nil, List.nil_append, List.cons_append, List.append_nil, List.replicate, List.all_cons, List.all_nil, Nat.reduceSub, Nat.reduceAdd, Nat.reduceLeDiff, Nat.reduceLT, Nat.reduceEqDiff, if_true, if_false, ite_true, ite_false, Bool.not_true, Bool.not_false, Bool.true_and, Bool.and_true, Bool.false_and, Bool.and_false, Bool.true_or, Bool.or_true, Bool.false_or, Bool.or_false, decide_true, decide_false, Bool.false_eq_true, reduceCtorEq, true_and, and_true, List.mem_cons_self, gc, at0]
  refine ⟨.own (nis (lens (rowsL (l.take k)) ++ [0])), .val (.int (putN (rowsL (l.take k)) x : Nat)), .own ((rowsL (l.take k)).map rowL), .own ((putL (rowsL (l.take k)) x).map rowL), ?_⟩
  unfold ppB
  rw [seq_nx pp1_, seq_nx pp2_, seq_nx pp3_]
  generalize putN (rowsL (l.take k)) x = n at *
  generalize (grK l k).2 = P at *
  generalize (rowsL (l.take k)).map rowL = A1 at *
  generalize (putL (rowsL (l.take k)) x).map rowL = A2 at *
  generalize nis (lens (rowsL (l.take k)) ++ [0]) = A3 at *
  by_cases hp : n = P.length
  · have e4 : pp4 a [.val (.lst (nis l)), .nst (P.map nis), .val (.int (k : Nat)), .own A3, .val (.int (n : Nat)), .own A1, .own A2, x7, x8] = DL.M.ret (.nx [.val (.lst (nis l)), .nst (P.map nis ++ [[]]), .val (.int (k : Nat)), .own A3, .val (.int (n : Nat)), .own A1, .own A2, x7, x8]) := by
      have dn : (false ^^ decide ((n : Int) = (P.length : Nat))) = true := by rw [hp]; simp
      unfold pp4
      simp only [bnd_ret, bnd_nn, bnd_rse, bnd_ite, bnd_bnd, semOf, gSeq, gNx, gSet, gDrop, gRet, gRetV, gRetN, gIf, gBk, gCt, gFrz, frz, gApp, gExt, gSetI, gAsg, gPar, gPop, gSetPop, gAppPop, gRaise, gFld, cVar, vVar, cC, toV, bin, una, aNil, aCons, cTup, cLst, rNil, rCons, setAll, addD, subD, negD, cmpD, notD, cCall, cMeth, cMeth0, cMake, objR, tV, truD, tNotD, tAndD, tOrD, tBl, andV, orV, cIf, chain, oNone, oSome, cSl, slD, ixD, lenD, tupleD, listD, cDict, tgN, tgS, tgT, tgs, wSeq, wEn, R.sl, R.d, Sl.isIns, oneIns, List.getElem?_cons_zero, List.getElem?_cons_succ, List.getElem?_nil, List.set_cons_zero, List.set_cons_succ, List.map_cons, List.map_nil, List.length_cons, List.length_nil, List.nil_append, List.cons_append, List.append_nil, List.replicate, List.all_cons, List.all_nil, Nat.reduceSub, Nat.reduceAdd, Nat.reduceLeDiff, Nat.reduceLT, Nat.reduceEqDiff, if_true, if_false, ite_true, ite_false, Bool.not_true, Bool.not_false, Bool.true_and, Bool.and_true, Bool.false_and, Bool.and_false, Bool.true_or, Bool.or_true, Bool.false_or, Bool.or_false, decide_true, decide_false, Bool.false_eq_true, reduceCtorEq, true_and, and_true, List.mem_cons_self, vVarN, eq_ii, List.length_map]
      rw [dn, if_pos rfl]
      simp only [bnd_ret, bnd_nn, bnd_rse, bnd_ite, bnd_bnd, semOf, gSeq, gNx, gSet, gDrop, gRet, gRetV, gRetN, gIf, gBk, gCt, gFrz, frz, gApp, gExt, gSetI, gAsg, gPar, gPop, gSetPop, gAppPop, gRaise, gFld, cVar, vVar, cC, toV, bin, una, aNil, aCons, cTup, cLst, rNil, rCons, setAll, addD, subD, negD, cmpD, notD, cCall, cMeth, cMeth0, cMake, objR, tV, truD, tNotD, tAndD, tOrD, tBl, andV, orV, cIf, chain, oNone, oSome, cSl, slD, ixD, lenD, tupleD, listD, cDict, tgN, tgS, tgT, tgs, wSeq, wEn, R.sl, R.d, Sl.isIns, oneIns, List.getElem?_cons_zero, List.getElem?_cons_succ, List.getElem?_nil, List.set_cons_zero, List.set_cons_succ, List.map_cons, List.map_nil, List.length_cons, List.length_nil, List.nil_append, List.cons_append, List.append_nil, List.replicate, List.all_cons, List.all_nil, Nat.reduceSub, Nat.reduceAdd, Nat.reduceLeDiff, Nat.reduceLT, Nat.reduceEqDiff, if_true, if_false, ite_true, ite_false, Bool.not_true, Bool.not_false, Bool.true_and, Bool.and_true, Bool.false_and, Bool.and_false, Bool.true_or, Bool.or_true, Bool.false_or, Bool.or_false, decide_true, decide_false, Bool.false_eq_true, reduceCtorEq, true_and, and_true, List.mem_cons_self, gApp2, List.length_map, show P.length < 100000 by omega]
    rw [seq_nx e4]
    have ix : L2.ixN (P.map nis ++ [[]]).length (n : Int) = some n := ix_n (by rw [List.length_append, List.length_map, List.length_singleton]; omega)
    have at1 : (P.map nis ++ [[]])[n]? = some [] := by rw [hp, List.getElem?_append_right (by rw [List.length_map]; exact Nat.le_refl _), List.length_map, Nat.sub_self]; rfl
    have st1 : (P.map nis ++ [[]]).set n [Dt.int (k : Nat)] = (addP P n k).map nis := by
      unfold addP
      rw [if_pos hp, hp, List.set_append_right _ _ (by rw [List.length_map]; exact Nat.le_refl _), List.length_map, Nat.sub_self, List.set_cons_zero, List.map_append]
      rfl
    unfold pp5
    generalize P.map nis ++ [[]] = PL at *
    simp only [bnd_ret, bnd_nn, bnd_rse, bnd_ite, bnd_bnd, semOf, gSeq, gNx, gSet, gDrop, gRet, gRetV, gRetN, gIf, gBk, gCt, gFrz, frz, gApp, gExt, gSetI, gAsg, gPar, gPop, gSetPop, gAppPop, gRaise, gFld, cVar, vVar, cC, toV, bin, una, aNil, aCons, cTup, cLst, rNil, rCons, setAll, addD, subD, negD, cmpD, notD, cCall, cMeth, cMeth0, cMake, objR, tV, truD, tNotD, tAndD, tOrD, tBl, andV, orV, cIf, chain, oNone, oSome, cSl, slD, ixD, lenD, tupleD, listD, cDict, tgN, tgS, tgT, tgs, wSeq, wEn, R.sl, R.d, Sl.isIns, oneIns, List.getElem?_cons_zero, List.getElem?_cons_succ, List.getElem?_nil, List.set_cons_zero, List.set_cons_succ, List.map_cons, List.map_nil, List.length_cons, List.length_nil, List.nil_append, List.cons_append, List.append_nil, List.replicate, List.all_cons, List.all_nil, Nat.reduceSub, Nat.reduceAdd, Nat.reduceLeDiff, Nat.reduceLT, Nat.reduceEqDiff, if_true, if_false, ite_true, ite_false, Bool.not_true, Bool.not_false, Bool.true_and, Bool.and_true, Bool.false_and, Bool.and_false, Bool.true_or, Bool.or_true, Bool.false_or, Bool.or_false, decide_true, decide_false, Bool.false_eq_true, reduceCtorEq, true_and, and_true, List.mem_cons_self, gAppI, ix, at1, st1, show (0 : Nat) < 100000 by decide]
  · have hlt : n < P.length := by omega
    have e4 : pp4 a [.val (.lst (nis l)), .nst (P.map nis), .val (.int (k : Nat)), .own A3, .val (.int (n : Nat)), .own A1, .own A2, x7, x8] = DL.M.ret (.nx [.val (.lst (nis l)), .nst (P.map nis), .val (.int (k : Nat)), .own A3, .val (.int (n : Nat)), .own A1, .own A2, x7, x8]) := by
      have dn : (false ^^ decide ((n : Int) = (P.length : Nat))) = false := by rw [decide_eq_false (by omega)]; rfl
      unfold pp4
      simp only [bnd_ret, bnd_nn, bnd_rse, bnd_ite, bnd_bnd, semOf, gSeq, gNx, gSet, gDrop, gRet, gRetV, gRetN, gIf, gBk, gCt, gFrz, frz, gApp, gExt, gSetI, gAsg, gPar, gPop, gSetPop, gAppPop, gRaise, gFld, cVar, vVar, cC, toV, bin, una, aNil, aCons, cTup, cLst, rNil, rCons, setAll, addD, subD, negD, cmpD, notD, cCall, cMeth, cMeth0, cMake, objR, tV, truD, tNotD, tAndD, tOrD, tBl, andV, orV, cIf, chain, oNone, oSome, cSl, slD, ixD, lenD, tupleD, listD, cDict, tgN, tgS, tgT, tgs, wSeq, wEn, R.sl, R.d, Sl.isIns, oneIns, List.getElem?_cons_zero, List.getElem?_cons_succ, List.getElem?_nil, List.set_cons_zero, List.set_cons_succ, List.map_cons, List.map_nil, List.length_cons, List.length_nil, List.nil_append, List.cons_append, List.append_nil, List.replicate, List.all_cons, List.all_nil, Nat.reduceSub, Nat.reduceAdd, Nat.reduceLeDiff, Nat.reduceLT, Nat.reduceEqDiff, if_true, if_false, ite_true, ite_false, Bool.not_true, Bool.not_false, Bool.true_and, Bool.and_true, Bool.false_and, Bool.and_false, Bool.true_or, Bool.or_true, Bool.false_or, Bool.or_false, decide_true, decide_false, Bool.false_eq_true, reduceCtorEq, true_and, and_true, List.mem_cons_self, vVarN, eq_ii, List.length_map]
      rw [dn, if_neg (by decide)]
    rw [seq_nx e4]
    have hq : P[n]? = some P[n] := List.getElem?_eq_getElem hlt
    have hql : P[n].length ≤ k := OP _ (List.getElem_mem hlt)
    have ix : L2.ixN (P.map nis).length (n : Int) = some n := ix_n (by rw [List.length_map]; exact hlt)
    have at1 : (P.map nis)[n]? = some (nis P[n]) := by rw [List.getElem?_map, hq]; rfl
    have st1 : (P.map nis).set n (nis P[n] ++ [Dt.int (k : Nat)]) = (addP P n k).map nis := by
      unfold addP
      rw [if_neg hp, hq, List.map_set]
      simp [nis, List.map_append]
    have ql2 : (nis P[n]).length < 100000 := by rw [List.length_map]; omega
    unfold pp5
    generalize P.map nis = PL at *
    simp only [bnd_ret, bnd_nn, bnd_rse, bnd_ite, bnd_bnd, semOf, gSeq, gNx, gSet, gDrop, gRet, gRetV, gRetN, gIf, gBk, gCt, gFrz, frz, gApp, gExt, gSetI, gAsg, gPar, gPop, gSetPop, gAppPop, gRaise, gFld, cVar, vVar, cC, toV, bin, una, aNil, aCons, cTup, cLst, rNil, rCons, setAll, addD, subD, negD, cmpD, notD, cCall, cMeth, cMeth0, cMake, objR, tV, truD, tNotD, tAndD, tOrD, tBl, andV, orV, cIf, chain, oNone, oSome, cSl, slD, ixD, lenD, tupleD, listD, cDict, tgN, tgS, tgT, tgs, wSeq, wEn, R.sl, R.d, Sl.isIns, oneIns, List.getElem?_cons_zero, List.getElem?_cons_succ, List.getElem?_nil, List.set_cons_zero, List.set_cons_succ, List.map_cons, List.map_nil, List.length_cons, List.length_nil, List.nil_append, List.cons_append, List.append_nil, List.replicate, List.all_cons, List.all_nil, Nat.reduceSub, Nat.reduceAdd, Nat.reduceLeDiff, Nat.reduceLT, Nat.reduceEqDiff, if_true, if_false, ite_true, ite_false, Bool.not_true, Bool.not_false, Bool.true_and, Bool.and_true, Bool.false_and, Bool.and_false, Bool.true_or, Bool.or_true, Bool.false_or, Bool.or_false, decide_true, decide_false, Bool.false_eq_true, reduceCtorEq, true_and, and_true, List.mem_cons_self, gAppI, ix, at1, ql2, st1]
theorem law_places_ {size : Int} {l : List Int} (L : Lt size l) : S__law_places a [.lst (nis l)] = DL.M.ret (.val (.lst ((placesL l).map rowL))) := by
  have hl := L.len
  have src : wRng1 (toV (una (vVar 0) lenD)) [.val (.lst (nis l)), .nst [], .non, .non, .non, .non, .non, .non, .non] = DL.M.ret (rngD 0 l.length) := by
    unfold wRng1
    simp only [bnd_ret, bnd_nn, bnd_rse, bnd_ite, bnd_bnd, semOf, gSeq, gNx, gSet, gDrop, gRet, gRetV, gRetN, gIf, gBk, gCt, gFrz, frz, gApp, gExt, gSetI, gAsg, gPar, gPop, gSetPop, gAppPop, gRaise, gFld, cVar, vVar, cC, toV, bin, una, aNil, aCons, cTup, cLst, rNil, rCons, setAll, addD, subD, negD, cmpD, notD, cCall, cMeth, cMeth0, cMake, objR, tV, truD, tNotD, tAndD, tOrD, tBl, andV, orV, cIf, chain, oNone, oSome, cSl, slD, ixD, lenD, tupleD, listD, cDict, tgN, tgS, tgT, tgs, wSeq, wEn, R.sl, R.d, Sl.isIns, oneIns, List.getElem?_cons_zero, List.getElem?_cons_succ, List.getElem?_nil, List.set_cons_zero, List.set_cons_succ, List.map_cons, List.map_nil, List.length_cons, List.length_nil, List.nil_append, List.cons_append, List.append_nil, List.replicate, List.all_cons, List.all_nil, Nat.reduceSub, Nat.reduceAdd, Nat.reduceLeDiff, Nat.reduceLT, Nat.reduceEqDiff, if_true, if_false, ite_true, ite_false, Bool.not_true, Bool.not_false, Bool.true_and, Bool.and_true, Bool.false_and, Bool.and_false, Bool.true_or, Bool.or_true, Bool.false_or, Bool.or_false, decide_true, decide_false, Bool.false_eq_true, reduceCtorEq, true_and, and_true, List.mem_cons_self, List.length_map]
    rw [if_pos (by omega), Int.toNat_natCast]
  obtain ⟨δ', e, y2, y3, y4, y5, y6, rfl⟩ := for_ret0 (tg := tgN 2) (body := ppB a) (l := rngD 0 l.length) (fun k δ => ∃ y2 y3 y4 y5 y6, δ = [.val (.lst (nis l)), .nst ((grK l k).2.map nis), y2, y3, y4, y5, y6, .non, .non]) (fun k d δ hk ⟨y2, y3, y4, y5, y6, e⟩ => by
    subst e
    have hk2 : (rngD 0 ((l.length : Int)).toNat)[k]? = some d := by rw [Int.toNat_natCast]; exact hk
    obtain ⟨rfl, hlt⟩ := rng_at hk2
    have hx : l[k]? = some l[k] := List.getElem?_eq_getElem (by omega)
    obtain ⟨z3, z4, z5, z6, q⟩ := pp_body (a := a) L hx (x3 := y3) (x4 := y4) (x5 := y5) (x6 := y6) (x7 := .non) (x8 := .non)
    exact ⟨_, _, rfl, q, _, _, _, _, _, rfl⟩) (δ := [.val (.lst (nis l)), .nst [], .non, .non, .non, .non, .non, .non, .non]) ⟨_, _, _, _, _, rfl⟩
  have hle : (rngD 0 l.length).length = l.length := by unfold rngD; rw [List.length_map, List.length_range]
  rw [hle] at e
  have fin : ((grK l l.length).2.map nis).map Dt.lst = (placesL l).map rowL := by unfold placesL; rw [List.map_map]; rfl
  rw [show S__law_places a = semOf 9 (gSeq (gNest 1 (gSet 1 (cLst aNil))) (gSeq (gFor (wRng1 (toV (una (vVar 0) lenD))) (tgN 2) (ppB a)) (gFrz 1 (gRet (cVar 1))))) from rfl]
  have n1 : gNest 1 (gSet 1 (cLst aNil)) [.val (.lst (nis l)), .non, .non, .non, .non, .non, .non, .non, .non] = DL.M.ret (.nx [.val (.lst (nis l)), .nst [], .non, .non, .non, .non, .non, .non, .non]) := rfl
  unfold semOf
  show DL.M.bnd (gSeq _ _ [.val (.lst (nis l)), .non, .non, .non, .non, .non, .non, .non, .non]) _ = _
  rw [seq_nx n1]
  simp only [gSeq, gFor, src, bnd_ret, e]
  simp only [bnd_ret, bnd_nn, bnd_rse, bnd_ite, bnd_bnd, semOf, gSeq, gNx, gSet, gDrop, gRet, gRetV, gRetN, gIf, gBk, gCt, gFrz, frz, gApp, gExt, gSetI, gAsg, gPar, gPop, gSetPop, gAppPop, gRaise, gFld, cVar, vVar, cC, toV, bin, una, aNil, aCons, cTup, cLst, rNil, rCons, setAll, addD, subD, negD, cmpD, notD, cCall, cMeth, cMeth0, cMake, objR, tV, truD, tNotD, tAndD, tOrD, tBl, andV, orV, cIf, chain, oNone, oSome, cSl, slD, ixD, lenD, tupleD, listD, cDict, tgN, tgS, tgT, tgs, wSeq, wEn, R.sl, R.d, Sl.isIns, oneIns, List.getElem?_cons_zero, List.getElem?_cons_succ, List.getElem?_nil, List.set_cons_zero, List.set_cons_succ, List.map_cons, List.map_nil, List.length_cons, List.length_nil, List.nil_append, List.cons_append, List.append_nil, List.replicate, List.all_cons, List.all_nil, Nat.reduceSub, Nat.reduceAdd, Nat.reduceLeDiff, Nat.reduceLT, Nat.reduceEqDiff, if_true, if_false, ite_true, ite_false, Bool.not_true, Bool.not_false, Bool.true_and, Bool.and_true, Bool.false_and, Bool.and_false, Bool.true_or, Bool.or_true, Bool.false_or, Bool.or_false, decide_true, decide_false, Bool.false_eq_true, reduceCtorEq, true_and, and_true, List.mem_cons_self, fin]
theorem st_body {size : Int} {l : List Int} (L : Lt size l) (h24 : l.length < 40) {k : Nat} {x : Int} (hx : l[k]? = some x) {x5 x6 x7 x8 x9 x10 x11 : Sl} : ∃ y5 y6 y7 y8 y9, stB a [.val (.int size), .val (.lst (nis l)), .val (tabD a size (rowsL (l.take k))), .val (.int (k : Nat)), .val (.int x), x5, x6, x7, x8, x9, x10, x11] = DL.M.ret (.nx [.val (.int size), .val (.lst (nis l)), .val (tabD a size (rowsL (l.take (k + 1)))), .val (.int (k : Nat)), .val (.int x), y5, y6, y7, y8, y9, x10, x11]) := by
  have hk : k < l.length := (List.getElem?_eq_some_iff.mp hx).1
  have hl := L.len
  have C := (L.tk k).tc
  have r1 := law_rows_ (a := a) (L.tk k)
  have r2 := law_rows_ (a := a) (L.tk (k + 1))
  have c1 := cut_k l k
  have c2 := cut_k1 l k
  have rl := C.rows
  have s1 := C.s1
  have C2 := (L.tk (k + 1)).tc
  rw [rowsL_s hx] at r2 C2
  rw [rowsL_s hx]
  obtain ⟨x0, x1⟩ := L.bd x (List.mem_of_getElem? hx)
  have sz : szs (rowsL (l.take k)) < 40 := by rw [(rowsL_tb (L.tk k)).2, List.length_take]; omega
  have ins := inserted_ok (a := a) C x0 x1 sz
  have it1 := is_table (a := a) (isRows.lst (rowsL (l.take k))) C
  have it2 := is_table (a := a) (isRows.lst (putL (rowsL (l.take k)) x)) C2
  have pn := (putL_n (rowsL (l.take k)) x).1
  have lk := like_same (a := a) (Tx.int (z := ((putN (rowsL (l.take k)) x : Nat) : Int)) (by omega)) (by decide) (by decide)
  have gc : ∀ y5 y6, cLc (wEn (vVar 9)) (tgT [tgN 11, tgN 10]) (tBl (bin (toV (una (vVar 10) lenD)) (toV (bin (vVar 6) (vVar 11) ixD)) (cmpD fun x y => decide (y < x)))) (cVar 11) [11, 10] [.val (.int size), .val (.lst (nis l)), .val (tabD a size (rowsL (l.take k))), .val (.int (k : Nat)), .val (.int x), y5, .own (nis (lens (rowsL (l.take k)) ++ [0])), y6, .own ((rowsL (l.take k)).map rowL), .own ((putL (rowsL (l.take k)) x).map rowL), x10, x11] = DL.M.ret (.new [.int (putN (rowsL (l.take k)) x : Nat)]) := fun y5 y6 =>
    grown_c (rs := rowsL (l.take k)) (x := x) (i := 9) (L := 6) (n := 11) (r := 10) C.ch.ne (by omega) (.inl rfl) rfl rfl (by decide) (by decide) (by decide) (by simp) (by simp)
  have lc : ∀ y5 y6 y7, bin (toV (cLc (wSeq (vVar 8)) (tgN 10) tYesD (una (vVar 10) lenD) [10])) (toV (cLst (aCons (cC (.int 0)) aNil))) addD [.val (.int size), .val (.lst (nis l)), .val (tabD a size (rowsL (l.take k))), .val (.int (k : Nat)), .val (.int x), y5, y6, y7, .own ((rowsL (l.take k)).map rowL), .own ((putL (rowsL (l.take k)) x).map rowL), x10, x11] = DL.M.ret (.new (nis (lens (rowsL (l.take k)) ++ [0]))) := fun y5 y6 y7 => lens_c (by omega) (.inl rfl) (by simp)
  have it_ : ∀ d, isiD (ocs a) [.ty "tuple"] (.tup d) = DL.M.ret (.val (.bl true)) := fun d => isi_ty _ "tuple" _ rfl (b := true) (by decide +kernel)
  have e22 : eqG true (.int ((2 : Nat) : Int)) (.int 2) = DL.M.ret (.val (.bl false)) := by rw [eq_ii]; rfl
  generalize putN (rowsL (l.take k)) x = n at *
  generalize tabD a size (rowsL (l.take k)) = t1 at *
  generalize tabD a size (putL (rowsL (l.take k)) x) = t2 at *
  generalize (rowsL (l.take k)).map rowL = A1 at *
  generalize (putL (rowsL (l.take k)) x).map rowL = A2 at *
  generalize nis (lens (rowsL (l.take k)) ++ [0]) = A3 at *
  have e1 : st1 a [.val (.int size), .val (.lst (nis l)), .val t1, .val (.int (k : Nat)), .val (.int x), x5, x6, x7, x8, x9, x10, x11] = DL.M.ret (.nx [.val (.int size), .val (.lst (nis l)), .val t1, .val (.int (k : Nat)), .val (.int x), .val (.tup [t2, .int (n : Nat)]), x6, x7, x8, x9, x10, x11]) := by
    unfold st1
    simp only [bnd_ret, bnd_nn, bnd_rse, bnd_ite, bnd_bnd, semOf, gSeq, gNx, gSet, gDrop, gRet, gRetV, gRetN, gIf, gBk, gCt, gFrz, frz, gApp, gExt, gSetI, gAsg, gPar, gPop, gSetPop, gAppPop, gRaise, gFld, cVar, vVar, cC, toV, bin, una, aNil, aCons, cTup, cLst, rNil, rCons, setAll, addD, subD, negD, cmpD, notD, cCall, cMeth, cMeth0, cMake, objR, tV, truD, tNotD, tAndD, tOrD, tBl, andV, orV, cIf, chain, oNone, oSome, cSl, slD, ixD, lenD, tupleD, listD, cDict, tgN, tgS, tgT, tgs, wSeq, wEn, R.sl, R.d, Sl.isIns, oneIns, List.getElem?_cons_zero, List.getElem?_cons_succ, List.getElem?_nil, List.set_cons_zero, List.set_cons_succ, List.map_cons, List.map_nil, List.length_cons, List.length_nil, List.nil_append, List.cons_append, List.append_nil, List.replicate, List.all_cons, List.all_nil, Nat.reduceSub, Nat.reduceAdd, Nat.reduceLeDiff, Nat.reduceLT, Nat.reduceEqDiff, if_true, if_false, ite_true, ite_false, Bool.not_true, Bool.not_false, Bool.true_and, Bool.and_true, Bool.false_and, Bool.and_false, Bool.true_or, Bool.or_true, Bool.false_or, Bool.or_false, decide_true, decide_false, Bool.false_eq_true, reduceCtorEq, true_and, and_true, List.mem_cons_self, ins]
  have e2 : st2 a [.val (.int size), .val (.lst (nis l)), .val t1, .val (.int (k : Nat)), .val (.int x), .val (.tup [t2, .int (n : Nat)]), x6, x7, x8, x9, x10, x11] = DL.M.ret (.nx [.val (.int size), .val (.lst (nis l)), .val t1, .val (.int (k : Nat)), .val (.int x), .val (.tup [t2, .int (n : Nat)]), x6, x7, .own A1, .own A2, x10, x11]) := by
    unfold st2
    simp only [bnd_ret, bnd_nn, bnd_rse, bnd_ite, bnd_bnd, semOf, gSeq, gNx, gSet, gDrop, gRet, gRetV, gRetN, gIf, gBk, gCt, gFrz, frz, gApp, gExt, gSetI, gAsg, gPar, gPop, gSetPop, gAppPop, gRaise, gFld, cVar, vVar, cC, toV, bin, una, aNil, aCons, cTup, cLst, rNil, rCons, setAll, addD, subD, negD, cmpD, notD, cCall, cMeth, cMeth0, cMake, objR, tV, truD, tNotD, tAndD, tOrD, tBl, andV, orV, cIf, chain, oNone, oSome, cSl, slD, ixD, lenD, tupleD, listD, cDict, tgN, tgS, tgT, tgs, wSeq, wEn, R.sl, R.d, Sl.isIns, oneIns, List.getElem?_cons_zero, List.getElem?_cons_succ, List.getElem?_nil, List.set_cons_zero, List.set_cons_succ, List.map_cons, List.map_nil, List.length_cons, List.length_nil, List.nil_append, List.cons_append, List.append_nil, List.replicate, List.all_cons, List.all_nil, Nat.reduceSub, Nat.reduceAdd, Nat.reduceLeDiff, Nat.reduceLT, Nat.reduceEqDiff, if_true, if_false, ite_true, ite_false, Bool.not_true, Bool.not_false, Bool.true_and, Bool.and_true, Bool.false_and, Bool.and_false, Bool.true_or, Bool.or_true, Bool.false_or, Bool.or_false, decide_true, decide_false, Bool.false_eq_true, reduceCtorEq, true_and, and_true, List.mem_cons_self, c1, c2, r1, r2]
  have e3 : st3 a [.val (.int size), .val (.lst (nis l)), .val t1, .val (.int (k : Nat)), .val (.int x), .val (.tup [t2, .int (n : Nat)]), x6, x7, .own A1, .own A2, x10, x11] = DL.M.ret (.nx [.val (.int size), .val (.lst (nis l)), .val t1, .val (.int (k : Nat)), .val (.int x), .val (.tup [t2, .int (n : Nat)]), .own A3, x7, .own A1, .own A2, x10, x11]) := by
    unfold st3
    exact set_nx (lc _ _ _)
  have e4 : st4 a [.val (.int size), .val (.lst (nis l)), .val t1, .val (.int (k : Nat)), .val (.int x), .val (.tup [t2, .int (n : Nat)]), .own A3, x7, .own A1, .own A2, x10, x11] = DL.M.ret (.nx [.val (.int size), .val (.lst (nis l)), .val t1, .val (.int (k : Nat)), .val (.int x), .val (.tup [t2, .int (n : Nat)]), .own A3, .own [.int (n : Nat)], .own A1, .own A2, x10, x11]) := by
    unfold st4
    exact set_nx (gc _ _)
  have e5 : st5 a [.val (.int size), .val (.lst (nis l)), .val t1, .val (.int (k : Nat)), .val (.int x), .val (.tup [t2, .int (n : Nat)]), .own A3, .own [.int (n : Nat)], .own A1, .own A2, x10, x11] = DL.M.ret (.nx [.val (.int size), .val (.lst (nis l)), .val t1, .val (.int (k : Nat)), .val (.int x), .val (.tup [t2, .int (n : Nat)]), .own A3, .own [.int (n : Nat)], .own A1, .val (.lst A2), x10, x11]) := by
    unfold st5
    simp only [bnd_ret, bnd_nn, bnd_rse, bnd_ite, bnd_bnd, semOf, gSeq, gNx, gSet, gDrop, gRet, gRetV, gRetN, gIf, gBk, gCt, gFrz, frz, gApp, gExt, gSetI, gAsg, gPar, gPop, gSetPop, gAppPop, gRaise, gFld, cVar, vVar, cC, toV, bin, una, aNil, aCons, cTup, cLst, rNil, rCons, setAll, addD, subD, negD, cmpD, notD, cCall, cMeth, cMeth0, cMake, objR, tV, truD, tNotD, tAndD, tOrD, tBl, andV, orV, cIf, chain, oNone, oSome, cSl, slD, ixD, lenD, tupleD, listD, cDict, tgN, tgS, tgT, tgs, wSeq, wEn, R.sl, R.d, Sl.isIns, oneIns, List.getElem?_cons_zero, List.getElem?_cons_succ, List.getElem?_nil, List.set_cons_zero, List.set_cons_succ, List.map_cons, List.map_nil, List.length_cons, List.length_nil, List.nil_append, List.cons_append, List.append_nil, List.replicate, List.all_cons, List.all_nil, Nat.reduceSub, Nat.reduceAdd, Nat.reduceLeDiff, Nat.reduceLT, Nat.reduceEqDiff, if_true, if_false, ite_true, ite_false, Bool.not_true, Bool.not_false, Bool.true_and, Bool.and_true, Bool.false_and, Bool.and_false, Bool.true_or, Bool.or_true, Bool.false_or, Bool.or_false, decide_true, decide_false, Bool.false_eq_true, reduceCtorEq, true_and, and_true, List.mem_cons_self, it_, e22, (at01 _ _).1, it2]
  have e6 : st6 a [.val (.int size), .val (.lst (nis l)), .val t1, .val (.int (k : Nat)), .val (.int x), .val (.tup [t2, .int (n : Nat)]), .own A3, .own [.int (n : Nat)], .own A1, .val (.lst A2), x10, x11] = DL.M.ret (.nx [.val (.int size), .val (.lst (nis l)), .val t1, .val (.int (k : Nat)), .val (.int x), .val (.tup [t2, .int (n : Nat)]), .own A3, .own [.int (n : Nat)], .val (.lst A1), .val (.lst A2), x10, x11]) := by
    unfold st6
    simp only [bnd_ret, bnd_nn, bnd_rse, bnd_ite, bnd_bnd, semOf, gSeq, gNx, gSet, gDrop, gRet, gRetV, gRetN, gIf, gBk, gCt, gFrz, frz, gApp, gExt, gSetI, gAsg, gPar, gPop, gSetPop, gAppPop, gRaise, gFld, cVar, vVar, cC, toV, bin, una, aNil, aCons, cTup, cLst, rNil, rCons, setAll, addD, subD, negD, cmpD, notD, cCall, cMeth, cMeth0, cMake, objR, tV, truD, tNotD, tAndD, tOrD, tBl, andV, orV, cIf, chain, oNone, oSome, cSl, slD, ixD, lenD, tupleD, listD, cDict, tgN, tgS, tgT, tgs, wSeq, wEn, R.sl, R.d, Sl.isIns, oneIns, List.getElem?_cons_zero, List.getElem?_cons_succ, List.getElem?_nil, List.set_cons_zero, List.set_cons_succ, List.map_cons, List.map_nil, List.length_cons, List.length_nil, List.nil_append, List.cons_append, List.append_nil, List.replicate, List.all_cons, List.all_nil, Nat.reduceSub, Nat.reduceAdd, Nat.reduceLeDiff, Nat.reduceLT, Nat.reduceEqDiff, if_true, if_false, ite_true, ite_false, Bool.not_true, Bool.not_false, Bool.true_and, Bool.and_true, Bool.false_and, Bool.and_false, Bool.true_or, Bool.or_true, Bool.false_or, Bool.or_false, decide_true, decide_false, Bool.false_eq_true, reduceCtorEq, true_and, and_true, List.mem_cons_self, (at01 _ _).2, at0, lk, it1]
  refine ⟨.val (.tup [t2, .int (n : Nat)]), .own A3, .own [.int (n : Nat)], .val (.lst A1), .val (.lst A2), ?_⟩
  unfold stB
  rw [seq_nx e1, seq_nx e2, seq_nx e3, seq_nx e4, seq_nx e5, seq_nx e6]
  unfold st7
  simp only [bnd_ret, bnd_nn, bnd_rse, bnd_ite, bnd_bnd, semOf, gSeq, gNx, gSet, gDrop, gRet, gRetV, gRetN, gIf, gBk, gCt, gFrz, frz, gApp, gExt, gSetI, gAsg, gPar, gPop, gSetPop, gAppPop, gRaise, gFld, cVar, vVar, cC, toV, bin, una, aNil, aCons, cTup, cLst, rNil, rCons, setAll, addD, subD, negD, cmpD, notD, cCall, cMeth, cMeth0, cMake, objR, tV, truD, tNotD, tAndD, tOrD, tBl, andV, orV, cIf, chain, oNone, oSome, cSl, slD, ixD, lenD, tupleD, listD, cDict, tgN, tgS, tgT, tgs, wSeq, wEn, R.sl, R.d, Sl.isIns, oneIns, List.getElem?_cons_zero, List.getElem?_cons_succ, List.getElem?_nil, List.set_cons_zero, List.set_cons_succ, List.map_cons, List.map_nil, List.length_cons, List.length_nil, List.nil_append, List.cons_append, List.append_nil, List.replicate, List.all_cons, List.all_nil, Nat.reduceSub, Nat.reduceAdd, Nat.reduceLeDiff, Nat.reduceLT, Nat.reduceEqDiff, if_true, if_false, ite_true, ite_false, Bool.not_true, Bool.not_false, Bool.true_and, Bool.and_true, Bool.false_and, Bool.and_false, Bool.true_or, Bool.or_true, Bool.false_or, Bool.or_false, decide_true, decide_false, Bool.false_eq_true, reduceCtorEq, true_and, and_true, List.mem_cons_self, (at01 _ _).1]
theorem steps_right {size : Int} {l : List Int} (L : Lt size l) (h24 : l.length < 40) : S__law_steps_right a [.int size, .lst (nis l)] = DL.M.ret (.val (.bl true)) := by
  have mk : DL.M.bnd (S_Table_init a [.int size, .tup []]) objR = DL.M.ret (.val (tabD a size [])) := by
    rw [show Dt.tup [] = .tup (([] : List (List Int)).map rowT) from rfl, make_table (isRows.tup []) (L.tk 0).tc.tb]
    rfl
  have n1 : gSet 2 (cMake 3 (aCons (cVar 0) (aCons (cTup aNil) aNil)) (S_Table_init a)) [.val (.int size), .val (.lst (nis l)), .non, .non, .non, .non, .non, .non, .non, .non, .non, .non] = DL.M.ret (.nx [.val (.int size), .val (.lst (nis l)), .val (tabD a size []), .non, .non, .non, .non, .non, .non, .non, .non, .non]) := by
    simp only [bnd_ret, bnd_nn, bnd_rse, bnd_ite, bnd_bnd, semOf, gSeq, gNx, gSet, gDrop, gRet, gRetV, gRetN, gIf, gBk, gCt, gFrz, frz, gApp, gExt, gSetI, gAsg, gPar, gPop, gSetPop, gAppPop, gRaise, gFld, cVar, vVar, cC, toV, bin, una, aNil, aCons, cTup, cLst, rNil, rCons, setAll, addD, subD, negD, cmpD, notD, cCall, cMeth, cMeth0, cMake, objR, tV, truD, tNotD, tAndD, tOrD, tBl, andV, orV, cIf, chain, oNone, oSome, cSl, slD, ixD, lenD, tupleD, listD, cDict, tgN, tgS, tgT, tgs, wSeq, wEn, R.sl, R.d, Sl.isIns, oneIns, List.getElem?_cons_zero, List.getElem?_cons_succ, List.getElem?_nil, List.set_cons_zero, List.set_cons_succ, List.map_cons, List.map_nil, List.length_cons, List.length_nil, List.nil_append, List.cons_append, List.append_nil, List.replicate, List.all_cons, List.all_nil, Nat.reduceSub, Nat.reduceAdd, Nat.reduceLeDiff, Nat.reduceLT, Nat.reduceEqDiff, if_true, if_false, ite_true, ite_false, Bool.not_true, Bool.not_false, Bool.true_and, Bool.and_true, Bool.false_and, Bool.and_false, Bool.true_or, Bool.or_true, Bool.false_or, Bool.or_false, decide_true, decide_false, Bool.false_eq_true, reduceCtorEq, true_and, and_true, List.mem_cons_self, mk]
  have src : wEn (toV (cVar 1)) [.val (.int size), .val (.lst (nis l)), .val (tabD a size []), .non, .non, .non, .non, .non, .non, .non, .non, .non] = DL.M.ret (enumD 0 (nis l)) := rfl
  obtain ⟨δ', e, y2, y3, y4, y5, y6, y7, y8, y9, rfl⟩ := for_ret0 (tg := tgS [(tgN 3), (tgN 4)]) (body := stB a) (l := enumD 0 (nis l)) (fun k δ => ∃ y3 y4 y5 y6 y7 y8 y9, δ = [.val (.int size), .val (.lst (nis l)), .val (tabD a size (rowsL (l.take k))), y3, y4, y5, y6, y7, y8, y9, .non, .non]) (fun k d δ hk ⟨y3, y4, y5, y6, y7, y8, y9, e⟩ => by
    subst e
    obtain ⟨x, hx, rfl⟩ := enum_at hk
    obtain ⟨z5, z6, z7, z8, z9, q⟩ := st_body (a := a) L h24 hx (x5 := y5) (x6 := y6) (x7 := y7) (x8 := y8) (x9 := y9) (x10 := .non) (x11 := .non)
    exact ⟨_, _, rfl, q, _, _, _, _, _, _, _, rfl⟩) (δ := [.val (.int size), .val (.lst (nis l)), .val (tabD a size []), .non, .non, .non, .non, .non, .non, .non, .non, .non]) ⟨_, _, _, _, _, _, _, rfl⟩
  rw [show S__law_steps_right a = semOf 12 (gSeq (gSet 2 (cMake 3 (aCons (cVar 0) (aCons (cTup aNil) aNil)) (S_Table_init a))) (gSeq (gFor (wEn (toV (cVar 1))) (tgS [(tgN 3), (tgN 4)]) (stB a)) (gRet (cC (.bl true))))) from rfl]
  unfold semOf
  show DL.M.bnd (gSeq _ _ [.val (.int size), .val (.lst (nis l)), .non, .non, .non, .non, .non, .non, .non, .non, .non, .non]) _ = _
  rw [seq_nx n1]
  simp only [gSeq, gFor, src, bnd_ret, e]
  rfl
end Dg
set_option maxHeartbeats 0
set_option pp.maxSteps 3000
namespace Dg
open PySem DL LwM
variable {a : Adr} {T : List (Addr × Str)}
noncomputable def w1 (a : Adr) : List Sl → DL.M Fl :=
  (gSet 3 (cCall 1 (aCons (cVar 1) aNil) (S__law_size a)))
noncomputable def w2 (a : Adr) : List Sl → DL.M Fl :=
  (gSet 4 (cCall 3 (aCons (cVar 1) (aCons (cVar 3) (aCons (cC (.int 24)) aNil))) (S__law_letters a)))
noncomputable def w3 (a : Adr) : List Sl → DL.M Fl :=
  (gFrz 4 (gSet 5 (cMake 3 (aCons (cVar 3) (aCons (cVar 4) aNil)) (S_Word_init a))))
noncomputable def w4 (a : Adr) : List Sl → DL.M Fl :=
  (gFrz 4 (gIf (tOrD (tNotD (tV (toV (cCall 2 (aCons (cVar 3) (aCons (cVar 4) aNil)) (S__law_steps_right a))))) (tNotD (tV (toV (cCall 3 (aCons (cCall 1 (aCons (cVar 5) aNil) (S_bumped a)) (aCons (cVar 3) (aCons (cCall 1 (aCons (cVar 4) aNil) (S__law_rows a)) aNil))) (S__law_is_table a)))))) (gRet (cC (.bl false))) gNx))
noncomputable def w5 (a : Adr) : List Sl → DL.M Fl :=
  (gFrz 4 (gIf (tNotD (tV (toV (cCall 2 (aCons (cCall 1 (aCons (cVar 5) aNil) (S_recording a)) (aCons (una (toV (cLc (wSeq (toV (cCall 1 (aCons (cVar 4) aNil) (S__law_places a)))) (tgN 9) tYesD (una (vVar 9) tupleD) [9])) tupleD) aNil)) (S__law_like a))))) (gRet (cC (.bl false))) gNx))
noncomputable def w6 (a : Adr) : List Sl → DL.M Fl :=
  (gSet 6 (cCall 2 (aCons (cVar 1) (aCons (cVar 3) aNil)) (S__law_odd a)))
noncomputable def w7 (a : Adr) : List Sl → DL.M Fl :=
  (gSet 7 (cMake 3 (aCons (cVar 3) (aCons (cLst (aCons (bin (toV (cLst (aCons (cC (.int 1)) aNil))) (toV (cC (.int 40))) mulG) aNil)) aNil)) (S_Table_init a)))
noncomputable abbrev w8b (a : Adr) : List Sl → DL.M Fl :=
  (gIf (tBl (bin (toV (cHeard a.ec usd a.P_law lq_law (cCall 2 (aCons (cVar 8) (aCons (cVar 6) aNil)) (S_inserted a)))) (toV (cTup (aCons (cC (.str "letters")) (aCons (cC .non) aNil)))) (orOp (objL a.w_Table) (eqAn (ocs a) a.w_Table true (S_Table_eq a)) (orOp (prP a.w_Table) (nePr a.w_Table (S_Table_eq a)) (eqG true))))) (gRet (cC (.bl false))) gNx)
noncomputable def w8 (a : Adr) : List Sl → DL.M Fl :=
  (gFor (wSeq (toV (cTup (aCons (cCall 1 (aCons (cVar 5) aNil) (S_bumped a)) (aCons (cVar 7) aNil))))) (tgN 8) (w8b a))
noncomputable def w9 (a : Adr) : List Sl → DL.M Fl :=
  (gIf (tBl (bin (toV (cHeard a.ec usd a.P_law lq_law (cCall 2 (aCons (cVar 7) (aCons (bin (toV (cC (.int 1))) (toV (cCall 2 (aCons (cVar 1) (aCons (cVar 3) aNil)) (S__law_draw a))) addD) aNil)) (S_inserted a)))) (toV (cTup (aCons (cC (.str "great")) (aCons (cC (.int 40)) aNil)))) (orOp (objL a.w_Table) (eqAn (ocs a) a.w_Table true (S_Table_eq a)) (orOp (prP a.w_Table) (nePr a.w_Table (S_Table_eq a)) (eqG true))))) (gRet (cC (.bl false))) gNx)
noncomputable def w10 (a : Adr) : List Sl → DL.M Fl :=
  (gFrz 4 (gIf (tOrD (tNotD (tV (toV (cCall 3 (aCons (cVar 7) (aCons (cVar 3) (aCons (cLst (aCons (bin (toV (cLst (aCons (cC (.int 1)) aNil))) (toV (cC (.int 40))) mulG) aNil)) aNil))) (S__law_is_table a))))) (tNotD (tV (toV (cCall 3 (aCons (cVar 5) (aCons (cVar 3) (aCons (cVar 4) aNil))) (S__law_is_word a)))))) (gRet (cC (.bl false))) gNx))
noncomputable def wB (a : Adr) : List Sl → DL.M Fl :=
  gSeq (w1 a) (gSeq (w2 a) (gSeq (w3 a) (gSeq (w4 a) (gSeq (w5 a) (gSeq (w6 a) (gSeq (w7 a) (gSeq (w8 a) (gSeq (w9 a) (w10 a)))))))))
-- of the loop; before: 0  source: (wSeq (toV (cTup (aCons (cCall 1 (aCons (cVar 5) aNil) (S_bumped a)) (aCons (cVar 7) aNil))))) (tgN 8)  after: 3
noncomputable def wE1 (a : Adr) : List Sl → DL.M Fl :=
  (gIf (tBl (bin (toV (cCall 2 (aCons (cMake 3 (aCons (cC (.int 3)) (aCons (cLst (aCons (cLst (aCons (cC (.int 1)) (aCons (cC (.int 2)) (aCons (cC (.int 2)) aNil)))) (aCons (cLst (aCons (cC (.int 3)) aNil)) aNil))) aNil)) (S_Table_init a)) (aCons (cC (.int 1)) aNil)) (S_inserted a))) (toV (cTup (aCons (cMake 3 (aCons (cC (.int 3)) (aCons (cLst (aCons (cLst (aCons (cC (.int 1)) (aCons (cC (.int 1)) (aCons (cC (.int 2)) aNil)))) (aCons (cLst (aCons (cC (.int 2)) aNil)) (aCons (cLst (aCons (cC (.int 3)) aNil)) aNil)))) aNil)) (S_Table_init a)) (aCons (cC (.int 2)) aNil)))) (orOp (objL a.w_Table) (eqAn (ocs a) a.w_Table true (S_Table_eq a)) (orOp (prP a.w_Table) (nePr a.w_Table (S_Table_eq a)) (eqG true))))) (gRet (cC (.bl false))) gNx)
noncomputable def wE2 (a : Adr) : List Sl → DL.M Fl :=
  (gIf (tOrD (tBl (bin (toV (una (toV (cCall 1 (aCons (cMake 3 (aCons (cC (.int 2)) (aCons (cTup aNil) aNil)) (S_Word_init a)) aNil) (S_bumped a))) (fldsD [a.w_Table] "rows"))) (toV (cTup aNil)) (orOp (objL a.w_Table) (eqAn (ocs a) a.w_Table true (S_Table_eq a)) (orOp (prP a.w_Table) (nePr a.w_Table (S_Table_eq a)) (eqG true))))) (tBl (bin (toV (cCall 1 (aCons (cMake 3 (aCons (cC (.int 2)) (aCons (cTup aNil) aNil)) (S_Word_init a)) aNil) (S_recording a))) (toV (cTup aNil)) (orOp (objL a.w_Table) (eqAn (ocs a) a.w_Table true (S_Table_eq a)) (orOp (prP a.w_Table) (nePr a.w_Table (S_Table_eq a)) (eqG true)))))) (gRet (cC (.bl false))) gNx)
noncomputable def wE3 (a : Adr) : List Sl → DL.M Fl :=
  (gRet (bin (toV (cCall 1 (aCons (cMake 3 (aCons (cC (.int 3)) (aCons (cLst (aCons (cC (.int 3)) (aCons (cC (.int 1)) (aCons (cC (.int 2)) aNil)))) aNil)) (S_Word_init a)) aNil) (S_recording a))) (toV (cTup (aCons (cTup (aCons (cC (.int 0)) (aCons (cC (.int 2)) aNil))) (aCons (cTup (aCons (cC (.int 1)) aNil)) aNil)))) (orOp (objL a.w_Table) (eqAn (ocs a) a.w_Table false (S_Table_eq a)) (eqG false))))

noncomputable abbrev neT (a : Adr) : Dt → Dt → DL.M R := orOp (objL a.w_Table) (eqAn (ocs a) a.w_Table true (S_Table_eq a)) (orOp (prP a.w_Table) (nePr a.w_Table (S_Table_eq a)) (eqG true))
theorem neT_g {d e : Dt} (h1 : objL a.w_Table d e = false) (h2 : prP a.w_Table d e = false) : neT a d e = eqG true d e := by
  unfold neT
  unfold orOp
  rw [h1, h2]
  rfl
theorem neT_p {d : Dt} {z : Int} {s : Int} {rs : List (List Int)} (hd : d = tabD a s rs) : neT a (.tup [d, .int z]) (.tup [d, .int z]) = DL.M.ret (.val (.bl false)) := by
  have b : both a.w_Table d d = true := by rw [hd]; simp [both, isObj, tabD]
  have h1 : objL a.w_Table (.tup [d, .int z]) (.tup [d, .int z]) = false := rfl
  have h2 : prP a.w_Table (.tup [d, .int z]) (.tup [d, .int z]) = true := b
  unfold neT
  unfold orOp
  rw [h1, h2]
  exact nePr_ret b (by rw [hd, tab_eq]; simp)
theorem ne_lt : neT a (.tup [.str "letters", .non]) (.tup [.str "letters", .non]) = DL.M.ret (.val (.bl false)) :=
  (neT_g rfl rfl).trans (DL.eq_self (x := .tuple [.str "letters", .none]) true rfl (by simp [SeqAt.shaped, PyData.canLay0, PyData.canLayAll0, PyData.depth, PyData.depthAll]; decide +kernel) (fun _ h => by cases h) rfl)
theorem ne_gt : neT a (.tup [.str "great", .int 40]) (.tup [.str "great", .int 40]) = DL.M.ret (.val (.bl false)) :=
  (neT_g rfl rfl).trans (DL.eq_self (x := .tuple [.str "great", .int 40]) true rfl (by simp [SeqAt.shaped, PyData.canLay0, PyData.canLayAll0, PyData.depth, PyData.depthAll]; decide +kernel) (fun _ h => by cases h) rfl)
theorem ne_00 : neT a (.tup []) (.tup []) = DL.M.ret (.val (.bl false)) := (neT_g rfl rfl).trans ((eq_tt true [] []).trans (by simp))
theorem grK_bd (l : List Int) : ∀ k, k ≤ l.length → ∀ r ∈ (grK l k).2, ∀ x ∈ r, 0 ≤ x ∧ x < (k : Int)
  | 0, _ => fun r h => by cases h
  | k + 1, h => by
    have hx : l[k]? = some l[k] := List.getElem?_eq_getElem h
    have ih := grK_bd l k (by omega)
    rw [grK_s hx]
    intro r hr x hxr
    unfold addP at hr
    split at hr
    · rcases List.mem_append.mp hr with hr | hr
      · have := ih r hr x hxr; omega
      · rw [List.mem_singleton.mp hr] at hxr
        rw [List.mem_singleton.mp hxr]
        omega
    · rcases List.mem_or_eq_of_mem_set hr with hr | rfl
      · have := ih r hr x hxr; omega
      · rcases List.mem_append.mp hxr with hxr | hxr
        · cases e : (grK l k).2[putN (grK l k).1 l[k]]? with
          | none => rw [e] at hxr; cases hxr
          | some q =>
            rw [e] at hxr
            have := ih q (List.mem_of_getElem? e) x hxr
            omega
        · rw [List.mem_singleton.mp hxr]
          omega
theorem places_tx {size : Int} {l : List Int} (L : Lt size l) : Tx 2 90000 (.tup ((placesL l).map rowT)) := by
  have hl := L.len
  have O := grK_ok l l.length (Nat.le_refl _)
  have B := grK_bd l l.length (Nat.le_refl _)
  have n1 : (placesL l).length ≤ 40 := by unfold placesL; rw [O.same]; have := O.len; omega
  refine (Tx.tup (Txs.all (n := 1) (w := 2003) fun d hd => ?_)).mono (by omega) (by rw [List.length_map]; omega)
  obtain ⟨r, hr, rfl⟩ := List.mem_map.mp hd
  exact rowT_tx (fun x hx => by have := B r hr x hx; omega) (by have := O.pl r hr; omega)
theorem w3_ {size : Int} {l : List Int} (L : Lt size l) {x0 x1 x2 x5 x6 x7 x8 x9 : Sl} : w3 a [x0, x1, x2, .val (.int size), .own (nis l), x5, x6, x7, x8, x9] = DL.M.ret (.nx [x0, x1, x2, .val (.int size), .val (.lst (nis l)), .val (wordD a size l), x6, x7, x8, x9]) := by
  have mk : DL.M.bnd (S_Word_init a [.int size, .lst (nis l)]) objR = DL.M.ret (.val (wordD a size l)) := by
    rw [make_word (.inl rfl) L]
    rfl
  unfold w3
  simp only [bnd_ret, bnd_nn, bnd_rse, bnd_ite, bnd_bnd, semOf, gSeq, gNx, gSet, gDrop, gRet, gRetV, gRetN, gIf, gBk, gCt, gFrz, frz, gApp, gExt, gSetI, gAsg, gPar, gPop, gSetPop, gAppPop, gRaise, gFld, cVar, vVar, cC, toV, bin, una, aNil, aCons, cTup, cLst, rNil, rCons, setAll, addD, subD, negD, cmpD, notD, cCall, cMeth, cMeth0, cMake, objR, tV, truD, tNotD, tAndD, tOrD, tBl, andV, orV, cIf, chain, oNone, oSome, cSl, slD, ixD, lenD, tupleD, listD, cDict, tgN, tgS, tgT, tgs, wSeq, wEn, R.sl, R.d, Sl.isIns, oneIns, List.getElem?_cons_zero, List.getElem?_cons_succ, List.getElem?_nil, List.set_cons_zero, List.set_cons_succ, List.map_cons, List.map_nil, List.length_cons, List.length_nil, List.nil_append, List.cons_append, List.append_nil, List.replicate, List.all_cons, List.all_nil, Nat.reduceSub, Nat.reduceAdd, Nat.reduceLeDiff, Nat.reduceLT, Nat.reduceEqDiff, if_true, if_false, ite_true, ite_false, Bool.not_true, Bool.not_false, Bool.true_and, Bool.and_true, Bool.false_and, Bool.and_false, Bool.true_or, Bool.or_true, Bool.false_or, Bool.or_false, decide_true, decide_false, Bool.false_eq_true, reduceCtorEq, true_and, and_true, List.mem_cons_self, mk]
theorem w4_ {size : Int} {l : List Int} (L : Lt size l) (h24 : l.length < 40) {x0 x1 x2 x6 x7 x8 x9 : Sl} : w4 a [x0, x1, x2, .val (.int size), .val (.lst (nis l)), .val (wordD a size l), x6, x7, x8, x9] = DL.M.ret (.nx [x0, x1, x2, .val (.int size), .val (.lst (nis l)), .val (wordD a size l), x6, x7, x8, x9]) := by
  have st := steps_right (a := a) L h24
  have bm := bumped_ (a := a) L
  have r := law_rows_ (a := a) L
  have it := is_table (a := a) (isRows.lst (rowsL l)) L.tc
  unfold w4
  generalize wordD a size l = wd at *
  simp only [bnd_ret, bnd_nn, bnd_rse, bnd_ite, bnd_bnd, semOf, gSeq, gNx, gSet, gDrop, gRet, gRetV, gRetN, gIf, gBk, gCt, gFrz, frz, gApp, gExt, gSetI, gAsg, gPar, gPop, gSetPop, gAppPop, gRaise, gFld, cVar, vVar, cC, toV, bin, una, aNil, aCons, cTup, cLst, rNil, rCons, setAll, addD, subD, negD, cmpD, notD, cCall, cMeth, cMeth0, cMake, objR, tV, truD, tNotD, tAndD, tOrD, tBl, andV, orV, cIf, chain, oNone, oSome, cSl, slD, ixD, lenD, tupleD, listD, cDict, tgN, tgS, tgT, tgs, wSeq, wEn, R.sl, R.d, Sl.isIns, oneIns, List.getElem?_cons_zero, List.getElem?_cons_succ, List.getElem?_nil, List.set_cons_zero, List.set_cons_succ, List.map_cons, List.map_nil, List.length_cons, List.length_nil, List.nil_append, List.cons_append, List.append_nil, List.replicate, List.all_cons, List.all_nil, Nat.reduceSub, Nat.reduceAdd, Nat.reduceLeDiff, Nat.reduceLT, Nat.reduceEqDiff, if_true, if_false, ite_true, ite_false, Bool.not_true, Bool.not_false, Bool.true_and, Bool.and_true, Bool.false_and, Bool.and_false, Bool.true_or, Bool.or_true, Bool.false_or, Bool.or_false, decide_true, decide_false, Bool.false_eq_true, reduceCtorEq, true_and, and_true, List.mem_cons_self, st, bm, r, it]
theorem w5_ {size : Int} {l : List Int} (L : Lt size l) {x0 x1 x2 x3 x6 x7 x8 x9 : Sl} : w5 a [x0, x1, x2, x3, .val (.lst (nis l)), .val (wordD a size l), x6, x7, x8, x9] = DL.M.ret (.nx [x0, x1, x2, x3, .val (.lst (nis l)), .val (wordD a size l), x6, x7, x8, x9]) := by
  have rc := recording_ok (a := a) L
  have lp := law_places_ (a := a) L
  have lk := like_same (a := a) (places_tx L) (by decide) (by decide)
  have O := grK_ok l l.length (Nat.le_refl _)
  have n1 : (placesL l).length ≤ 40 := by unfold placesL; rw [O.same]; have := O.len; have := L.len; omega
  have c : ∀ wd, cLc (wSeq (toV (cCall 1 (aCons (cVar 4) aNil) (S__law_places a)))) (tgN 9) tYesD (una (vVar 9) tupleD) [9] [x0, x1, x2, x3, .val (.lst (nis l)), .val wd, x6, x7, x8, x9] = DL.M.ret (.new ((placesL l).map rowT)) := fun wd =>
    lc_rows (isRows.lst (placesL l)) (by simp only [bnd_ret, bnd_nn, bnd_rse, bnd_ite, bnd_bnd, semOf, gSeq, gNx, gSet, gDrop, gRet, gRetV, gRetN, gIf, gBk, gCt, gFrz, frz, gApp, gExt, gSetI, gAsg, gPar, gPop, gSetPop, gAppPop, gRaise, gFld, cVar, vVar, cC, toV, bin, una, aNil, aCons, cTup, cLst, rNil, rCons, setAll, addD, subD, negD, cmpD, notD, cCall, cMeth, cMeth0, cMake, objR, tV, truD, tNotD, tAndD, tOrD, tBl, andV, orV, cIf, chain, oNone, oSome, cSl, slD, ixD, lenD, tupleD, listD, cDict, tgN, tgS, tgT, tgs, wSeq, wEn, R.sl, R.d, Sl.isIns, oneIns, List.getElem?_cons_zero, List.getElem?_cons_succ, List.getElem?_nil, List.set_cons_zero, List.set_cons_succ, List.map_cons, List.map_nil, List.length_cons, List.length_nil, List.nil_append, List.cons_append, List.append_nil, List.replicate, List.all_cons, List.all_nil, Nat.reduceSub, Nat.reduceAdd, Nat.reduceLeDiff, Nat.reduceLT, Nat.reduceEqDiff, if_true, if_false, ite_true, ite_false, Bool.not_true, Bool.not_false, Bool.true_and, Bool.and_true, Bool.false_and, Bool.and_false, Bool.true_or, Bool.or_true, Bool.false_or, Bool.or_false, decide_true, decide_false, Bool.false_eq_true, reduceCtorEq, true_and, and_true, List.mem_cons_self, lp]) (by rw [List.length_map]; omega) rowT fun x r hx _ => ⟨_, rfl, .val (rowT r), by
      show DL.M.bnd (DL.M.ret x) tupleD = _
      rw [bnd_ret]
      exact hx.lt.2.2.2, rfl⟩
  unfold w5
  generalize wordD a size l = wd at *
  simp only [bnd_ret, bnd_nn, bnd_rse, bnd_ite, bnd_bnd, semOf, gSeq, gNx, gSet, gDrop, gRet, gRetV, gRetN, gIf, gBk, gCt, gFrz, frz, gApp, gExt, gSetI, gAsg, gPar, gPop, gSetPop, gAppPop, gRaise, gFld, cVar, vVar, cC, toV, bin, una, aNil, aCons, cTup, cLst, rNil, rCons, setAll, addD, subD, negD, cmpD, notD, cCall, cMeth, cMeth0, cMake, objR, tV, truD, tNotD, tAndD, tOrD, tBl, andV, orV, cIf, chain, oNone, oSome, cSl, slD, ixD, lenD, tupleD, listD, cDict, tgN, tgS, tgT, tgs, wSeq, wEn, R.sl, R.d, Sl.isIns, oneIns, List.getElem?_cons_zero, List.getElem?_cons_succ, List.getElem?_nil, List.set_cons_zero, List.set_cons_succ, List.map_cons, List.map_nil, List.length_cons, List.length_nil, List.nil_append, List.cons_append, List.append_nil, List.replicate, List.all_cons, List.all_nil, Nat.reduceSub, Nat.reduceAdd, Nat.reduceLeDiff, Nat.reduceLT, Nat.reduceEqDiff, if_true, if_false, ite_true, ite_false, Bool.not_true, Bool.not_false, Bool.true_and, Bool.and_true, Bool.false_and, Bool.and_false, Bool.true_or, Bool.or_true, Bool.false_or, Bool.or_false, decide_true, decide_false, Bool.false_eq_true, reduceCtorEq, true_and, and_true, List.mem_cons_self, rc, c, lk]
theorem w7_ {size : Int} (s0 : 2 ≤ size) (s1 : size ≤ 6) {x0 x1 x2 x4 x5 x6 x7 x8 x9 : Sl} : w7 a [x0, x1, x2, .val (.int size), x4, x5, x6, x7, x8, x9] = DL.M.ret (.nx [x0, x1, x2, .val (.int size), x4, x5, x6, .val (tabD a size [List.replicate 40 1]), x8, x9]) := by
  have m := mul_l 1 40 (by decide) (by decide)
  have mk : DL.M.bnd (S_Table_init a [.int size, .lst [.lst (nis (List.replicate (40 : Int).toNat 1))]]) objR = DL.M.ret (.val (tabD a size [List.replicate 40 1])) := by
    rw [show [Dt.lst (nis (List.replicate (40 : Int).toNat 1))] = [List.replicate 40 1].map rowL from rfl, make_table (isRows.lst _) (tc_ones s0 s1).tb]
    rfl
  generalize nis (List.replicate (40 : Int).toNat 1) = z at *
  unfold w7
  simp only [bnd_ret, bnd_nn, bnd_rse, bnd_ite, bnd_bnd, semOf, gSeq, gNx, gSet, gDrop, gRet, gRetV, gRetN, gIf, gBk, gCt, gFrz, frz, gApp, gExt, gSetI, gAsg, gPar, gPop, gSetPop, gAppPop, gRaise, gFld, cVar, vVar, cC, toV, bin, una, aNil, aCons, cTup, cLst, rNil, rCons, setAll, addD, subD, negD, cmpD, notD, cCall, cMeth, cMeth0, cMake, objR, tV, truD, tNotD, tAndD, tOrD, tBl, andV, orV, cIf, chain, oNone, oSome, cSl, slD, ixD, lenD, tupleD, listD, cDict, tgN, tgS, tgT, tgs, wSeq, wEn, R.sl, R.d, Sl.isIns, oneIns, List.getElem?_cons_zero, List.getElem?_cons_succ, List.getElem?_nil, List.set_cons_zero, List.set_cons_succ, List.map_cons, List.map_nil, List.length_cons, List.length_nil, List.nil_append, List.cons_append, List.append_nil, List.replicate, List.all_cons, List.all_nil, Nat.reduceSub, Nat.reduceAdd, Nat.reduceLeDiff, Nat.reduceLT, Nat.reduceEqDiff, if_true, if_false, ite_true, ite_false, Bool.not_true, Bool.not_false, Bool.true_and, Bool.and_true, Bool.false_and, Bool.and_false, Bool.true_or, Bool.or_true, Bool.false_or, Bool.or_false, decide_true, decide_false, Bool.false_eq_true, reduceCtorEq, true_and, and_true, List.mem_cons_self, m, mk]
theorem w8_ {size : Int} {l : List Int} {d : Dt} (L : Lt size l) (ht : tabOk a.P_law lq_law T) (O : OddP size d) {x0 x1 x2 x3 x4 x8 x9 : Sl} {rs : List (List Int)} : Dw T 0 (w8 a [x0, x1, x2, x3, x4, .val (wordD a size l), .val d, .val (tabD a size rs), x8, x9]) (fun f => ∃ δ', f = .nx δ' ∧ ∃ y8, δ' = [x0, x1, x2, x3, x4, .val (wordD a size l), .val d, .val (tabD a size rs), y8, x9]) := by
  have bm := bumped_ (a := a) L
  have src : ∀ wd, S_bumped a [wd] = DL.M.ret (.val (tabD a size (rowsL l))) → wSeq (toV (cTup (aCons (cCall 1 (aCons (cVar 5) aNil) (S_bumped a)) (aCons (cVar 7) aNil)))) [x0, x1, x2, x3, x4, .val wd, .val d, .val (tabD a size rs), x8, x9] = DL.M.ret [tabD a size (rowsL l), tabD a size rs] := fun wd h => by
    unfold wSeq
    simp only [bnd_ret, bnd_nn, bnd_rse, bnd_ite, bnd_bnd, semOf, gSeq, gNx, gSet, gDrop, gRet, gRetV, gRetN, gIf, gBk, gCt, gFrz, frz, gApp, gExt, gSetI, gAsg, gPar, gPop, gSetPop, gAppPop, gRaise, gFld, cVar, vVar, cC, toV, bin, una, aNil, aCons, cTup, cLst, rNil, rCons, setAll, addD, subD, negD, cmpD, notD, cCall, cMeth, cMeth0, cMake, objR, tV, truD, tNotD, tAndD, tOrD, tBl, andV, orV, cIf, chain, oNone, oSome, cSl, slD, ixD, lenD, tupleD, listD, cDict, tgN, tgS, tgT, tgs, wSeq, wEn, R.sl, R.d, Sl.isIns, oneIns, List.getElem?_cons_zero, List.getElem?_cons_succ, List.getElem?_nil, List.set_cons_zero, List.set_cons_succ, List.map_cons, List.map_nil, List.length_cons, List.length_nil, List.nil_append, List.cons_append, List.append_nil, List.replicate, List.all_cons, List.all_nil, Nat.reduceSub, Nat.reduceAdd, Nat.reduceLeDiff, Nat.reduceLT, Nat.reduceEqDiff, if_true, if_false, ite_true, ite_false, Bool.not_true, Bool.not_false, Bool.true_and, Bool.and_true, Bool.false_and, Bool.and_false, Bool.true_or, Bool.or_true, Bool.false_or, Bool.or_false, decide_true, decide_false, Bool.false_eq_true, reduceCtorEq, true_and, and_true, List.mem_cons_self, h]
  unfold w8
  simp only [gFor, src _ bm, bnd_ret]
  generalize wordD a size l = wd at *
  refine (for_dw0 (T := T) (tg := tgN 8) (body := w8b a) (l := [tabD a size (rowsL l), tabD a size rs]) (c := 0) (k := 0) (by decide) (fun _ δ => ∃ y8, δ = [x0, x1, x2, x3, x4, .val wd, .val d, .val (tabD a size rs), y8, x9]) (fun k z δ hk ⟨y8, e⟩ => by
    subst e
    have hz : ∃ q, z = tabD a size q := by
      have := List.mem_of_getElem? hk
      simp only [List.mem_cons, List.not_mem_nil, or_false] at this
      rcases this with rfl | rfl
      · exact ⟨_, rfl⟩
      · exact ⟨_, rfl⟩
    obtain ⟨q, rfl⟩ := hz
    have no := inserted_no (a := a) (size := size) (rs := q) O.pl O.no
    refine ⟨_, rfl, ?_⟩
    show Dw T 0 (w8b a [x0, x1, x2, x3, x4, .val wd, .val d, .val (tabD a size rs), .val (tabD a size q), x9]) _
    generalize tabD a size rs = t1 at *
    generalize tabD a size q = t2 at *
    unfold w8b
    simp only [bnd_ret, bnd_nn, bnd_rse, bnd_ite, bnd_bnd, semOf, gSeq, gNx, gSet, gDrop, gRet, gRetV, gRetN, gIf, gBk, gCt, gFrz, frz, gApp, gExt, gSetI, gAsg, gPar, gPop, gSetPop, gAppPop, gRaise, gFld, cVar, vVar, cC, toV, bin, una, aNil, aCons, cTup, cLst, rNil, rCons, setAll, addD, subD, negD, cmpD, notD, cCall, cMeth, cMeth0, cMake, objR, tV, truD, tNotD, tAndD, tOrD, tBl, andV, orV, cIf, chain, oNone, oSome, cSl, slD, ixD, lenD, tupleD, listD, cDict, tgN, tgS, tgT, tgs, wSeq, wEn, R.sl, R.d, Sl.isIns, oneIns, List.getElem?_cons_zero, List.getElem?_cons_succ, List.getElem?_nil, List.set_cons_zero, List.set_cons_succ, List.map_cons, List.map_nil, List.length_cons, List.length_nil, List.nil_append, List.cons_append, List.append_nil, List.replicate, List.all_cons, List.all_nil, Nat.reduceSub, Nat.reduceAdd, Nat.reduceLeDiff, Nat.reduceLT, Nat.reduceEqDiff, if_true, if_false, ite_true, ite_false, Bool.not_true, Bool.not_false, Bool.true_and, Bool.and_true, Bool.false_and, Bool.and_false, Bool.true_or, Bool.or_true, Bool.false_or, Bool.or_false, decide_true, decide_false, Bool.false_eq_true, reduceCtorEq, true_and, and_true, List.mem_cons_self]
    refine Dw.bnd (k := 0) (j := 0) (by decide) (by decide) (heard_no (d := .tup [.str "letters", .non]) ht (by simp only [bnd_ret, bnd_nn, bnd_rse, bnd_ite, bnd_bnd, semOf, gSeq, gNx, gSet, gDrop, gRet, gRetV, gRetN, gIf, gBk, gCt, gFrz, frz, gApp, gExt, gSetI, gAsg, gPar, gPop, gSetPop, gAppPop, gRaise, gFld, cVar, vVar, cC, toV, bin, una, aNil, aCons, cTup, cLst, rNil, rCons, setAll, addD, subD, negD, cmpD, notD, cCall, cMeth, cMeth0, cMake, objR, tV, truD, tNotD, tAndD, tOrD, tBl, andV, orV, cIf, chain, oNone, oSome, cSl, slD, ixD, lenD, tupleD, listD, cDict, tgN, tgS, tgT, tgs, wSeq, wEn, R.sl, R.d, Sl.isIns, oneIns, List.getElem?_cons_zero, List.getElem?_cons_succ, List.getElem?_nil, List.set_cons_zero, List.set_cons_succ, List.map_cons, List.map_nil, List.length_cons, List.length_nil, List.nil_append, List.cons_append, List.append_nil, List.replicate, List.all_cons, List.all_nil, Nat.reduceSub, Nat.reduceAdd, Nat.reduceLeDiff, Nat.reduceLT, Nat.reduceEqDiff, if_true, if_false, ite_true, ite_false, Bool.not_true, Bool.not_false, Bool.true_and, Bool.and_true, Bool.false_and, Bool.and_false, Bool.true_or, Bool.or_true, Bool.false_or, Bool.or_false, decide_true, decide_false, Bool.false_eq_true, reduceCtorEq, true_and, and_true, List.mem_cons_self, no]) hx_lt) fun r hr => ?_
    subst hr
    simp only [bnd_ret, bnd_nn, bnd_rse, bnd_ite, bnd_bnd, semOf, gSeq, gNx, gSet, gDrop, gRet, gRetV, gRetN, gIf, gBk, gCt, gFrz, frz, gApp, gExt, gSetI, gAsg, gPar, gPop, gSetPop, gAppPop, gRaise, gFld, cVar, vVar, cC, toV, bin, una, aNil, aCons, cTup, cLst, rNil, rCons, setAll, addD, subD, negD, cmpD, notD, cCall, cMeth, cMeth0, cMake, objR, tV, truD, tNotD, tAndD, tOrD, tBl, andV, orV, cIf, chain, oNone, oSome, cSl, slD, ixD, lenD, tupleD, listD, cDict, tgN, tgS, tgT, tgs, wSeq, wEn, R.sl, R.d, Sl.isIns, oneIns, List.getElem?_cons_zero, List.getElem?_cons_succ, List.getElem?_nil, List.set_cons_zero, List.set_cons_succ, List.map_cons, List.map_nil, List.length_cons, List.length_nil, List.nil_append, List.cons_append, List.append_nil, List.replicate, List.all_cons, List.all_nil, Nat.reduceSub, Nat.reduceAdd, Nat.reduceLeDiff, Nat.reduceLT, Nat.reduceEqDiff, if_true, if_false, ite_true, ite_false, Bool.not_true, Bool.not_false, Bool.true_and, Bool.and_true, Bool.false_and, Bool.and_false, Bool.true_or, Bool.or_true, Bool.false_or, Bool.or_false, decide_true, decide_false, Bool.false_eq_true, reduceCtorEq, true_and, and_true, List.mem_cons_self, ne_lt]
    exact Dw.ret (by decide) ⟨_, rfl, _, rfl⟩) ⟨_, rfl⟩ (by rw [Int.zero_mul]; exact Int.le_refl _)).imp fun f hf => ?_
  obtain ⟨δ', rfl, y8, rfl⟩ := hf
  exact ⟨_, rfl, y8, rfl⟩
theorem w9_ {size : Int} (s0 : 2 ≤ size) (s1 : size ≤ 6) (ht : tabOk a.P_law lq_law T) {x0 x2 x4 x5 x6 x8 x9 : Sl} : Dw T 1 (w9 a [x0, .val .drw, x2, .val (.int size), x4, x5, x6, .val (tabD a size [List.replicate 40 1]), x8, x9]) (fun f => ∃ δ', f = .nx δ' ∧ δ' = [x0, .val .drw, x2, .val (.int size), x4, x5, x6, .val (tabD a size [List.replicate 40 1]), x8, x9]) := by
  have C := tc_ones s0 s1
  have sz : szs [List.replicate 40 (1 : Int)] = 40 := by decide
  have gr : ∀ z : Int, 0 ≤ z → z < size → S_inserted a [tabD a size [List.replicate 40 1], .int (1 + z)] = DL.M.rse (exGt a) := fun z z0 z1 => inserted_great C (by omega) (by omega) sz
  generalize tabD a size [List.replicate 40 1] = t1 at *
  unfold w9
  simp only [bnd_ret, bnd_nn, bnd_rse, bnd_ite, bnd_bnd, semOf, gSeq, gNx, gSet, gDrop, gRet, gRetV, gRetN, gIf, gBk, gCt, gFrz, frz, gApp, gExt, gSetI, gAsg, gPar, gPop, gSetPop, gAppPop, gRaise, gFld, cVar, vVar, cC, toV, bin, una, aNil, aCons, cTup, cLst, rNil, rCons, setAll, addD, subD, negD, cmpD, notD, cCall, cMeth, cMeth0, cMake, objR, tV, truD, tNotD, tAndD, tOrD, tBl, andV, orV, cIf, chain, oNone, oSome, cSl, slD, ixD, lenD, tupleD, listD, cDict, tgN, tgS, tgT, tgs, wSeq, wEn, R.sl, R.d, Sl.isIns, oneIns, List.getElem?_cons_zero, List.getElem?_cons_succ, List.getElem?_nil, List.set_cons_zero, List.set_cons_succ, List.map_cons, List.map_nil, List.length_cons, List.length_nil, List.nil_append, List.cons_append, List.append_nil, List.replicate, List.all_cons, List.all_nil, Nat.reduceSub, Nat.reduceAdd, Nat.reduceLeDiff, Nat.reduceLT, Nat.reduceEqDiff, if_true, if_false, ite_true, ite_false, Bool.not_true, Bool.not_false, Bool.true_and, Bool.and_true, Bool.false_and, Bool.and_false, Bool.true_or, Bool.or_true, Bool.false_or, Bool.or_false, decide_true, decide_false, Bool.false_eq_true, reduceCtorEq, true_and, and_true, List.mem_cons_self]
  refine Dw.bnd (k := 1) (j := 0) (by decide) (by decide) (heard_dx (d := .tup [.str "great", .int 40]) ht (by
    simp only [bnd_ret, bnd_nn, bnd_rse, bnd_ite, bnd_bnd, semOf, gSeq, gNx, gSet, gDrop, gRet, gRetV, gRetN, gIf, gBk, gCt, gFrz, frz, gApp, gExt, gSetI, gAsg, gPar, gPop, gSetPop, gAppPop, gRaise, gFld, cVar, vVar, cC, toV, bin, una, aNil, aCons, cTup, cLst, rNil, rCons, setAll, addD, subD, negD, cmpD, notD, cCall, cMeth, cMeth0, cMake, objR, tV, truD, tNotD, tAndD, tOrD, tBl, andV, orV, cIf, chain, oNone, oSome, cSl, slD, ixD, lenD, tupleD, listD, cDict, tgN, tgS, tgT, tgs, wSeq, wEn, R.sl, R.d, Sl.isIns, oneIns, List.getElem?_cons_zero, List.getElem?_cons_succ, List.getElem?_nil, List.set_cons_zero, List.set_cons_succ, List.map_cons, List.map_nil, List.length_cons, List.length_nil, List.nil_append, List.cons_append, List.append_nil, List.replicate, List.all_cons, List.all_nil, Nat.reduceSub, Nat.reduceAdd, Nat.reduceLeDiff, Nat.reduceLT, Nat.reduceEqDiff, if_true, if_false, ite_true, ite_false, Bool.not_true, Bool.not_false, Bool.true_and, Bool.and_true, Bool.false_and, Bool.and_false, Bool.true_or, Bool.or_true, Bool.false_or, Bool.or_false, decide_true, decide_false, Bool.false_eq_true, reduceCtorEq, true_and, and_true, List.mem_cons_self]
    refine Dx.bnd (k := 1) (j := 0) (by decide) (by decide) (draw_ (lim := size) (by omega) (by omega)) fun r hr => ?_
    obtain ⟨z, rfl, z0, z1⟩ := hr
    simp only [bnd_ret, bnd_nn, bnd_rse, bnd_ite, bnd_bnd, semOf, gSeq, gNx, gSet, gDrop, gRet, gRetV, gRetN, gIf, gBk, gCt, gFrz, frz, gApp, gExt, gSetI, gAsg, gPar, gPop, gSetPop, gAppPop, gRaise, gFld, cVar, vVar, cC, toV, bin, una, aNil, aCons, cTup, cLst, rNil, rCons, setAll, addD, subD, negD, cmpD, notD, cCall, cMeth, cMeth0, cMake, objR, tV, truD, tNotD, tAndD, tOrD, tBl, andV, orV, cIf, chain, oNone, oSome, cSl, slD, ixD, lenD, tupleD, listD, cDict, tgN, tgS, tgT, tgs, wSeq, wEn, R.sl, R.d, Sl.isIns, oneIns, List.getElem?_cons_zero, List.getElem?_cons_succ, List.getElem?_nil, List.set_cons_zero, List.set_cons_succ, List.map_cons, List.map_nil, List.length_cons, List.length_nil, List.nil_append, List.cons_append, List.append_nil, List.replicate, List.all_cons, List.all_nil, Nat.reduceSub, Nat.reduceAdd, Nat.reduceLeDiff, Nat.reduceLT, Nat.reduceEqDiff, if_true, if_false, ite_true, ite_false, Bool.not_true, Bool.not_false, Bool.true_and, Bool.and_true, Bool.false_and, Bool.and_false, Bool.true_or, Bool.or_true, Bool.false_or, Bool.or_false, decide_true, decide_false, Bool.false_eq_true, reduceCtorEq, true_and, and_true, List.mem_cons_self, gr z z0 z1]
    exact Dx.rse (by decide)) hx_gt) fun r hr => ?_
  subst hr
  simp only [bnd_ret, bnd_nn, bnd_rse, bnd_ite, bnd_bnd, semOf, gSeq, gNx, gSet, gDrop, gRet, gRetV, gRetN, gIf, gBk, gCt, gFrz, frz, gApp, gExt, gSetI, gAsg, gPar, gPop, gSetPop, gAppPop, gRaise, gFld, cVar, vVar, cC, toV, bin, una, aNil, aCons, cTup, cLst, rNil, rCons, setAll, addD, subD, negD, cmpD, notD, cCall, cMeth, cMeth0, cMake, objR, tV, truD, tNotD, tAndD, tOrD, tBl, andV, orV, cIf, chain, oNone, oSome, cSl, slD, ixD, lenD, tupleD, listD, cDict, tgN, tgS, tgT, tgs, wSeq, wEn, R.sl, R.d, Sl.isIns, oneIns, List.getElem?_cons_zero, List.getElem?_cons_succ, List.getElem?_nil, List.set_cons_zero, List.set_cons_succ, List.map_cons, List.map_nil, List.length_cons, List.length_nil, List.nil_append, List.cons_append, List.append_nil, List.replicate, List.all_cons, List.all_nil, Nat.reduceSub, Nat.reduceAdd, Nat.reduceLeDiff, Nat.reduceLT, Nat.reduceEqDiff, if_true, if_false, ite_true, ite_false, Bool.not_true, Bool.not_false, Bool.true_and, Bool.and_true, Bool.false_and, Bool.and_false, Bool.true_or, Bool.or_true, Bool.false_or, Bool.or_false, decide_true, decide_false, Bool.false_eq_true, reduceCtorEq, true_and, and_true, List.mem_cons_self, ne_gt]
  exact Dw.ret (by decide) ⟨_, rfl, rfl⟩
theorem w10_ {size : Int} {l : List Int} (L : Lt size l) {x0 x1 x2 x6 x8 x9 : Sl} : w10 a [x0, x1, x2, .val (.int size), .val (.lst (nis l)), .val (wordD a size l), x6, .val (tabD a size [List.replicate 40 1]), x8, x9] = DL.M.ret (.nx [x0, x1, x2, .val (.int size), .val (.lst (nis l)), .val (wordD a size l), x6, .val (tabD a size [List.replicate 40 1]), x8, x9]) := by
  have m := mul_l 1 40 (by decide) (by decide)
  have it := is_table (a := a) (isRows.lst [List.replicate 40 (1 : Int)]) (tc_ones L.s0 L.s1)
  have it : S__law_is_table a [tabD a size [List.replicate 40 1], .int size, .lst [.lst (nis (List.replicate (40 : Int).toNat 1))]] = DL.M.ret (.val (.bl true)) := it
  have iw := is_word (a := a) L
  unfold w10
  generalize nis (List.replicate (40 : Int).toNat 1) = z at *
  generalize tabD a size [List.replicate 40 1] = t1 at *
  generalize wordD a size l = wd at *
  simp only [bnd_ret, bnd_nn, bnd_rse, bnd_ite, bnd_bnd, semOf, gSeq, gNx, gSet, gDrop, gRet, gRetV, gRetN, gIf, gBk, gCt, gFrz, frz, gApp, gExt, gSetI, gAsg, gPar, gPop, gSetPop, gAppPop, gRaise, gFld, cVar, vVar, cC, toV, bin, una, aNil, aCons, cTup, cLst, rNil, rCons, setAll, addD, subD, negD, cmpD, notD, cCall, cMeth, cMeth0, cMake, objR, tV, truD, tNotD, tAndD, tOrD, tBl, andV, orV, cIf, chain, oNone, oSome, cSl, slD, ixD, lenD, tupleD, listD, cDict, tgN, tgS, tgT, tgs, wSeq, wEn, R.sl, R.d, Sl.isIns, oneIns, List.getElem?_cons_zero, List.getElem?_cons_succ, List.getElem?_nil, List.set_cons_zero, List.set_cons_succ, List.map_cons, List.map_nil, List.length_cons, List.length_nil, List.nil_append, List.cons_append, List.append_nil, List.replicate, List.all_cons, List.all_nil, Nat.reduceSub, Nat.reduceAdd, Nat.reduceLeDiff, Nat.reduceLT, Nat.reduceEqDiff, if_true, if_false, ite_true, ite_false, Bool.not_true, Bool.not_false, Bool.true_and, Bool.and_true, Bool.false_and, Bool.and_false, Bool.true_or, Bool.or_true, Bool.false_or, Bool.or_false, decide_true, decide_false, Bool.false_eq_true, reduceCtorEq, true_and, and_true, List.mem_cons_self, m, it, iw]
theorem wE1_ {δ : List Sl} : wE1 a δ = DL.M.ret (.nx δ) := by
  have L1 : Lt 3 [3, 1, 2, 2] := ⟨by decide, by decide, by decide, fun x hx => by simp only [List.mem_cons, List.not_mem_nil, or_false] at hx; omega⟩
  have r1 : rowsL [3, 1, 2, 2] = [[1, 2, 2], [3]] := by decide +kernel
  have C1 := L1.tc
  rw [r1] at C1
  have sz : szs [[1, 2, 2], [(3 : Int)]] < 40 := by decide
  have p1 : putL [[1, 2, 2], [3]] 1 = [[1, 1, 2], [2], [3]] := by decide +kernel
  have p2 : putN [[1, 2, 2], [3]] 1 = 2 := by decide +kernel
  have ins := inserted_ok (a := a) C1 (x := 1) (by decide) (by decide) sz
  have C2 := C1.put (x := 1) (by decide) (by decide) sz
  rw [p1, p2] at ins
  rw [p1] at C2
  have m1 : DL.M.bnd (S_Table_init a [.int 3, .lst [.lst [.int 1, .int 2, .int 2], .lst [.int 3]]]) objR = DL.M.ret (.val (tabD a 3 [[1, 2, 2], [3]])) := by
    rw [show [Dt.lst [.int 1, .int 2, .int 2], .lst [.int 3]] = [[1, 2, 2], [3]].map rowL from rfl, make_table (isRows.lst _) C1.tb]
    rfl
  have m2 : DL.M.bnd (S_Table_init a [.int 3, .lst [.lst [.int 1, .int 1, .int 2], .lst [.int 2], .lst [.int 3]]]) objR = DL.M.ret (.val (tabD a 3 [[1, 1, 2], [2], [3]])) := by
    rw [show [Dt.lst [.int 1, .int 1, .int 2], .lst [.int 2], .lst [.int 3]] = [[1, 1, 2], [2], [3]].map rowL from rfl, make_table (isRows.lst _) C2.tb]
    rfl
  have ne := neT_p (a := a) (z := 2) (s := 3) (rs := [[1, 1, 2], [2], [3]]) rfl
  have ins : S_inserted a [tabD a 3 [[1, 2, 2], [3]], .int 1] = DL.M.ret (.val (.tup [tabD a 3 [[1, 1, 2], [2], [3]], .int 2])) := ins
  have ins : DL.M.bnd (DL.M.bnd (S_Table_init a [.int 3, .lst [.lst [.int 1, .int 2, .int 2], .lst [.int 3]]]) objR) (fun r => S_inserted a [r.d, .int 1]) = DL.M.ret (.val (.tup [tabD a 3 [[1, 1, 2], [2], [3]], .int 2])) := by rw [m1, bnd_ret]; exact ins
  unfold wE1
  generalize tabD a 3 [[1, 1, 2], [2], [3]] = t2 at *
  have i2 : S_inserted a [tabD a 3 [[1, 2, 2], [3]], .int 1] = DL.M.ret (.val (.tup [t2, .int 2])) := by rw [m1, bnd_ret] at ins; exact ins
  generalize tabD a 3 [[1, 2, 2], [3]] = t1 at *
  simp only [bnd_ret, bnd_nn, bnd_rse, bnd_ite, bnd_bnd, semOf, gSeq, gNx, gSet, gDrop, gRet, gRetV, gRetN, gIf, gBk, gCt, gFrz, frz, gApp, gExt, gSetI, gAsg, gPar, gPop, gSetPop, gAppPop, gRaise, gFld, cVar, vVar, cC, toV, bin, una, aNil, aCons, cTup, cLst, rNil, rCons, setAll, addD, subD, negD, cmpD, notD, cCall, cMeth, cMeth0, cMake, objR, tV, truD, tNotD, tAndD, tOrD, tBl, andV, orV, cIf, chain, oNone, oSome, cSl, slD, ixD, lenD, tupleD, listD, cDict, tgN, tgS, tgT, tgs, wSeq, wEn, R.sl, R.d, Sl.isIns, oneIns, List.getElem?_cons_zero, List.getElem?_cons_succ, List.getElem?_nil, List.set_cons_zero, List.set_cons_succ, List.map_cons, List.map_nil, List.length_cons, List.length_nil, List.nil_append, List.cons_append, List.append_nil, List.replicate, List.all_cons, List.all_nil, Nat.reduceSub, Nat.reduceAdd, Nat.reduceLeDiff, Nat.reduceLT, Nat.reduceEqDiff, if_true, if_false, ite_true, ite_false, Bool.not_true, Bool.not_false, Bool.true_and, Bool.and_true, Bool.false_and, Bool.and_false, Bool.true_or, Bool.or_true, Bool.false_or, Bool.or_false, decide_true, decide_false, Bool.false_eq_true, reduceCtorEq, true_and, and_true, List.mem_cons_self, m1, m2, i2, ne]
theorem wE2_ {δ : List Sl} : wE2 a δ = DL.M.ret (.nx δ) := by
  have L : Lt 2 [] := ⟨by decide, by decide, by decide, fun x hx => by cases hx⟩
  have mw : DL.M.bnd (S_Word_init a [.int 2, .tup []]) objR = DL.M.ret (.val (wordD a 2 [])) := by
    rw [show Dt.tup [] = .tup (nis []) from rfl, make_word (.inr rfl) L]
    rfl
  have bm : S_bumped a [wordD a 2 []] = DL.M.ret (.val (tabD a 2 [])) := bumped_ L
  have rc : S_recording a [wordD a 2 []] = DL.M.ret (.val (.tup [])) := recording_ok L
  have f : fldsD [a.w_Table] "rows" (tabD a 2 []) = DL.M.ret (.val (.tup [])) := fldTr (by simp)
  unfold wE2
  generalize tabD a 2 [] = t1 at *
  generalize wordD a 2 [] = wd at *
  simp only [bnd_ret, bnd_nn, bnd_rse, bnd_ite, bnd_bnd, semOf, gSeq, gNx, gSet, gDrop, gRet, gRetV, gRetN, gIf, gBk, gCt, gFrz, frz, gApp, gExt, gSetI, gAsg, gPar, gPop, gSetPop, gAppPop, gRaise, gFld, cVar, vVar, cC, toV, bin, una, aNil, aCons, cTup, cLst, rNil, rCons, setAll, addD, subD, negD, cmpD, notD, cCall, cMeth, cMeth0, cMake, objR, tV, truD, tNotD, tAndD, tOrD, tBl, andV, orV, cIf, chain, oNone, oSome, cSl, slD, ixD, lenD, tupleD, listD, cDict, tgN, tgS, tgT, tgs, wSeq, wEn, R.sl, R.d, Sl.isIns, oneIns, List.getElem?_cons_zero, List.getElem?_cons_succ, List.getElem?_nil, List.set_cons_zero, List.set_cons_succ, List.map_cons, List.map_nil, List.length_cons, List.length_nil, List.nil_append, List.cons_append, List.append_nil, List.replicate, List.all_cons, List.all_nil, Nat.reduceSub, Nat.reduceAdd, Nat.reduceLeDiff, Nat.reduceLT, Nat.reduceEqDiff, if_true, if_false, ite_true, ite_false, Bool.not_true, Bool.not_false, Bool.true_and, Bool.and_true, Bool.false_and, Bool.and_false, Bool.true_or, Bool.or_true, Bool.false_or, Bool.or_false, decide_true, decide_false, Bool.false_eq_true, reduceCtorEq, true_and, and_true, List.mem_cons_self, mw, bm, rc, f, ne_00]
theorem wE3_ {δ : List Sl} : wE3 a δ = DL.M.ret (.ret (.val (.bl true))) := by
  have L : Lt 3 [3, 1, 2] := ⟨by decide, by decide, by decide, fun x hx => by simp only [List.mem_cons, List.not_mem_nil, or_false] at hx; omega⟩
  have mw : DL.M.bnd (S_Word_init a [.int 3, .lst [.int 3, .int 1, .int 2]]) objR = DL.M.ret (.val (wordD a 3 [3, 1, 2])) := by
    rw [show Dt.lst [.int 3, .int 1, .int 2] = .lst (nis [3, 1, 2]) from rfl, make_word (.inl rfl) L]
    rfl
  have p : placesL [3, 1, 2] = [[0, 2], [1]] := by decide +kernel
  have rc := recording_ok (a := a) L
  rw [p] at rc
  have rc : S_recording a [wordD a 3 [3, 1, 2]] = DL.M.ret (.val (.tup [.tup [.int 0, .int 2], .tup [.int 1]])) := rc
  have e : eqT a false (.tup [.tup [.int 0, .int 2], .tup [.int 1]]) (.tup [.tup [.int 0, .int 2], .tup [.int 1]]) = DL.M.ret (.val (.bl true)) := by
    rw [eqT_t]
    exact (eq_rr false [[0, 2], [1]] [[0, 2], [1]]).trans (by simp)
  unfold wE3
  generalize wordD a 3 [3, 1, 2] = wd at *
  simp only [bnd_ret, bnd_nn, bnd_rse, bnd_ite, bnd_bnd, semOf, gSeq, gNx, gSet, gDrop, gRet, gRetV, gRetN, gIf, gBk, gCt, gFrz, frz, gApp, gExt, gSetI, gAsg, gPar, gPop, gSetPop, gAppPop, gRaise, gFld, cVar, vVar, cC, toV, bin, una, aNil, aCons, cTup, cLst, rNil, rCons, setAll, addD, subD, negD, cmpD, notD, cCall, cMeth, cMeth0, cMake, objR, tV, truD, tNotD, tAndD, tOrD, tBl, andV, orV, cIf, chain, oNone, oSome, cSl, slD, ixD, lenD, tupleD, listD, cDict, tgN, tgS, tgT, tgs, wSeq, wEn, R.sl, R.d, Sl.isIns, oneIns, List.getElem?_cons_zero, List.getElem?_cons_succ, List.getElem?_nil, List.set_cons_zero, List.set_cons_succ, List.map_cons, List.map_nil, List.length_cons, List.length_nil, List.nil_append, List.cons_append, List.append_nil, List.replicate, List.all_cons, List.all_nil, Nat.reduceSub, Nat.reduceAdd, Nat.reduceLeDiff, Nat.reduceLT, Nat.reduceEqDiff, if_true, if_false, ite_true, ite_false, Bool.not_true, Bool.not_false, Bool.true_and, Bool.and_true, Bool.false_and, Bool.and_false, Bool.true_or, Bool.or_true, Bool.false_or, Bool.or_false, decide_true, decide_false, Bool.false_eq_true, reduceCtorEq, true_and, and_true, List.mem_cons_self, mw, rc, e]
theorem wB_ (ht : tabOk a.P_law lq_law T) {x0 x2 x3 x4 x5 x6 x7 x8 x9 : Sl} : Dw T 106 (wB a [x0, .val .drw, x2, x3, x4, x5, x6, x7, x8, x9]) (fun f => ∃ y3 y4 y5 y6 y7 y8, f = .nx [x0, .val .drw, x2, y3, y4, y5, y6, y7, y8, x9]) := by
  unfold wB
  refine seq_set (c := 1) (d := 105) (by decide) (by decide) (by simp only [bnd_ret, bnd_nn, bnd_rse, bnd_ite, bnd_bnd, semOf, gSeq, gNx, gSet, gDrop, gRet, gRetV, gRetN, gIf, gBk, gCt, gFrz, frz, gApp, gExt, gSetI, gAsg, gPar, gPop, gSetPop, gAppPop, gRaise, gFld, cVar, vVar, cC, toV, bin, una, aNil, aCons, cTup, cLst, rNil, rCons, setAll, addD, subD, negD, cmpD, notD, cCall, cMeth, cMeth0, cMake, objR, tV, truD, tNotD, tAndD, tOrD, tBl, andV, orV, cIf, chain, oNone, oSome, cSl, slD, ixD, lenD, tupleD, listD, cDict, tgN, tgS, tgT, tgs, wSeq, wEn, R.sl, R.d, Sl.isIns, oneIns, List.getElem?_cons_zero, List.getElem?_cons_succ, List.getElem?_nil, List.set_cons_zero, List.set_cons_succ, List.map_cons, List.map_nil, List.length_cons, List.length_nil, List.nil_append, List.cons_append, List.append_nil, List.replicate, List.all_cons, List.all_nil, Nat.reduceSub, Nat.reduceAdd, Nat.reduceLeDiff, Nat.reduceLT, Nat.reduceEqDiff, if_true, if_false, ite_true, ite_false, Bool.not_true, Bool.not_false, Bool.true_and, Bool.and_true, Bool.false_and, Bool.and_false, Bool.true_or, Bool.or_true, Bool.false_or, Bool.or_false, decide_true, decide_false, Bool.false_eq_true, reduceCtorEq, true_and, and_true, List.mem_cons_self]; exact size_) fun r hr => ?_
  obtain ⟨size, rfl, s0, s1⟩ := hr
  refine seq_set (c := 103) (d := 2) (by decide) (by decide) (by simp only [bnd_ret, bnd_nn, bnd_rse, bnd_ite, bnd_bnd, semOf, gSeq, gNx, gSet, gDrop, gRet, gRetV, gRetN, gIf, gBk, gCt, gFrz, frz, gApp, gExt, gSetI, gAsg, gPar, gPop, gSetPop, gAppPop, gRaise, gFld, cVar, vVar, cC, toV, bin, una, aNil, aCons, cTup, cLst, rNil, rCons, setAll, addD, subD, negD, cmpD, notD, cCall, cMeth, cMeth0, cMake, objR, tV, truD, tNotD, tAndD, tOrD, tBl, andV, orV, cIf, chain, oNone, oSome, cSl, slD, ixD, lenD, tupleD, listD, cDict, tgN, tgS, tgT, tgs, wSeq, wEn, R.sl, R.d, Sl.isIns, oneIns, List.getElem?_cons_zero, List.getElem?_cons_succ, List.getElem?_nil, List.set_cons_zero, List.set_cons_succ, List.map_cons, List.map_nil, List.length_cons, List.length_nil, List.nil_append, List.cons_append, List.append_nil, List.replicate, List.all_cons, List.all_nil, Nat.reduceSub, Nat.reduceAdd, Nat.reduceLeDiff, Nat.reduceLT, Nat.reduceEqDiff, if_true, if_false, ite_true, ite_false, Bool.not_true, Bool.not_false, Bool.true_and, Bool.and_true, Bool.false_and, Bool.and_false, Bool.true_or, Bool.or_true, Bool.false_or, Bool.or_false, decide_true, decide_false, Bool.false_eq_true, reduceCtorEq, true_and, and_true, List.mem_cons_self]; exact letters_ s0 s1 (by decide) (by decide)) fun r hr => ?_
  obtain ⟨l, rfl, b, n⟩ := hr
  have L : Lt size l := ⟨s0, s1, by omega, b⟩
  have h24 : l.length < 40 := by omega
  simp only [List.set_cons_zero, List.set_cons_succ, R.sl]
  rw [seq_nx (w3_ L), seq_nx (w4_ L h24), seq_nx (w5_ L)]
  refine seq_set (c := 1) (d := 1) (by decide) (by decide) (by simp only [bnd_ret, bnd_nn, bnd_rse, bnd_ite, bnd_bnd, semOf, gSeq, gNx, gSet, gDrop, gRet, gRetV, gRetN, gIf, gBk, gCt, gFrz, frz, gApp, gExt, gSetI, gAsg, gPar, gPop, gSetPop, gAppPop, gRaise, gFld, cVar, vVar, cC, toV, bin, una, aNil, aCons, cTup, cLst, rNil, rCons, setAll, addD, subD, negD, cmpD, notD, cCall, cMeth, cMeth0, cMake, objR, tV, truD, tNotD, tAndD, tOrD, tBl, andV, orV, cIf, chain, oNone, oSome, cSl, slD, ixD, lenD, tupleD, listD, cDict, tgN, tgS, tgT, tgs, wSeq, wEn, R.sl, R.d, Sl.isIns, oneIns, List.getElem?_cons_zero, List.getElem?_cons_succ, List.getElem?_nil, List.set_cons_zero, List.set_cons_succ, List.map_cons, List.map_nil, List.length_cons, List.length_nil, List.nil_append, List.cons_append, List.append_nil, List.replicate, List.all_cons, List.all_nil, Nat.reduceSub, Nat.reduceAdd, Nat.reduceLeDiff, Nat.reduceLT, Nat.reduceEqDiff, if_true, if_false, ite_true, ite_false, Bool.not_true, Bool.not_false, Bool.true_and, Bool.and_true, Bool.false_and, Bool.and_false, Bool.true_or, Bool.or_true, Bool.false_or, Bool.or_false, decide_true, decide_false, Bool.false_eq_true, reduceCtorEq, true_and, and_true, List.mem_cons_self]; exact odd_ (s := size) (by omega) s1) fun r hr => ?_
  obtain ⟨d, rfl, O⟩ := hr
  simp only [List.set_cons_zero, List.set_cons_succ, R.sl]
  rw [seq_nx (w7_ s0 s1)]
  refine seq_dw (c := 0) (d := 1) (by decide) (by decide) (w8_ L ht O) fun δ hδ => ?_
  obtain ⟨y8, rfl⟩ := hδ
  refine seq_dw (c := 1) (d := 0) (by decide) (by decide) (w9_ s0 s1 ht) fun δ hδ => ?_
  subst hδ
  rw [w10_ L]
  exact Dw.ret (by decide) ⟨_, _, _, _, _, _, rfl⟩
theorem law_pass {Tl : List (Addr × Str)} (no : (ocs a).Nodup) (hm : tabOk a.P_law lq_law Tl) : Pass Tl ["script", "m", "turn", "size", "letters", "word", "wrong", "table", "one", "row"] (g_law a) := by
  refine pass_of ((?_ : Dw Tl (424 + 0) _ _).le (by decide))
  have e0 : δ0 ["script", "m", "turn", "size", "letters", "word", "wrong", "table", "one", "row"] = [.non, .val .drw, .non, .non, .non, .non, .non, .non, .non, .non] := rfl
  rw [e0, show g_law a = gSeq (gFor (wRng1 (toV (cC (.int 4)))) (tgN 2) (wB a)) (gSeq (wE1 a) (gSeq (wE2 a) (wE3 a))) from rfl]
  have h4 : wRng1 (toV (cC (.int 4))) [.non, .val .drw, .non, .non, .non, .non, .non, .non, .non, .non] = DL.M.ret (rngD 0 4) := rfl
  rw [gSeq]
  simp only [gFor, h4, bnd_ret]
  refine Dw.bnd (by decide) (by decide) (for_dw0 (T := Tl) (tg := tgN 2) (body := wB a) (l := rngD 0 4) (c := 106) (k := 424) (by decide) (fun _ δ => ∃ x2 x3 x4 x5 x6 x7 x8 x9, δ = [.non, .val .drw, x2, x3, x4, x5, x6, x7, x8, x9]) (fun k d δ hk ⟨x2, x3, x4, x5, x6, x7, x8, x9, e⟩ => by
    subst e
    refine ⟨_, rfl, (wB_ hm).imp fun f hf => ?_⟩
    obtain ⟨y3, y4, y5, y6, y7, y8, rfl⟩ := hf
    exact ⟨_, rfl, _, _, _, _, _, _, _, _, rfl⟩) ⟨_, _, _, _, _, _, _, _, rfl⟩ (by decide)) fun f hf => ?_
  obtain ⟨δ', rfl, _⟩ := hf
  show Dw Tl 0 (gSeq (wE1 a) (gSeq (wE2 a) (wE3 a)) δ') _
  rw [seq_nx wE1_, seq_nx wE2_, wE3_]
  exact Dw.ret (by decide) rfl
end Dg
namespace Lw
open PySem L2 LwE
section
variable {K : PySem.W.Frag} {a b : Addr}
theorem kitCls_ref {t : Value} {r : Bool} (i : PySem.W.isClsIn K b = true) (y : PySem.W.typeIn K (.ref b) = some (.type "type")) (s : PySem.W.subIn K t (.ref b) = some r) : PySem.W.kitCls K t (.ref b) = some r := by
  have c : ((PySem.W.clsIn K b).isSome && PySem.W.typeIn K (.ref b) == some (.type "type")) = true := by
    rw [show (PySem.W.clsIn K b).isSome = true from i, y]
    rfl
  show (if ((PySem.W.clsIn K b).isSome && PySem.W.typeIn K (.ref b) == some (.type "type")) = true then PySem.W.subIn K t (.ref b) else none) = some r
  rw [if_pos c]
  exact s
theorem kit_self : PySem.W.kitOne K (.ref a) (.ref a) = some true := by
  unfold PySem.W.kitOne
  simp
theorem kit_no (s : PySem.W.subIn K (.ref a) (.ref a) = some true) (n : PySem.W.subIn K (.ref a) (.ref b) = some false) (i : PySem.W.isClsIn K b = true) (y : PySem.W.typeIn K (.ref b) = some (.type "type")) : PySem.W.kitOne K (.ref a) (.ref b) = some false := by
  have ne : ¬ ((Value.ref a == Value.ref b) = true) := fun z => by
    have e : a = b := by simpa using z
    rw [← e, s] at n
    cases n
  unfold PySem.W.kitOne
  rw [if_neg ne]
  exact kitCls_ref i y n
theorem kit_ve {r : Bool} (s : PySem.W.subIn K (.ref a) (.type "ValueError") = some r) : PySem.W.kitOne K (.ref a) (.type "ValueError") = some r := by
  have m : PySem.W.kitMeta "ValueError" = true := by decide +kernel
  unfold PySem.W.kitOne
  rw [if_neg (fun z => by simp at z)]
  show (if PySem.W.kitMeta "ValueError" = true then PySem.W.subIn K (.ref a) (.type "ValueError") else none) = some r
  rw [if_pos m]
  exact s
theorem exm_is {r : Bool} (e : PySem.W.subIn K (.ref b) (.type "BaseException") = some true) (i : PySem.W.isClsIn K b = true) (y : PySem.W.typeIn K (.ref b) = some (.type "type")) (s : PySem.W.subIn K (.ref a) (.ref b) = some r) : PySem.W.exmOne K (.ref a) (.ref b) = some r := by
  unfold PySem.W.exmOne
  rw [e, if_pos (by rfl)]
  exact kitCls_ref i y s
theorem exm3 {t x1 x2 x3 : Value} {b1 b2 b3 : Bool} (h1 : PySem.W.exmOne K t x1 = some b1) (h2 : PySem.W.exmOne K t x2 = some b2) (h3 : PySem.W.exmOne K t x3 = some b3) (h : (b1 || (b2 || (b3 || false))) = true) : PySem.W.exmAny K t [x1, x2, x3] = some true := by
  unfold PySem.W.exmAny
  rw [h1]
  unfold PySem.W.exmAny
  rw [h2]
  unfold PySem.W.exmAny
  rw [h3]
  unfold PySem.W.exmAny
  show some (b1 || (b2 || (b3 || false))) = some true
  rw [h]
end
theorem pass_O (self : Value) : refuseLoop self "__setattr__" bmO = pure () := by rfl
end Lw
namespace Dg
open PySem L2 LwE LamX Lw DL
abbrev sE_BadSize : Stmt := inClass (top 3) 0
theorem scE_BadSize : FnScope ["self", "value"] ["self", "value"] (defScope sE_BadSize) := ⟨rfl, rfl, rfl, by decide +kernel, rfl, by decide +kernel, by decide +kernel⟩
theorem okE_BadSize {P : Program} {w : World} {K : PySem.W.Frag} {mg : Str → Option Value} {base : Heap} {fI C : Addr} {dI : FuncData} (F : Fun K "__init__" "BadSize.__init__" sE_BadSize fI dI) (T : OexG K C "ValueError.__new__" bmV) (no : PySem.W.findIn K (.ref C) "value" = some none) : FnOk P w K mg base CX0 1 fI dI ["self", "value"] (spENote C "value") :=
  ok_note (q := "") (x := "") F T no scE_BadSize fun cdv A outer s H E => ⟨_, pss_one (ps_note rfl (pv 0) (pv 1)), fun _ _ _ h => h⟩
abbrev sE_BadLetters : Stmt := inClass (top 4) 0
theorem scE_BadLetters : FnScope ["self", "place"] ["self", "place"] (defScope sE_BadLetters) := ⟨rfl, rfl, rfl, by decide +kernel, rfl, by decide +kernel, by decide +kernel⟩
theorem okE_BadLetters {P : Program} {w : World} {K : PySem.W.Frag} {mg : Str → Option Value} {base : Heap} {fI C : Addr} {dI : FuncData} (F : Fun K "__init__" "BadLetters.__init__" sE_BadLetters fI dI) (T : OexG K C "ValueError.__new__" bmV) (no : PySem.W.findIn K (.ref C) "place" = some none) : FnOk P w K mg base CX0 1 fI dI ["self", "place"] (spENote C "place") :=
  ok_note (q := "") (x := "") F T no scE_BadLetters fun cdv A outer s H E => ⟨_, pss_one (ps_note rfl (pv 0) (pv 1)), fun _ _ _ h => h⟩
abbrev sE_BadTable : Stmt := inClass (top 8) 0
theorem scE_BadTable : FnScope ["self", "row"] ["self", "row"] (defScope sE_BadTable) := ⟨rfl, rfl, rfl, by decide +kernel, rfl, by decide +kernel, by decide +kernel⟩
theorem okE_BadTable {P : Program} {w : World} {K : PySem.W.Frag} {mg : Str → Option Value} {base : Heap} {fI C : Addr} {dI : FuncData} (F : Fun K "__init__" "BadTable.__init__" sE_BadTable fI dI) (T : OexG K C "ValueError.__new__" bmV) (no : PySem.W.findIn K (.ref C) "row" = some none) : FnOk P w K mg base CX0 1 fI dI ["self", "row"] (spENote C "row") :=
  ok_note (q := "") (x := "") F T no scE_BadTable fun cdv A outer s H E => ⟨_, pss_one (ps_note rfl (pv 0) (pv 1)), fun _ _ _ h => h⟩
abbrev sE_TooGreat : Stmt := inClass (top 15) 0
theorem scE_TooGreat : FnScope ["self", "most"] ["self", "most"] (defScope sE_TooGreat) := ⟨rfl, rfl, rfl, by decide +kernel, rfl, by decide +kernel, by decide +kernel⟩
theorem okE_TooGreat {P : Program} {w : World} {K : PySem.W.Frag} {mg : Str → Option Value} {base : Heap} {fI C : Addr} {dI : FuncData} (F : Fun K "__init__" "TooGreat.__init__" sE_TooGreat fI dI) (T : OexG K C "OverflowError.__new__" bmO) (no : PySem.W.findIn K (.ref C) "most" = some none) : FnOk P w K mg base CX0 1 fI dI ["self", "most"] (spENote C "most") :=
  ok_note (q := "") (x := "") F T no scE_TooGreat fun cdv A outer s H E => ⟨_, pss_one (ps_note rfl (pv 0) (pv 1)), fun _ _ _ h => h⟩
def TlOf (cs : List (Addr × Addr)) : List (Addr × Str) := (cs.map (·.2)).zip [lq_law]
set_option maxHeartbeats 16000000 in
theorem all_mk {l : PySem.W.OpenLaw} {w : World} {K : PySem.W.Frag} {h : Heap} {mg : Str → Option Value} {fa w_Word w_Table c_law P_law f__law_mixed f__law_folded f__law_draw f__law_begun f__law_heard f__law_rows f_Table_eq f__law_size f__law_letters f_is_between f_check_size f_is_listing f_check_letters f_Word_init f__law_odd f_is_rows f_stands_below f_check_rows f_lengths f_Table_init f_count_up_to f_put_in f_inserted f_grown f_recording f__law_like f_bumped f__law_is_table f__law_steps_right f__law_is_word f__law_places f_law f_E_BadSize f_E_BadLetters f_E_BadTable f_E_TooGreat q0 q1 q2 q3 q4 q5 q6 q7 q8 q9 q10 q11 q12 q13 : Addr} (X : K.In h) (G : h.Ns mainGlobals mg) (hfa : mg "law" = some (.ref fa))
    {od__law_mixed an__law_mixed : Option Addr} {sl__law_mixed : Array (Option Value)} {oc__law_mixed kV__law_mixed dc__law_mixed pm__law_mixed cd__law_mixed ct__law_mixed : Value}
    {od__law_folded an__law_folded : Option Addr} {sl__law_folded : Array (Option Value)} {oc__law_folded kV__law_folded dc__law_folded pm__law_folded cd__law_folded ct__law_folded : Value}
    {od__law_draw an__law_draw : Option Addr} {sl__law_draw : Array (Option Value)} {oc__law_draw kV__law_draw dc__law_draw pm__law_draw cd__law_draw ct__law_draw : Value}
    {od__law_begun an__law_begun : Option Addr} {sl__law_begun : Array (Option Value)} {oc__law_begun kV__law_begun dc__law_begun pm__law_begun cd__law_begun ct__law_begun : Value}
    {od__law_heard an__law_heard : Option Addr} {sl__law_heard : Array (Option Value)} {oc__law_heard kV__law_heard dc__law_heard pm__law_heard cd__law_heard ct__law_heard : Value}
    {od__law_rows an__law_rows : Option Addr} {sl__law_rows : Array (Option Value)} {oc__law_rows kV__law_rows dc__law_rows pm__law_rows cd__law_rows ct__law_rows : Value}
    {od_Table_eq an_Table_eq : Option Addr} {sl_Table_eq : Array (Option Value)} {oc_Table_eq kV_Table_eq dc_Table_eq pm_Table_eq cd_Table_eq ct_Table_eq : Value}
    {od__law_size an__law_size : Option Addr} {sl__law_size : Array (Option Value)} {oc__law_size kV__law_size dc__law_size pm__law_size cd__law_size ct__law_size : Value}
    {od__law_letters an__law_letters : Option Addr} {sl__law_letters : Array (Option Value)} {oc__law_letters kV__law_letters dc__law_letters pm__law_letters cd__law_letters ct__law_letters : Value}
    {od_is_between an_is_between : Option Addr} {sl_is_between : Array (Option Value)} {oc_is_between kV_is_between dc_is_between pm_is_between cd_is_between ct_is_between : Value}
    {od_check_size an_check_size : Option Addr} {sl_check_size : Array (Option Value)} {oc_check_size kV_check_size dc_check_size pm_check_size cd_check_size ct_check_size : Value}
    {od_is_listing an_is_listing : Option Addr} {sl_is_listing : Array (Option Value)} {oc_is_listing kV_is_listing dc_is_listing pm_is_listing cd_is_listing ct_is_listing : Value}
    {od_check_letters an_check_letters : Option Addr} {sl_check_letters : Array (Option Value)} {oc_check_letters kV_check_letters dc_check_letters pm_check_letters cd_check_letters ct_check_letters : Value}
    {od_Word_init an_Word_init : Option Addr} {sl_Word_init : Array (Option Value)} {oc_Word_init kV_Word_init dc_Word_init pm_Word_init cd_Word_init ct_Word_init : Value}
    {od__law_odd an__law_odd : Option Addr} {sl__law_odd : Array (Option Value)} {oc__law_odd kV__law_odd dc__law_odd pm__law_odd cd__law_odd ct__law_odd : Value}
    {od_is_rows an_is_rows : Option Addr} {sl_is_rows : Array (Option Value)} {oc_is_rows kV_is_rows dc_is_rows pm_is_rows cd_is_rows ct_is_rows : Value}
    {od_stands_below an_stands_below : Option Addr} {sl_stands_below : Array (Option Value)} {oc_stands_below kV_stands_below dc_stands_below pm_stands_below cd_stands_below ct_stands_below : Value}
    {od_check_rows an_check_rows : Option Addr} {sl_check_rows : Array (Option Value)} {oc_check_rows kV_check_rows dc_check_rows pm_check_rows cd_check_rows ct_check_rows : Value}
    {od_lengths an_lengths : Option Addr} {sl_lengths : Array (Option Value)} {oc_lengths kV_lengths dc_lengths pm_lengths cd_lengths ct_lengths : Value}
    {od_Table_init an_Table_init : Option Addr} {sl_Table_init : Array (Option Value)} {oc_Table_init kV_Table_init dc_Table_init pm_Table_init cd_Table_init ct_Table_init : Value}
    {od_count_up_to an_count_up_to : Option Addr} {sl_count_up_to : Array (Option Value)} {oc_count_up_to kV_count_up_to dc_count_up_to pm_count_up_to cd_count_up_to ct_count_up_to : Value}
    {od_put_in an_put_in : Option Addr} {sl_put_in : Array (Option Value)} {oc_put_in kV_put_in dc_put_in pm_put_in cd_put_in ct_put_in : Value}
    {od_inserted an_inserted : Option Addr} {sl_inserted : Array (Option Value)} {oc_inserted kV_inserted dc_inserted pm_inserted cd_inserted ct_inserted : Value}
    {od_grown an_grown : Option Addr} {sl_grown : Array (Option Value)} {oc_grown kV_grown dc_grown pm_grown cd_grown ct_grown : Value}
    {od_recording an_recording : Option Addr} {sl_recording : Array (Option Value)} {oc_recording kV_recording dc_recording pm_recording cd_recording ct_recording : Value}
    {od__law_like an__law_like : Option Addr} {sl__law_like : Array (Option Value)} {oc__law_like kV__law_like dc__law_like pm__law_like cd__law_like ct__law_like : Value}
    {od_bumped an_bumped : Option Addr} {sl_bumped : Array (Option Value)} {oc_bumped kV_bumped dc_bumped pm_bumped cd_bumped ct_bumped : Value}
    {od__law_is_table an__law_is_table : Option Addr} {sl__law_is_table : Array (Option Value)} {oc__law_is_table kV__law_is_table dc__law_is_table pm__law_is_table cd__law_is_table ct__law_is_table : Value}
    {od__law_steps_right an__law_steps_right : Option Addr} {sl__law_steps_right : Array (Option Value)} {oc__law_steps_right kV__law_steps_right dc__law_steps_right pm__law_steps_right cd__law_steps_right ct__law_steps_right : Value}
    {od__law_is_word an__law_is_word : Option Addr} {sl__law_is_word : Array (Option Value)} {oc__law_is_word kV__law_is_word dc__law_is_word pm__law_is_word cd__law_is_word ct__law_is_word : Value}
    {od__law_places an__law_places : Option Addr} {sl__law_places : Array (Option Value)} {oc__law_places kV__law_places dc__law_places pm__law_places cd__law_places ct__law_places : Value}
    {od_law an_law : Option Addr} {sl_law : Array (Option Value)} {oc_law kV_law dc_law pm_law ct_law : Value}
    {od_E_BadSize an_E_BadSize : Option Addr} {sl_E_BadSize : Array (Option Value)} {oc_E_BadSize kV_E_BadSize dc_E_BadSize pm_E_BadSize cd_E_BadSize ct_E_BadSize : Value}
    {od_E_BadLetters an_E_BadLetters : Option Addr} {sl_E_BadLetters : Array (Option Value)} {oc_E_BadLetters kV_E_BadLetters dc_E_BadLetters pm_E_BadLetters cd_E_BadLetters ct_E_BadLetters : Value}
    {od_E_BadTable an_E_BadTable : Option Addr} {sl_E_BadTable : Array (Option Value)} {oc_E_BadTable kV_E_BadTable dc_E_BadTable pm_E_BadTable cd_E_BadTable ct_E_BadTable : Value}
    {od_E_TooGreat an_E_TooGreat : Option Addr} {sl_E_TooGreat : Array (Option Value)} {oc_E_TooGreat kV_E_TooGreat dc_E_TooGreat pm_E_TooGreat cd_E_TooGreat ct_E_TooGreat : Value}
    {tk_LEAST_SIZE : Tok}
    {tk_MOST_LETTERS : Tok}
    {tk_MOST_SIZE : Tok}
    {xn1 xq1 : Str} {xN1 : Addr} {xs1 xu1 : List Value} {xm1 : List Str} {xb1 : Bool} {xc1 : Option Bool} {xd1 : Option Addr} {x01 x11 x21 x31 x51 : Option Value}
    {xn2 xq2 : Str} {xN2 : Addr} {xs2 xu2 : List Value} {xm2 : List Str} {xb2 : Bool} {xc2 : Option Bool} {xd2 : Option Addr} {x02 x12 x22 x32 x52 : Option Value}
    {xn6 xq6 : Str} {xN6 : Addr} {xs6 xu6 : List Value} {xm6 : List Str} {xb6 : Bool} {xc6 : Option Bool} {xd6 : Option Addr} {x06 x16 x26 x36 x56 : Option Value}
    {xn13 xq13 : Str} {xN13 : Addr} {xs13 xu13 : List Value} {xm13 : List Str} {xb13 : Bool} {xc13 : Option Bool} {xd13 : Option Addr} {x013 x113 x213 x313 x513 : Option Value}
    (tab_P_law : h.get? P_law = some { cls := .none, data := .fields #[] })
    (aC_Word : PySem.W.nsIn K mainGlobals "Word" = some (some (.ref w_Word)))
    (aC_Table : PySem.W.nsIn K mainGlobals "Table" = some (some (.ref w_Table)))
    (cl0 : PySem.W.nsIn K mainGlobals "LiftError" = some (some (.ref q0)))
    (cl1 : PySem.W.nsIn K mainGlobals "BadSize" = some (some (.ref q1)))
    (cl2 : PySem.W.nsIn K mainGlobals "BadLetters" = some (some (.ref q2)))
    (cl3 : PySem.W.nsIn K mainGlobals "BadIndex" = some (some (.ref q3)))
    (cl4 : PySem.W.nsIn K mainGlobals "BadNumber" = some (some (.ref q4)))
    (cl5 : PySem.W.nsIn K mainGlobals "BadDeed" = some (some (.ref q5)))
    (cl6 : PySem.W.nsIn K mainGlobals "BadTable" = some (some (.ref q6)))
    (cl7 : PySem.W.nsIn K mainGlobals "BadMove" = some (some (.ref q7)))
    (cl8 : PySem.W.nsIn K mainGlobals "BadShape" = some (some (.ref q8)))
    (cl9 : PySem.W.nsIn K mainGlobals "BadRecording" = some (some (.ref q9)))
    (cl10 : PySem.W.nsIn K mainGlobals "OtherSize" = some (some (.ref q10)))
    (cl11 : PySem.W.nsIn K mainGlobals "OtherHouse" = some (some (.ref q11)))
    (cl12 : PySem.W.nsIn K mainGlobals "Stuck" = some (some (.ref q12)))
    (cl13 : PySem.W.nsIn K mainGlobals "TooGreat" = some (some (.ref q13)))
    (a__law_mixed : PySem.W.nsIn K mainGlobals "_law_mixed" = some (some (.ref f__law_mixed)))
    (l__law_mixed : K.lookup f__law_mixed = some ⟨oc__law_mixed, od__law_mixed, .func (PySem.W.fnOf "_law_mixed" "_law_mixed" (defArgs sMixed) (defBody sMixed) (defScope sMixed) .none kV__law_mixed dc__law_mixed pm__law_mixed an__law_mixed cd__law_mixed ct__law_mixed), sl__law_mixed⟩)
    (c_c_law_mixed : PySem.W.codeIn K cd__law_mixed "_law_mixed" = true)
    (k__law_mixed : PySem.W.keepIn K (.ref f__law_mixed) = true)
    (a__law_folded : PySem.W.nsIn K mainGlobals "_law_folded" = some (some (.ref f__law_folded)))
    (l__law_folded : K.lookup f__law_folded = some ⟨oc__law_folded, od__law_folded, .func (PySem.W.fnOf "_law_folded" "_law_folded" (defArgs sFolded) (defBody sFolded) (defScope sFolded) .none kV__law_folded dc__law_folded pm__law_folded an__law_folded cd__law_folded ct__law_folded), sl__law_folded⟩)
    (c_c_law_folded : PySem.W.codeIn K cd__law_folded "_law_folded" = true)
    (k__law_folded : PySem.W.keepIn K (.ref f__law_folded) = true)
    (a__law_draw : PySem.W.nsIn K mainGlobals "_law_draw" = some (some (.ref f__law_draw)))
    (l__law_draw : K.lookup f__law_draw = some ⟨oc__law_draw, od__law_draw, .func (PySem.W.fnOf "_law_draw" "_law_draw" (defArgs sDraw) (defBody sDraw) (defScope sDraw) .none kV__law_draw dc__law_draw pm__law_draw an__law_draw cd__law_draw ct__law_draw), sl__law_draw⟩)
    (c_c_law_draw : PySem.W.codeIn K cd__law_draw "_law_draw" = true)
    (k__law_draw : PySem.W.keepIn K (.ref f__law_draw) = true)
    (a__law_begun : PySem.W.nsIn K mainGlobals "_law_begun" = some (some (.ref f__law_begun)))
    (l__law_begun : K.lookup f__law_begun = some ⟨oc__law_begun, od__law_begun, .func (PySem.W.fnOf "_law_begun" "_law_begun" (defArgs sBegun) (defBody sBegun) (defScope sBegun) .none kV__law_begun dc__law_begun pm__law_begun an__law_begun cd__law_begun ct__law_begun), sl__law_begun⟩)
    (c_c_law_begun : PySem.W.codeIn K cd__law_begun "_law_begun" = true)
    (k__law_begun : PySem.W.keepIn K (.ref f__law_begun) = true)
    (a__law_heard : PySem.W.nsIn K mainGlobals "_law_heard" = some (some (.ref f__law_heard)))
    (l__law_heard : K.lookup f__law_heard = some ⟨oc__law_heard, od__law_heard, .func (PySem.W.fnOf "_law_heard" "_law_heard" (defArgs sHeard) (defBody sHeard) (defScope sHeard) .none kV__law_heard dc__law_heard pm__law_heard an__law_heard cd__law_heard ct__law_heard), sl__law_heard⟩)
    (c_c_law_heard : PySem.W.codeIn K cd__law_heard "_law_heard" = true)
    (k__law_heard : PySem.W.keepIn K (.ref f__law_heard) = true)
    (a__law_rows : PySem.W.nsIn K mainGlobals "_law_rows" = some (some (.ref f__law_rows)))
    (l__law_rows : K.lookup f__law_rows = some ⟨oc__law_rows, od__law_rows, .func (PySem.W.fnOf "_law_rows" "_law_rows" (defArgs sRows) (defBody sRows) (defScope sRows) .none kV__law_rows dc__law_rows pm__law_rows an__law_rows cd__law_rows ct__law_rows), sl__law_rows⟩)
    (c_c_law_rows : PySem.W.codeIn K cd__law_rows "_law_rows" = true)
    (k__law_rows : PySem.W.keepIn K (.ref f__law_rows) = true)
    (a_Table_eq : PySem.W.findIn K (.ref w_Table) "__eq__" = some (some (.ref f_Table_eq)))
    (i_Table_eq : PySem.W.isFn K (.ref f_Table_eq) = true)
    (l_Table_eq : K.lookup f_Table_eq = some ⟨oc_Table_eq, od_Table_eq, .func (PySem.W.fnOf "__eq__" "Table.__eq__" (defArgs s_Table_eq) (defBody s_Table_eq) (defScope s_Table_eq) .none kV_Table_eq dc_Table_eq pm_Table_eq an_Table_eq cd_Table_eq ct_Table_eq), sl_Table_eq⟩)
    (c_cTable_eq : PySem.W.codeIn K cd_Table_eq "Table.__eq__" = true)
    (k_Table_eq : PySem.W.keepIn K (.ref f_Table_eq) = true)
    (a__law_size : PySem.W.nsIn K mainGlobals "_law_size" = some (some (.ref f__law_size)))
    (l__law_size : K.lookup f__law_size = some ⟨oc__law_size, od__law_size, .func (PySem.W.fnOf "_law_size" "_law_size" (defArgs s__law_size) (defBody s__law_size) (defScope s__law_size) .none kV__law_size dc__law_size pm__law_size an__law_size cd__law_size ct__law_size), sl__law_size⟩)
    (c_c_law_size : PySem.W.codeIn K cd__law_size "_law_size" = true)
    (k__law_size : PySem.W.keepIn K (.ref f__law_size) = true)
    (a__law_letters : PySem.W.nsIn K mainGlobals "_law_letters" = some (some (.ref f__law_letters)))
    (l__law_letters : K.lookup f__law_letters = some ⟨oc__law_letters, od__law_letters, .func (PySem.W.fnOf "_law_letters" "_law_letters" (defArgs s__law_letters) (defBody s__law_letters) (defScope s__law_letters) .none kV__law_letters dc__law_letters pm__law_letters an__law_letters cd__law_letters ct__law_letters), sl__law_letters⟩)
    (c_c_law_letters : PySem.W.codeIn K cd__law_letters "_law_letters" = true)
    (k__law_letters : PySem.W.keepIn K (.ref f__law_letters) = true)
    (a_is_between : PySem.W.nsIn K mainGlobals "is_between" = some (some (.ref f_is_between)))
    (l_is_between : K.lookup f_is_between = some ⟨oc_is_between, od_is_between, .func (PySem.W.fnOf "is_between" "is_between" (defArgs s_is_between) (defBody s_is_between) (defScope s_is_between) .none kV_is_between dc_is_between pm_is_between an_is_between cd_is_between ct_is_between), sl_is_between⟩)
    (c_cis_between : PySem.W.codeIn K cd_is_between "is_between" = true)
    (k_is_between : PySem.W.keepIn K (.ref f_is_between) = true)
    (a_check_size : PySem.W.nsIn K mainGlobals "check_size" = some (some (.ref f_check_size)))
    (l_check_size : K.lookup f_check_size = some ⟨oc_check_size, od_check_size, .func (PySem.W.fnOf "check_size" "check_size" (defArgs s_check_size) (defBody s_check_size) (defScope s_check_size) .none kV_check_size dc_check_size pm_check_size an_check_size cd_check_size ct_check_size), sl_check_size⟩)
    (c_ccheck_size : PySem.W.codeIn K cd_check_size "check_size" = true)
    (k_check_size : PySem.W.keepIn K (.ref f_check_size) = true)
    (a_is_listing : PySem.W.nsIn K mainGlobals "is_listing" = some (some (.ref f_is_listing)))
    (l_is_listing : K.lookup f_is_listing = some ⟨oc_is_listing, od_is_listing, .func (PySem.W.fnOf "is_listing" "is_listing" (defArgs s_is_listing) (defBody s_is_listing) (defScope s_is_listing) .none kV_is_listing dc_is_listing pm_is_listing an_is_listing cd_is_listing ct_is_listing), sl_is_listing⟩)
    (c_cis_listing : PySem.W.codeIn K cd_is_listing "is_listing" = true)
    (k_is_listing : PySem.W.keepIn K (.ref f_is_listing) = true)
    (a_check_letters : PySem.W.nsIn K mainGlobals "check_letters" = some (some (.ref f_check_letters)))
    (l_check_letters : K.lookup f_check_letters = some ⟨oc_check_letters, od_check_letters, .func (PySem.W.fnOf "check_letters" "check_letters" (defArgs s_check_letters) (defBody s_check_letters) (defScope s_check_letters) .none kV_check_letters dc_check_letters pm_check_letters an_check_letters cd_check_letters ct_check_letters), sl_check_letters⟩)
    (c_ccheck_letters : PySem.W.codeIn K cd_check_letters "check_letters" = true)
    (k_check_letters : PySem.W.keepIn K (.ref f_check_letters) = true)
    (a_Word_init : PySem.W.findIn K (.ref w_Word) "__init__" = some (some (.ref f_Word_init)))
    (i_Word_init : PySem.W.isFn K (.ref f_Word_init) = true)
    (l_Word_init : K.lookup f_Word_init = some ⟨oc_Word_init, od_Word_init, .func (PySem.W.fnOf "__init__" "Word.__init__" (defArgs s_Word_init) (defBody s_Word_init) (defScope s_Word_init) .none kV_Word_init dc_Word_init pm_Word_init an_Word_init cd_Word_init ct_Word_init), sl_Word_init⟩)
    (c_cWord_init : PySem.W.codeIn K cd_Word_init "Word.__init__" = true)
    (k_Word_init : PySem.W.keepIn K (.ref f_Word_init) = true)
    (a__law_odd : PySem.W.nsIn K mainGlobals "_law_odd" = some (some (.ref f__law_odd)))
    (l__law_odd : K.lookup f__law_odd = some ⟨oc__law_odd, od__law_odd, .func (PySem.W.fnOf "_law_odd" "_law_odd" (defArgs s__law_odd) (defBody s__law_odd) (defScope s__law_odd) .none kV__law_odd dc__law_odd pm__law_odd an__law_odd cd__law_odd ct__law_odd), sl__law_odd⟩)
    (c_c_law_odd : PySem.W.codeIn K cd__law_odd "_law_odd" = true)
    (k__law_odd : PySem.W.keepIn K (.ref f__law_odd) = true)
    (a_is_rows : PySem.W.nsIn K mainGlobals "is_rows" = some (some (.ref f_is_rows)))
    (l_is_rows : K.lookup f_is_rows = some ⟨oc_is_rows, od_is_rows, .func (PySem.W.fnOf "is_rows" "is_rows" (defArgs s_is_rows) (defBody s_is_rows) (defScope s_is_rows) .none kV_is_rows dc_is_rows pm_is_rows an_is_rows cd_is_rows ct_is_rows), sl_is_rows⟩)
    (c_cis_rows : PySem.W.codeIn K cd_is_rows "is_rows" = true)
    (k_is_rows : PySem.W.keepIn K (.ref f_is_rows) = true)
    (a_stands_below : PySem.W.nsIn K mainGlobals "stands_below" = some (some (.ref f_stands_below)))
    (l_stands_below : K.lookup f_stands_below = some ⟨oc_stands_below, od_stands_below, .func (PySem.W.fnOf "stands_below" "stands_below" (defArgs s_stands_below) (defBody s_stands_below) (defScope s_stands_below) .none kV_stands_below dc_stands_below pm_stands_below an_stands_below cd_stands_below ct_stands_below), sl_stands_below⟩)
    (c_cstands_below : PySem.W.codeIn K cd_stands_below "stands_below" = true)
    (k_stands_below : PySem.W.keepIn K (.ref f_stands_below) = true)
    (a_check_rows : PySem.W.nsIn K mainGlobals "check_rows" = some (some (.ref f_check_rows)))
    (l_check_rows : K.lookup f_check_rows = some ⟨oc_check_rows, od_check_rows, .func (PySem.W.fnOf "check_rows" "check_rows" (defArgs s_check_rows) (defBody s_check_rows) (defScope s_check_rows) .none kV_check_rows dc_check_rows pm_check_rows an_check_rows cd_check_rows ct_check_rows), sl_check_rows⟩)
    (c_ccheck_rows : PySem.W.codeIn K cd_check_rows "check_rows" = true)
    (k_check_rows : PySem.W.keepIn K (.ref f_check_rows) = true)
    (a_lengths : PySem.W.nsIn K mainGlobals "lengths" = some (some (.ref f_lengths)))
    (l_lengths : K.lookup f_lengths = some ⟨oc_lengths, od_lengths, .func (PySem.W.fnOf "lengths" "lengths" (defArgs s_lengths) (defBody s_lengths) (defScope s_lengths) .none kV_lengths dc_lengths pm_lengths an_lengths cd_lengths ct_lengths), sl_lengths⟩)
    (c_clengths : PySem.W.codeIn K cd_lengths "lengths" = true)
    (k_lengths : PySem.W.keepIn K (.ref f_lengths) = true)
    (a_Table_init : PySem.W.findIn K (.ref w_Table) "__init__" = some (some (.ref f_Table_init)))
    (i_Table_init : PySem.W.isFn K (.ref f_Table_init) = true)
    (l_Table_init : K.lookup f_Table_init = some ⟨oc_Table_init, od_Table_init, .func (PySem.W.fnOf "__init__" "Table.__init__" (defArgs s_Table_init) (defBody s_Table_init) (defScope s_Table_init) .none kV_Table_init dc_Table_init pm_Table_init an_Table_init cd_Table_init ct_Table_init), sl_Table_init⟩)
    (c_cTable_init : PySem.W.codeIn K cd_Table_init "Table.__init__" = true)
    (k_Table_init : PySem.W.keepIn K (.ref f_Table_init) = true)
    (a_count_up_to : PySem.W.nsIn K mainGlobals "count_up_to" = some (some (.ref f_count_up_to)))
    (l_count_up_to : K.lookup f_count_up_to = some ⟨oc_count_up_to, od_count_up_to, .func (PySem.W.fnOf "count_up_to" "count_up_to" (defArgs s_count_up_to) (defBody s_count_up_to) (defScope s_count_up_to) .none kV_count_up_to dc_count_up_to pm_count_up_to an_count_up_to cd_count_up_to ct_count_up_to), sl_count_up_to⟩)
    (c_ccount_up_to : PySem.W.codeIn K cd_count_up_to "count_up_to" = true)
    (k_count_up_to : PySem.W.keepIn K (.ref f_count_up_to) = true)
    (a_put_in : PySem.W.nsIn K mainGlobals "put_in" = some (some (.ref f_put_in)))
    (l_put_in : K.lookup f_put_in = some ⟨oc_put_in, od_put_in, .func (PySem.W.fnOf "put_in" "put_in" (defArgs s_put_in) (defBody s_put_in) (defScope s_put_in) .none kV_put_in dc_put_in pm_put_in an_put_in cd_put_in ct_put_in), sl_put_in⟩)
    (c_cput_in : PySem.W.codeIn K cd_put_in "put_in" = true)
    (k_put_in : PySem.W.keepIn K (.ref f_put_in) = true)
    (a_inserted : PySem.W.nsIn K mainGlobals "inserted" = some (some (.ref f_inserted)))
    (l_inserted : K.lookup f_inserted = some ⟨oc_inserted, od_inserted, .func (PySem.W.fnOf "inserted" "inserted" (defArgs s_inserted) (defBody s_inserted) (defScope s_inserted) .none kV_inserted dc_inserted pm_inserted an_inserted cd_inserted ct_inserted), sl_inserted⟩)
    (c_cinserted : PySem.W.codeIn K cd_inserted "inserted" = true)
    (k_inserted : PySem.W.keepIn K (.ref f_inserted) = true)
    (a_grown : PySem.W.nsIn K mainGlobals "grown" = some (some (.ref f_grown)))
    (l_grown : K.lookup f_grown = some ⟨oc_grown, od_grown, .func (PySem.W.fnOf "grown" "grown" (defArgs s_grown) (defBody s_grown) (defScope s_grown) .none kV_grown dc_grown pm_grown an_grown cd_grown ct_grown), sl_grown⟩)
    (c_cgrown : PySem.W.codeIn K cd_grown "grown" = true)
    (k_grown : PySem.W.keepIn K (.ref f_grown) = true)
    (a_recording : PySem.W.nsIn K mainGlobals "recording" = some (some (.ref f_recording)))
    (l_recording : K.lookup f_recording = some ⟨oc_recording, od_recording, .func (PySem.W.fnOf "recording" "recording" (defArgs s_recording) (defBody s_recording) (defScope s_recording) .none kV_recording dc_recording pm_recording an_recording cd_recording ct_recording), sl_recording⟩)
    (c_crecording : PySem.W.codeIn K cd_recording "recording" = true)
    (k_recording : PySem.W.keepIn K (.ref f_recording) = true)
    (a__law_like : PySem.W.nsIn K mainGlobals "_law_like" = some (some (.ref f__law_like)))
    (l__law_like : K.lookup f__law_like = some ⟨oc__law_like, od__law_like, .func (PySem.W.fnOf "_law_like" "_law_like" (defArgs s__law_like) (defBody s__law_like) (defScope s__law_like) .none kV__law_like dc__law_like pm__law_like an__law_like cd__law_like ct__law_like), sl__law_like⟩)
    (c_c_law_like : PySem.W.codeIn K cd__law_like "_law_like" = true)
    (k__law_like : PySem.W.keepIn K (.ref f__law_like) = true)
    (a_bumped : PySem.W.nsIn K mainGlobals "bumped" = some (some (.ref f_bumped)))
    (l_bumped : K.lookup f_bumped = some ⟨oc_bumped, od_bumped, .func (PySem.W.fnOf "bumped" "bumped" (defArgs s_bumped) (defBody s_bumped) (defScope s_bumped) .none kV_bumped dc_bumped pm_bumped an_bumped cd_bumped ct_bumped), sl_bumped⟩)
    (c_cbumped : PySem.W.codeIn K cd_bumped "bumped" = true)
    (k_bumped : PySem.W.keepIn K (.ref f_bumped) = true)
    (a__law_is_table : PySem.W.nsIn K mainGlobals "_law_is_table" = some (some (.ref f__law_is_table)))
    (l__law_is_table : K.lookup f__law_is_table = some ⟨oc__law_is_table, od__law_is_table, .func (PySem.W.fnOf "_law_is_table" "_law_is_table" (defArgs s__law_is_table) (defBody s__law_is_table) (defScope s__law_is_table) .none kV__law_is_table dc__law_is_table pm__law_is_table an__law_is_table cd__law_is_table ct__law_is_table), sl__law_is_table⟩)
    (c_c_law_is_table : PySem.W.codeIn K cd__law_is_table "_law_is_table" = true)
    (k__law_is_table : PySem.W.keepIn K (.ref f__law_is_table) = true)
    (a__law_steps_right : PySem.W.nsIn K mainGlobals "_law_steps_right" = some (some (.ref f__law_steps_right)))
    (l__law_steps_right : K.lookup f__law_steps_right = some ⟨oc__law_steps_right, od__law_steps_right, .func (PySem.W.fnOf "_law_steps_right" "_law_steps_right" (defArgs s__law_steps_right) (defBody s__law_steps_right) (defScope s__law_steps_right) .none kV__law_steps_right dc__law_steps_right pm__law_steps_right an__law_steps_right cd__law_steps_right ct__law_steps_right), sl__law_steps_right⟩)
    (c_c_law_steps_right : PySem.W.codeIn K cd__law_steps_right "_law_steps_right" = true)
    (k__law_steps_right : PySem.W.keepIn K (.ref f__law_steps_right) = true)
    (a__law_is_word : PySem.W.nsIn K mainGlobals "_law_is_word" = some (some (.ref f__law_is_word)))
    (l__law_is_word : K.lookup f__law_is_word = some ⟨oc__law_is_word, od__law_is_word, .func (PySem.W.fnOf "_law_is_word" "_law_is_word" (defArgs s__law_is_word) (defBody s__law_is_word) (defScope s__law_is_word) .none kV__law_is_word dc__law_is_word pm__law_is_word an__law_is_word cd__law_is_word ct__law_is_word), sl__law_is_word⟩)
    (c_c_law_is_word : PySem.W.codeIn K cd__law_is_word "_law_is_word" = true)
    (k__law_is_word : PySem.W.keepIn K (.ref f__law_is_word) = true)
    (a__law_places : PySem.W.nsIn K mainGlobals "_law_places" = some (some (.ref f__law_places)))
    (l__law_places : K.lookup f__law_places = some ⟨oc__law_places, od__law_places, .func (PySem.W.fnOf "_law_places" "_law_places" (defArgs s__law_places) (defBody s__law_places) (defScope s__law_places) .none kV__law_places dc__law_places pm__law_places an__law_places cd__law_places ct__law_places), sl__law_places⟩)
    (c_c_law_places : PySem.W.codeIn K cd__law_places "_law_places" = true)
    (k__law_places : PySem.W.keepIn K (.ref f__law_places) = true)
    (a_law : PySem.W.nsIn K mainGlobals "law" = some (some (.ref f_law)))
    (l_law : K.lookup f_law = some ⟨oc_law, od_law, .func (PySem.W.fnOf "law" "law" (defArgs s_law) (defBody s_law) (defScope s_law) .none kV_law dc_law pm_law an_law (.ref c_law) ct_law), sl_law⟩)
    (c_claw : PySem.W.codeIn K (.ref c_law) "law" = true)
    (k_law : PySem.W.keepIn K (.ref f_law) = true)
    (a_E_BadSize : PySem.W.findIn K (.ref q1) "__init__" = some (some (.ref f_E_BadSize)))
    (t_E_BadSize : PySem.W.typeIn K (.ref f_E_BadSize) = some (.type "function"))
    (l_E_BadSize : K.lookup f_E_BadSize = some ⟨oc_E_BadSize, od_E_BadSize, .func (PySem.W.fnOf "__init__" "BadSize.__init__" (defArgs sE_BadSize) (defBody sE_BadSize) (defScope sE_BadSize) .none kV_E_BadSize dc_E_BadSize pm_E_BadSize an_E_BadSize cd_E_BadSize ct_E_BadSize), sl_E_BadSize⟩)
    (c_cE_BadSize : PySem.W.codeIn K cd_E_BadSize "BadSize.__init__" = true)
    (k_E_BadSize : PySem.W.keepIn K (.ref f_E_BadSize) = true)
    (a_E_BadLetters : PySem.W.findIn K (.ref q2) "__init__" = some (some (.ref f_E_BadLetters)))
    (t_E_BadLetters : PySem.W.typeIn K (.ref f_E_BadLetters) = some (.type "function"))
    (l_E_BadLetters : K.lookup f_E_BadLetters = some ⟨oc_E_BadLetters, od_E_BadLetters, .func (PySem.W.fnOf "__init__" "BadLetters.__init__" (defArgs sE_BadLetters) (defBody sE_BadLetters) (defScope sE_BadLetters) .none kV_E_BadLetters dc_E_BadLetters pm_E_BadLetters an_E_BadLetters cd_E_BadLetters ct_E_BadLetters), sl_E_BadLetters⟩)
    (c_cE_BadLetters : PySem.W.codeIn K cd_E_BadLetters "BadLetters.__init__" = true)
    (k_E_BadLetters : PySem.W.keepIn K (.ref f_E_BadLetters) = true)
    (a_E_BadTable : PySem.W.findIn K (.ref q6) "__init__" = some (some (.ref f_E_BadTable)))
    (t_E_BadTable : PySem.W.typeIn K (.ref f_E_BadTable) = some (.type "function"))
    (l_E_BadTable : K.lookup f_E_BadTable = some ⟨oc_E_BadTable, od_E_BadTable, .func (PySem.W.fnOf "__init__" "BadTable.__init__" (defArgs sE_BadTable) (defBody sE_BadTable) (defScope sE_BadTable) .none kV_E_BadTable dc_E_BadTable pm_E_BadTable an_E_BadTable cd_E_BadTable ct_E_BadTable), sl_E_BadTable⟩)
    (c_cE_BadTable : PySem.W.codeIn K cd_E_BadTable "BadTable.__init__" = true)
    (k_E_BadTable : PySem.W.keepIn K (.ref f_E_BadTable) = true)
    (a_E_TooGreat : PySem.W.findIn K (.ref q13) "__init__" = some (some (.ref f_E_TooGreat)))
    (t_E_TooGreat : PySem.W.typeIn K (.ref f_E_TooGreat) = some (.type "function"))
    (l_E_TooGreat : K.lookup f_E_TooGreat = some ⟨oc_E_TooGreat, od_E_TooGreat, .func (PySem.W.fnOf "__init__" "TooGreat.__init__" (defArgs sE_TooGreat) (defBody sE_TooGreat) (defScope sE_TooGreat) .none kV_E_TooGreat dc_E_TooGreat pm_E_TooGreat an_E_TooGreat cd_E_TooGreat ct_E_TooGreat), sl_E_TooGreat⟩)
    (c_cE_TooGreat : PySem.W.codeIn K cd_E_TooGreat "TooGreat.__init__" = true)
    (k_E_TooGreat : PySem.W.keepIn K (.ref f_E_TooGreat) = true)
    (pg_Word : PySem.W.plainGet K w_Word Str.empty = true)
    (hd_Word : PySem.W.hasDictIn K w_Word = true)
    (po_Word : PySem.W.plainOver K w_Word = true)
    (sa_Word : PySem.W.findIn K (.ref w_Word) "__setattr__" = some (some (.builtin "object.__setattr__")))
    (mk_Word : PySem.W.makesIn K w_Word = true)
    (kc_Word : PySem.W.keepIn K (.ref w_Word) = true)
    (n_Word_letters : PySem.W.findIn K (.ref w_Word) "letters" = some none)
    (n_Word_size : PySem.W.findIn K (.ref w_Word) "size" = some none)
    (ca_Word : PySem.W.findIn K (.ref w_Word) "__class__" = some (some (.builtin "object.__class__")))
    (cm_Word : PySem.W.mroIn K w_Word (.type "object") = some true)
    (ne_Word : PySem.W.findIn K (.ref w_Word) "__ne__" = some (some (.builtin "object.__ne__")))
    (ic_Word : PySem.W.isClsIn K w_Word = true)
    (ty_Word : PySem.W.typeIn K (.ref w_Word) = some (.type "type"))
    (sb_Word_bool : PySem.W.subIn K (.ref w_Word) (.type "bool") = some false)
    (sb_Word_int : PySem.W.subIn K (.ref w_Word) (.type "int") = some false)
    (sb_Word_str : PySem.W.subIn K (.ref w_Word) (.type "str") = some false)
    (sb_Word_tuple : PySem.W.subIn K (.ref w_Word) (.type "tuple") = some false)
    (sb_Word_list : PySem.W.subIn K (.ref w_Word) (.type "list") = some false)
    (sb_Word_dict : PySem.W.subIn K (.ref w_Word) (.type "dict") = some false)
    (st_Word_Table : PySem.W.subIn K (.ref w_Word) (.ref w_Table) = some false)
    (pg_Table : PySem.W.plainGet K w_Table Str.empty = true)
    (hd_Table : PySem.W.hasDictIn K w_Table = true)
    (po_Table : PySem.W.plainOver K w_Table = true)
    (sa_Table : PySem.W.findIn K (.ref w_Table) "__setattr__" = some (some (.builtin "object.__setattr__")))
    (mk_Table : PySem.W.makesIn K w_Table = true)
    (kc_Table : PySem.W.keepIn K (.ref w_Table) = true)
    (n_Table_rows : PySem.W.findIn K (.ref w_Table) "rows" = some none)
    (n_Table_shape : PySem.W.findIn K (.ref w_Table) "shape" = some none)
    (n_Table_size : PySem.W.findIn K (.ref w_Table) "size" = some none)
    (ca_Table : PySem.W.findIn K (.ref w_Table) "__class__" = some (some (.builtin "object.__class__")))
    (cm_Table : PySem.W.mroIn K w_Table (.type "object") = some true)
    (ne_Table : PySem.W.findIn K (.ref w_Table) "__ne__" = some (some (.builtin "object.__ne__")))
    (ic_Table : PySem.W.isClsIn K w_Table = true)
    (ty_Table : PySem.W.typeIn K (.ref w_Table) = some (.type "type"))
    (sb_Table_bool : PySem.W.subIn K (.ref w_Table) (.type "bool") = some false)
    (sb_Table_int : PySem.W.subIn K (.ref w_Table) (.type "int") = some false)
    (sb_Table_str : PySem.W.subIn K (.ref w_Table) (.type "str") = some false)
    (sb_Table_tuple : PySem.W.subIn K (.ref w_Table) (.type "tuple") = some false)
    (sb_Table_list : PySem.W.subIn K (.ref w_Table) (.type "list") = some false)
    (sb_Table_dict : PySem.W.subIn K (.ref w_Table) (.type "dict") = some false)
    (st_Table_Word : PySem.W.subIn K (.ref w_Table) (.ref w_Word) = some false)
    (cn : PySem.W.specialIn K (.builtin "object.__class__") "__get__" = some (some (.builtin "getset_descriptor.__get__")))
    (ct : PySem.W.takesIn K (.builtin "object.__class__") = some true)
    (num_LEAST_SIZE : PySem.W.nsIn K mainGlobals "LEAST_SIZE" = some (some (.int 2 tk_LEAST_SIZE)))
    (num_MOST_LETTERS : PySem.W.nsIn K mainGlobals "MOST_LETTERS" = some (some (.int 40 tk_MOST_LETTERS)))
    (num_MOST_SIZE : PySem.W.nsIn K mainGlobals "MOST_SIZE" = some (some (.int 6 tk_MOST_SIZE)))
    (z_isinstance : PySem.W.nsIn K mainGlobals "isinstance" = some none)
    (z_int : PySem.W.nsIn K mainGlobals "int" = some none)
    (z_bool : PySem.W.nsIn K mainGlobals "bool" = some none)
    (z_list : PySem.W.nsIn K mainGlobals "list" = some none)
    (z_tuple : PySem.W.nsIn K mainGlobals "tuple" = some none)
    (z_len : PySem.W.nsIn K mainGlobals "len" = some none)
    (z_range : PySem.W.nsIn K mainGlobals "range" = some none)
    (z_enumerate : PySem.W.nsIn K mainGlobals "enumerate" = some none)
    (z_sorted : PySem.W.nsIn K mainGlobals "sorted" = some none)
    (z_min : PySem.W.nsIn K mainGlobals "min" = some none)
    (z_repr : PySem.W.nsIn K mainGlobals "repr" = some none)
    (z_any : PySem.W.nsIn K mainGlobals "any" = some none)
    (z_max : PySem.W.nsIn K mainGlobals "max" = some none)
    (z_abs : PySem.W.nsIn K mainGlobals "abs" = some none)
    (z_zip : PySem.W.nsIn K mainGlobals "zip" = some none)
    (z_ValueError : PySem.W.nsIn K mainGlobals "ValueError" = some none)
    (z_str : PySem.W.nsIn K mainGlobals "str" = some none)
    (z_sum : PySem.W.nsIn K mainGlobals "sum" = some none)
    (z_all : PySem.W.nsIn K mainGlobals "all" = some none)
    (z_dict : PySem.W.nsIn K mainGlobals "dict" = some none)
    (ic0 : PySem.W.isClsIn K q0 = true)
    (ty0 : PySem.W.typeIn K (.ref q0) = some (.type "type"))
    (ic1 : PySem.W.isClsIn K q1 = true)
    (ty1 : PySem.W.typeIn K (.ref q1) = some (.type "type"))
    (ic2 : PySem.W.isClsIn K q2 = true)
    (ty2 : PySem.W.typeIn K (.ref q2) = some (.type "type"))
    (ic3 : PySem.W.isClsIn K q3 = true)
    (ty3 : PySem.W.typeIn K (.ref q3) = some (.type "type"))
    (ic4 : PySem.W.isClsIn K q4 = true)
    (ty4 : PySem.W.typeIn K (.ref q4) = some (.type "type"))
    (ic5 : PySem.W.isClsIn K q5 = true)
    (ty5 : PySem.W.typeIn K (.ref q5) = some (.type "type"))
    (ic6 : PySem.W.isClsIn K q6 = true)
    (ty6 : PySem.W.typeIn K (.ref q6) = some (.type "type"))
    (ic7 : PySem.W.isClsIn K q7 = true)
    (ty7 : PySem.W.typeIn K (.ref q7) = some (.type "type"))
    (ic8 : PySem.W.isClsIn K q8 = true)
    (ty8 : PySem.W.typeIn K (.ref q8) = some (.type "type"))
    (ic9 : PySem.W.isClsIn K q9 = true)
    (ty9 : PySem.W.typeIn K (.ref q9) = some (.type "type"))
    (ic10 : PySem.W.isClsIn K q10 = true)
    (ty10 : PySem.W.typeIn K (.ref q10) = some (.type "type"))
    (ic11 : PySem.W.isClsIn K q11 = true)
    (ty11 : PySem.W.typeIn K (.ref q11) = some (.type "type"))
    (ic12 : PySem.W.isClsIn K q12 = true)
    (ty12 : PySem.W.typeIn K (.ref q12) = some (.type "type"))
    (ic13 : PySem.W.isClsIn K q13 = true)
    (ty13 : PySem.W.typeIn K (.ref q13) = some (.type "type"))
    (eb0 : PySem.W.subIn K (.ref q0) (.type "BaseException") = some true)
    (eb1 : PySem.W.subIn K (.ref q1) (.type "BaseException") = some true)
    (eb2 : PySem.W.subIn K (.ref q2) (.type "BaseException") = some true)
    (eb6 : PySem.W.subIn K (.ref q6) (.type "BaseException") = some true)
    (eb12 : PySem.W.subIn K (.ref q12) (.type "BaseException") = some true)
    (eb13 : PySem.W.subIn K (.ref q13) (.type "BaseException") = some true)
    (xl1 : K.lookup q1 = some (excClassObj xn1 xq1 q1 xN1 xs1 [.ref q0, .type "ValueError", .type "Exception", .type "BaseException", .type "object"] true xm1 xu1 xb1 xc1 xd1 x01 x11 x21 x31 x51 "ValueError.__new__"))
    (sa1 : PySem.W.findIn K (.ref q1) "__setattr__" = some (some (.builtin "object.__setattr__")))
    (ga1 : PySem.W.findIn K (.ref q1) "__getattribute__" = some (some (.builtin "BaseException.__getattribute__")))
    (gg1 : PySem.W.findIn K (.ref q1) "__getattr__" = some none)
    (hd1 : PySem.W.hasDictIn K q1 = true)
    (ca1 : PySem.W.findIn K (.ref q1) "__class__" = some (some (.builtin "object.__class__")))
    (cm1 : PySem.W.mroIn K q1 (.type "object") = some true)
    (kq1 : PySem.W.keepIn K (.ref q1) = true)
    (no1 : PySem.W.findIn K (.ref q1) "value" = some none)
    (su1_0 : PySem.W.subIn K (.ref q1) (.ref q0) = some true)
    (su1_1 : PySem.W.subIn K (.ref q1) (.ref q1) = some true)
    (su1_2 : PySem.W.subIn K (.ref q1) (.ref q2) = some false)
    (su1_3 : PySem.W.subIn K (.ref q1) (.ref q3) = some false)
    (su1_4 : PySem.W.subIn K (.ref q1) (.ref q4) = some false)
    (su1_5 : PySem.W.subIn K (.ref q1) (.ref q5) = some false)
    (su1_6 : PySem.W.subIn K (.ref q1) (.ref q6) = some false)
    (su1_7 : PySem.W.subIn K (.ref q1) (.ref q7) = some false)
    (su1_8 : PySem.W.subIn K (.ref q1) (.ref q8) = some false)
    (su1_9 : PySem.W.subIn K (.ref q1) (.ref q9) = some false)
    (su1_10 : PySem.W.subIn K (.ref q1) (.ref q10) = some false)
    (su1_11 : PySem.W.subIn K (.ref q1) (.ref q11) = some false)
    (su1_12 : PySem.W.subIn K (.ref q1) (.ref q12) = some false)
    (su1_13 : PySem.W.subIn K (.ref q1) (.ref q13) = some false)
    (ve1 : PySem.W.subIn K (.ref q1) (.type "ValueError") = some true)
    (xl2 : K.lookup q2 = some (excClassObj xn2 xq2 q2 xN2 xs2 [.ref q0, .type "ValueError", .type "Exception", .type "BaseException", .type "object"] true xm2 xu2 xb2 xc2 xd2 x02 x12 x22 x32 x52 "ValueError.__new__"))
    (sa2 : PySem.W.findIn K (.ref q2) "__setattr__" = some (some (.builtin "object.__setattr__")))
    (ga2 : PySem.W.findIn K (.ref q2) "__getattribute__" = some (some (.builtin "BaseException.__getattribute__")))
    (gg2 : PySem.W.findIn K (.ref q2) "__getattr__" = some none)
    (hd2 : PySem.W.hasDictIn K q2 = true)
    (ca2 : PySem.W.findIn K (.ref q2) "__class__" = some (some (.builtin "object.__class__")))
    (cm2 : PySem.W.mroIn K q2 (.type "object") = some true)
    (kq2 : PySem.W.keepIn K (.ref q2) = true)
    (no2 : PySem.W.findIn K (.ref q2) "place" = some none)
    (su2_0 : PySem.W.subIn K (.ref q2) (.ref q0) = some true)
    (su2_1 : PySem.W.subIn K (.ref q2) (.ref q1) = some false)
    (su2_2 : PySem.W.subIn K (.ref q2) (.ref q2) = some true)
    (su2_3 : PySem.W.subIn K (.ref q2) (.ref q3) = some false)
    (su2_4 : PySem.W.subIn K (.ref q2) (.ref q4) = some false)
    (su2_5 : PySem.W.subIn K (.ref q2) (.ref q5) = some false)
    (su2_6 : PySem.W.subIn K (.ref q2) (.ref q6) = some false)
    (su2_7 : PySem.W.subIn K (.ref q2) (.ref q7) = some false)
    (su2_8 : PySem.W.subIn K (.ref q2) (.ref q8) = some false)
    (su2_9 : PySem.W.subIn K (.ref q2) (.ref q9) = some false)
    (su2_10 : PySem.W.subIn K (.ref q2) (.ref q10) = some false)
    (su2_11 : PySem.W.subIn K (.ref q2) (.ref q11) = some false)
    (su2_12 : PySem.W.subIn K (.ref q2) (.ref q12) = some false)
    (su2_13 : PySem.W.subIn K (.ref q2) (.ref q13) = some false)
    (ve2 : PySem.W.subIn K (.ref q2) (.type "ValueError") = some true)
    (xl6 : K.lookup q6 = some (excClassObj xn6 xq6 q6 xN6 xs6 [.ref q0, .type "ValueError", .type "Exception", .type "BaseException", .type "object"] true xm6 xu6 xb6 xc6 xd6 x06 x16 x26 x36 x56 "ValueError.__new__"))
    (sa6 : PySem.W.findIn K (.ref q6) "__setattr__" = some (some (.builtin "object.__setattr__")))
    (ga6 : PySem.W.findIn K (.ref q6) "__getattribute__" = some (some (.builtin "BaseException.__getattribute__")))
    (gg6 : PySem.W.findIn K (.ref q6) "__getattr__" = some none)
    (hd6 : PySem.W.hasDictIn K q6 = true)
    (ca6 : PySem.W.findIn K (.ref q6) "__class__" = some (some (.builtin "object.__class__")))
    (cm6 : PySem.W.mroIn K q6 (.type "object") = some true)
    (kq6 : PySem.W.keepIn K (.ref q6) = true)
    (no6 : PySem.W.findIn K (.ref q6) "row" = some none)
    (su6_0 : PySem.W.subIn K (.ref q6) (.ref q0) = some true)
    (su6_1 : PySem.W.subIn K (.ref q6) (.ref q1) = some false)
    (su6_2 : PySem.W.subIn K (.ref q6) (.ref q2) = some false)
    (su6_3 : PySem.W.subIn K (.ref q6) (.ref q3) = some false)
    (su6_4 : PySem.W.subIn K (.ref q6) (.ref q4) = some false)
    (su6_5 : PySem.W.subIn K (.ref q6) (.ref q5) = some false)
    (su6_6 : PySem.W.subIn K (.ref q6) (.ref q6) = some true)
    (su6_7 : PySem.W.subIn K (.ref q6) (.ref q7) = some false)
    (su6_8 : PySem.W.subIn K (.ref q6) (.ref q8) = some false)
    (su6_9 : PySem.W.subIn K (.ref q6) (.ref q9) = some false)
    (su6_10 : PySem.W.subIn K (.ref q6) (.ref q10) = some false)
    (su6_11 : PySem.W.subIn K (.ref q6) (.ref q11) = some false)
    (su6_12 : PySem.W.subIn K (.ref q6) (.ref q12) = some false)
    (su6_13 : PySem.W.subIn K (.ref q6) (.ref q13) = some false)
    (ve6 : PySem.W.subIn K (.ref q6) (.type "ValueError") = some true)
    (xl13 : K.lookup q13 = some (excClassObj xn13 xq13 q13 xN13 xs13 [.type "OverflowError", .type "ArithmeticError", .type "Exception", .type "BaseException", .type "object"] true xm13 xu13 xb13 xc13 xd13 x013 x113 x213 x313 x513 "OverflowError.__new__"))
    (sa13 : PySem.W.findIn K (.ref q13) "__setattr__" = some (some (.builtin "object.__setattr__")))
    (ga13 : PySem.W.findIn K (.ref q13) "__getattribute__" = some (some (.builtin "BaseException.__getattribute__")))
    (gg13 : PySem.W.findIn K (.ref q13) "__getattr__" = some none)
    (hd13 : PySem.W.hasDictIn K q13 = true)
    (ca13 : PySem.W.findIn K (.ref q13) "__class__" = some (some (.builtin "object.__class__")))
    (cm13 : PySem.W.mroIn K q13 (.type "object") = some true)
    (kq13 : PySem.W.keepIn K (.ref q13) = true)
    (no13 : PySem.W.findIn K (.ref q13) "most" = some none)
    (su13_0 : PySem.W.subIn K (.ref q13) (.ref q0) = some false)
    (su13_1 : PySem.W.subIn K (.ref q13) (.ref q1) = some false)
    (su13_2 : PySem.W.subIn K (.ref q13) (.ref q2) = some false)
    (su13_3 : PySem.W.subIn K (.ref q13) (.ref q3) = some false)
    (su13_4 : PySem.W.subIn K (.ref q13) (.ref q4) = some false)
    (su13_5 : PySem.W.subIn K (.ref q13) (.ref q5) = some false)
    (su13_6 : PySem.W.subIn K (.ref q13) (.ref q6) = some false)
    (su13_7 : PySem.W.subIn K (.ref q13) (.ref q7) = some false)
    (su13_8 : PySem.W.subIn K (.ref q13) (.ref q8) = some false)
    (su13_9 : PySem.W.subIn K (.ref q13) (.ref q9) = some false)
    (su13_10 : PySem.W.subIn K (.ref q13) (.ref q10) = some false)
    (su13_11 : PySem.W.subIn K (.ref q13) (.ref q11) = some false)
    (su13_12 : PySem.W.subIn K (.ref q13) (.ref q12) = some false)
    (su13_13 : PySem.W.subIn K (.ref q13) (.ref q13) = some true)
    (ve13 : PySem.W.subIn K (.ref q13) (.type "ValueError") = some false)
    (nd : ([P_law] : List Addr).Nodup) (no : ([w_Word, w_Table] : List Addr).Nodup) (out_P_law : K.lookup P_law = none) (hdT_P_law : PySem.W.codeHdIn K c_law P_law = true) :
    TellsS l w K 10 "script" (fun cs => spLawD K (TlOf cs)) mg fa h := by
  have e0 := hfa.symm.trans (PySem.W.mg_of X G a_law)
  cases e0
  have B : Bare mg := ⟨PySem.W.mg_none_of X G z_isinstance, PySem.W.mg_none_of X G z_int, PySem.W.mg_none_of X G z_bool, PySem.W.mg_none_of X G z_list, PySem.W.mg_none_of X G z_tuple, PySem.W.mg_none_of X G z_len, PySem.W.mg_none_of X G z_range, PySem.W.mg_none_of X G z_enumerate, PySem.W.mg_none_of X G z_sorted, PySem.W.mg_none_of X G z_min, PySem.W.mg_none_of X G z_repr, PySem.W.mg_none_of X G z_any, PySem.W.mg_none_of X G z_max, PySem.W.mg_none_of X G z_abs, PySem.W.mg_none_of X G z_zip, PySem.W.mg_none_of X G z_ValueError, PySem.W.mg_none_of X G z_str, PySem.W.mg_none_of X G z_sum, PySem.W.mg_none_of X G z_all, PySem.W.mg_none_of X G z_dict⟩
  have F__law_mixed := fun_mk (st := sMixed) l__law_mixed c_c_law_mixed k__law_mixed
  have b__law_mixed := F__law_mixed.binds (ps := ["cell", "n"]) fun _ _ _ _ _ _ us hl => match us, hl with | [_, _], _ => rfl
  have F__law_folded := fun_mk (st := sFolded) l__law_folded c_c_law_folded k__law_folded
  have b__law_folded := F__law_folded.binds (ps := ["script"]) fun _ _ _ _ _ _ us hl => match us, hl with | [_], _ => rfl
  have F__law_draw := fun_mk (st := sDraw) l__law_draw c_c_law_draw k__law_draw
  have b__law_draw := F__law_draw.binds (ps := ["m", "limit"]) fun _ _ _ _ _ _ us hl => match us, hl with | [_, _], _ => rfl
  have F__law_begun := fun_mk (st := sBegun) l__law_begun c_c_law_begun k__law_begun
  have b__law_begun := F__law_begun.binds (ps := ["script"]) fun _ _ _ _ _ _ us hl => match us, hl with | [_], _ => rfl
  have F__law_heard := fun_mk (st := sHeard) l__law_heard c_c_law_heard k__law_heard
  have b__law_heard := F__law_heard.binds (ps := ["call"]) fun _ _ _ _ _ _ us hl => match us, hl with | [_], _ => rfl
  have F__law_rows := fun_mk (st := sRows) l__law_rows c_c_law_rows k__law_rows
  have b__law_rows := F__law_rows.binds (ps := ["letters"]) fun _ _ _ _ _ _ us hl => match us, hl with | [_], _ => rfl
  have F_Table_eq := fun_mk (st := s_Table_eq) l_Table_eq c_cTable_eq k_Table_eq
  have b_Table_eq := F_Table_eq.binds (ps := ["self", "other"]) fun _ _ _ _ _ _ us hl => match us, hl with | [_, _], _ => rfl
  have F__law_size := fun_mk (st := s__law_size) l__law_size c_c_law_size k__law_size
  have b__law_size := F__law_size.binds (ps := ["m"]) fun _ _ _ _ _ _ us hl => match us, hl with | [_], _ => rfl
  have F__law_letters := fun_mk (st := s__law_letters) l__law_letters c_c_law_letters k__law_letters
  have b__law_letters := F__law_letters.binds (ps := ["m", "size", "most"]) fun _ _ _ _ _ _ us hl => match us, hl with | [_, _, _], _ => rfl
  have F_is_between := fun_mk (st := s_is_between) l_is_between c_cis_between k_is_between
  have b_is_between := F_is_between.binds (ps := ["value", "least", "most"]) fun _ _ _ _ _ _ us hl => match us, hl with | [_, _, _], _ => rfl
  have F_check_size := fun_mk (st := s_check_size) l_check_size c_ccheck_size k_check_size
  have b_check_size := F_check_size.binds (ps := ["size"]) fun _ _ _ _ _ _ us hl => match us, hl with | [_], _ => rfl
  have F_is_listing := fun_mk (st := s_is_listing) l_is_listing c_cis_listing k_is_listing
  have b_is_listing := F_is_listing.binds (ps := ["value"]) fun _ _ _ _ _ _ us hl => match us, hl with | [_], _ => rfl
  have F_check_letters := fun_mk (st := s_check_letters) l_check_letters c_ccheck_letters k_check_letters
  have b_check_letters := F_check_letters.binds (ps := ["size", "letters"]) fun _ _ _ _ _ _ us hl => match us, hl with | [_, _], _ => rfl
  have F_Word_init := fun_mk (st := s_Word_init) l_Word_init c_cWord_init k_Word_init
  have b_Word_init := F_Word_init.binds (ps := ["self", "size", "letters"]) fun _ _ _ _ _ _ us hl => match us, hl with | [_, _, _], _ => rfl
  have F__law_odd := fun_mk (st := s__law_odd) l__law_odd c_c_law_odd k__law_odd
  have b__law_odd := F__law_odd.binds (ps := ["m", "size"]) fun _ _ _ _ _ _ us hl => match us, hl with | [_, _], _ => rfl
  have F_is_rows := fun_mk (st := s_is_rows) l_is_rows c_cis_rows k_is_rows
  have b_is_rows := F_is_rows.binds (ps := ["value"]) fun _ _ _ _ _ _ us hl => match us, hl with | [_], _ => rfl
  have F_stands_below := fun_mk (st := s_stands_below) l_stands_below c_cstands_below k_stands_below
  have b_stands_below := F_stands_below.binds (ps := ["size", "row", "above"]) fun _ _ _ _ _ _ us hl => match us, hl with | [_, _, _], _ => rfl
  have F_check_rows := fun_mk (st := s_check_rows) l_check_rows c_ccheck_rows k_check_rows
  have b_check_rows := F_check_rows.binds (ps := ["size", "rows"]) fun _ _ _ _ _ _ us hl => match us, hl with | [_, _], _ => rfl
  have F_lengths := fun_mk (st := s_lengths) l_lengths c_clengths k_lengths
  have b_lengths := F_lengths.binds (ps := ["rows"]) fun _ _ _ _ _ _ us hl => match us, hl with | [_], _ => rfl
  have F_Table_init := fun_mk (st := s_Table_init) l_Table_init c_cTable_init k_Table_init
  have b_Table_init := F_Table_init.binds (ps := ["self", "size", "rows"]) fun _ _ _ _ _ _ us hl => match us, hl with | [_, _, _], _ => rfl
  have F_count_up_to := fun_mk (st := s_count_up_to) l_count_up_to c_ccount_up_to k_count_up_to
  have b_count_up_to := F_count_up_to.binds (ps := ["row", "letter"]) fun _ _ _ _ _ _ us hl => match us, hl with | [_, _], _ => rfl
  have F_put_in := fun_mk (st := s_put_in) l_put_in c_cput_in k_put_in
  have b_put_in := F_put_in.binds (ps := ["rows", "letter"]) fun _ _ _ _ _ _ us hl => match us, hl with | [_, _], _ => rfl
  have F_inserted := fun_mk (st := s_inserted) l_inserted c_cinserted k_inserted
  have b_inserted := F_inserted.binds (ps := ["table", "letter"]) fun _ _ _ _ _ _ us hl => match us, hl with | [_, _], _ => rfl
  have F_grown := fun_mk (st := s_grown) l_grown c_cgrown k_grown
  have b_grown := F_grown.binds (ps := ["letters"]) fun _ _ _ _ _ _ us hl => match us, hl with | [_], _ => rfl
  have F_recording := fun_mk (st := s_recording) l_recording c_crecording k_recording
  have b_recording := F_recording.binds (ps := ["word"]) fun _ _ _ _ _ _ us hl => match us, hl with | [_], _ => rfl
  have F__law_like := fun_mk (st := s__law_like) l__law_like c_c_law_like k__law_like
  have b__law_like := F__law_like.binds (ps := ["told", "due"]) fun _ _ _ _ _ _ us hl => match us, hl with | [_, _], _ => rfl
  have F_bumped := fun_mk (st := s_bumped) l_bumped c_cbumped k_bumped
  have b_bumped := F_bumped.binds (ps := ["word"]) fun _ _ _ _ _ _ us hl => match us, hl with | [_], _ => rfl
  have F__law_is_table := fun_mk (st := s__law_is_table) l__law_is_table c_c_law_is_table k__law_is_table
  have b__law_is_table := F__law_is_table.binds (ps := ["told", "size", "rows"]) fun _ _ _ _ _ _ us hl => match us, hl with | [_, _, _], _ => rfl
  have F__law_steps_right := fun_mk (st := s__law_steps_right) l__law_steps_right c_c_law_steps_right k__law_steps_right
  have b__law_steps_right := F__law_steps_right.binds (ps := ["size", "letters"]) fun _ _ _ _ _ _ us hl => match us, hl with | [_, _], _ => rfl
  have F__law_is_word := fun_mk (st := s__law_is_word) l__law_is_word c_c_law_is_word k__law_is_word
  have b__law_is_word := F__law_is_word.binds (ps := ["told", "size", "letters"]) fun _ _ _ _ _ _ us hl => match us, hl with | [_, _, _], _ => rfl
  have F__law_places := fun_mk (st := s__law_places) l__law_places c_c_law_places k__law_places
  have b__law_places := F__law_places.binds (ps := ["letters"]) fun _ _ _ _ _ _ us hl => match us, hl with | [_], _ => rfl
  have F_law : FunC K "law" "law" s_law c_law fa _ := ⟨⟨_, _, _, _, _, _, _, _, rfl, l_law, c_claw⟩, k_law⟩
  have b_law := F_law.fn.binds (ps := ["script"]) fun _ _ _ _ _ _ us hl => match us, hl with | [_], _ => rfl
  have F_E_BadSize := fun_mk (st := sE_BadSize) l_E_BadSize c_cE_BadSize k_E_BadSize
  have b_E_BadSize := F_E_BadSize.binds (ps := ["self", "value"]) fun _ _ _ _ _ _ us hl => match us, hl with | [_, _], _ => rfl
  have F_E_BadLetters := fun_mk (st := sE_BadLetters) l_E_BadLetters c_cE_BadLetters k_E_BadLetters
  have b_E_BadLetters := F_E_BadLetters.binds (ps := ["self", "place"]) fun _ _ _ _ _ _ us hl => match us, hl with | [_, _], _ => rfl
  have F_E_BadTable := fun_mk (st := sE_BadTable) l_E_BadTable c_cE_BadTable k_E_BadTable
  have b_E_BadTable := F_E_BadTable.binds (ps := ["self", "row"]) fun _ _ _ _ _ _ us hl => match us, hl with | [_, _], _ => rfl
  have F_E_TooGreat := fun_mk (st := sE_TooGreat) l_E_TooGreat c_cE_TooGreat k_E_TooGreat
  have b_E_TooGreat := F_E_TooGreat.binds (ps := ["self", "most"]) fun _ _ _ _ _ _ us hl => match us, hl with | [_, _], _ => rfl
  let e : Eca := { lift := q0, of := fun k => match k with | .size => q1 | .letters => q2 | .index => q3 | .number => q4 | .deed => q5 | .table => q6 | .move => q7 | .shape => q8 | .stuck => q12 | .great => q13, recd := q9, osize := q10, ohouse := q11 }
  have EC : Ec K mg e := ⟨PySem.W.mg_none_of X G z_isinstance, PySem.W.mg_none_of X G z_zip, PySem.W.mg_none_of X G z_len, PySem.W.mg_none_of X G z_ValueError, PySem.W.mg_of X G cl0, PySem.W.mg_of X G cl1, PySem.W.mg_of X G cl2, PySem.W.mg_of X G cl3, PySem.W.mg_of X G cl4, PySem.W.mg_of X G cl5, PySem.W.mg_of X G cl6, PySem.W.mg_of X G cl7, PySem.W.mg_of X G cl8, PySem.W.mg_of X G cl9, PySem.W.mg_of X G cl10, PySem.W.mg_of X G cl11, PySem.W.mg_of X G cl12, PySem.W.mg_of X G cl13, ⟨cn, ct⟩⟩
  have TE1 : OexG K q1 "ValueError.__new__" bmV := oexG_V ⟨⟨_, _, _, _, _, _, _, _, _, _, _, _, _, _, _, xl1, rfl⟩, sa1, eb1, ty1, kq1⟩
  have EK1 : Ek K e .size := ⟨⟨ga1, gg1, eb1, hd1, ca1, cm1⟩, no1, exm3 (exm_is eb0 ic0 ty0 su1_0) (exm_is eb12 ic12 ty12 su1_12) (exm_is eb13 ic13 ty13 su1_13) rfl, fun k' => match k' with | .size => kit_self | .letters => kit_no su1_1 su1_2 ic2 ty2 | .index => kit_no su1_1 su1_3 ic3 ty3 | .number => kit_no su1_1 su1_4 ic4 ty4 | .deed => kit_no su1_1 su1_5 ic5 ty5 | .table => kit_no su1_1 su1_6 ic6 ty6 | .move => kit_no su1_1 su1_7 ic7 ty7 | .shape => kit_no su1_1 su1_8 ic8 ty8 | .stuck => kit_no su1_1 su1_12 ic12 ty12 | .great => kit_no su1_1 su1_13 ic13 ty13, kit_no su1_1 su1_9 ic9 ty9, kit_no su1_1 su1_10 ic10 ty10, kit_no su1_1 su1_11 ic11 ty11, kit_ve ve1⟩
  have TE2 : OexG K q2 "ValueError.__new__" bmV := oexG_V ⟨⟨_, _, _, _, _, _, _, _, _, _, _, _, _, _, _, xl2, rfl⟩, sa2, eb2, ty2, kq2⟩
  have EK2 : Ek K e .letters := ⟨⟨ga2, gg2, eb2, hd2, ca2, cm2⟩, no2, exm3 (exm_is eb0 ic0 ty0 su2_0) (exm_is eb12 ic12 ty12 su2_12) (exm_is eb13 ic13 ty13 su2_13) rfl, fun k' => match k' with | .size => kit_no su2_2 su2_1 ic1 ty1 | .letters => kit_self | .index => kit_no su2_2 su2_3 ic3 ty3 | .number => kit_no su2_2 su2_4 ic4 ty4 | .deed => kit_no su2_2 su2_5 ic5 ty5 | .table => kit_no su2_2 su2_6 ic6 ty6 | .move => kit_no su2_2 su2_7 ic7 ty7 | .shape => kit_no su2_2 su2_8 ic8 ty8 | .stuck => kit_no su2_2 su2_12 ic12 ty12 | .great => kit_no su2_2 su2_13 ic13 ty13, kit_no su2_2 su2_9 ic9 ty9, kit_no su2_2 su2_10 ic10 ty10, kit_no su2_2 su2_11 ic11 ty11, kit_ve ve2⟩
  have TE6 : OexG K q6 "ValueError.__new__" bmV := oexG_V ⟨⟨_, _, _, _, _, _, _, _, _, _, _, _, _, _, _, xl6, rfl⟩, sa6, eb6, ty6, kq6⟩
  have EK6 : Ek K e .table := ⟨⟨ga6, gg6, eb6, hd6, ca6, cm6⟩, no6, exm3 (exm_is eb0 ic0 ty0 su6_0) (exm_is eb12 ic12 ty12 su6_12) (exm_is eb13 ic13 ty13 su6_13) rfl, fun k' => match k' with | .size => kit_no su6_6 su6_1 ic1 ty1 | .letters => kit_no su6_6 su6_2 ic2 ty2 | .index => kit_no su6_6 su6_3 ic3 ty3 | .number => kit_no su6_6 su6_4 ic4 ty4 | .deed => kit_no su6_6 su6_5 ic5 ty5 | .table => kit_self | .move => kit_no su6_6 su6_7 ic7 ty7 | .shape => kit_no su6_6 su6_8 ic8 ty8 | .stuck => kit_no su6_6 su6_12 ic12 ty12 | .great => kit_no su6_6 su6_13 ic13 ty13, kit_no su6_6 su6_9 ic9 ty9, kit_no su6_6 su6_10 ic10 ty10, kit_no su6_6 su6_11 ic11 ty11, kit_ve ve6⟩
  have TE13 : OexG K q13 "OverflowError.__new__" bmO := ⟨⟨_, _, _, _, _, _, _, _, _, _, _, _, _, _, _, xl13, pass_O, fun _ => rfl, by decide +kernel⟩, sa13, eb13, ty13, kq13⟩
  have EK13 : Ek K e .great := ⟨⟨ga13, gg13, eb13, hd13, ca13, cm13⟩, no13, exm3 (exm_is eb0 ic0 ty0 su13_0) (exm_is eb12 ic12 ty12 su13_12) (exm_is eb13 ic13 ty13 su13_13) rfl, fun k' => match k' with | .size => kit_no su13_13 su13_1 ic1 ty1 | .letters => kit_no su13_13 su13_2 ic2 ty2 | .index => kit_no su13_13 su13_3 ic3 ty3 | .number => kit_no su13_13 su13_4 ic4 ty4 | .deed => kit_no su13_13 su13_5 ic5 ty5 | .table => kit_no su13_13 su13_6 ic6 ty6 | .move => kit_no su13_13 su13_7 ic7 ty7 | .shape => kit_no su13_13 su13_8 ic8 ty8 | .stuck => kit_no su13_13 su13_12 ic12 ty12 | .great => kit_self, kit_no su13_13 su13_9 ic9 ty9, kit_no su13_13 su13_10 ic10 ty10, kit_no su13_13 su13_11 ic11 ty11, kit_ve ve13⟩
  let a : Adr := ⟨e, w_Word, w_Table, P_law⟩
  refine ⟨PySem.W.fnOf "law" "law" (defArgs s_law) (defBody s_law) (defScope s_law) .none kV_law dc_law pm_law an_law (.ref c_law) ct_law, [(c_law, P_law)], by simp only [List.forall_mem_cons]; exact ⟨tab_P_law, fun _ m => nomatch m⟩, by simp only [List.forall_mem_cons]; exact ⟨out_P_law, fun _ m => nomatch m⟩, by simp only [List.forall_mem_cons]; exact ⟨PySem.W.codeHd_of_K X hdT_P_law, fun _ m => nomatch m⟩, fun s v => .of_eq rfl, fun base KB _ SY TB => ?_⟩
  obtain ⟨TB_P_law, _⟩ : TabB base mg c_law P_law ∧ True := ⟨TB (c_law, P_law) (by simp), trivial⟩
  have oc1 : ∀ C ∈ ocs a, Oc K C := fun C hC => by
    have hC : C ∈ [w_Word, w_Table] := hC
    simp only [List.mem_cons, List.not_mem_nil, or_false] at hC
    rcases hC with rfl | rfl <;> first | exact ⟨⟨pg_Word, hd_Word, po_Word, sa_Word⟩, ca_Word, cn, ct, cm_Word, ic_Word, ty_Word, fun T hT => by simp only [bts, List.mem_cons, List.not_mem_nil, or_false] at hT; rcases hT with rfl | rfl | rfl | rfl | rfl | rfl <;> first | exact sb_Word_bool | exact sb_Word_int | exact sb_Word_str | exact sb_Word_tuple | exact sb_Word_list | exact sb_Word_dict⟩ | exact ⟨⟨pg_Table, hd_Table, po_Table, sa_Table⟩, ca_Table, cn, ct, cm_Table, ic_Table, ty_Table, fun T hT => by simp only [bts, List.mem_cons, List.not_mem_nil, or_false] at hT; rcases hT with rfl | rfl | rfl | rfl | rfl | rfl <;> first | exact sb_Table_bool | exact sb_Table_int | exact sb_Table_str | exact sb_Table_tuple | exact sb_Table_list | exact sb_Table_dict⟩
  have oc2 : ∀ C ∈ ocs a, ∀ D ∈ ocs a, C ≠ D → PySem.W.subIn K (.ref C) (.ref D) = some false := fun C hC D hD ne => by
    have hC : C ∈ [w_Word, w_Table] := hC
    have hD : D ∈ [w_Word, w_Table] := hD
    simp only [List.mem_cons, List.not_mem_nil, or_false] at hC hD
    rcases hC with rfl | rfl <;> rcases hD with rfl | rfl <;> first | exact absurd rfl ne | exact st_Word_Table | exact st_Table_Word
  have HR : HrD K mg a.ec usd := ⟨EC, fun k hk => by cases k <;> first | (exact absurd hk (by decide)) | exact EK1 | exact EK2 | exact EK6 | exact EK13, ⟨f__law_heard, _, F__law_heard, PySem.W.mg_of X G a__law_heard, b__law_heard⟩⟩
  have T : Tp K mg base a := ⟨B, SY, (fun C hC => by simp only [List.mem_cons, List.not_mem_nil, or_false] at hC; rcases hC with rfl <;> first | exact ⟨⟨pg_Word, hd_Word, po_Word, sa_Word⟩, n_Word_letters⟩), (fun C hC => by simp only [List.mem_cons, List.not_mem_nil, or_false] at hC; rcases hC with rfl <;> first | exact ⟨⟨pg_Table, hd_Table, po_Table, sa_Table⟩, n_Table_rows⟩), (fun C hC => by simp only [List.mem_cons, List.not_mem_nil, or_false] at hC; rcases hC with rfl <;> first | exact ⟨⟨pg_Table, hd_Table, po_Table, sa_Table⟩, n_Table_shape⟩), (fun C hC => by simp only [List.mem_cons, List.not_mem_nil, or_false] at hC; rcases hC with rfl | rfl <;> first | exact ⟨⟨pg_Word, hd_Word, po_Word, sa_Word⟩, n_Word_size⟩ | exact ⟨⟨pg_Table, hd_Table, po_Table, sa_Table⟩, n_Table_size⟩), ⟨_, PySem.W.mg_of X G num_LEAST_SIZE⟩, ⟨_, PySem.W.mg_of X G num_MOST_LETTERS⟩, ⟨_, PySem.W.mg_of X G num_MOST_SIZE⟩, PySem.W.mg_of X G aC_Word, ⟨pg_Word, hd_Word, po_Word, sa_Word⟩, ne_Word, cm_Word, PySem.W.mg_of X G aC_Table, ⟨pg_Table, hd_Table, po_Table, sa_Table⟩, ne_Table, cm_Table, ⟨oc1, oc2⟩, HR⟩
  have R_BadSize : RsD l.prog w K mg base "BadSize" (a.ec.of .size) "value" := ⟨"ValueError", "ValueError.__new__", "ValueError.__init__", bmV, f_E_BadSize, _, PySem.F.excBase_ValueError, TE1, PySem.W.mg_of X G cl1, a_E_BadSize, t_E_BadSize, okE_BadSize F_E_BadSize TE1 no1, b_E_BadSize⟩
  have R_BadLetters : RsD l.prog w K mg base "BadLetters" (a.ec.of .letters) "place" := ⟨"ValueError", "ValueError.__new__", "ValueError.__init__", bmV, f_E_BadLetters, _, PySem.F.excBase_ValueError, TE2, PySem.W.mg_of X G cl2, a_E_BadLetters, t_E_BadLetters, okE_BadLetters F_E_BadLetters TE2 no2, b_E_BadLetters⟩
  have R_BadTable : RsD l.prog w K mg base "BadTable" (a.ec.of .table) "row" := ⟨"ValueError", "ValueError.__new__", "ValueError.__init__", bmV, f_E_BadTable, _, PySem.F.excBase_ValueError, TE6, PySem.W.mg_of X G cl6, a_E_BadTable, t_E_BadTable, okE_BadTable F_E_BadTable TE6 no6, b_E_BadTable⟩
  have R_TooGreat : RsD l.prog w K mg base "TooGreat" (a.ec.of .great) "most" := ⟨"OverflowError", "OverflowError.__new__", "OverflowError.__init__", bmO, f_E_TooGreat, _, PySem.F.excBase_OverflowError, TE13, PySem.W.mg_of X G cl13, a_E_TooGreat, t_E_TooGreat, okE_TooGreat F_E_TooGreat TE13 no13, b_E_TooGreat⟩
  have FBm : Df K mg "_law_mixed" sMixed f__law_mixed _ := ⟨F__law_mixed, PySem.W.mg_of X G a__law_mixed⟩
  have FBf : Df K mg "_law_folded" sFolded f__law_folded _ := ⟨F__law_folded, PySem.W.mg_of X G a__law_folded⟩
  have FBd : Df K mg "_law_draw" sDraw f__law_draw _ := ⟨F__law_draw, PySem.W.mg_of X G a__law_draw⟩
  have FBb : Df K mg "_law_begun" sBegun f__law_begun _ := ⟨F__law_begun, PySem.W.mg_of X G a__law_begun⟩
  have Gmx := ok_mixedE (P := l.prog) (w := w) (base := base) B FBm
  have Gdr := ok_drawE (P := l.prog) (w := w) (base := base) B FBd FBm b__law_mixed Gmx
  have Gfo := ok_folded (P := l.prog) (w := w) (base := base) B FBf
  have Gbe := ok_begun (P := l.prog) (w := w) (base := base) FBb FBf b__law_folded Gfo
  have D__law_draw : Fd l.prog w K mg base "_law_draw" 2 ["m", "limit"] (S__law_draw a) := ⟨_, _, fnD_draw Gdr, FBd.g, FBd.fn.kp, b__law_draw⟩
  have FBr : Df K mg "_law_rows" sRows f__law_rows _ := ⟨F__law_rows, PySem.W.mg_of X G a__law_rows⟩
  have D__law_rows : Fd l.prog w K mg base "_law_rows" 1 ["letters"] (S__law_rows a) := ⟨_, _, fnD_rows (ok_rows (P := l.prog) (w := w) (base := base) B FBr), FBr.g, FBr.fn.kp, b__law_rows⟩
  have D_Table_eq := d_Table_eq (P := l.prog) (w := w) T F_Table_eq a_Table_eq i_Table_eq b_Table_eq
  have D__law_size := d__law_size (P := l.prog) (w := w) T F__law_size (PySem.W.mg_of X G a__law_size) b__law_size D__law_draw
  have D__law_letters := d__law_letters (P := l.prog) (w := w) T F__law_letters (PySem.W.mg_of X G a__law_letters) b__law_letters D__law_draw
  have D_is_between := d_is_between (P := l.prog) (w := w) T F_is_between (PySem.W.mg_of X G a_is_between) b_is_between
  have D_check_size := d_check_size (P := l.prog) (w := w) T F_check_size (PySem.W.mg_of X G a_check_size) b_check_size R_BadSize D_is_between
  have D_is_listing := d_is_listing (P := l.prog) (w := w) T F_is_listing (PySem.W.mg_of X G a_is_listing) b_is_listing
  have D_check_letters := d_check_letters (P := l.prog) (w := w) T F_check_letters (PySem.W.mg_of X G a_check_letters) b_check_letters R_BadLetters R_TooGreat D_is_between D_is_listing
  have D_Word_init := d_Word_init (P := l.prog) (w := w) T F_Word_init ⟨mk_Word, a_Word_init, i_Word_init, kc_Word⟩ b_Word_init D_check_letters D_check_size
  have D__law_odd := d__law_odd (P := l.prog) (w := w) T F__law_odd (PySem.W.mg_of X G a__law_odd) b__law_odd D__law_draw
  have D_is_rows := d_is_rows (P := l.prog) (w := w) T F_is_rows (PySem.W.mg_of X G a_is_rows) b_is_rows D_is_listing
  have D_stands_below := d_stands_below (P := l.prog) (w := w) T F_stands_below (PySem.W.mg_of X G a_stands_below) b_stands_below D_is_between
  have D_check_rows := d_check_rows (P := l.prog) (w := w) T F_check_rows (PySem.W.mg_of X G a_check_rows) b_check_rows R_BadTable R_TooGreat D_is_rows D_stands_below
  have D_lengths := d_lengths (P := l.prog) (w := w) T F_lengths (PySem.W.mg_of X G a_lengths) b_lengths
  have D_Table_init := d_Table_init (P := l.prog) (w := w) T F_Table_init ⟨mk_Table, a_Table_init, i_Table_init, kc_Table⟩ b_Table_init D_check_rows D_check_size D_lengths
  have D_count_up_to := d_count_up_to (P := l.prog) (w := w) T F_count_up_to (PySem.W.mg_of X G a_count_up_to) b_count_up_to
  have D_put_in := d_put_in (P := l.prog) (w := w) T F_put_in (PySem.W.mg_of X G a_put_in) b_put_in D_count_up_to
  have D_inserted := d_inserted (P := l.prog) (w := w) T F_inserted (PySem.W.mg_of X G a_inserted) b_inserted D_Table_init R_BadLetters D_is_between D_put_in
  have D_grown := d_grown (P := l.prog) (w := w) T F_grown (PySem.W.mg_of X G a_grown) b_grown D_put_in
  have D_recording := d_recording (P := l.prog) (w := w) T F_recording (PySem.W.mg_of X G a_recording) b_recording D_grown
  have D__law_like := d__law_like (P := l.prog) (w := w) T F__law_like (PySem.W.mg_of X G a__law_like) b__law_like
  have D_bumped := d_bumped (P := l.prog) (w := w) T F_bumped (PySem.W.mg_of X G a_bumped) b_bumped D_Table_init D_grown
  have D__law_is_table := d__law_is_table (P := l.prog) (w := w) T F__law_is_table (PySem.W.mg_of X G a__law_is_table) b__law_is_table
  have D__law_steps_right := d__law_steps_right (P := l.prog) (w := w) T F__law_steps_right (PySem.W.mg_of X G a__law_steps_right) b__law_steps_right D_Table_init D__law_is_table D__law_like D__law_rows D_inserted
  have D__law_is_word := d__law_is_word (P := l.prog) (w := w) T F__law_is_word (PySem.W.mg_of X G a__law_is_word) b__law_is_word
  have D__law_places := d__law_places (P := l.prog) (w := w) T F__law_places (PySem.W.mg_of X G a__law_places) b__law_places D__law_rows
  exact d_law (P := l.prog) (w := w) T TB_P_law F_law b_law D_Table_eq D_Table_init D_Word_init D__law_draw D__law_is_table D__law_is_word D__law_letters D__law_like D__law_odd D__law_places D__law_rows D__law_size D__law_steps_right D_bumped D_inserted D_recording FBb b__law_begun Gbe (law_pass (a := a) no (tabOk_of nd (List.mem_of_getElem? (i := 0) rfl)))
theorem walk {l : PySem.W.OpenLaw} {q : Program} {loose : List Str} {XP : (Str → Option Value) → Heap → Prop} {YP : World → Heap → Prop} {d : DefRec} {K : Params → PySem.W.Frag} (hn : l.most = some 63) (hdf : d.params.defaults = []) (hi : PyProof.Rows.importsNone q = true)
    (hY : ∀ (w : World) (h : Heap), YP w h → (K w.params).In h)
    (F : ∀ (w : World) (mg : Str → Option Value) (fa : Addr) (h : Heap), YP w h → (K w.params).In h → h.Ns mainGlobals mg → mg d.name = some (.ref fa) → TellsS l w (K w.params) 10 "script" (fun cs => spLawD (K w.params) (TlOf cs)) mg fa h) :
    PySem.W.WalkO q loose XP YP l.row.toRowW d [] (fun f vs => PySem.call f vs) :=
  LwE.walkGS (n := 63) (k := 10) (x := "script") (sp := fun w cs => spLawD (K w.params) (TlOf cs)) hn (by decide) hdf ⟨rfl, by decide, by decide⟩ hi hY F fun _ _ a cs ns hl hT hS => ⟨a, ns, rfl, hS.sq, hl, (fun p hp => by
    obtain ⟨c, hc, e⟩ := List.mem_map.mp (List.of_mem_zip hp).1
    rw [← e]
    exact TabS.nil (hT c hc)), fun _ => rfl⟩
end Dg
open PySem PySem.W PyProof.Rows
set_option maxRecDepth 100000 in
set_option maxHeartbeats 0 in
theorem PySem.Challenge.cw_liftwords_k12_letters_inserted_holds : PySem.Challenge.rw_liftwords_k12_letters_inserted.Holds := by
  w_on; o_law; k_head; (case hw => w_witness2)
  k_fill
  refine Dg.walk (l := PySem.Challenge.rw_liftwords_k12_letters_inserted) rfl rfl (by first | rfl | kernel_rfl | decide +kernel) (fun w h Y => PySem.W.km_in_of Y) ?F
  case F =>
    intro w mg fa h Y KX G hmg
    refine' Dg.all_mk KX G hmg ?tab_P_law ?aC_Word ?aC_Table ?cl0 ?cl1 ?cl2 ?cl3 ?cl4 ?cl5 ?cl6 ?cl7 ?cl8 ?cl9 ?cl10 ?cl11 ?cl12 ?cl13 ?a__law_mixed ?l__law_mixed ?c_c_law_mixed ?k__law_mixed ?a__law_folded ?l__law_folded ?c_c_law_folded ?k__law_folded ?a__law_draw ?l__law_draw ?c_c_law_draw ?k__law_draw ?a__law_begun ?l__law_begun ?c_c_law_begun ?k__law_begun ?a__law_heard ?l__law_heard ?c_c_law_heard ?k__law_heard ?a__law_rows ?l__law_rows ?c_c_law_rows ?k__law_rows ?a_Table_eq ?i_Table_eq ?l_Table_eq ?c_cTable_eq ?k_Table_eq ?a__law_size ?l__law_size ?c_c_law_size ?k__law_size ?a__law_letters ?l__law_letters ?c_c_law_letters ?k__law_letters ?a_is_between ?l_is_between ?c_cis_between ?k_is_between ?a_check_size ?l_check_size ?c_ccheck_size ?k_check_size ?a_is_listing ?l_is_listing ?c_cis_listing ?k_is_listing ?a_check_letters ?l_check_letters ?c_ccheck_letters ?k_check_letters ?a_Word_init ?i_Word_init ?l_Word_init ?c_cWord_init ?k_Word_init ?a__law_odd ?l__law_odd ?c_c_law_odd ?k__law_odd ?a_is_rows ?l_is_rows ?c_cis_rows ?k_is_rows ?a_stands_below ?l_stands_below ?c_cstands_below ?k_stands_below ?a_check_rows ?l_check_rows ?c_ccheck_rows ?k_check_rows ?a_lengths ?l_lengths ?c_clengths ?k_lengths ?a_Table_init ?i_Table_init ?l_Table_init ?c_cTable_init ?k_Table_init ?a_count_up_to ?l_count_up_to ?c_ccount_up_to ?k_count_up_to ?a_put_in ?l_put_in ?c_cput_in ?k_put_in ?a_inserted ?l_inserted ?c_cinserted ?k_inserted ?a_grown ?l_grown ?c_cgrown ?k_grown ?a_recording ?l_recording ?c_crecording ?k_recording ?a__law_like ?l__law_like ?c_c_law_like ?k__law_like ?a_bumped ?l_bumped ?c_cbumped ?k_bumped ?a__law_is_table ?l__law_is_table ?c_c_law_is_table ?k__law_is_table ?a__law_steps_right ?l__law_steps_right ?c_c_law_steps_right ?k__law_steps_right ?a__law_is_word ?l__law_is_word ?c_c_law_is_word ?k__law_is_word ?a__law_places ?l__law_places ?c_c_law_places ?k__law_places ?a_law ?l_law ?c_claw ?k_law ?a_E_BadSize ?t_E_BadSize ?l_E_BadSize ?c_cE_BadSize ?k_E_BadSize ?a_E_BadLetters ?t_E_BadLetters ?l_E_BadLetters ?c_cE_BadLetters ?k_E_BadLetters ?a_E_BadTable ?t_E_BadTable ?l_E_BadTable ?c_cE_BadTable ?k_E_BadTable ?a_E_TooGreat ?t_E_TooGreat ?l_E_TooGreat ?c_cE_TooGreat ?k_E_TooGreat ?pg_Word ?hd_Word ?po_Word ?sa_Word ?mk_Word ?kc_Word ?n_Word_letters ?n_Word_size ?ca_Word ?cm_Word ?ne_Word ?ic_Word ?ty_Word ?sb_Word_bool ?sb_Word_int ?sb_Word_str ?sb_Word_tuple ?sb_Word_list ?sb_Word_dict ?st_Word_Table ?pg_Table ?hd_Table ?po_Table ?sa_Table ?mk_Table ?kc_Table ?n_Table_rows ?n_Table_shape ?n_Table_size ?ca_Table ?cm_Table ?ne_Table ?ic_Table ?ty_Table ?sb_Table_bool ?sb_Table_int ?sb_Table_str ?sb_Table_tuple ?sb_Table_list ?sb_Table_dict ?st_Table_Word ?cn ?ct ?num_LEAST_SIZE ?num_MOST_LETTERS ?num_MOST_SIZE ?z_isinstance ?z_int ?z_bool ?z_list ?z_tuple ?z_len ?z_range ?z_enumerate ?z_sorted ?z_min ?z_repr ?z_any ?z_max ?z_abs ?z_zip ?z_ValueError ?z_str ?z_sum ?z_all ?z_dict ?ic0 ?ty0 ?ic1 ?ty1 ?ic2 ?ty2 ?ic3 ?ty3 ?ic4 ?ty4 ?ic5 ?ty5 ?ic6 ?ty6 ?ic7 ?ty7 ?ic8 ?ty8 ?ic9 ?ty9 ?ic10 ?ty10 ?ic11 ?ty11 ?ic12 ?ty12 ?ic13 ?ty13 ?eb0 ?eb1 ?eb2 ?eb6 ?eb12 ?eb13 ?xl1 ?sa1 ?ga1 ?gg1 ?hd1 ?ca1 ?cm1 ?kq1 ?no1 ?su1_0 ?su1_1 ?su1_2 ?su1_3 ?su1_4 ?su1_5 ?su1_6 ?su1_7 ?su1_8 ?su1_9 ?su1_10 ?su1_11 ?su1_12 ?su1_13 ?ve1 ?xl2 ?sa2 ?ga2 ?gg2 ?hd2 ?ca2 ?cm2 ?kq2 ?no2 ?su2_0 ?su2_1 ?su2_2 ?su2_3 ?su2_4 ?su2_5 ?su2_6 ?su2_7 ?su2_8 ?su2_9 ?su2_10 ?su2_11 ?su2_12 ?su2_13 ?ve2 ?xl6 ?sa6 ?ga6 ?gg6 ?hd6 ?ca6 ?cm6 ?kq6 ?no6 ?su6_0 ?su6_1 ?su6_2 ?su6_3 ?su6_4 ?su6_5 ?su6_6 ?su6_7 ?su6_8 ?su6_9 ?su6_10 ?su6_11 ?su6_12 ?su6_13 ?ve6 ?xl13 ?sa13 ?ga13 ?gg13 ?hd13 ?ca13 ?cm13 ?kq13 ?no13 ?su13_0 ?su13_1 ?su13_2 ?su13_3 ?su13_4 ?su13_5 ?su13_6 ?su13_7 ?su13_8 ?su13_9 ?su13_10 ?su13_11 ?su13_12 ?su13_13 ?ve13 ?nd ?no ?out_P_law ?hdT_P_law
    (case tab_P_law => exact (List.forall_mem_cons.mp (PySem.W.km_tabs_of Y)).1)
    (case aC_Word => k_is)
    (case aC_Table => k_is)
    (case cl0 => k_is)
    (case cl1 => k_is)
    (case cl2 => k_is)
    (case cl3 => k_is)
    (case cl4 => k_is)
    (case cl5 => k_is)
    (case cl6 => k_is)
    (case cl7 => k_is)
    (case cl8 => k_is)
    (case cl9 => k_is)
    (case cl10 => k_is)
    (case cl11 => k_is)
    (case cl12 => k_is)
    (case cl13 => k_is)
    (case a__law_mixed => k_is)
    (case l__law_mixed => k_is)
    (case c_c_law_mixed => k_is)
    (case k__law_mixed => k_is)
    (case a__law_folded => k_is)
    (case l__law_folded => k_is)
    (case c_c_law_folded => k_is)
    (case k__law_folded => k_is)
    (case a__law_draw => k_is)
    (case l__law_draw => k_is)
    (case c_c_law_draw => k_is)
    (case k__law_draw => k_is)
    (case a__law_begun => k_is)
    (case l__law_begun => k_is)
    (case c_c_law_begun => k_is)
    (case k__law_begun => k_is)
    (case a__law_heard => k_is)
    (case l__law_heard => k_is)
    (case c_c_law_heard => k_is)
    (case k__law_heard => k_is)
    (case a__law_rows => k_is)
    (case l__law_rows => k_is)
    (case c_c_law_rows => k_is)
    (case k__law_rows => k_is)
    (case a_Table_eq => k_is)
    (case i_Table_eq => k_is)
    (case l_Table_eq => k_is)
    (case c_cTable_eq => k_is)
    (case k_Table_eq => k_is)
    (case a__law_size => k_is)
    (case l__law_size => k_is)
    (case c_c_law_size => k_is)
    (case k__law_size => k_is)
    (case a__law_letters => k_is)
    (case l__law_letters => k_is)
    (case c_c_law_letters => k_is)
    (case k__law_letters => k_is)
    (case a_is_between => k_is)
    (case l_is_between => k_is)
    (case c_cis_between => k_is)
    (case k_is_between => k_is)
    (case a_check_size => k_is)
    (case l_check_size => k_is)
    (case c_ccheck_size => k_is)
    (case k_check_size => k_is)
    (case a_is_listing => k_is)
    (case l_is_listing => k_is)
    (case c_cis_listing => k_is)
    (case k_is_listing => k_is)
    (case a_check_letters => k_is)
    (case l_check_letters => k_is)
    (case c_ccheck_letters => k_is)
    (case k_check_letters => k_is)
    (case a_Word_init => k_is)
    (case i_Word_init => k_is)
    (case l_Word_init => k_is)
    (case c_cWord_init => k_is)
    (case k_Word_init => k_is)
    (case a__law_odd => k_is)
    (case l__law_odd => k_is)
    (case c_c_law_odd => k_is)
    (case k__law_odd => k_is)
    (case a_is_rows => k_is)
    (case l_is_rows => k_is)
    (case c_cis_rows => k_is)
    (case k_is_rows => k_is)
    (case a_stands_below => k_is)
    (case l_stands_below => k_is)
    (case c_cstands_below => k_is)
    (case k_stands_below => k_is)
    (case a_check_rows => k_is)
    (case l_check_rows => k_is)
    (case c_ccheck_rows => k_is)
    (case k_check_rows => k_is)
    (case a_lengths => k_is)
    (case l_lengths => k_is)
    (case c_clengths => k_is)
    (case k_lengths => k_is)
    (case a_Table_init => k_is)
    (case i_Table_init => k_is)
    (case l_Table_init => k_is)
    (case c_cTable_init => k_is)
    (case k_Table_init => k_is)
    (case a_count_up_to => k_is)
    (case l_count_up_to => k_is)
    (case c_ccount_up_to => k_is)
    (case k_count_up_to => k_is)
    (case a_put_in => k_is)
    (case l_put_in => k_is)
    (case c_cput_in => k_is)
    (case k_put_in => k_is)
    (case a_inserted => k_is)
    (case l_inserted => k_is)
    (case c_cinserted => k_is)
    (case k_inserted => k_is)
    (case a_grown => k_is)
    (case l_grown => k_is)
    (case c_cgrown => k_is)
    (case k_grown => k_is)
    (case a_recording => k_is)
    (case l_recording => k_is)
    (case c_crecording => k_is)
    (case k_recording => k_is)
    (case a__law_like => k_is)
    (case l__law_like => k_is)
    (case c_c_law_like => k_is)
    (case k__law_like => k_is)
    (case a_bumped => k_is)
    (case l_bumped => k_is)
    (case c_cbumped => k_is)
    (case k_bumped => k_is)
    (case a__law_is_table => k_is)
    (case l__law_is_table => k_is)
    (case c_c_law_is_table => k_is)
    (case k__law_is_table => k_is)
    (case a__law_steps_right => k_is)
    (case l__law_steps_right => k_is)
    (case c_c_law_steps_right => k_is)
    (case k__law_steps_right => k_is)
    (case a__law_is_word => k_is)
    (case l__law_is_word => k_is)
    (case c_c_law_is_word => k_is)
    (case k__law_is_word => k_is)
    (case a__law_places => k_is)
    (case l__law_places => k_is)
    (case c_c_law_places => k_is)
    (case k__law_places => k_is)
    (case a_law => k_is)
    (case l_law => k_is)
    (case c_claw => k_is)
    (case k_law => k_is)
    (case a_E_BadSize => k_is)
    (case t_E_BadSize => k_is)
    (case l_E_BadSize => k_is)
    (case c_cE_BadSize => k_is)
    (case k_E_BadSize => k_is)
    (case a_E_BadLetters => k_is)
    (case t_E_BadLetters => k_is)
    (case l_E_BadLetters => k_is)
    (case c_cE_BadLetters => k_is)
    (case k_E_BadLetters => k_is)
    (case a_E_BadTable => k_is)
    (case t_E_BadTable => k_is)
    (case l_E_BadTable => k_is)
    (case c_cE_BadTable => k_is)
    (case k_E_BadTable => k_is)
    (case a_E_TooGreat => k_is)
    (case t_E_TooGreat => k_is)
    (case l_E_TooGreat => k_is)
    (case c_cE_TooGreat => k_is)
    (case k_E_TooGreat => k_is)
    (case pg_Word => k_is)
    (case hd_Word => k_is)
    (case po_Word => k_is)
    (case sa_Word => k_is)
    (case mk_Word => k_is)
    (case kc_Word => k_is)
    (case n_Word_letters => k_is)
    (case n_Word_size => k_is)
    (case ca_Word => k_is)
    (case cm_Word => k_is)
    (case ne_Word => k_is)
    (case ic_Word => k_is)
    (case ty_Word => k_is)
    (case sb_Word_bool => k_is)
    (case sb_Word_int => k_is)
    (case sb_Word_str => k_is)
    (case sb_Word_tuple => k_is)
    (case sb_Word_list => k_is)
    (case sb_Word_dict => k_is)
    (case st_Word_Table => k_is)
    (case pg_Table => k_is)
    (case hd_Table => k_is)
    (case po_Table => k_is)
    (case sa_Table => k_is)
    (case mk_Table => k_is)
    (case kc_Table => k_is)
    (case n_Table_rows => k_is)
    (case n_Table_shape => k_is)
    (case n_Table_size => k_is)
    (case ca_Table => k_is)
    (case cm_Table => k_is)
    (case ne_Table => k_is)
    (case ic_Table => k_is)
    (case ty_Table => k_is)
    (case sb_Table_bool => k_is)
    (case sb_Table_int => k_is)
    (case sb_Table_str => k_is)
    (case sb_Table_tuple => k_is)
    (case sb_Table_list => k_is)
    (case sb_Table_dict => k_is)
    (case st_Table_Word => k_is)
    (case cn => k_is)
    (case ct => k_is)
    (case num_LEAST_SIZE => k_is)
    (case num_MOST_LETTERS => k_is)
    (case num_MOST_SIZE => k_is)
    (case z_isinstance => k_is)
    (case z_int => k_is)
    (case z_bool => k_is)
    (case z_list => k_is)
    (case z_tuple => k_is)
    (case z_len => k_is)
    (case z_range => k_is)
    (case z_enumerate => k_is)
    (case z_sorted => k_is)
    (case z_min => k_is)
    (case z_repr => k_is)
    (case z_any => k_is)
    (case z_max => k_is)
    (case z_abs => k_is)
    (case z_zip => k_is)
    (case z_ValueError => k_is)
    (case z_str => k_is)
    (case z_sum => k_is)
    (case z_all => k_is)
    (case z_dict => k_is)
    (case ic0 => k_is)
    (case ty0 => k_is)
    (case ic1 => k_is)
    (case ty1 => k_is)
    (case ic2 => k_is)
    (case ty2 => k_is)
    (case ic3 => k_is)
    (case ty3 => k_is)
    (case ic4 => k_is)
    (case ty4 => k_is)
    (case ic5 => k_is)
    (case ty5 => k_is)
    (case ic6 => k_is)
    (case ty6 => k_is)
    (case ic7 => k_is)
    (case ty7 => k_is)
    (case ic8 => k_is)
    (case ty8 => k_is)
    (case ic9 => k_is)
    (case ty9 => k_is)
    (case ic10 => k_is)
    (case ty10 => k_is)
    (case ic11 => k_is)
    (case ty11 => k_is)
    (case ic12 => k_is)
    (case ty12 => k_is)
    (case ic13 => k_is)
    (case ty13 => k_is)
    (case eb0 => k_is)
    (case eb1 => k_is)
    (case eb2 => k_is)
    (case eb6 => k_is)
    (case eb12 => k_is)
    (case eb13 => k_is)
    (case xl1 => k_is)
    (case sa1 => k_is)
    (case ga1 => k_is)
    (case gg1 => k_is)
    (case hd1 => k_is)
    (case ca1 => k_is)
    (case cm1 => k_is)
    (case kq1 => k_is)
    (case no1 => k_is)
    (case su1_0 => k_is)
    (case su1_1 => k_is)
    (case su1_2 => k_is)
    (case su1_3 => k_is)
    (case su1_4 => k_is)
    (case su1_5 => k_is)
    (case su1_6 => k_is)
    (case su1_7 => k_is)
    (case su1_8 => k_is)
    (case su1_9 => k_is)
    (case su1_10 => k_is)
    (case su1_11 => k_is)
    (case su1_12 => k_is)
    (case su1_13 => k_is)
    (case ve1 => k_is)
    (case xl2 => k_is)
    (case sa2 => k_is)
    (case ga2 => k_is)
    (case gg2 => k_is)
    (case hd2 => k_is)
    (case ca2 => k_is)
    (case cm2 => k_is)
    (case kq2 => k_is)
    (case no2 => k_is)
    (case su2_0 => k_is)
    (case su2_1 => k_is)
    (case su2_2 => k_is)
    (case su2_3 => k_is)
    (case su2_4 => k_is)
    (case su2_5 => k_is)
    (case su2_6 => k_is)
    (case su2_7 => k_is)
    (case su2_8 => k_is)
    (case su2_9 => k_is)
    (case su2_10 => k_is)
    (case su2_11 => k_is)
    (case su2_12 => k_is)
    (case su2_13 => k_is)
    (case ve2 => k_is)
    (case xl6 => k_is)
    (case sa6 => k_is)
    (case ga6 => k_is)
    (case gg6 => k_is)
    (case hd6 => k_is)
    (case ca6 => k_is)
    (case cm6 => k_is)
    (case kq6 => k_is)
    (case no6 => k_is)
    (case su6_0 => k_is)
    (case su6_1 => k_is)
    (case su6_2 => k_is)
    (case su6_3 => k_is)
    (case su6_4 => k_is)
    (case su6_5 => k_is)
    (case su6_6 => k_is)
    (case su6_7 => k_is)
    (case su6_8 => k_is)
    (case su6_9 => k_is)
    (case su6_10 => k_is)
    (case su6_11 => k_is)
    (case su6_12 => k_is)
    (case su6_13 => k_is)
    (case ve6 => k_is)
    (case xl13 => k_is)
    (case sa13 => k_is)
    (case ga13 => k_is)
    (case gg13 => k_is)
    (case hd13 => k_is)
    (case ca13 => k_is)
    (case cm13 => k_is)
    (case kq13 => k_is)
    (case no13 => k_is)
    (case su13_0 => k_is)
    (case su13_1 => k_is)
    (case su13_2 => k_is)
    (case su13_3 => k_is)
    (case su13_4 => k_is)
    (case su13_5 => k_is)
    (case su13_6 => k_is)
    (case su13_7 => k_is)
    (case su13_8 => k_is)
    (case su13_9 => k_is)
    (case su13_10 => k_is)
    (case su13_11 => k_is)
    (case su13_12 => k_is)
    (case su13_13 => k_is)
    (case ve13 => k_is)
    (case nd => first | decide | simp)
    (case no => first | decide | simp)
    (case out_P_law => first | rfl | kernel_rfl)
    (case hdT_P_law => first | rfl | kernel_rfl)


