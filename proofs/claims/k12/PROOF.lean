import PyProof.Rows.All
import Wide.All
import OpenK.AllK
import Wide.FinOn
import KE.OsRunLaw
import KE.KMinKey
import KE.KExcIs
import HandS.ForMost
import HandS.Walk
import HandS.SortKw
import HandS.Exc
import HandS.ExcInit
import HandS.ExcField
import HandS.TryMany
import HandS.IsInst
import HandS.WordsExc
import HandS.StrMore
import HandS.CallSlots
import HandS.Codes
import HandS.Set
import HandS.Strs
import HandS.SetFor
import PyProof.WalksS
import HandS.Zip0
import HandS.List
import PyProof.ReprRoads
import HandS.OwnEq
import HandS.IterVal
import HandS.Gcd
import HandS.DictComp
import HandS.ClsMeth
import HandS.Defaults
import KE.KMathGC
import HandS.FStr
import HandS.Property
import HandS.Deep
import HandS.Style
import KE.SortKeyHeap
import KE.KLam
import PyProof.Rows.TupSub
import HandS.Lambda
import HandS.Ends
import HandS.EndTab
import KE.KNest
import PySem.Challenge.RW_seamfast_k12_carried_by_books
set_option Elab.async false
set_option linter.all false
set_option maxRecDepth 100000
set_option maxHeartbeats 4000000
theorem Sea.split3 {a b c d : Type} {o : Option a} {A : a → b} {B : a → c} {C : a → d} {x : b} {y : c} {z : d} (h1 : o.map A = some x) (h2 : o.map B = some y) (h3 : o.map C = some z) : o.map (fun q => (A q, B q, C q)) = some (x, y, z) := by
  cases o with
  | none => cases h1
  | some v =>
    have e1 : A v = x := Option.some.inj h1
    have e2 : B v = y := Option.some.inj h2
    have e3 : C v = z := Option.some.inj h3
    show some (A v, B v, C v) = _
    rw [e1, e2, e3]
theorem Sea.nine {t a b c d e f g' h i : Type} {o : Option t} {g : t → a × b × c × d × e × f × g' × h × i} {x1 : a} {x2 : b} {x3 : c} {x4 : d} {x5 : e} {x6 : f} {x7 : g'} {x8 : h} {x9 : i}
    (h1 : o.map (fun q => (g q).1) = some x1) (h2 : o.map (fun q => ((g q).2.1, (g q).2.2.1)) = some (x2, x3))
    (h3 : o.map (fun q => ((g q).2.2.2.1, (g q).2.2.2.2.1)) = some (x4, x5)) (h4 : o.map (fun q => ((g q).2.2.2.2.2.1, (g q).2.2.2.2.2.2.1)) = some (x6, x7))
    (h5 : o.map (fun q => (g q).2.2.2.2.2.2.2) = some (x8, x9)) : o.map g = some (x1, x2, x3, x4, x5, x6, x7, x8, x9) := by
  cases o with
  | none => cases h1
  | some v =>
    have e1 : (g v).1 = x1 := Option.some.inj h1
    have e2 : ((g v).2.1, (g v).2.2.1) = (x2, x3) := Option.some.inj h2
    have e3 : ((g v).2.2.2.1, (g v).2.2.2.2.1) = (x4, x5) := Option.some.inj h3
    have e4 : ((g v).2.2.2.2.2.1, (g v).2.2.2.2.2.2.1) = (x6, x7) := Option.some.inj h4
    have e5 : (g v).2.2.2.2.2.2.2 = (x8, x9) := Option.some.inj h5
    have e2a := congrArg Prod.fst e2
    have e2b := congrArg Prod.snd e2
    have e3a := congrArg Prod.fst e3
    have e3b := congrArg Prod.snd e3
    have e4a := congrArg Prod.fst e4
    have e4b := congrArg Prod.snd e4
    have e5a := congrArg Prod.fst e5
    have e5b := congrArg Prod.snd e5
    dsimp only at e2a e2b e3a e3b e4a e4b e5a e5b
    subst e1 e2a e2b e3a e3b e4a e4b e5a e5b
    rfl
section
local macro_rules | `(tactic| kernel_rfl) => `(tactic| (exact False.elim (by assumption)))
open PySem PySem.W PyProof.Rows
set_option maxRecDepth 100000 in
set_option maxHeartbeats 0 in
theorem Sea.shape (no : False) : PySem.Challenge.rw_seamfast_k12_carried_by_books.Holds := by
  w_on; o_law; k_headL; (case hw => w_witness2)
  exact no.elim
end
noncomputable section
open PySem PySem.W PyProof.Rows HeadRun
set_option maxRecDepth 100000
set_option maxHeartbeats 0
abbrev Sea.theTop : Program := PySem.Challenge.rw_seamfast_k12_carried_by_books.row.prog
abbrev Sea.theRun (w : World) := wholeF (fun p => stepQ (denQ tabQ) p w) fenceQ 13946 Sea.theTop
abbrev Sea.theSeen (s : Shared) := seenQ Sea.shape.view_39 [Str.ofString "Reel", Str.ofString "Plan"] (importedModules Sea.theTop.main.body) (fun s => xlAt Sea.shape.view_39 [] s && recOk PySem.Challenge.rw_seamfast_k12_carried_by_books.row.records s) s
theorem Sea.rA (w : World) : (Sea.theRun w).map (fun x => looksF Sea.theTop x.1.heap x.2.abs) = some true := by kernel_rfl
theorem Sea.rB1 (w : World) : (Sea.theRun w).map (fun x => (Sea.theSeen x.2.abs).1) = some (expectedOf Sea.shape.view_39) := by kernel_rfl
theorem Sea.rB2 (w : World) : (Sea.theRun w).map (fun x => ((Sea.theSeen x.2.abs).2.1, (Sea.theSeen x.2.abs).2.2.1)) = some (bltViewBooted, true) := by kernel_rfl
theorem Sea.rB3 (w : World) : (Sea.theRun w).map (fun x => ((Sea.theSeen x.2.abs).2.2.2.1, (Sea.theSeen x.2.abs).2.2.2.2.1)) = some (true, pinGoodD (drecsOf Sea.shape.view_39)) := by kernel_rfl
theorem Sea.rB4 (w : World) : (Sea.theRun w).map (fun x => ((Sea.theSeen x.2.abs).2.2.2.2.2.1, (Sea.theSeen x.2.abs).2.2.2.2.2.2.1)) = some (plainGoodE Sea.shape.view_39 (looseW Sea.shape.view_39 [Str.ofString "Reel", Str.ofString "Plan"]), plainGoodD Sea.shape.view_39 [Str.ofString "Reel", Str.ofString "Plan"]) := by kernel_rfl
theorem Sea.rB5 (w : World) : (Sea.theRun w).map (fun x => (Sea.theSeen x.2.abs).2.2.2.2.2.2.2) = some (wideGood Sea.shape.view_39, clsGoodW Sea.shape.view_39 [Str.ofString "Reel", Str.ofString "Plan"]) := by kernel_rfl
theorem Sea.rC (w : World) : (Sea.theRun w).map (fun x => List.map (getT x.2) [2, 3, 43, 45, 46, 48, 49, 50, 57, 58, 59, 60, 63, 70, 72, 73, 75, 76, 77, 78, 79, 82, 89, 91, 92, 94, 95, 96, 97, 98, 101, 108, 110, 111, 113, 114, 115, 116, 117, 120, 127, 129, 130, 132, 133, 134, 135, 136, 139, 146, 148, 149, 151, 152, 153, 154, 155, 158, 165, 167, 168, 170, 171, 172, 173, 174, 177, 184, 186, 187, 189, 190, 191, 192, 193, 196, 203, 205, 206, 208, 209, 210, 211, 212, 215, 222, 224, 225, 227, 228, 229, 230, 231, 234, 241, 243, 244, 246, 247, 248, 249, 250, 253, 260, 262, 263, 265, 266, 267, 268, 269, 272, 279, 281, 282, 284, 285, 286, 287, 288, 291, 293, 294, 296, 297, 298, 300, 301, 303, 304, 305, 307, 308, 310, 311, 312, 314, 315, 317, 318, 319, 321, 322, 324, 325, 326, 328, 329, 331, 332, 340, 342, 343, 345, 346, 347, 349, 350, 352, 353, 354, 355, 356, 357, 358, 361, 363, 364, 366, 367, 368, 370, 371, 373, 374, 375, 378, 379, 380, 383, 384, 385, 388, 389, 390, 392, 393, 395, 396, 397, 399, 400, 402, 403, 411, 412, 413, 416, 417, 418, 420, 421, 423, 424, 425, 426, 428, 429, 431, 432, 433, 434, 436, 437, 439, 440, 441, 443, 444, 446, 447, 448, 450, 451, 453, 454, 455, 457, 458, 460, 461, 462, 463, 464, 465, 466, 469, 471, 472, 474, 475, 476, 478, 479, 481, 482, 483, 485, 486, 488, 489, 490, 492, 493, 495, 496, 497, 499, 500, 502, 503, 504, 506, 507, 509, 510, 511, 513, 514, 516, 517, 518, 521, 522, 523, 525, 526, 528, 529, 530, 532, 533, 535, 536, 544, 545, 548, 549, 550, 552, 553, 555, 556, 557, 558, 560, 561, 563, 564, 565, 566, 568, 569, 571, 572, 573, 575, 576, 578, 579, 580, 582, 583, 585, 586, 587, 589, 590, 592, 593, 594, 596, 597, 599, 600, 601, 603, 604, 606, 607, 608, 610, 611, 613, 614, 615, 617, 618, 620, 621, 622, 624, 625, 627, 628, 629, 631, 632, 634, 635, 636, 637, 638, 639, 640, 643, 646, 647, 648, 650, 651, 653, 654, 655, 657, 658, 660, 661, 662, 664, 665, 667, 668, 669, 671, 672, 674, 675, 676, 679, 680, 681, 683, 684, 686, 687, 688, 690, 691, 693, 694, 695, 697, 698, 700, 701, 702, 705, 706, 707, 709, 710, 712, 713, 714, 716, 717, 719, 720, 721, 723, 724, 726, 727, 728, 730, 731, 733, 734, 735, 737, 738, 740, 741, 742, 745, 746, 747, 749, 750, 752, 753, 754, 756, 757, 759, 760, 761, 763, 764, 766, 767, 768, 771, 772, 773, 775, 776, 778, 779, 780, 783, 784, 785, 787, 788, 790, 791, 792, 795, 796, 797, 799, 800, 802, 803, 804, 807, 808, 809, 811, 812, 814, 815, 816, 818, 819, 821, 822, 823, 825, 826, 828, 829, 830, 832, 833, 835, 836, 837, 840, 841]) = some (List.map (fun x => some x.2) (Sea.shape.heap_39 w.params)) := by kernel_rfl
def Sea.rB (w : World) := Sea.nine (o := Sea.theRun w) (g := fun x => Sea.theSeen x.2.abs) (Sea.rB1 w) (Sea.rB2 w) (Sea.rB3 w) (Sea.rB4 w) (Sea.rB5 w)
def Sea.rAll (w : World) := Sea.split3 (Sea.rA w) (Sea.rB w) (Sea.rC w)
end
namespace Sea
open PySem PySem.Spec PyProof.Rows L2
/-- the class at D may be asked about -/
structure AskC (K : PySem.W.Frag) (D : Addr) : Prop where
  cl : (PySem.W.clsIn K D).isSome = true
  ga : PySem.W.findIn K (.ref D) "__getattribute__" = some (some (.builtin "BaseException.__getattribute__"))
  gg : PySem.W.findIn K (.ref D) "__getattr__" = some none
  sb : PySem.W.subIn K (.ref D) (.type "BaseException") = some true
  kl : PySem.W.findIn K (.ref D) "__class__" = some (some (.builtin "object.__class__"))
  gt : PySem.W.specialIn K (.builtin "object.__class__") "__get__" = some (some (.builtin "getset_descriptor.__get__"))
  tk : PySem.W.takesIn K (.builtin "object.__class__") = some true
  mr : PySem.W.mroIn K D (.type "object") = some true
/-- isinstance(e, c) and isinstance(e, (c1, ..)), e the error at a -/
def rAsk (K : PySem.W.Frag) (a : Addr) (cls : Value) (d : Option Addr) : List V → Hp → VK → Prop := fun xs H Q => ∃ (D dd : Addr) (fs : List (Str × V)) (c : V) (b : Bool),
  cls = .ref D ∧ d = some dd ∧ AskC K D ∧ H dd = some (.xd fs) ∧ xs = [.ref a, c] ∧
  ((∃ cv, ClsV c cv ∧ PySem.W.kitOne K (.ref D) cv = some b) ∨ ∃ (tp : Addr) (cs : List V) (us : List Value), c = .ref tp ∧ H tp = some (.tup cs) ∧ Paired ClsV cs us ∧ PySem.W.kitAny K (.ref D) us = some b) ∧ Q (.bl b) H
theorem call_ask {X : Cx} {a : Addr} {cls : Value} {d : Option Addr} {oe : Obj} {pn : List (Addr × Obj)} (hz : Zc cls d oe) (hf : ∃ vs, oe.data = .fields vs) :
    CallR (X.suite a ((a, oe) :: pn)) (.builtin "isinstance") (rAsk X.K a cls d) := by
  intro pins s σ H xs us Q I r h
  obtain ⟨D, dd, fs, c, b, rfl, rfl, C, hd, rfl, ways, q⟩ := h
  obtain ⟨u1, u2, rfl, r1, r2⟩ := vals2 r
  cases (show u1 = Value.ref a from r1)
  obtain ⟨hget, _⟩ := I.pin (a, oe) (List.mem_append.mpr (.inl List.mem_cons_self))
  obtain ⟨vs, hv⟩ := hf
  have hx : ObjOk X.prog X.w H s.heap dd (.xd fs) := I.hok dd _ hd
  obtain ⟨mA, hns, hr⟩ := hx
  obtain ⟨od, ho, hl⟩ := lookIn_ns hns
  have J : PySem.W.InstAt s.heap a oe D (some od) := ⟨hget, hz.1, by unfold PySem.W.notCls; rw [hv] <;> rfl, by rw [hz.2]; exact ho⟩
  have Z := PySem.W.kitx_exc (K := X.K) (x := a) (ox := oe) (od := some od) C.cl C.ga C.gg C.sb C.kl C.gt C.tk C.mr
  rcases ways with ⟨cv, k, e⟩ | ⟨tp, cs, ws, rfl, ht, k, e⟩
  · have e2 := k.eq r2
    subst e2
    exact PySem.W.kia_one Z I.kIn J e (fun z => nomatch z) fun tk => ⟨.bl b, H, I.tok tk, rfl, q⟩
  · cases (show u2 = Value.ref tp from r2)
    obtain ⟨_, its, rv, o, h1, h2, n, h3⟩ := (show ObjOk X.prog X.w H s.heap tp (.tup cs) from I.hok tp _ ht)
    have e3 := ClsV.all k rv
    subst e3
    obtain ⟨oc, odd, dt, sl⟩ := o
    simp only at h2 h3
    subst h2 h3
    exact PySem.W.kia_tup Z I.kIn J h1 e (fun z => nomatch z) fun tk => ⟨.bl b, H, I.tok tk, rfl, q⟩
/-- a ** b, by the bits of a -/
def CPowB (i j : Int) : Prop := 0 ≤ j ∧ (Builtin.Int.intBits i : Int) * j ≤ 2 ^ 27
theorem op_powB {X : Cx} : OpR X (binaryOp .Pow) (rI CPowB fun i j => .int (i ^ j.toNat)) := opI fun _ _ _ _ _ _ _ hc q => pow_int hc.1 hc.2 q
end Sea
namespace Sea
open PySem PySem.Spec PyProof.Rows L2
abbrev Su := Addr → Value → Option Addr → TS
/-- behind a suite the error's name is gone -/
def gone (i : Nat) (D : Ends) : Ends :=
  { nx := fun σ H => D.nx (σ.set i none) H, rt := D.rt, bk := fun σ H => D.bk (σ.set i none) H, ct := fun σ H => D.ct (σ.set i none) H }
/-- what the clauses, from the first on, wish of the error -/
def wCl (K : PySem.W.Frag) (Wo : WX) (D : Ends) : List (Value × Option Nat × Su) → WX
  | [] => Wo
  | (c, none, ts) :: r => fun cls d σ H => ∃ b, PySem.W.exmOne K cls c = some b ∧ (b = true → ∀ a, H a = none → ts a cls d D σ H) ∧ (b = false → wCl K Wo D r cls d σ H)
  | (c, some i, ts) :: r => fun cls d σ H => ∃ b, PySem.W.exmOne K cls c = some b ∧
      (b = true → ∀ a, H a = none → ts a cls d (gone i D) (σ.set i (some (.ref a))) H) ∧ (b = false → wCl K Wo D r cls d σ H)
def SuOk (X : Cx) (st : List Stmt) (ts : Su) : Prop := ∀ (a : Addr) (oe : Obj) (cls : Value) (d : Option Addr) (pn : List (Addr × Obj)),
  Zc cls d oe → (∃ vs, oe.data = .fields vs) → PSs (X.suite a ((a, oe) :: pn)) st (ts a cls d)
inductive Clauses (X : Cx) : List ExceptHandler → List (Value × Option Nat × Su) → Prop
  | nil : Clauses X [] []
  | bare {x : Str} {c : Value} {ts : Su} {b₀ : Stmt} {su : List Stmt} {np ps : Pos} {hds : List ExceptHandler} {l : List (Value × Option Nat × Su)}
      (hc : Names X x c) (hs : SuOk X (b₀ :: su) ts) (r : Clauses X hds l) : Clauses X (.ExceptHandler (some (.Name x np)) none (b₀ :: su) ps :: hds) ((c, none, ts) :: l)
  | named {x n : Str} {c : Value} {i : Nat} {ts : Su} {b₀ : Stmt} {su : List Stmt} {np ps : Pos} {hds : List ExceptHandler} {l : List (Value × Option Nat × Su)}
      (hc : Names X x c) (hi : X.N[i]? = some n) (hl : X.env.kindOf n = some .local) (hs : SuOk X (b₀ :: su) ts) (r : Clauses X hds l) :
      Clauses X (.ExceptHandler (some (.Name x np)) (some n) (b₀ :: su) ps :: hds) ((c, some i, ts) :: l)
section
variable {X : Cx} {body : List Stmt} {h₀ : ExceptHandler} {hds : List ExceptHandler} {l : List (Value × Option Nat × Su)} {pos : Pos} {tb : WX → TS} {Wo : WX}
theorem names_ld {a : Addr} {oe : Obj} {pn : List (Addr × Obj)} {x : Str} {c : Value} {np : Pos} {σ : L2.St} {H : Hp} {s : Shared} {Q E : Value → Shared → Prop}
    (hc : Names X x c) (S : Inv (X.suite a ((a, oe) :: pn)) [] σ H s) (q : Q c s) :
    wpAny (model X.prog X.w) (X.A.mark (some (.ref a))) (eval (.Name x np) X.env) Q E s := by
  obtain ⟨hg, hdbg, hm | ⟨hm, hv, hnn⟩⟩ := hc
  · exact ld_glob (X := X.suite a ((a, oe) :: pn)) S hg hm q hdbg
  · exact ld_blt (X := X.suite a ((a, oe) :: pn)) S hg hm hv q hnn hdbg
theorem ps_try_cl (hs : X.stack = X.env :: X.outer) (hf : X.env.frame = some X.env.locals) (hN : X.N.Nodup) (tk : Takes X Wo)
    (hb : ∀ (W : WX) (pn : List (Addr × Obj)) (xe : Value → Shared → Prop), Takes (X.tr pn xe) W → PassesOwn (model X.prog X.w) X.A X.env xe → PSs (X.tr pn xe) body (tb W))
    (hh : Clauses X (h₀ :: hds) l) : PS X (.Try body (h₀ :: hds) [] [] pos) (fun D σ H => tb (wCl X.K Wo D l) D σ H) := by
  refine ⟨fun pins s σ H D I h => ?_⟩
  have ok := I.ok
  have hfr : X.A.frames = some (X.env :: X.outer) := ok.frames.trans (congrArg some hs)
  refine wpAny_Try_except ?_
  refine wpAny_mono ((hb (wCl X.K Wo D l) (X.pn ++ pins) (fun e s1 => wpAny (model X.prog X.w) X.A (noteFrame e X.env)
    (fun _ s2 => wpAny (model X.prog X.w) X.A (setFlight e none)
      (fun _ s3 => wpAny (model X.prog X.w) X.A (handleBy e X.env (h₀ :: hds)) (SP X pins D) X.xe s3) X.xe s2) X.xe s1)
    (fun u s' xx => ?cat) PassesOwn.looking).run [] s σ H D (I.toTry _) h) (fun f s1 hsp => ?thru) (fun e s1 he => he)
  case thru =>
    cases f with
    | next => obtain ⟨σ', H', J', q⟩ := hsp; exact wpAny_execs_nil ⟨σ', H', J'.ofTry ok, q⟩
    | brk => obtain ⟨σ', H', J', q⟩ := hsp; exact ⟨σ', H', J'.ofTry ok, q⟩
    | cont => obtain ⟨σ', H', J', q⟩ := hsp; exact ⟨σ', H', J'.ofTry ok, q⟩
    | ret u => obtain ⟨v, σ', H', J', r, q⟩ := hsp; exact ⟨v, σ', H', J'.ofTry ok, r, q⟩
  case cat =>
    obtain ⟨a, B, sI, pins', σ', H', cls, d, rfl, J', nb, up, sky, na, os, ag, w⟩ := xx
    have J : Inv X pins σ' H' sI := J'.ofTry ok
    have sk : Sky B (X.env :: X.outer) a (Zc cls d) X.env.locals s'.heap := hs ▸ sky
    show wpAny (model X.prog X.w) X.A (noteFrame (.ref a) X.env) _ _ _
    refine Sky.land Zc.steady hfr hf sk fun h3 fl3 up3 => ?_
    have J3 : Inv X pins σ' H' { s' with heap := h3 } := J.landed nb fl3.1 (up.trans up3) os ag
    obtain ⟨oe3, vs3, he3, hz3, hd3⟩ := fl3.there
    have nfr : a ∉ frs (X.env :: X.outer) := fun hm => by
      obtain ⟨_, o', e', hnf⟩ := fl3.2.2.1.mem hm
      rw [he3] at e'
      cases e'
      exact hnf _ hd3
    have nL : a ≠ X.env.locals := fun z => nfr (List.mem_filterMap.mpr ⟨X.env, List.mem_cons_self, hf.trans (congrArg some z.symm)⟩)
    have nF : a ∉ X.fs := fun hm => by
      obtain ⟨e, he, q⟩ := List.mem_filterMap.mp hm
      exact nfr (List.mem_filterMap.mpr ⟨e, List.mem_cons_of_mem _ he, q⟩)
    have S3 := J3.suite he3 hd3 na nL nF
    have LT : PySem.W.Looks (model X.prog X.w) h3 (typeOf (.ref a)) cls :=
      fun A Q E s k q => wpAny_typeOf_ref (k _ _ he3) (by rw [hz3.1]; exact q)
    have go : ∀ {hs' : List ExceptHandler} {l' : List (Value × Option Nat × Su)}, Clauses X hs' l' → wCl X.K Wo D l' cls d σ' H' →
        wpAny (model X.prog X.w) X.A (handleBy (.ref a) X.env hs') (SP X pins D) X.xe { s' with heap := h3 } := by
      intro hs' l' hk
      induction hk with
      | nil =>
        intro w
        refine wpAny_handleBy_nil ?_
        obtain ⟨_, _, _, oe, vs, T, oT, ts', he, hz, hd, h1, hr⟩ := id fl3
        unfold PySem.passOn
        refine wpAny_bind (wpAny_field he hd h1 ?_)
        rw [if_neg (show ¬ ((Value.ref T == Value.none) = true) from by simp)]
        have out : wpAny (model X.prog X.w) X.A (setFlight (.ref a) X.env.frame)
            (fun _ s4 => wpAny (model X.prog X.w) X.A (throw (.ref a) : Sem Flow) (SP X pins D) X.xe s4) X.xe { s' with heap := h3 } := by
          rw [hf]
          refine HandSPX.setFlight_upZ fl3 fun h4 hh4 up4 => wpAny_throw (tk _ _ ?_)
          refine ⟨a, B, sI, pins, σ', H', cls, d, rfl, J, nb, (up.trans up3).trans up4, .inr (.inr ?_), na, os, ag, w⟩
          rw [hs]
          exact hh4
        first
          | exact wpAny_bind (wpAny_pure (wpAny_bind out))
          | exact wpAny_bind out
      | @bare x c ts b₀ su np ps hds2 l2 hc hsu r ih =>
        intro w
        obtain ⟨b, hb1, hyes, hno⟩ := w
        refine wpAny_handleBy_cons (codeAny_handlers_test ?_) (by intro q; cases q)
        have LM := PySem.W.exm_one (M := model X.prog X.w) J3.kIn LT hb1
        refine names_ld hc S3 (LM.here ?_)
        cases b with
        | false => exact ih (hno rfl)
        | true =>
          refine codeAny_handlers_suite ?_
          refine HandSPX.lands_againZ fl3 fun h4 fl4 up4 => ?_
          have J4 : Inv X pins σ' H' { s' with heap := h4 } := J.landed nb fl4.1 ((up.trans up3).trans up4) os ag
          obtain ⟨oe4, vs4, he4, hz4, hd4⟩ := fl4.there
          have S4 := J4.suite he4 hd4 na nL nF
          refine wpAny_mono ((hsu a oe4 cls d (X.pn ++ pins) hz4 ⟨_, hd4⟩).run [] _ _ H' _ S4 (hyes rfl a na)) (fun f s6 hsp => ?_) (fun _ _ z => False.elim z)
          cases f with
          | next => obtain ⟨σ6, H6, S6, q6⟩ := hsp; exact ⟨_, _, S6.unsuite ok, q6⟩
          | brk => obtain ⟨σ6, H6, S6, q6⟩ := hsp; exact ⟨_, _, S6.unsuite ok, q6⟩
          | cont => obtain ⟨σ6, H6, S6, q6⟩ := hsp; exact ⟨_, _, S6.unsuite ok, q6⟩
          | ret u => obtain ⟨v6, σ6, H6, S6, r6, q6⟩ := hsp; exact ⟨_, _, _, S6.unsuite ok, r6, q6⟩
      | @named x n c i ts b₀ su np ps hds2 l2 hc hi hln hsu r ih =>
        intro w
        obtain ⟨b, hb1, hyes, hno⟩ := w
        refine wpAny_handleBy_cons (codeAny_handlers_test ?_) (by intro q; cases q)
        have LM := PySem.W.exm_one (M := model X.prog X.w) J3.kIn LT hb1
        refine names_ld hc S3 (LM.here ?_)
        cases b with
        | false => exact ih (hno rfl)
        | true =>
          refine codeAny_handlers_suite_as ?_
          refine HandSPX.lands_againZ fl3 fun h4 fl4 up4 => ?_
          have J4 : Inv X pins σ' H' { s' with heap := h4 } := J.landed nb fl4.1 ((up.trans up3).trans up4) os ag
          obtain ⟨oe4, vs4, he4, hz4, hd4⟩ := fl4.there
          have S4 := J4.suite he4 hd4 na nL nF
          refine store_ok (X := X.suite a ((a, oe4) :: (X.pn ++ pins))) (v := .ref a) S4 hN hi (.inl hln) rfl (fun s5 S5 => ?_) (.inr hln)
          refine wpAny_mono ((hsu a oe4 cls d (X.pn ++ pins) hz4 ⟨_, hd4⟩).run [] s5 _ H' _ S5 (hyes rfl a na)) (fun f s6 hsp => ?_) (fun _ _ z => False.elim z)
          have fin : ∀ {σ6 : L2.St} {H6 : Hp} {Q : Shared → Prop}, Inv (X.suite a ((a, oe4) :: (X.pn ++ pins))) [] σ6 H6 s6 → (∀ s7, Inv X pins (σ6.set i none) H6 s7 → Q s7) →
              wpAny (model X.prog X.w) X.A (do bindName X.env n .none; unbindBehindTheSuite X.env n ps) (fun _ s7 => Q s7) X.xe s6 :=
            fun {σ6 H6 Q} S6 hq => gone_ok (S6.unsuite ok) hN hi hln hq
          cases f with
          | next => obtain ⟨σ6, H6, S6, q6⟩ := hsp; exact fin S6 fun s7 J7 => ⟨_, _, J7, q6⟩
          | brk => obtain ⟨σ6, H6, S6, q6⟩ := hsp; exact fin S6 fun s7 J7 => ⟨_, _, J7, q6⟩
          | cont => obtain ⟨σ6, H6, S6, q6⟩ := hsp; exact fin S6 fun s7 J7 => ⟨_, _, J7, q6⟩
          | ret u => obtain ⟨v6, σ6, H6, S6, r6, q6⟩ := hsp; exact fin S6 fun s7 J7 => ⟨_, _, _, J7, r6, q6⟩
    exact go hh w
end
end Sea
namespace Sea
open PySem PySem.Spec PyProof.Rows L2
/-- the def that the module calls x keeps sp, and raises nothing -/
def Cal (P : Program) (w : World) (K : PySem.W.Frag) (mg : Str → Option Value) (base : Heap) (k : Nat) (x : Str) (sp : Sp) : Prop :=
  ∃ (f : Addr) (fd : FuncData) (ps : List Str), FnOk P w K mg base CX0 k f fd ps sp ∧ mg x = some (.ref f) ∧ PySem.W.keepIn K (.ref f) = true ∧ Binds K fd ps []
/-- .. and it may raise -/
def CalX (P : Program) (w : World) (K : PySem.W.Frag) (mg : Str → Option Value) (base : Heap) (k : Nat) (x : Str) (sp : Sp) : Prop :=
  ∃ (f : Addr) (fd : FuncData) (ps : List Str), FnOk P w K mg base (L2.CX P w) k f fd ps sp ∧ mg x = some (.ref f) ∧ PySem.W.keepIn K (.ref f) = true ∧ Binds K fd ps []
section
variable {X : Cx} {x : Str} {sp : Sp} {k j : Nat} {e : Expr} {es : List Expr} {t : TA} {p pos : Pos}
theorem pe_c (c : Cal X.prog X.w X.K X.mg X.base k x sp) (hr : Room j X.A) (hk : k ≤ j) (hg : Gl X x) (ha : PA X (e :: es) t)
    (hdb : (x == ("__debug__" : Str)) = false := by decide) (he : starEach (e :: es) X.env = (false, eval e X.env) :: starEach es X.env := by rfl)
    (hpl : (backTo pos (starEach es X.env)).any (·.1) = false := by rfl) : PE X (.Call (.Name x p) (e :: es) [] pos) (tCall sp [] E0 t) := by
  obtain ⟨f, fd, ps, F, hm, kp, b⟩ := c
  exact pe_call F (hr.mono hk) hg hm kp b .nil pass0 ha hdb he hpl
theorem pe_cX (c : CalX X.prog X.w X.K X.mg X.base k x sp) (hr : Room j X.A) (hk : k ≤ j) (hg : Gl X x) {E : L2.St → XK} (hx : ∀ σ, PassesAt (L2.CX X.prog X.w) X σ (E σ)) (ha : PA X (e :: es) t)
    (hdb : (x == ("__debug__" : Str)) = false := by decide) (he : starEach (e :: es) X.env = (false, eval e X.env) :: starEach es X.env := by rfl)
    (hpl : (backTo pos (starEach es X.env)).any (·.1) = false := by rfl) : PE X (.Call (.Name x p) (e :: es) [] pos) (tCallSD sp [] E t) := by
  obtain ⟨f, fd, ps, F, hm, kp, b⟩ := c
  exact pe_callSD F (hr.mono hk) hg hm kp b .nil hx ha hdb he hpl
end
/-- what the written part says of the error class nm at C, of one field fld, with its __init__ at fI -/
structure XC (K : PySem.W.Frag) (mg : Str → Option Value) (nm fld : Str) (C fI : Addr) : Prop where
  gC : mg nm = some (.ref C)
  ox : OexC K C
  iC : PySem.W.findIn K (.ref C) "__init__" = some (some (.ref fI))
  tI : PySem.W.typeIn K (.ref fI) = some (.type "function")
  no : PySem.W.findIn K (.ref C) fld = some none
  ask : AskC K C
  hd : PySem.W.hasDictIn K C = true
theorem XC.xf {K : PySem.W.Frag} {mg : Str → Option Value} {nm fld : Str} {C fI : Addr} (x : XC K mg nm fld C fI) : XfC K C := ⟨x.ask.ga, x.ask.gg, x.ask.sb, x.hd⟩
/-- its __init__ -/
def spIni (K : PySem.W.Frag) (C : Addr) (fld : Str) : Sp := fun vs H Q _ => ∃ (a : Addr) (v : V), vs = [.ref a, v] ∧ OexC K C ∧ PySem.W.findIn K (.ref C) fld = some none ∧ H a = some (exo a C none) ∧
  ∀ dx, H dx = none → dx ≠ a → Q .non (upd (upd H dx (exd dx [(fld, v)])) a (exo a C (some dx)))
theorem made_heap {H : Hp} {a d C : Addr} {o1 o2 o3 o4 : HO} (ha : H a = none) (hd : H d = none) (hne : d ≠ a) :
    upd (del (upd (upd (upd H a o1) d o2) a o3) a) d o4 = upd H d o4 := by
  funext b
  by_cases h1 : b = d
  · subst h1
    rw [upd_same, upd_same]
  · rw [upd_ne h1, upd_ne h1]
    by_cases h2 : b = a
    · subst h2
      rw [del_same, ha]
    · rw [del_ne h2, upd_ne h2, upd_ne h1, upd_ne h2]
/-- C(e) with such an __init__, its argument v told: an error with the field, all else as it was -/
theorem mk_fin {K : PySem.W.Frag} {C : Addr} {fld : Str} {v : V} {H1 : Hp} {Q : XK} (ox : OexC K C) (no : PySem.W.findIn K (.ref C) fld = some none)
    (q : ∀ d, H1 d = none → Q (.ref C) (some d) (upd H1 d (.xd [(fld, v)]))) :
    ([v] : List V).length ≤ 1000 ∧ ∀ a, H1 a = none → spIni K C fld (.ref a :: ([v] ++ [])) (upd H1 a (exo a C none))
      (fun u H2 => u = .non ∧ ∃ (d : Addr) (fs : List (Str × V)), H2 a = some (exo a C (some d)) ∧ H2 d = some (exd d fs) ∧ H1 d = none ∧ Q (.ref C) (some d) (upd (del H2 a) d (.xd fs))) (fun _ _ _ => False) := by
  refine ⟨by simp, fun a ha => ⟨a, v, rfl, ox, no, upd_same, fun dx hdx hne => ?_⟩⟩
  have hd : H1 dx = none := by
    rw [upd_ne hne] at hdx
    exact hdx
  refine ⟨rfl, dx, [(fld, v)], upd_same, ?_, hd, ?_⟩
  · rw [upd_ne hne, upd_same]
  · rw [made_heap (C := C) ha hd hne]
    exact q dx hd
theorem same_new {H : Hp} {p : Addr} {o : HO} (h : H p = none) : Same H (upd H p o) := fun b x e => by
  rw [upd_ne (ne_of_none e h)]
  exact e
theorem same_over {H H' : Hp} {D : Addr} {o : HO} (s : Same H H') (h : H D = none) : Same H (upd H' D o) := fun b x e => by
  rw [upd_ne (ne_of_none e h)]
  exact s b x e
theorem sub_take {α : Type} {l : List α} {i : Nat} {x : α} (h : l[i]? = some x) : l.take (i + 1) = l.take i ++ [x] := by
  rw [List.take_add_one, h]
  rfl
theorem small_line {n : Nat} (h : n ≤ 100000) : n < sizeLine := by
  rw [sizeLine_eq]
  omega
end Sea
namespace Sea
open PySem PySem.Spec PyProof.Rows L2
def top (i : Nat) : Stmt := PySem.Challenge.pw_seamfast_k12_carried_by_books.main.body.getD i (.Pass ⟨0, 0, 0, 0⟩)
abbrev s_is_integer : Stmt := top 18
abbrev N_is_integer : List Str := ["thing"]
theorem sc_is_integer : FnScope N_is_integer ["thing"] (defScope s_is_integer) := ⟨rfl, rfl, rfl, by decide +kernel, rfl, by decide +kernel, by decide +kernel⟩
abbrev s_is_within : Stmt := top 19
abbrev N_is_within : List Str := ["thing", "low", "high"]
theorem sc_is_within : FnScope N_is_within ["thing", "low", "high"] (defScope s_is_within) := ⟨rfl, rfl, rfl, by decide +kernel, rfl, by decide +kernel, by decide +kernel⟩
abbrev s_items_of : Stmt := top 20
abbrev N_items_of : List Str := ["thing"]
theorem sc_items_of : FnScope N_items_of ["thing"] (defScope s_items_of) := ⟨rfl, rfl, rfl, by decide +kernel, rfl, by decide +kernel, by decide +kernel⟩
abbrev s_parts_of : Stmt := top 21
abbrev N_parts_of : List Str := ["thing", "many", "items"]
theorem sc_parts_of : FnScope N_parts_of ["thing", "many"] (defScope s_parts_of) := ⟨rfl, rfl, rfl, by decide +kernel, rfl, by decide +kernel, by decide +kernel⟩
abbrev s_judged_row : Stmt := top 24
abbrev N_judged_row : List Str := ["plan", "row", "names", "number", "name"]
theorem sc_judged_row : FnScope N_judged_row ["plan", "row"] (defScope s_judged_row) := ⟨rfl, rfl, rfl, by decide +kernel, rfl, by decide +kernel, by decide +kernel⟩
abbrev s_row_showings : Stmt := top 26
abbrev N_row_showings : List Str := ["plan", "names", "told", "begun", "name", "cue", "on", "off"]
theorem sc_row_showings : FnScope N_row_showings ["plan", "names"] (defScope s_row_showings) := ⟨rfl, rfl, rfl, by decide +kernel, rfl, by decide +kernel, by decide +kernel⟩
abbrev s_row_carried : Stmt := top 30
abbrev N_row_carried : List Str := ["plan", "book", "names", "least", "close", "told", "cue", "begun", "over"]
theorem sc_row_carried : FnScope N_row_carried ["plan", "book", "names"] (defScope s_row_carried) := ⟨rfl, rfl, rfl, by decide +kernel, rfl, by decide +kernel, by decide +kernel⟩
abbrev s_carried : Stmt := top 31
abbrev N_carried : List Str := ["plan", "book", "row"]
theorem sc_carried : FnScope N_carried ["plan", "book", "row"] (defScope s_carried) := ⟨rfl, rfl, rfl, by decide +kernel, rfl, by decide +kernel, by decide +kernel⟩
abbrev s_is_name : Stmt := top 36
abbrev N_is_name : List Str := ["thing", "sign"]
theorem sc_is_name : FnScope N_is_name ["thing"] (defScope s_is_name) := ⟨rfl, rfl, rfl, by decide +kernel, rfl, by decide +kernel, by decide +kernel⟩
abbrev s_has_percent : Stmt := top 37
abbrev N_has_percent : List Str := ["word", "sign"]
theorem sc_has_percent : FnScope N_has_percent ["word"] (defScope s_has_percent) := ⟨rfl, rfl, rfl, by decide +kernel, rfl, by decide +kernel, by decide +kernel⟩
abbrev s_is_text : Stmt := top 38
abbrev N_is_text : List Str := ["thing", "sign"]
theorem sc_is_text : FnScope N_is_text ["thing"] (defScope s_is_text) := ⟨rfl, rfl, rfl, by decide +kernel, rfl, by decide +kernel, by decide +kernel⟩
abbrev s_cue_of : Stmt := top 39
abbrev N_cue_of : List Str := ["thing", "earliest", "length", "parts", "start", "end", "speaker", "text"]
theorem sc_cue_of : FnScope N_cue_of ["thing", "earliest", "length"] (defScope s_cue_of) := ⟨rfl, rfl, rfl, by decide +kernel, rfl, by decide +kernel, by decide +kernel⟩
abbrev s_judged_cues : Stmt := top 40
abbrev N_judged_cues : List Str := ["length", "cues", "items", "judged", "earliest", "number", "thing", "cue"]
theorem sc_judged_cues : FnScope N_judged_cues ["length", "cues"] (defScope s_judged_cues) := ⟨rfl, rfl, rfl, by decide +kernel, rfl, by decide +kernel, by decide +kernel⟩
abbrev s_piece_of_form : Stmt := top 46
abbrev N_piece_of_form : List Str := ["reel", "thing", "parts", "name", "start", "end", "above", "below", "way"]
theorem sc_piece_of_form : FnScope N_piece_of_form ["reel", "thing"] (defScope s_piece_of_form) := ⟨rfl, rfl, rfl, by decide +kernel, rfl, by decide +kernel, by decide +kernel⟩
abbrev s_judged_pieces : Stmt := top 47
abbrev N_judged_pieces : List Str := ["reel", "pieces", "items", "judged", "number", "thing", "piece", "known"]
theorem sc_judged_pieces : FnScope N_judged_pieces ["reel", "pieces"] (defScope s_judged_pieces) := ⟨rfl, rfl, rfl, by decide +kernel, rfl, by decide +kernel, by decide +kernel⟩
abbrev s_judged_arrows : Stmt := top 48
abbrev N_judged_arrows : List Str := ["names", "arrows", "items", "judged", "number", "thing", "arrow"]
theorem sc_judged_arrows : FnScope N_judged_arrows ["names", "arrows"] (defScope s_judged_arrows) := ⟨rfl, rfl, rfl, by decide +kernel, rfl, by decide +kernel, by decide +kernel⟩
abbrev s_wrong_name : Stmt := top 49
abbrev N_wrong_name : List Str := ["names", "things", "items", "number", "thing"]
theorem sc_wrong_name : FnScope N_wrong_name ["names", "things"] (defScope s_wrong_name) := ⟨rfl, rfl, rfl, by decide +kernel, rfl, by decide +kernel, by decide +kernel⟩
abbrev s_judged_starts : Stmt := top 50
abbrev N_judged_starts : List Str := ["names", "starts", "wrong"]
theorem sc_judged_starts : FnScope N_judged_starts ["names", "starts"] (defScope s_judged_starts) := ⟨rfl, rfl, rfl, by decide +kernel, rfl, by decide +kernel, by decide +kernel⟩
abbrev s_judged_ends : Stmt := top 51
abbrev N_judged_ends : List Str := ["names", "ends", "wrong"]
theorem sc_judged_ends : FnScope N_judged_ends ["names", "ends"] (defScope s_judged_ends) := ⟨rfl, rfl, rfl, by decide +kernel, rfl, by decide +kernel, by decide +kernel⟩
abbrev s_led_to : Stmt := top 52
abbrev N_led_to : List Str := ["names", "arrows", "found", "at", "left", "right"]
theorem sc_led_to : FnScope N_led_to ["names", "arrows"] (defScope s_led_to) := ⟨rfl, rfl, rfl, by decide +kernel, rfl, by decide +kernel, by decide +kernel⟩
abbrev s_first_unreached : Stmt := top 53
abbrev N_first_unreached : List Str := ["names", "arrows", "starts", "ends", "begun", "ending", "name", "left", "right"]
theorem sc_first_unreached : FnScope N_first_unreached ["names", "arrows", "starts", "ends"] (defScope s_first_unreached) := ⟨rfl, rfl, rfl, by decide +kernel, rfl, by decide +kernel, by decide +kernel⟩
abbrev s_strip_of_piece : Stmt := top 54
abbrev N_strip_of_piece : List Str := ["reel", "piece", "factor", "_", "start", "end", "way", "strip", "number", "cue", "low", "high"]
theorem sc_strip_of_piece : FnScope N_strip_of_piece ["reel", "piece", "factor"] (defScope s_strip_of_piece) := ⟨rfl, rfl, rfl, by decide +kernel, rfl, by decide +kernel, by decide +kernel⟩
abbrev s_sends_of_piece : Stmt := top 55
abbrev N_sends_of_piece : List Str := ["reel", "piece", "strip", "_", "start", "end", "way", "sends", "number", "moment", "first", "last", "whole_edge"]
theorem sc_sends_of_piece : FnScope N_sends_of_piece ["reel", "piece", "strip"] (defScope s_sends_of_piece) := ⟨rfl, rfl, rfl, by decide +kernel, rfl, by decide +kernel, by decide +kernel⟩
abbrev s__law_tape : Stmt := top 58
abbrev N__law_tape : List Str := ["_law_script", "_law_cells", "_law_cell"]
theorem sc__law_tape : FnScope N__law_tape ["_law_script"] (defScope s__law_tape) := ⟨rfl, rfl, rfl, by decide +kernel, rfl, by decide +kernel, by decide +kernel⟩
abbrev s__law_pick : Stmt := top 59
abbrev N__law_pick : List Str := ["_law_tape_here", "_law_many", "_law_digit", "_law_mixed"]
theorem sc__law_pick : FnScope N__law_pick ["_law_tape_here", "_law_many"] (defScope s__law_pick) := ⟨rfl, rfl, rfl, by decide +kernel, rfl, by decide +kernel, by decide +kernel⟩
abbrev s__law_some : Stmt := top 60
abbrev N__law_some : List Str := ["_law_tape_here", "_law_low", "_law_high"]
theorem sc__law_some : FnScope N__law_some ["_law_tape_here", "_law_low", "_law_high"] (defScope s__law_some) := ⟨rfl, rfl, rfl, by decide +kernel, rfl, by decide +kernel, by decide +kernel⟩
abbrev s__law_rarely : Stmt := top 61
abbrev N__law_rarely : List Str := ["_law_tape_here", "_law_many"]
theorem sc__law_rarely : FnScope N__law_rarely ["_law_tape_here", "_law_many"] (defScope s__law_rarely) := ⟨rfl, rfl, rfl, by decide +kernel, rfl, by decide +kernel, by decide +kernel⟩
abbrev s__law_names : Stmt := top 62
abbrev N__law_names : List Str := ["_law_tape_here", "_law_many", "_law_pool", "_law_names_here", "_law_k"]
theorem sc__law_names : FnScope N__law_names ["_law_tape_here", "_law_many"] (defScope s__law_names) := ⟨rfl, rfl, rfl, by decide +kernel, rfl, by decide +kernel, by decide +kernel⟩
abbrev s__law_text : Stmt := top 63
abbrev N__law_text : List Str := ["_law_tape_here", "_law_most", "_law_signs", "_law_words", "_law_k", "_law_at"]
theorem sc__law_text : FnScope N__law_text ["_law_tape_here", "_law_most"] (defScope s__law_text) := ⟨rfl, rfl, rfl, by decide +kernel, rfl, by decide +kernel, by decide +kernel⟩
abbrev s__law_few_text : Stmt := top 64
abbrev N__law_few_text : List Str := ["_law_tape_here", "_law_menu"]
theorem sc__law_few_text : FnScope N__law_few_text ["_law_tape_here"] (defScope s__law_few_text) := ⟨rfl, rfl, rfl, by decide +kernel, rfl, by decide +kernel, by decide +kernel⟩
abbrev s__law_cues : Stmt := top 65
abbrev N__law_cues : List Str := ["_law_tape_here", "_law_length", "_law_most", "_law_speakers", "_law_few", "_law_cues_here", "_law_at", "_law_k", "_law_gone", "_law_text_here"]
theorem sc__law_cues : FnScope N__law_cues ["_law_tape_here", "_law_length", "_law_most", "_law_speakers", "_law_few"] (defScope s__law_cues) := ⟨rfl, rfl, rfl, by decide +kernel, rfl, by decide +kernel, by decide +kernel⟩
abbrev s__law_pieces : Stmt := top 66
abbrev N__law_pieces : List Str := ["_law_tape_here", "_law_length", "_law_names_here", "_law_rates", "_law_pieces_here", "_law_name", "_law_begun", "_law_gone", "_law_rate", "_law_turned_here"]
theorem sc__law_pieces : FnScope N__law_pieces ["_law_tape_here", "_law_length", "_law_names_here"] (defScope s__law_pieces) := ⟨rfl, rfl, rfl, by decide +kernel, rfl, by decide +kernel, by decide +kernel⟩
abbrev s__law_arrows : Stmt := top 67
abbrev N__law_arrows : List Str := ["_law_tape_here", "_law_names_here", "_law_k", "_law_arrows_here", "_law_arrow"]
theorem sc__law_arrows : FnScope N__law_arrows ["_law_tape_here", "_law_names_here"] (defScope s__law_arrows) := ⟨rfl, rfl, rfl, by decide +kernel, rfl, by decide +kernel, by decide +kernel⟩
abbrev s__law_others : Stmt := top 68
abbrev N__law_others : List Str := ["_law_tape_here", "_law_names_here", "_law_chosen", "_law_told", "_law_name"]
theorem sc__law_others : FnScope N__law_others ["_law_tape_here", "_law_names_here", "_law_chosen"] (defScope s__law_others) := ⟨rfl, rfl, rfl, by decide +kernel, rfl, by decide +kernel, by decide +kernel⟩
abbrev s__law_turned : Stmt := top 69
abbrev N__law_turned : List Str := ["_law_tape_here", "_law_things", "_law_at"]
theorem sc__law_turned : FnScope N__law_turned ["_law_tape_here", "_law_things"] (defScope s__law_turned) := ⟨rfl, rfl, rfl, by decide +kernel, rfl, by decide +kernel, by decide +kernel⟩
abbrev s__law_world : Stmt := top 70
abbrev N__law_world : List Str := ["_law_tape_here", "_law_most_cues", "_law_most_pieces", "_law_few", "_law_length", "_law_speakers", "_law_cues_here", "_law_names_here", "_law_pieces_here", "_law_arrows_here", "_law_starts", "_law_ends"]
theorem sc__law_world : FnScope N__law_world ["_law_tape_here", "_law_most_cues", "_law_most_pieces", "_law_few"] (defScope s__law_world) := ⟨rfl, rfl, rfl, by decide +kernel, rfl, by decide +kernel, by decide +kernel⟩
abbrev s__law_gcd : Stmt := top 71
abbrev N__law_gcd : List Str := ["_law_one", "_law_other"]
theorem sc__law_gcd : FnScope N__law_gcd ["_law_one", "_law_other"] (defScope s__law_gcd) := ⟨rfl, rfl, rfl, by decide +kernel, rfl, by decide +kernel, by decide +kernel⟩
abbrev s__law_strip : Stmt := top 72
abbrev N__law_strip : List Str := ["_law_cues_here", "_law_piece", "_law_factor", "_law_strip_here", "_law_k", "_law_low", "_law_high"]
theorem sc__law_strip : FnScope N__law_strip ["_law_cues_here", "_law_piece", "_law_factor"] (defScope s__law_strip) := ⟨rfl, rfl, rfl, by decide +kernel, rfl, by decide +kernel, by decide +kernel⟩
abbrev s__law_model : Stmt := top 73
abbrev N__law_model : List Str := ["_law_world_here", "_law_cues_here", "_law_pieces_here", "_law_grain", "_law_piece", "_law_model_here", "_law_factor", "_law_strip_here", "_law_one", "_law_arrow"]
theorem sc__law_model : FnScope N__law_model ["_law_world_here"] (defScope s__law_model) := ⟨rfl, rfl, rfl, by decide +kernel, rfl, by decide +kernel, by decide +kernel⟩
abbrev s__law_showings : Stmt := top 74
abbrev N__law_showings : List Str := ["_law_model_here", "_law_row", "_law_told", "_law_begun", "_law_on", "_law_name", "_law_strip_here", "_law_one"]
theorem sc__law_showings : FnScope N__law_showings ["_law_model_here", "_law_row"] (defScope s__law_showings) := ⟨rfl, rfl, rfl, by decide +kernel, rfl, by decide +kernel, by decide +kernel⟩
abbrev s__law_carried : Stmt := top 75
abbrev N__law_carried : List Str := ["_law_model_here", "_law_least", "_law_close", "_law_row", "_law_told", "_law_one", "_law_near"]
theorem sc__law_carried : FnScope N__law_carried ["_law_model_here", "_law_least", "_law_close", "_law_row"] (defScope s__law_carried) := ⟨rfl, rfl, rfl, by decide +kernel, rfl, by decide +kernel, by decide +kernel⟩
abbrev s__law_drawn_way : Stmt := top 76
abbrev N__law_drawn_way : List Str := ["_law_tape_here", "_law_world_here", "_law_model_here", "_law_most", "_law_row", "_law_k", "_law_nexts"]
theorem sc__law_drawn_way : FnScope N__law_drawn_way ["_law_tape_here", "_law_world_here", "_law_model_here", "_law_most"] (defScope s__law_drawn_way) := ⟨rfl, rfl, rfl, by decide +kernel, rfl, by decide +kernel, by decide +kernel⟩
abbrev s__law_same : Stmt := top 77
abbrev N__law_same : List Str := ["_law_told", "_law_due_here", "_law_k"]
theorem sc__law_same : FnScope N__law_same ["_law_told", "_law_due_here"] (defScope s__law_same) := ⟨rfl, rfl, rfl, by decide +kernel, rfl, by decide +kernel, by decide +kernel⟩
abbrev s__law_book : Stmt := top 78
abbrev N__law_book : List Str := ["_law_tape_here"]
theorem sc__law_book : FnScope N__law_book ["_law_tape_here"] (defScope s__law_book) := ⟨rfl, rfl, rfl, by decide +kernel, rfl, by decide +kernel, by decide +kernel⟩
abbrev s__law_screen : Stmt := top 79
abbrev N__law_screen : List Str := ["_law_world_here", "_law_grain", "_law_name", "_law_cues_here", "_law_piece", "_law_told", "_law_tick", "_law_on", "_law_k", "_law_one"]
theorem sc__law_screen : FnScope N__law_screen ["_law_world_here", "_law_grain", "_law_name"] (defScope s__law_screen) := ⟨rfl, rfl, rfl, by decide +kernel, rfl, by decide +kernel, by decide +kernel⟩
abbrev s__law_runs : Stmt := top 80
abbrev N__law_runs : List Str := ["_law_screen_here", "_law_told", "_law_begun", "_law_at"]
theorem sc__law_runs : FnScope N__law_runs ["_law_screen_here"] (defScope s__law_runs) := ⟨rfl, rfl, rfl, by decide +kernel, rfl, by decide +kernel, by decide +kernel⟩
abbrev s__law_filled : Stmt := top 81
abbrev N__law_filled : List Str := ["_law_screen_here", "_law_shorter", "_law_near", "_law_kept", "_law_told", "_law_k", "_law_gone", "_law_at", "_law_one"]
theorem sc__law_filled : FnScope N__law_filled ["_law_screen_here", "_law_shorter", "_law_near"] (defScope s__law_filled) := ⟨rfl, rfl, rfl, by decide +kernel, rfl, by decide +kernel, by decide +kernel⟩
abbrev s__law_due : Stmt := top 82
abbrev N__law_due : List Str := ["_law_world_here", "_law_grain", "_law_numbers_here", "_law_row", "_law_screen_here", "_law_name"]
theorem sc__law_due : FnScope N__law_due ["_law_world_here", "_law_grain", "_law_numbers_here", "_law_row"] (defScope s__law_due) := ⟨rfl, rfl, rfl, by decide +kernel, rfl, by decide +kernel, by decide +kernel⟩
abbrev s__law_drawn_row : Stmt := top 83
abbrev N__law_drawn_row : List Str := ["_law_tape_here", "_law_world_here", "_law_model_here", "_law_names_here", "_law_kind", "_law_at", "_law_k"]
theorem sc__law_drawn_row : FnScope N__law_drawn_row ["_law_tape_here", "_law_world_here", "_law_model_here", "_law_names_here"] (defScope s__law_drawn_row) := ⟨rfl, rfl, rfl, by decide +kernel, rfl, by decide +kernel, by decide +kernel⟩
abbrev s__law_numbers : Stmt := top 84
abbrev N__law_numbers : List Str := ["_law_tape_here", "_law_numbers_here"]
theorem sc__law_numbers : FnScope N__law_numbers ["_law_tape_here"] (defScope s__law_numbers) := ⟨rfl, rfl, rfl, by decide +kernel, rfl, by decide +kernel, by decide +kernel⟩
abbrev s__law_refusal : Stmt := top 85
abbrev N__law_refusal : List Str := ["_law_call", "raised"]
theorem sc__law_refusal : FnScope N__law_refusal ["_law_call"] (defScope s__law_refusal) := ⟨rfl, rfl, rfl, by decide +kernel, rfl, by decide +kernel, by decide +kernel⟩
abbrev s__law_good_number : Stmt := top 86
abbrev N__law_good_number : List Str := ["_law_thing"]
theorem sc__law_good_number : FnScope N__law_good_number ["_law_thing"] (defScope s__law_good_number) := ⟨rfl, rfl, rfl, by decide +kernel, rfl, by decide +kernel, by decide +kernel⟩
abbrev s__law_books_right : Stmt := top 87
abbrev N__law_books_right : List Str := ["_law_tape_here", "_law_menu", "_law_told", "_law_book_here", "_law_first", "_law_second"]
theorem sc__law_books_right : FnScope N__law_books_right ["_law_tape_here"] (defScope s__law_books_right) := ⟨rfl, rfl, rfl, by decide +kernel, rfl, by decide +kernel, by decide +kernel⟩
abbrev s_law : Stmt := top 88
abbrev N_law : List Str := ["_law_script", "_law_tape_here", "_law_world_here", "_law_model_here", "_law_names_here", "_law_row", "_law_numbers_here", "_law_others_here", "_law_other", "_law_handed", "_law_due_here", "_law_longer", "_law_great", "_law_at", "_law_book_here", "_law_none", "_law_plan", "_law_spoilt", "_law_piece"]
theorem sc_law : FnScope N_law ["_law_script"] (defScope s_law) := ⟨rfl, rfl, rfl, by decide +kernel, rfl, by decide +kernel, by decide +kernel⟩
abbrev s_BadLength___init__ : Stmt := inClass (top 4) 0
abbrev N_BadLength___init__ : List Str := ["self", "length"]
theorem sc_BadLength___init__ : FnScope N_BadLength___init__ ["self", "length"] (defScope s_BadLength___init__) := ⟨rfl, rfl, rfl, by decide +kernel, rfl, by decide +kernel, by decide +kernel⟩
abbrev s_BadCue___init__ : Stmt := inClass (top 5) 0
abbrev N_BadCue___init__ : List Str := ["self", "number"]
theorem sc_BadCue___init__ : FnScope N_BadCue___init__ ["self", "number"] (defScope s_BadCue___init__) := ⟨rfl, rfl, rfl, by decide +kernel, rfl, by decide +kernel, by decide +kernel⟩
abbrev s_TooMany___init__ : Stmt := inClass (top 12) 0
abbrev N_TooMany___init__ : List Str := ["self", "word"]
theorem sc_TooMany___init__ : FnScope N_TooMany___init__ ["self", "word"] (defScope s_TooMany___init__) := ⟨rfl, rfl, rfl, by decide +kernel, rfl, by decide +kernel, by decide +kernel⟩
abbrev s_BadRow___init__ : Stmt := inClass (top 13) 0
abbrev N_BadRow___init__ : List Str := ["self", "number"]
theorem sc_BadRow___init__ : FnScope N_BadRow___init__ ["self", "number"] (defScope s_BadRow___init__) := ⟨rfl, rfl, rfl, by decide +kernel, rfl, by decide +kernel, by decide +kernel⟩
abbrev s_BadNumber___init__ : Stmt := inClass (top 14) 0
abbrev N_BadNumber___init__ : List Str := ["self", "word"]
theorem sc_BadNumber___init__ : FnScope N_BadNumber___init__ ["self", "word"] (defScope s_BadNumber___init__) := ⟨rfl, rfl, rfl, by decide +kernel, rfl, by decide +kernel, by decide +kernel⟩
abbrev s_Book___init__ : Stmt := inClass (top 29) 0
abbrev N_Book___init__ : List Str := ["self", "least", "close"]
theorem sc_Book___init__ : FnScope N_Book___init__ ["self", "least", "close"] (defScope s_Book___init__) := ⟨rfl, rfl, rfl, by decide +kernel, rfl, by decide +kernel, by decide +kernel⟩
abbrev s_Book___eq__ : Stmt := inClass (top 29) 1
abbrev N_Book___eq__ : List Str := ["self", "other"]
theorem sc_Book___eq__ : FnScope N_Book___eq__ ["self", "other"] (defScope s_Book___eq__) := ⟨rfl, rfl, rfl, by decide +kernel, rfl, by decide +kernel, by decide +kernel⟩
abbrev s_Reel___init__ : Stmt := inClass (top 41) 0
abbrev N_Reel___init__ : List Str := ["self", "length", "cues", "cue", "number"]
theorem sc_Reel___init__ : FnScope N_Reel___init__ ["self", "length", "cues"] (defScope s_Reel___init__) := ⟨rfl, rfl, rfl, by decide +kernel, rfl, by decide +kernel, by decide +kernel⟩
abbrev s_Plan___init__ : Stmt := inClass (top 56) 1
abbrev N_Plan___init__ : List Str := ["self", "reel", "pieces", "arrows", "starts", "ends", "piece", "missing", "grain", "name", "left", "right"]
theorem sc_Plan___init__ : FnScope N_Plan___init__ ["self", "reel", "pieces", "arrows", "starts", "ends"] (defScope s_Plan___init__) := ⟨rfl, rfl, rfl, by decide +kernel, rfl, by decide +kernel, by decide +kernel⟩
abbrev s_Plan_grain : Stmt := inClass (top 56) 2
abbrev N_Plan_grain : List Str := ["self"]
theorem sc_Plan_grain : FnScope N_Plan_grain ["self"] (defScope s_Plan_grain) := ⟨rfl, rfl, rfl, by decide +kernel, rfl, by decide +kernel, by decide +kernel⟩
abbrev s_Plan_shown_of : Stmt := inClass (top 56) 6
abbrev N_Plan_shown_of : List Str := ["self", "name"]
theorem sc_Plan_shown_of : FnScope N_Plan_shown_of ["self", "name"] (defScope s_Plan_shown_of) := ⟨rfl, rfl, rfl, by decide +kernel, rfl, by decide +kernel, by decide +kernel⟩
abbrev s_Plan_strip_of : Stmt := inClass (top 56) 8
abbrev N_Plan_strip_of : List Str := ["self", "name"]
theorem sc_Plan_strip_of : FnScope N_Plan_strip_of ["self", "name"] (defScope s_Plan_strip_of) := ⟨rfl, rfl, rfl, by decide +kernel, rfl, by decide +kernel, by decide +kernel⟩
abbrev s_Plan___contains__ : Stmt := inClass (top 56) 10
abbrev N_Plan___contains__ : List Str := ["self", "x"]
theorem sc_Plan___contains__ : FnScope N_Plan___contains__ ["self", "x"] (defScope s_Plan___contains__) := ⟨rfl, rfl, rfl, by decide +kernel, rfl, by decide +kernel, by decide +kernel⟩
end Sea
namespace Sea
open PySem PySem.Spec PyProof.Rows L2
/-- None, an int, a truth value or a text -/
def Plain : V → Prop
  | .non => True
  | .bl _ => True
  | .int _ => True
  | .str _ => True
  | _ => False
def isInt : V → Bool
  | .int _ => true
  | _ => false
def inside (x : V) (lo hi : Int) : Bool :=
  match x with
  | .int i => decide (lo ≤ i) && decide (i ≤ hi)
  | _ => false
end Sea
namespace Sea
open PySem PySem.Spec PyProof.Rows L2
abbrev cp (z : Str) : List Nat := z.cps.toList
theorem cp_len (z : Str) : (cp z).length = z.length := Array.length_toList
theorem cp_inj {a b : Str} (h : cp a = cp b) : a = b := by
  obtain ⟨⟨a⟩⟩ := a
  obtain ⟨⟨b⟩⟩ := b
  have e : a = b := h
  rw [e]
/-- two blanks together -/
def twin : List Nat → Bool
  | a :: b :: r => (a == 32 && b == 32) || twin (b :: r)
  | _ => false
/-- the codes of a text -/
structure Good (l : List Nat) : Prop where
  some : 1 ≤ l.length
  most : l.length ≤ 60
  sign : ∀ c ∈ l, 32 ≤ c ∧ c ≤ 126 ∧ c ≠ 37
  head : l[0]? ≠ Option.some 32
  last : l[l.length - 1]? ≠ Option.some 32
  twin : twin l = false
theorem lt_one (a b : Nat) : decide (([a] : List Nat) < [b]) = decide (a < b) := by
  by_cases h : a < b
  · rw [decide_eq_true h]
    exact decide_eq_true (List.Lex.rel h)
  · rw [decide_eq_false h]
    refine decide_eq_false fun q => ?_
    cases q with
    | rel q => exact h q
    | cons q => cases q
theorem blank_cp : cp (Str.ofString " ") = [32] := by decide +kernel
theorem tilde_cp : cp (Str.ofString "~") = [126] := by decide +kernel
theorem two_cp : cp (Str.ofString "  ") = [32, 32] := by decide +kernel
theorem blank_is (c : Nat) : decide (V.str ⟨#[c]⟩ = V.str (Str.ofString " ")) = decide (c = 32) := by
  by_cases h : c = 32
  · subst h
    rw [decide_eq_true rfl]
    refine decide_eq_true (congrArg V.str (cp_inj ?_))
    rw [blank_cp]
  · rw [decide_eq_false h]
    refine decide_eq_false fun q => h ?_
    have e := congrArg cp (V.str.inj q)
    rw [blank_cp] at e
    exact (List.cons.inj e).1
theorem twin_iff : ∀ l : List Nat, twin l = true ↔ ∃ i, l[i]? = Option.some 32 ∧ l[i + 1]? = Option.some 32
  | [] => by simp [twin]
  | [a] => by simp [twin]
  | a :: b :: r => by
    have ih := twin_iff (b :: r)
    constructor
    · intro h
      have h' : ((a == 32 && b == 32) || twin (b :: r)) = true := h
      rcases Bool.or_eq_true_iff.mp h' with q | q
      · obtain ⟨q1, q2⟩ := Bool.and_eq_true_iff.mp q
        exact ⟨0, congrArg Option.some (beq_iff_eq.mp q1), congrArg Option.some (beq_iff_eq.mp q2)⟩
      · obtain ⟨i, h1, h2⟩ := ih.mp q
        exact ⟨i + 1, h1, h2⟩
    · rintro ⟨i, h1, h2⟩
      show ((a == 32 && b == 32) || twin (b :: r)) = true
      cases i with
      | zero =>
        have e1 : a = 32 := Option.some.inj h1
        have e2 : b = 32 := Option.some.inj h2
        rw [e1, e2]
        rfl
      | succ i =>
        rw [ih.mpr ⟨i, h1, h2⟩, Bool.or_true]
theorem two_in (z : Str) : (!(Builtin.Str.occurrences z (Str.ofString "  ") 0 z.length 1).isEmpty) = twin (cp z) := by
  have h := PySem.StrLaws.found_iff z (Str.ofString "  ")
  have hl : (Str.ofString "  ").length = 2 := by decide +kernel
  have key : (!(Builtin.Str.occurrences z (Str.ofString "  ") 0 z.length 1).isEmpty) = true ↔ twin (cp z) = true := by
    rw [h, twin_iff]
    constructor
    · rintro ⟨i, h1, h2⟩
      rw [PySem.StrLaws.subAt_eq, hl] at h2
      have e := eq_of_beq h2
      have e' : ((cp z).drop i).take 2 = [32, 32] := e.trans two_cp
      have g0 := congrArg (fun l => l[0]?) e'
      have g1 := congrArg (fun l => l[1]?) e'
      simp only [List.getElem?_take, List.getElem?_drop] at g0 g1
      exact ⟨i, by simpa using g0, by simpa using g1⟩
    · rintro ⟨i, h1, h2⟩
      have hi : i + 1 < (cp z).length := (List.getElem?_eq_some_iff.mp h2).1
      refine ⟨i, by rw [hl, ← cp_len]; omega, ?_⟩
      rw [PySem.StrLaws.subAt_eq, hl]
      refine beq_iff_eq.mpr (Eq.trans ?_ two_cp.symm)
      refine List.ext_getElem? fun k => ?_
      rw [List.getElem?_take, List.getElem?_drop]
      match k with
      | 0 => simpa using h1
      | 1 => simpa using h2
      | k + 2 => simp; omega
  cases hb : twin (cp z) with
  | true => exact key.mpr hb
  | false =>
    rw [Bool.eq_false_iff]
    exact fun q => by rw [key.mp q] at hb; cases hb
/-- a value of the kinds that are handed to is_text -/
def AnyV (H : Hp) (x : V) : Prop := Plain x ∨ ∃ a xs, x = .ref a ∧ (H a = some (.lst xs) ∨ H a = some (.tup xs))
open Classical in
noncomputable def textV : V → Bool
  | .str z => decide (Good (cp z))
  | _ => false
def spPercent : Sp := fun vs H Q _ => ∃ z : Str, vs = [.str z] ∧ z.length ≤ 1000 ∧ ∀ H', Same H H' → Q (.bl (decide (37 ∈ cp z))) H'
noncomputable def spIsText : Sp := fun vs H Q _ => ∃ x, vs = [x] ∧ AnyV H x ∧ (∀ z, x = .str z → z.length ≤ 2000) ∧ ∀ H', Same H H' → Q (.bl (textV x)) H'
theorem inV_ints (k : Nat) : ∀ l : List Nat, inV (.int (k : Nat)) (l.map fun c => V.int (c : Nat)) = decide (k ∈ l)
  | [] => rfl
  | c :: r => by
    show (eqV (.int (c : Nat)) (.int (k : Nat)) || inV (.int (k : Nat)) (r.map fun c => V.int (c : Nat))) = _
    rw [inV_ints k r]
    show (((c : Nat) : Int) == ((k : Nat) : Int) || decide (k ∈ r)) = decide (k ∈ c :: r)
    by_cases h : k = c
    · subst h
      simp
    · have h' : ((c : Nat) : Int) ≠ ((k : Nat) : Int) := fun e => h (Int.ofNat.inj e).symm
      have h2 : (((c : Nat) : Int) == ((k : Nat) : Int)) = false := beq_eq_false_iff_ne.mpr h'
      rw [h2, Bool.false_or]
      simp [h]
theorem flat_ints : ∀ l : List Nat, (l.map fun c => V.int (c : Nat)).all flatV = true
  | [] => rfl
  | _ :: r => flat_ints r
section
variable {P : Program} {w : World} {K : PySem.W.Frag} {mg : Str → Option Value} {base : Heap}
theorem ok_has_percent {f : Addr} {fd : FuncData} (F : Fun K "has_percent" "has_percent" s_has_percent f fd) {t : Tok} (g_PERCENT : mg "PERCENT" = some (.int 37 t)) (m_ord : mg "ord" = none) :
    FnOk P w K mg base CX0 1 f fd ["word"] spPercent := by
  refine F.ok sc_has_percent (fun vs H Q E h => ?_) (fun cdv A outer s H vs Q E hr h => ?_)
  · obtain ⟨z, rfl, _⟩ := h
    rfl
  · obtain ⟨z, rfl, hz, q⟩ := h
    refine ⟨_, (pss_one (ps_ret (pe_cmpR op_in_seq (pe_glob (v := .int 37) rfl g_PERCENT ⟨_, rfl⟩) (pe_lc (own := [("sign", 1)]) rfl sc_has_percent.nd (pi_str (pv 0)) (blkOk_by (N := N_has_percent) (sc := defScope s_has_percent) (by decide +kernel)) (fun _ _ _ _ _ => (pg_name (i := 1) sc_has_percent.nd rfl (Or.inl rfl))) (fun _ _ _ _ _ => pts_nil) (fun _ _ _ _ _ => (pe_callB call_ord (by rfl) m_ord (by decide +kernel) (pa_cons (pv 1) pa_nil)))) rfl))), ?_⟩
    refine ⟨_, rfl, z, rfl, fun D hD => ?_⟩
    refine lc_it walk_str (fun i H' => Same H H' ∧ H' D = some (.lst (((cp z).take i).map fun c => V.int (c : Nat)))) ⟨same_new hD, upd_same⟩ (fun _ _ _ _ => trivial) ?_ ?_
    · rintro i x Ha Hb hi ⟨hs, hd⟩ ⟨rfl, c, hc, rfl⟩
      have hc' : (cp z)[i]? = some c := by rw [Array.getElem?_toList]; exact hc
      refine ⟨rfl, _, rfl, _, rfl, rfl, _, hd, ?_, same_over hs hD, ?_⟩
      · rw [List.length_map, List.length_take, cp_len]
        exact small_line (by omega)
      · rw [upd_same, sub_take hc', List.map_append]
        rfl
    · rintro H' ⟨hs, hd⟩
      have ht : (cp z).take z.cps.size = cp z := List.take_of_length_le (Nat.le_of_eq (cp_len z))
      rw [ht] at hd
      refine ⟨D, _, rfl, .inl (SqL.of hd), rfl, flat_ints _, ?_⟩
      have e := inV_ints 37 (cp z)
      have q' := q H' hs
      rw [← e] at q'
      exact q'
end
end Sea
namespace Sea
open PySem PySem.Spec PyProof.Rows L2
open Classical in
theorem textV_no {x : V} (h : ∀ z, x = .str z → ¬ Good (cp z)) : textV x = false := by
  cases x with
  | str z => exact decide_eq_false (h z rfl)
  | _ => rfl
open Classical in
theorem textV_yes {z : Str} (h : Good (cp z)) : textV (.str z) = true := decide_eq_true h
theorem ltL (a b : Nat) : decide ((cp ⟨#[a]⟩) < ([b] : List Nat)) = decide (a < b) := lt_one a b
theorem ltR (a b : Nat) : decide (([a] : List Nat) < cp ⟨#[b]⟩) = decide (a < b) := lt_one a b
theorem all_signs (l : List Nat) : ((l.map fun c => decide (32 ≤ c ∧ c ≤ 126)).all id) = decide (∀ c ∈ l, 32 ≤ c ∧ c ≤ 126) := by
  induction l with
  | nil => simp
  | cons a r ih =>
    rw [List.map_cons, List.all_cons, ih]
    by_cases h : 32 ≤ a ∧ a ≤ 126
    · simp [h]
    · have h2 : ¬ (∀ c ∈ a :: r, 32 ≤ c ∧ c ≤ 126) := fun q => h (q a List.mem_cons_self)
      rw [decide_eq_false h2]
      simp only [id]
      rw [decide_eq_false h, Bool.false_and]
section
variable {P : Program} {w : World} {K : PySem.W.Frag} {mg : Str → Option Value} {base : Heap}
theorem ok_is_text {f : Addr} {fd : FuncData} (F : Fun K "is_text" "is_text" s_is_text f fd)
    (m_isinstance : mg "isinstance" = none) (m_str : mg "str" = none) (m_len : mg "len" = none) (m_all : mg "all" = none)
    (c_has_percent : Cal P w K mg base 1 "has_percent" spPercent) : FnOk P w K mg base CX0 2 f fd ["thing"] spIsText := by
  refine F.ok sc_is_text (fun vs H Q E h => ?_) (fun cdv A outer s H vs Q E hr h => ?_)
  · obtain ⟨x, rfl, _⟩ := h
    rfl
  · obtain ⟨x, rfl, hany, hsz, q⟩ := h
    refine ⟨_, (pss_cons (ps_if (PW.pt (pw_or (pt_not (pt_val (pe_callB call_isi (by rfl) m_isinstance (by decide +kernel) (pa_cons (pv 0) (pa_cons (pe_bltn (v := .ty "str") (by rfl) m_str (by decide +kernel) rfl) pa_nil))))) (pw_or1 (pt_not (pt_chain op_le op_le (pe_int) (pe_callB call_len (by rfl) m_len (by decide +kernel) (pa_cons (pv 0) pa_nil)) (pe_int))))))
    (pss_one (ps_ret (pe_bl)))
    pss_nil)
    (pss_cons (ps_if (PW.pt (pw_or (pt_val (pe_c c_has_percent hr (by decide) rfl (pa_cons (pv 0) pa_nil))) (pw_or1 (pt_not (pt_val (pe_callB (cr_all rfl) (by rfl) m_all (by decide +kernel) (pa_cons (pe_lc (own := [("sign", 1)]) rfl sc_is_text.nd (pi_str (pv 0)) (blkOk_by (N := N_is_text) (sc := defScope s_is_text) (by decide +kernel)) (fun _ _ _ _ _ => (pg_name (i := 1) sc_is_text.nd rfl (Or.inl rfl))) (fun _ _ _ _ _ => pts_nil) (fun _ _ _ _ _ => (pe_chain op_le_str op_le_str (pe_str) (pv 1) (pe_str)))) pa_nil)))))))
    (pss_one (ps_ret (pe_bl)))
    pss_nil)
    (pss_one (ps_ret (pe_and (pe_cmpR op_ne (pe_ix ix_str (pv 0) (pe_int) (fun _ _ => rfl)) (pe_str) (nomark _)) (pe_and (pe_cmpR op_ne (pe_ix ix_str (pv 0) (pe_un un_neg (pe_int)) (fun _ _ => rfl)) (pe_str) (nomark _)) (pe_one (pe_cmpR op_notin_str (pe_str) (pv 0) rfl)))))))), ?_⟩
    -- what is no text
    have other : ∀ t, TyX K H x t → PySem.W.kitOne K t (.type "str") = some false → textV x = false →
        (∃ v, (start N_is_text [x])[0]? = some (some v) ∧ ∃ (x' c : V) (t u : Value) (b : Bool), [v, V.ty "str"] = [x', c] ∧ ClsV c u ∧ TyX K H x' t ∧ PySem.W.kitOne K t u = some b ∧ (∃ c, V.bl b = .bl c ∧ (if (!c) = true then (if true = true then Q (.bl false) H else False) else False))) :=
      fun t ty k e => ⟨x, rfl, x, _, t, _, false, rfl, .ty _, ty, k, false, rfl, by
        have q' := q H (Same.refl H)
        rw [e] at q'
        exact q'⟩
    cases x with
    | int i => obtain ⟨v, h1, x', c, t, u, b, h2, h3, h4, h5, c', h6, h7⟩ := other _ (.base (.int i)) (kit_ty (by decide +kernel)) rfl
               exact ⟨_, rfl, _, _, _, _, false, rfl, .ty _, .base (.int i), kit_ty (by decide +kernel), false, rfl, q H (Same.refl H)⟩
    | bl b => exact ⟨_, rfl, _, _, _, _, false, rfl, .ty _, .base (.bl b), kit_ty (by decide +kernel), false, rfl, q H (Same.refl H)⟩
    | non => exact ⟨_, rfl, _, _, _, _, false, rfl, .ty _, .base .non, kit_ty (by decide +kernel), false, rfl, q H (Same.refl H)⟩
    | ref a =>
      rcases hany with hp | ⟨a', xs, ea, hl | hl⟩
      · exact hp.elim
      · cases ea
        exact ⟨_, rfl, _, _, _, _, false, rfl, .ty _, .base (.lst hl), kit_ty (by decide +kernel), false, rfl, q H (Same.refl H)⟩
      · cases ea
        exact ⟨_, rfl, _, _, _, _, false, rfl, .ty _, .base (.tup hl), kit_ty (by decide +kernel), false, rfl, q H (Same.refl H)⟩
    | byt z => rcases hany with hp | ⟨a', xs, ea, _⟩ <;> first | exact hp.elim | cases ea
    | flt z => rcases hany with hp | ⟨a', xs, ea, _⟩ <;> first | exact hp.elim | cases ea
    | ty z => rcases hany with hp | ⟨a', xs, ea, _⟩ <;> first | exact hp.elim | cases ea
    | str z =>
      have hz2 : z.length ≤ 2000 := hsz z rfl
      have hzl : z.length ≤ sizeLine := by rw [sizeLine_eq]; omega
      have no : ∀ H', Same H H' → ¬ Good (cp z) → Q (.bl false) H' := fun H' hs hg => by
        have q' := q H' hs
        rw [textV_no (fun z' e => by cases e; exact hg)] at q'
        exact q'
      refine ⟨_, rfl, _, _, _, _, true, rfl, .ty _, .base (.str z), kit_ty (by decide +kernel), true, rfl, ?_⟩
      refine ⟨_, rfl, _, z.length, rfl, ⟨hzl, rfl⟩, _, _, rfl, rfl, _, rfl, ite2 (fun h1 => ⟨_, _, rfl, rfl, _, rfl, ?_⟩) (fun h1 => ⟨_, rfl, ?_⟩)⟩
      · have g1 : (1 : Int) ≤ (z.length : Nat) := of_decide_eq_true h1
        by_cases h2 : ((z.length : Nat) : Int) ≤ 60
        · rw [decide_eq_true h2]
          -- has_percent
          refine ⟨_, rfl, z, rfl, (by omega), fun H1 s1 => ⟨_, rfl, ?_⟩⟩
          refine ite2 (fun hp => ?_) (fun hp => ?_)
          · refine no H1 s1 fun g => ?_
            exact (g.sign 37 (of_decide_eq_true hp)).2.2 rfl
          · have hp' : 37 ∉ cp z := fun m => hp (decide_eq_true m)
            refine ⟨_, rfl, z, rfl, fun D hD => ?_⟩
            refine lc_it walk_str (fun i H' => Same H1 H' ∧ H' D = some (.lst ((((cp z).take i).map fun c => decide (32 ≤ c ∧ c ≤ 126)).map V.bl))) ⟨same_new hD, upd_same⟩ (fun _ _ _ _ => trivial) ?_ ?_
            · rintro i x Ha Hb hi ⟨hs, hd⟩ ⟨rfl, c, hc, rfl⟩
              have hc' : (cp z)[i]? = some c := by rw [Array.getElem?_toList]; exact hc
              have sz : ((((cp z).take i).map fun c => decide (32 ≤ c ∧ c ≤ 126)).map V.bl).length < sizeLine := by
                rw [List.length_map, List.length_map, List.length_take, cp_len]
                exact small_line (by omega)
              have fin : ∀ b, b = decide (32 ≤ c ∧ c ≤ 126) → Same H1 (upd Hb D (.lst (((((cp z).take i).map fun c => decide (32 ≤ c ∧ c ≤ 126)).map V.bl) ++ [V.bl b]))) ∧
                  (upd Hb D (.lst (((((cp z).take i).map fun c => decide (32 ≤ c ∧ c ≤ 126)).map V.bl) ++ [V.bl b]))) D = some (.lst ((((cp z).take (i + 1)).map fun c => decide (32 ≤ c ∧ c ≤ 126)).map V.bl)) := by
                intro b e
                subst e
                refine ⟨same_over hs hD, ?_⟩
                rw [upd_same, sub_take hc', List.map_append, List.map_append]
                rfl
              have e1 : (!decide ((cp ⟨#[c]⟩) < cp (Str.ofString " "))) = decide (32 ≤ c) := by
                rw [blank_cp, ltL]
                by_cases h : c < 32
                · rw [decide_eq_true h, decide_eq_false (by omega)]; rfl
                · rw [decide_eq_false h, decide_eq_true (by omega)]; rfl
              have e2 : (!decide (cp (Str.ofString "~") < (cp ⟨#[c]⟩))) = decide (c ≤ 126) := by
                rw [tilde_cp, ltR]
                by_cases h : 126 < c
                · rw [decide_eq_true h, decide_eq_false (by omega)]; rfl
                · rw [decide_eq_false h, decide_eq_true (by omega)]; rfl
              refine ⟨rfl, _, rfl, _, _, rfl, rfl, _, rfl, ite2 (fun h => ⟨_, _, rfl, rfl, _, hd, sz, ?_⟩) (fun h => ⟨_, hd, sz, ?_⟩)⟩
              · refine fin _ ?_
                have h' : 32 ≤ c := of_decide_eq_true (e1.symm.trans h)
                rw [e2]
                by_cases k : c ≤ 126
                · rw [decide_eq_true k, decide_eq_true ⟨h', k⟩]
                · rw [decide_eq_false k, decide_eq_false (fun q => k q.2)]
              · refine fin _ ?_
                have h' : ¬ 32 ≤ c := fun q => h (e1.trans (decide_eq_true q))
                rw [decide_eq_false (fun q => h' q.1)]
            · rintro H' ⟨hs, hd⟩
              have ht : (cp z).take z.cps.size = cp z := List.take_of_length_le (Nat.le_of_eq (cp_len z))
              rw [ht] at hd
              refine ⟨D, _, rfl, SqL.of hd, _, rfl, ?_⟩
              rw [all_signs]
              have s2 := s1.trans hs
              by_cases ha : ∀ c ∈ cp z, 32 ≤ c ∧ c ≤ 126
              · rw [decide_eq_true ha]
                have n0 : 0 < (cp z).length := by rw [cp_len]; omega
                have z0 : (cp z)[0]? = some (cp z)[0] := List.getElem?_eq_getElem n0
                have z1 : (cp z)[(cp z).length - 1]? = some ((cp z)[(cp z).length - 1]'(by omega)) := List.getElem?_eq_getElem (by omega)
                have zl : atI (cp z) (-1) = some ((cp z)[(cp z).length - 1]'(by omega)) := by
                  unfold atI ixN
                  rw [if_neg (by decide), if_pos (by omega)]
                  show (cp z)[((-1 : Int) + ((cp z).length : Nat)).toNat]? = _
                  rw [show ((-1 : Int) + ((cp z).length : Nat)).toNat = (cp z).length - 1 by omega]
                  exact z1
                refine ⟨_, rfl, z, 0, _, rfl, rfl, hzl, atI_nat (j := 0) z0, rfl, _, rfl, ?_⟩
                rw [blank_is]
                by_cases b0 : (cp z)[0] = 32
                · rw [decide_eq_true b0]
                  exact no H' s2 fun g => g.head (z0.trans (congrArg some b0))
                · rw [decide_eq_false b0]
                  refine ⟨_, rfl, 1, rfl, z, -1, _, rfl, rfl, hzl, zl, rfl, _, rfl, ?_⟩
                  rw [blank_is]
                  by_cases b1 : (cp z)[(cp z).length - 1]'(by omega) = 32
                  · rw [decide_eq_true b1]
                    exact no H' s2 fun g => g.last (z1.trans (congrArg some b1))
                  · rw [decide_eq_false b1]
                    refine ⟨_, rfl, _, _, rfl, rfl, ?_⟩
                    have q' := q H' s2
                    have e : textV (.str z) = !twin (cp z) := by
                      cases ht2 : twin (cp z) with
                      | true => exact textV_no fun z' e' g => by cases e'; rw [g.twin] at ht2; cases ht2
                      | false =>
                        refine textV_yes ⟨by omega, by rw [cp_len]; omega, fun c hc => ⟨(ha c hc).1, (ha c hc).2, fun e => hp' (e ▸ hc)⟩, fun e => b0 (Option.some.inj (z0.symm.trans e)), fun e => b1 (Option.some.inj (z1.symm.trans e)), ht2⟩
                    rw [e, ← two_in] at q'
                    exact q'
              · rw [decide_eq_false ha]
                exact no H' s2 fun g => ha fun c hc => ⟨(g.sign c hc).1, (g.sign c hc).2.1⟩
        · rw [decide_eq_false h2]
          exact no H (Same.refl H) fun g => h2 (by have := g.most; rw [cp_len] at this; omega)
      · refine no H (Same.refl H) fun g => h1 (decide_eq_true ?_)
        have := g.some
        rw [cp_len] at this
        omega
end
end Sea
namespace Sea
open PySem PySem.Spec PyProof.Rows L2
/-- all but what stands at t is as it was -/
def KB (t : Addr) (H H' : Hp) : Prop := ∀ b o, b ≠ t → H b = some o → H' b = some o
theorem KB.refl (t : Addr) (H : Hp) : KB t H H := fun _ _ _ h => h
theorem KB.trans {t : Addr} {H H1 H2 : Hp} (a : KB t H H1) (b : KB t H1 H2) : KB t H H2 := fun c o n h => b c o n (a c o n h)
theorem KB.of_same {t : Addr} {H H' : Hp} (s : Same H H') : KB t H H' := fun b o _ h => s b o h
theorem KB.over {t : Addr} {H H' : Hp} {D : Addr} {o : HO} (k : KB t H H') (h : H D = none) : KB t H (upd H' D o) := fun b x n e => by
  rw [upd_ne (ne_of_none e h)]
  exact k b x n e
structure Tape (H : Hp) (tp cl : Addr) (ns : List Int) : Prop where
  ex : ∃ i r z c : Int, H tp = some (.lst [.ref cl, .int i, .int r, .int z, .int c]) ∧ 0 ≤ i ∧ 0 ≤ r ∧ (0 ≤ z ∧ z < 2147483647) ∧ 0 ≤ c
  cells : H cl = some (.lst (ns.map V.int))
  ne : cl ≠ tp
  nn : ∀ n ∈ ns, 0 ≤ n
theorem Tape.set {H H' : Hp} {tp cl : Addr} {ns : List Int} (T : Tape H tp cl ns) (k : KB tp H H') {i r z c : Int} (h1 : 0 ≤ i) (h2 : 0 ≤ r) (h3 : 0 ≤ z ∧ z < 2147483647) (h4 : 0 ≤ c) :
    Tape (upd H' tp (.lst [.ref cl, .int i, .int r, .int z, .int c])) tp cl ns :=
  ⟨⟨i, r, z, c, upd_same, h1, h2, h3, h4⟩, by rw [upd_ne T.ne]; exact k _ _ T.ne T.cells, T.ne, T.nn⟩
theorem KB.set {t : Addr} {H H' : Hp} {o : HO} (k : KB t H H') : KB t H (upd H' t o) := fun b x n e => by
  rw [upd_ne n]
  exact k b x n e
theorem Tape.there {H : Hp} {tp cl : Addr} {ns : List Int} (T : Tape H tp cl ns) : ∃ o, H tp = some o := let ⟨_, _, _, _, h, _⟩ := T.ex; ⟨_, h⟩
/-- something new, or something else that stands, is written -/
theorem Tape.other {H : Hp} {tp cl : Addr} {ns : List Int} (T : Tape H tp cl ns) {D : Addr} {o : HO} (h1 : tp ≠ D) (h2 : cl ≠ D) : Tape (upd H D o) tp cl ns := by
  obtain ⟨i, r, z, c, h, k1, k2, k3, k4⟩ := T.ex
  exact ⟨⟨i, r, z, c, by rw [upd_ne h1]; exact h, k1, k2, k3, k4⟩, by rw [upd_ne h2]; exact T.cells, T.ne, T.nn⟩
theorem Tape.fresh {H : Hp} {tp cl : Addr} {ns : List Int} (T : Tape H tp cl ns) {D : Addr} (h : H D = none) : tp ≠ D ∧ cl ≠ D := by
  obtain ⟨o, ho⟩ := T.there
  exact ⟨ne_of_none ho h, ne_of_none T.cells h⟩
theorem Tape.new {H : Hp} {tp cl : Addr} {ns : List Int} (T : Tape H tp cl ns) {D : Addr} {o : HO} (h : H D = none) : Tape (upd H D o) tp cl ns :=
  T.other (T.fresh h).1 (T.fresh h).2
theorem Tape.same {H H' : Hp} {tp cl : Addr} {ns : List Int} (T : Tape H tp cl ns) (s : Same H H') : Tape H' tp cl ns := by
  obtain ⟨i, r, z, c, h, k⟩ := T.ex
  exact ⟨⟨i, r, z, c, s _ _ h, k⟩, s _ _ T.cells, T.ne, T.nn⟩
def spPick : Sp := fun vs H Q _ => ∃ (tp cl : Addr) (ns : List Int) (m : Int), vs = [.ref tp, .int m] ∧ Tape H tp cl ns ∧ m < 1073741824 ∧
  ∀ H' d, KB tp H H' → Tape H' tp cl ns → 0 ≤ d → (d < m ∨ d = 0) → Q (.int d) H'
def spSome : Sp := fun vs H Q _ => ∃ (tp cl : Addr) (ns : List Int) (lo hi : Int), vs = [.ref tp, .int lo, .int hi] ∧ Tape H tp cl ns ∧ lo ≤ hi ∧ hi - lo < 1000000000 ∧
  ∀ H' d, KB tp H H' → Tape H' tp cl ns → lo ≤ d → d ≤ hi → Q (.int d) H'
theorem at_int {ns : List Int} {i : Int} (h0 : 0 ≤ i) (h1 : i < ((ns.map V.int).length : Nat)) : ∃ n, n ∈ ns ∧ atI (ns.map V.int) i = some (.int n) := by
  obtain ⟨k, rfl⟩ : ∃ k : Nat, i = (k : Int) := ⟨i.toNat, by omega⟩
  have h2 : k < ns.length := by rw [List.length_map] at h1; omega
  refine ⟨ns[k], List.getElem_mem h2, atI_nat ?_⟩
  rw [List.getElem?_map, List.getElem?_eq_getElem h2]
  rfl
section
variable {P : Program} {w : World} {K : PySem.W.Frag} {mg : Str → Option Value} {base : Heap}
theorem ok_pick {f : Addr} {fd : FuncData} (F : Fun K "_law_pick" "_law_pick" s__law_pick f fd) (m_len : mg "len" = none) (m_int : mg "int" = none) :
    FnOk P w K mg base CX0 1 f fd ["_law_tape_here", "_law_many"] spPick := by
  refine F.ok sc__law_pick (fun vs H Q E h => ?_) (fun cdv A outer s H vs Q E hr h => ?_)
  · obtain ⟨tp, cl, ns, m, rfl, _⟩ := h
    rfl
  · obtain ⟨tp, cl, ns, m, rfl, T, hm, q⟩ := h
    refine ⟨_, (pss_cons (ps_if (PW.pt (pw_or (pt_not (pt_truth (pe_ix ix_list (pv 0) (pe_int) (fun _ _ => rfl)) (by intro _; rfl))) (pw_or1 (pt_cmpR op_lt (pv 1) (pe_int) (nomark _)))))
    (pss_one (ps_ret (pe_int)))
    pss_nil)
    (C8.pss_cut (ps_if (PW.pt (pw_and (pt_cmpR op_eq (pe_ix ix_list (pv 0) (pe_int) (fun _ _ => rfl)) (pe_int) (nomark _)) (pw_and1 (pt_cmpR op_lt (pe_ix ix_list (pv 0) (pe_int) (fun _ _ => rfl)) (pe_callB call_len (by rfl) m_len (by decide +kernel) (pa_cons (pe_ix ix_list (pv 0) (pe_int) (fun _ _ => rfl)) pa_nil)) (nomark _)))))
    (pss_cons (ps_asg (pe_ix ix_list (pe_ix ix_list (pv 0) (pe_int) (fun _ _ => rfl)) (pe_ix ix_list (pv 0) (pe_int) (fun _ _ => rfl)) (fun _ _ => rfl)) (pg_sub (pv 0) (pe_int) set_list))
    (pss_cons (ps_asg (pe_op op_add (pe_ix ix_list (pv 0) (pe_int) (fun _ _ => rfl)) (pe_int)) (pg_sub (pv 0) (pe_int) set_list))
    (pss_one (ps_if (pt_cmpR op_lt (pe_ix ix_list (pv 0) (pe_int) (fun _ _ => rfl)) (pe_op op_pow (pe_int) (pe_int)) (nomark _))
    (pss_cons (ps_asg (pe_op op_modN (pe_callTy call_int1 (by rfl) m_int (by decide +kernel) (pa_cons (pe_op op_add (pe_op op_add (pe_op op_mul (pe_ix ix_list (pv 0) (pe_int) (fun _ _ => rfl)) (pe_int)) (pe_op op_mul (pe_ix ix_list (pv 0) (pe_int) (fun _ _ => rfl)) (pe_int))) (pe_int)) pa_nil)) (pe_int)) (pg_sub (pv 0) (pe_int) set_list))
    (pss_one (ps_asg (pe_int) (pg_sub (pv 0) (pe_int) set_list))))
    pss_nil))))
    pss_nil)
    (pss_cons (ps_if (pt_cmpR op_gt (pe_ix ix_list (pv 0) (pe_int) (fun _ _ => rfl)) (pe_int) (nomark _))
    (pss_cons (ps_set (i := 2) sc__law_pick.nd rfl (Or.inl rfl) (pe_op op_modN (pe_callTy call_int1 (by rfl) m_int (by decide +kernel) (pa_cons (pe_ix ix_list (pv 0) (pe_int) (fun _ _ => rfl)) pa_nil)) (pv 1)))
    (pss_cons (ps_asg (pe_op op_fdivN (pe_ix ix_list (pv 0) (pe_int) (fun _ _ => rfl)) (pv 1)) (pg_sub (pv 0) (pe_int) set_list))
    (pss_one (ps_ret (pv 2)))))
    pss_nil)
    (pss_cons (ps_asg (pe_op op_add (pe_ix ix_list (pv 0) (pe_int) (fun _ _ => rfl)) (pe_int)) (pg_sub (pv 0) (pe_int) set_list))
    (pss_cons (ps_asg (pe_op op_modN (pe_callTy call_int1 (by rfl) m_int (by decide +kernel) (pa_cons (pe_op op_add (pe_op op_add (pe_op op_mul (pe_ix ix_list (pv 0) (pe_int) (fun _ _ => rfl)) (pe_int)) (pe_op op_mul (pe_ix ix_list (pv 0) (pe_int) (fun _ _ => rfl)) (pe_int))) (pe_int)) pa_nil)) (pe_int)) (pg_sub (pv 0) (pe_int) set_list))
    (pss_cons (ps_set (i := 3) sc__law_pick.nd rfl (Or.inl rfl) (pe_op op_modN (pe_callTy call_int1 (by rfl) m_int (by decide +kernel) (pa_cons (pe_op op_add (pe_op op_mul (pe_ix ix_list (pv 0) (pe_int) (fun _ _ => rfl)) (pe_ix ix_list (pv 0) (pe_int) (fun _ _ => rfl))) (pe_op op_mul (pe_ix ix_list (pv 0) (pe_int) (fun _ _ => rfl)) (pe_int))) pa_nil)) (pe_int)))
    (pss_cons (ps_set (i := 3) sc__law_pick.nd rfl (Or.inl rfl) (pe_op op_modN (pe_callTy call_int1 (by rfl) m_int (by decide +kernel) (pa_cons (pe_op op_add (pe_op op_mul (pv 3) (pe_int)) (pe_ix ix_list (pv 0) (pe_int) (fun _ _ => rfl))) pa_nil)) (pe_int)))
    (pss_one (ps_ret (pe_op op_modN (pe_callTy call_int1 (by rfl) m_int (by decide +kernel) (pa_cons (pe_op op_fdivN (pv 3) (pe_int)) pa_nil)) (pv 1))))))))))), ?_⟩
    obtain ⟨i, r, z, c, hT, i0, r0, z0, c0⟩ := T.ex
    have hC := T.cells
    have modz : ∀ x : Int, 0 ≤ x.fmod 2147483647 ∧ x.fmod 2147483647 < 2147483647 := fun x => ⟨Int.fmod_nonneg_of_pos x (by decide), Int.fmod_lt_of_pos x (by decide)⟩
    -- if not tape[0] or many < 2
    refine ⟨_, rfl, tp, _, 0, _, rfl, rfl, SqL.of hT, atI_nat (j := 0) rfl, _, .inl ⟨_, SqL.of hC, rfl⟩, ?_⟩
    cases ns with
    | nil => exact q H 0 (KB.refl _ _) T (Int.le_refl _) (.inr rfl)
    | cons n0 nr =>
      refine ⟨_, rfl, _, _, rfl, rfl, _, rfl, ite2 (fun e => q H 0 (KB.refl _ _) T (Int.le_refl _) (.inr rfl)) (fun e => ?_)⟩
      have m2 : 2 ≤ m := by
        have : ¬ m < 2 := fun z => e (decide_eq_true z)
        omega
      have modm : ∀ x : Int, 0 ≤ x.fmod m ∧ x.fmod m < m := fun x => ⟨Int.fmod_nonneg_of_pos x (by omega), Int.fmod_lt_of_pos x (by omega)⟩
      refine ⟨fun σ' H' => σ' = [some (.ref tp), some (.int m), none, none] ∧ KB tp H H' ∧ Tape H' tp cl (n0 :: nr), ?_, ?_⟩
      · -- a new cell
        refine ⟨_, rfl, tp, _, 2, _, rfl, rfl, SqL.of hT, atI_nat (j := 2) rfl, rfl, _, rfl, ite2 (fun e1 => ?_) (fun e1 => ⟨rfl, KB.refl _ _, T⟩)⟩
        refine ⟨_, rfl, tp, _, 1, _, rfl, rfl, SqL.of hT, atI_nat (j := 1) rfl, _, rfl, tp, _, 0, _, rfl, rfl, SqL.of hT, atI_nat (j := 0) rfl, _, _, rfl, .inl ⟨_, SqL.of hC, rfl⟩, _, _, rfl, rfl, _, rfl, ite2 (fun e2 => ?_) (fun e2 => ⟨rfl, KB.refl _ _, T⟩)⟩
        obtain ⟨n, hn, ha⟩ := at_int (ns := n0 :: nr) i0 (of_decide_eq_true e2)
        have n0' := T.nn n hn
        refine ⟨_, rfl, tp, _, 0, _, rfl, rfl, SqL.of hT, atI_nat (j := 0) rfl, _, rfl, tp, _, 1, _, rfl, rfl, SqL.of hT, atI_nat (j := 1) rfl, cl, _, i, _, rfl, rfl, SqL.of hC, ha, _, rfl, tp, _, 2, 2, rfl, rfl, hT, rfl, ?_⟩
        refine ⟨_, rfl, tp, _, 1, _, rfl, rfl, SqL.of upd_same, atI_nat (j := 1) rfl, _, _, rfl, rfl, _, rfl, tp, _, 1, 1, rfl, rfl, upd_same, rfl, ?_⟩
        refine ⟨_, rfl, tp, _, 2, _, rfl, rfl, SqL.of upd_same, atI_nat (j := 2) rfl, _, _, rfl, rfl, ⟨by decide, by decide, by decide⟩, _, _, rfl, rfl, _, rfl, ite2 (fun e3 => ?_) (fun e3 => ?_)⟩
        · refine ⟨_, rfl, tp, _, 3, _, rfl, rfl, SqL.of upd_same, atI_nat (j := 3) rfl, _, _, rfl, rfl, .inr ⟨by decide, by decide⟩, _, rfl, tp, _, 2, _, rfl, rfl, SqL.of upd_same, atI_nat (j := 2) rfl, _, _, rfl, rfl, .inr ⟨by decide, by decide⟩, _, _, rfl, rfl, _, _, rfl, rfl, .inl ⟨_, rfl, _, _, rfl, rfl, (show (2147483647 : Int) ≠ 0 by decide), _, rfl, tp, _, 3, 3, rfl, rfl, upd_same, rfl, ?_⟩⟩
          refine ⟨_, rfl, tp, _, 2, 2, rfl, rfl, upd_same, rfl, rfl, ?_, ?_⟩
          · exact (((KB.refl _ _).set).set).set.set
          · exact T.set (((KB.refl _ _).set).set).set (by omega) (Int.le_refl _) (modz _) c0
        · exact ⟨rfl, ((KB.refl _ _).set).set, T.set (KB.refl _ _).set (by omega) n0' z0 c0⟩
      · rintro σ' H1 ⟨rfl, k1, T1⟩
        obtain ⟨i', r', z', c', hT', i0', r0', z0', c0'⟩ := T1.ex
        refine ⟨_, rfl, tp, _, 2, _, rfl, rfl, SqL.of hT', atI_nat (j := 2) rfl, _, _, rfl, rfl, _, rfl, ite2 (fun e1 => ?_) (fun e1 => ?_)⟩
        · refine ⟨_, rfl, tp, _, 2, _, rfl, rfl, SqL.of hT', atI_nat (j := 2) rfl, .inl ⟨_, rfl, _, rfl, _, _, rfl, rfl, by show m ≠ 0; omega, ?_⟩⟩
          refine ⟨_, rfl, tp, _, 2, _, rfl, rfl, SqL.of hT', atI_nat (j := 2) rfl, _, rfl, _, _, rfl, rfl, ⟨by omega, by omega⟩, _, rfl, tp, _, 2, 2, rfl, rfl, hT', rfl, ?_⟩
          refine ⟨_, rfl, q _ _ k1.set (T1.set (KB.refl _ _) i0' (Int.fdiv_nonneg r0' (by omega)) z0' c0') (modm _).1 (.inl (modm _).2)⟩
        · refine ⟨_, rfl, tp, _, 4, _, rfl, rfl, SqL.of hT', atI_nat (j := 4) rfl, _, _, rfl, rfl, _, rfl, tp, _, 4, 4, rfl, rfl, hT', rfl, ?_⟩
          refine ⟨_, rfl, tp, _, 3, _, rfl, rfl, SqL.of upd_same, atI_nat (j := 3) rfl, _, _, rfl, rfl, .inr ⟨by decide, by decide⟩, _, rfl, tp, _, 4, _, rfl, rfl, SqL.of upd_same, atI_nat (j := 4) rfl, _, _, rfl, rfl, .inr ⟨by decide, by decide⟩, _, _, rfl, rfl, _, _, rfl, rfl, .inl ⟨_, rfl, _, _, rfl, rfl, (show (2147483647 : Int) ≠ 0 by decide), _, rfl, tp, _, 3, 3, rfl, rfl, upd_same, rfl, ?_⟩⟩
          have mz := modz (z' * 48271 + (c' + 1) * 40692 + 5)
          refine ⟨_, rfl, tp, _, 3, _, rfl, rfl, SqL.of upd_same, atI_nat (j := 3) rfl, _, rfl, tp, _, 3, _, rfl, rfl, SqL.of upd_same, atI_nat (j := 3) rfl, _, _, rfl, rfl, .inl ⟨?_, ?_⟩, _, rfl, tp, _, 4, _, rfl, rfl, SqL.of upd_same, atI_nat (j := 4) rfl, _, _, rfl, rfl, .inr ⟨by decide, by decide⟩, _, _, rfl, rfl, .inl ⟨_, rfl, _, _, rfl, rfl, (show (2147483629 : Int) ≠ 0 by decide), ?_⟩⟩
          · exact Int.lt_of_lt_of_le (by decide) mz.1
          · exact Int.lt_trans mz.2 (by decide)
          refine ⟨_, rfl, _, _, rfl, rfl, .inr ⟨by decide, by decide⟩, _, rfl, tp, _, 3, _, rfl, rfl, SqL.of upd_same, atI_nat (j := 3) rfl, _, _, rfl, rfl, .inl ⟨_, rfl, _, _, rfl, rfl, (show (2147483587 : Int) ≠ 0 by decide), ?_⟩⟩
          refine ⟨_, rfl, _, _, rfl, rfl, ⟨by decide, by decide⟩, .inl ⟨_, rfl, _, rfl, _, _, rfl, rfl, by show m ≠ 0; omega, ?_⟩⟩
          exact q _ _ k1.set.set (T1.set (KB.refl _ _).set i0' r0' mz (by omega)) (modm _).1 (.inl (modm _).2)
theorem ok_some {f : Addr} {fd : FuncData} (F : Fun K "_law_some" "_law_some" s__law_some f fd) (c__law_pick : Cal P w K mg base 1 "_law_pick" spPick) :
    FnOk P w K mg base CX0 2 f fd ["_law_tape_here", "_law_low", "_law_high"] spSome := by
  refine F.ok sc__law_some (fun vs H Q E h => ?_) (fun cdv A outer s H vs Q E hr h => ?_)
  · obtain ⟨tp, cl, ns, lo, hi, rfl, _⟩ := h
    rfl
  · obtain ⟨tp, cl, ns, lo, hi, rfl, T, h1, h2, q⟩ := h
    refine ⟨_, (pss_one (ps_ret (pe_op op_add (pv 1) (pe_c c__law_pick hr (by decide) rfl (pa_cons (pv 0) (pa_cons (pe_op op_add (pe_op op_sub (pv 2) (pv 1)) (pe_int)) pa_nil)))))), ?_⟩
    refine ⟨_, rfl, _, rfl, _, rfl, _, rfl, _, _, rfl, rfl, _, _, rfl, rfl, tp, cl, ns, _, rfl, T, by omega, fun H' d k T' d0 d1 => ⟨_, _, rfl, rfl, q H' _ k T' ?_ ?_⟩⟩
    · omega
    · omega
end
end Sea
namespace Sea
open PySem PySem.Spec PyProof.Rows L2
def Sgn (c : Nat) : Prop := 33 ≤ c ∧ c ≤ 126 ∧ c ≠ 37
def Wd (l : List Nat) : Prop := l ≠ [] ∧ ∀ c ∈ l, Sgn c
def flat (ws : List (List Nat)) : List Nat := ws.flatMap fun w => 32 :: w
theorem flat_nil : flat [] = [] := rfl
theorem flat_cons (w : List Nat) (r : List (List Nat)) : flat (w :: r) = 32 :: (w ++ flat r) := rfl
theorem twin_word : ∀ (w r : List Nat), (∀ c ∈ w, c ≠ 32) → twin (w ++ r) = twin r
  | [], _, _ => rfl
  | a :: w, r, h => by
    have ha : a ≠ 32 := h a List.mem_cons_self
    have ih := twin_word w r fun c hc => h c (List.mem_cons_of_mem _ hc)
    have e : (a == 32) = false := beq_eq_false_iff_ne.mpr ha
    rw [← ih]
    show twin (a :: (w ++ r)) = twin (w ++ r)
    cases w ++ r with
    | nil => rfl
    | cons b r' =>
      show ((a == 32 && b == 32) || twin (b :: r')) = _
      rw [e]
      rfl
theorem Sgn.nb {c : Nat} (h : Sgn c) : c ≠ 32 := by have := h.1; omega
theorem twin_flat : ∀ ws : List (List Nat), (∀ w ∈ ws, Wd w) → twin (flat ws) = false
  | [], _ => rfl
  | w :: r, h => by
    have hw := h w List.mem_cons_self
    have ih := twin_flat r fun v hv => h v (List.mem_cons_of_mem _ hv)
    rw [flat_cons]
    obtain ⟨ne, hs⟩ := hw
    cases w with
    | nil => exact absurd rfl ne
    | cons b w =>
      have e : (b == 32) = false := beq_eq_false_iff_ne.mpr (hs b List.mem_cons_self).nb
      show ((32 == 32 && b == 32) || twin (b :: w ++ flat r)) = false
      rw [e, twin_word _ _ fun c hc => (hs c hc).nb, ih]
      rfl
theorem sign_flat {ws : List (List Nat)} (h : ∀ w ∈ ws, Wd w) : ∀ c ∈ flat ws, 32 ≤ c ∧ c ≤ 126 ∧ c ≠ 37 := by
  intro c hc
  obtain ⟨w, hw, q⟩ := List.mem_flatMap.mp hc
  rcases List.mem_cons.mp q with e | e
  · rw [e]; decide
  · have := (h w hw).2 c e
    exact ⟨by have := this.1; omega, this.2.1, this.2.2⟩
theorem join_cp : ∀ ws : List Str, cp (Str.join (Str.ofString " ") ws) = (flat (ws.map cp)).drop 1
  | [] => rfl
  | [x] => by
    show cp x = (flat [cp x]).drop 1
    rw [flat_cons, flat_nil, List.append_nil]
    rfl
  | x :: y :: r => by
    have ih := join_cp (y :: r)
    show cp (x ++ Str.ofString " " ++ Str.join (Str.ofString " ") (y :: r)) = _
    have e : cp (x ++ Str.ofString " " ++ Str.join (Str.ofString " ") (y :: r)) = cp x ++ cp (Str.ofString " ") ++ cp (Str.join (Str.ofString " ") (y :: r)) := by
      show ((x.cps ++ (Str.ofString " ").cps) ++ (Str.join (Str.ofString " ") (y :: r)).cps).toList = _
      rw [Array.toList_append, Array.toList_append]
    rw [e, ih, blank_cp]
    show cp x ++ [32] ++ (flat ((y :: r).map cp)).drop 1 = cp x ++ flat ((y :: r).map cp)
    rw [List.map_cons, flat_cons, List.append_assoc]
    rfl
theorem join0_cp : ∀ ws : List Str, cp (Str.join (Str.ofString "") ws) = (ws.map cp).flatten
  | [] => rfl
  | [x] => by
    show cp x = cp x ++ []
    rw [List.append_nil]
  | x :: y :: r => by
    have ih := join0_cp (y :: r)
    have z : cp (Str.ofString "") = [] := by decide +kernel
    have e : cp (x ++ Str.ofString "" ++ Str.join (Str.ofString "") (y :: r)) = cp x ++ cp (Str.ofString "") ++ cp (Str.join (Str.ofString "") (y :: r)) := by
      show ((x.cps ++ (Str.ofString "").cps) ++ (Str.join (Str.ofString "") (y :: r)).cps).toList = _
      rw [Array.toList_append, Array.toList_append]
    show cp (x ++ Str.ofString "" ++ Str.join (Str.ofString "") (y :: r)) = cp x ++ ((y :: r).map cp).flatten
    rw [e, ih, z, List.append_nil]
theorem signs_flat (cs : List Nat) : ((cs.map fun c => (⟨#[c]⟩ : Str)).map cp).flatten = cs := by
  induction cs with
  | nil => rfl
  | cons c r ih =>
    show [c] ++ ((r.map fun c => (⟨#[c]⟩ : Str)).map cp).flatten = c :: r
    rw [ih]
    rfl
theorem twin_take {l : List Nat} (n : Nat) (h : twin l = false) : twin (l.take n) = false := by
  rw [Bool.eq_false_iff] at h ⊢
  intro q
  obtain ⟨i, h1, h2⟩ := (twin_iff _).mp q
  refine h ((twin_iff _).mpr ⟨i, ?_, ?_⟩)
  · rw [List.getElem?_take] at h1
    split at h1
    · exact h1
    · cases h1
  · rw [List.getElem?_take] at h2
    split at h2
    · exact h2
    · cases h2
theorem twin_drop {l : List Nat} (n : Nat) (h : twin l = false) : twin (l.drop n) = false := by
  rw [Bool.eq_false_iff] at h ⊢
  intro q
  obtain ⟨i, h1, h2⟩ := (twin_iff _).mp q
  rw [List.getElem?_drop] at h1 h2
  exact h ((twin_iff _).mpr ⟨n + i, h1, h2⟩)
theorem strip_good {x : Str} (hl : x.length ≤ 60) (sg : ∀ c ∈ cp x, 32 ≤ c ∧ c ≤ 126 ∧ c ≠ 37) (tw : twin (cp x) = false) (nb : ∃ c ∈ cp x, c ≠ 32) :
    Good (cp (Txt.stripChars x (Str.ofString " "))) := by
  have goes : ∀ c : Nat, (Str.ofString " ").cps.contains c = (c == 32) := by
    intro c
    have e : (Str.ofString " ").cps = #[32] := by decide +kernel
    rw [e]
    by_cases h : c = 32
    · subst h
      simp
    · have : (c == 32) = false := beq_eq_false_iff_ne.mpr h
      rw [this]
      simp [h]
  unfold Txt.stripChars
  rw [stripBy_eq]
  obtain ⟨l1, l2, l3⟩ := lo_facts (Str.ofString " ").cps.contains x
  generalize hlo : stripLo (Str.ofString " ").cps.contains true x = lo at l1 l2 l3
  obtain ⟨h1, h2, h3, h4⟩ := hi_facts (Str.ofString " ").cps.contains x lo l1
  generalize hhi : stripHi (Str.ofString " ").cps.contains true x lo = hi at h1 h2 h3 h4
  have gd : ∀ k, k < x.length → (cp x)[k]? = some (x.cps.getD k 0) := by
    intro k hk
    have hk' : k < (cp x).length := by rw [cp_len]; exact hk
    rw [List.getElem?_eq_getElem hk', ← getD_list]
    simp [List.getD, List.getElem?_eq_getElem hk']
  -- lo < hi
  have lt : lo < hi := by
    refine Nat.lt_of_not_le fun hle => ?_
    obtain ⟨c, hc, hn⟩ := nb
    obtain ⟨k, hk⟩ := List.getElem?_of_mem hc
    have hkl : k < x.length := by
      have := (List.getElem?_eq_some_iff.mp hk).1
      rw [cp_len] at this
      exact this
    have e := (gd k hkl).symm.trans hk
    have e2 : x.cps.getD k 0 = c := Option.some.inj e
    rcases Nat.lt_or_ge k lo with q | q
    · have := l2 k q
      rw [goes, e2] at this
      exact hn (beq_iff_eq.mp this)
    · have := h3 k (by omega) hkl
      rw [goes, e2] at this
      exact hn (beq_iff_eq.mp this)
  have hcp : cp (Builtin.Str.strSub x lo hi) = ((cp x).drop lo).take (hi - lo) := PySem.StrLaws.strSub_toList x lo hi
  have hlen : (((cp x).drop lo).take (hi - lo)).length = hi - lo := by
    rw [List.length_take, List.length_drop, cp_len]
    omega
  have at_ : ∀ k, k < hi - lo → (((cp x).drop lo).take (hi - lo))[k]? = some (x.cps.getD (lo + k) 0) := by
    intro k hk
    rw [List.getElem?_take, if_pos hk, List.getElem?_drop]
    exact gd (lo + k) (by omega)
  rw [hcp]
  refine ⟨by rw [hlen]; omega, by rw [hlen]; omega, fun c hc => sg c (List.mem_of_mem_drop (List.mem_of_mem_take hc)), ?_, ?_, twin_take _ (twin_drop _ tw)⟩
  · rw [at_ 0 (by omega)]
    intro q
    have e : x.cps.getD (lo + 0) 0 = 32 := Option.some.inj q
    rcases l3 with z | z
    · omega
    · rw [goes, show lo = lo + 0 from rfl, e] at z
      cases z
  · rw [hlen, at_ (hi - lo - 1) (by omega)]
    intro q
    have e : x.cps.getD (lo + (hi - lo - 1)) 0 = 32 := Option.some.inj q
    rw [show lo + (hi - lo - 1) = hi - 1 by omega] at e
    rcases h4 with z | z
    · omega
    · rw [goes, e] at z
      cases z
theorem sIxN (n d k : Nat) (i : Int) (h : i = (k : Int)) : HT.sIx n d (some i) = min k n := by
  rw [h]
  exact HT.sIx_nat n d k
theorem cut60 {z : Str} {i : Int} (e : i = 60) : cp (cutS z none (some i)) = (cp z).take 60 := by
  subst e
  unfold cutS
  rw [HT.sIx_none, sIxN _ _ 60 60 rfl]
  show ((cp z).drop 0).take (min 60 z.length - 0) = _
  rw [List.drop_zero, Nat.sub_zero, ← cp_len]
  exact List.take_eq_take_min.symm
/-- of words, cut at 60 and stripped -/
theorem words_good {x : Str} {ws : List (List Nat)} (h : ∀ w ∈ ws, Wd w) (hne : ws ≠ []) (hx : cp x = ((flat ws).drop 1).take 60) : Good (cp (Txt.stripChars x (Str.ofString " "))) := by
  refine strip_good ?_ ?_ ?_ ?_
  · rw [← cp_len, hx, List.length_take]
    omega
  · rw [hx]
    exact fun c hc => sign_flat h c (List.mem_of_mem_drop (List.mem_of_mem_take hc))
  · rw [hx]
    exact twin_take _ (twin_drop _ (twin_flat ws h))
  · rw [hx]
    cases ws with
    | nil => exact absurd rfl hne
    | cons w r =>
      obtain ⟨ne, hs⟩ := h w List.mem_cons_self
      cases w with
      | nil => exact absurd rfl ne
      | cons b w =>
        refine ⟨b, ?_, (hs b List.mem_cons_self).nb⟩
        show b ∈ (b :: (w ++ flat r)).take 60
        exact List.mem_cons_self
end Sea
namespace Sea
open PySem PySem.Spec PyProof.Rows L2
abbrev SG : Str := Str.ofString "abcdefghijklmnopqrstuvwxyzABCDEFGHIJKLMNOPQRSTUVWXYZ0123456789!\"#$&'()*+,-./:;<=>?\x40[\\]^_`{|}~"
theorem sg_len : SG.length = 93 := by decide +kernel
theorem sg_all : ((cp SG).all fun c => decide (33 ≤ c) && (decide (c ≤ 126) && decide (c ≠ 37))) = true := by decide +kernel
theorem sg_sgn : ∀ c ∈ cp SG, Sgn c := fun c hc => by
  have h := List.all_eq_true.mp sg_all c hc
  obtain ⟨h1, h2⟩ := Bool.and_eq_true_iff.mp h
  obtain ⟨h2, h3⟩ := Bool.and_eq_true_iff.mp h2
  exact ⟨of_decide_eq_true h1, of_decide_eq_true h2, of_decide_eq_true h3⟩
theorem sg_line : SG.length ≤ sizeLine := by
  rw [sg_len]
  decide
theorem sg_at {d : Int} (h0 : 0 ≤ d) (h1 : d < (SG.length : Int) ∨ d = 0) : ∃ c, atI (cp SG) d = some c ∧ Sgn c := by
  obtain ⟨k, rfl⟩ : ∃ k : Nat, d = (k : Int) := ⟨d.toNat, by omega⟩
  have hk : k < (cp SG).length := by
    rw [cp_len, sg_len]
    rw [sg_len] at h1
    omega
  exact ⟨(cp SG)[k], atI_nat (List.getElem?_eq_getElem hk), sg_sgn _ (List.getElem_mem hk)⟩
def spTape (K : PySem.W.Frag) : Sp := fun vs H Q _ => ∃ (a : Addr) (ns : List Int), vs = [.ref a] ∧ SqL K H a (ns.map V.int) ∧ ns.length ≤ 63 ∧
  ∀ H' tp cl ns', Same H H' → Tape H' tp cl ns' → Q (.ref tp) H'
def spText : Sp := fun vs H Q _ => ∃ (tp cl : Addr) (ns : List Int) (most : Int), vs = [.ref tp, .int most] ∧ Tape H tp cl ns ∧ 1 ≤ most ∧ most ≤ 1000 ∧
  ∀ H' z, KB tp H H' → Tape H' tp cl ns → Good (cp z) → Q (.str z) H'
theorem sum_ones (cs : List Nat) : ((cs.map fun c => (⟨#[c]⟩ : Str)).map (·.length)).sum = cs.length := by
  induction cs with
  | nil => rfl
  | cons c r ih =>
    rw [List.map_cons, List.map_cons, List.sum_cons, ih, List.length_cons]
    show 1 + r.length = r.length + 1
    omega
theorem sum_le {ws : List Str} {n : Nat} (h : ∀ w ∈ ws, w.length ≤ n) : (ws.map (·.length)).sum ≤ ws.length * n := by
  induction ws with
  | nil => exact Nat.zero_le _
  | cons w r ih =>
    have h1 := h w List.mem_cons_self
    have h2 := ih fun v hv => h v (List.mem_cons_of_mem _ hv)
    rw [List.map_cons, List.sum_cons, List.length_cons, Nat.succ_mul]
    omega
theorem flat_len (ws : List (List Nat)) : (flat ws).length = (ws.map (·.length)).sum + ws.length := by
  induction ws with
  | nil => rfl
  | cons w r ih =>
    rw [flat_cons, List.length_cons, List.length_append, ih, List.map_cons, List.sum_cons, List.length_cons]
    omega
/-- the word that signs make -/
theorem word_cp (cs : List Nat) : cp (Txt.join (Str.ofString "") (cs.map fun c => (⟨#[c]⟩ : Str))) = cs := by
  rw [TL.join_eq, join0_cp, signs_flat]
section
variable {P : Program} {w : World} {K : PySem.W.Frag} {mg : Str → Option Value} {base : Heap}
theorem ok_tape {f : Addr} {fd : FuncData} (F : Fun K "_law_tape" "_law_tape" s__law_tape f fd) (m_abs : mg "abs" = none) (m_int : mg "int" = none) :
    FnOk P w K mg base CX0 1 f fd ["_law_script"] (spTape K) := by
  refine F.ok sc__law_tape (fun vs H Q E h => ?_) (fun cdv A outer s H vs Q E hr h => ?_)
  · obtain ⟨a, ns, rfl, _⟩ := h
    rfl
  · obtain ⟨a, ns, rfl, hS, hlen, q⟩ := h
    refine ⟨_, (pss_cons (ps_setLc (i := 1) (own := [("_law_cell", 2)]) rfl sc__law_tape.nd rfl rfl (sw_true rfl rfl rfl (by decide +kernel)) (pi_list (pv 0)) (blkOk_by (N := N__law_tape) (sc := defScope s__law_tape) (by decide +kernel)) (fun _ _ _ _ _ => (pg_name (i := 2) sc__law_tape.nd rfl (Or.inl rfl))) (fun _ _ _ _ _ => pts_nil) (fun _ _ _ _ _ => (pe_op op_modN (pe_callB call_abs (by rfl) m_abs (by decide +kernel) (pa_cons (pe_callTy call_int1 (by rfl) m_int (by decide +kernel) (pa_cons (pv 2) pa_nil)) pa_nil)) (pe_op op_powB (pe_op op_pow (pe_int) (pe_int)) (pe_int)))))
    (pss_one (ps_ret (pe_lst (pa_cons (pv 1) (pa_cons (pe_int) (pa_cons (pe_int) (pa_cons (pe_int) (pa_cons (pe_int) pa_nil))))))))), ?_⟩
    refine ⟨_, rfl, a, rfl, ⟨_, hS⟩, fun D hD => ?_⟩
    refine lc_list (K := K) (a := a) (xs := ns.map V.int) (fun j H' => Same H H' ∧ ∃ ms : List Int, H' D = some (.lst (ms.map V.int)) ∧ ms.length = j ∧ ∀ n ∈ ms, 0 ≤ n) ⟨same_new hD, [], upd_same, rfl, fun _ h => nomatch h⟩ (fun j H' _ hq => hq.1.seq hS) ?_ ?_
    · rintro j y H' hy ⟨hs, ms, hd, hm, hn⟩
      obtain ⟨n, hn', rfl⟩ : ∃ n, ns[j]? = some n ∧ y = V.int n := by
        rw [List.getElem?_map] at hy
        cases qq : ns[j]? with
        | none => rw [qq] at hy; cases hy
        | some n => rw [qq] at hy; exact ⟨n, rfl, (Option.some.inj hy).symm⟩
      have hj : j < ns.length := (List.getElem?_eq_some_iff.mp hn').1
      refine ⟨rfl, _, rfl, .inl ⟨_, rfl, _, rfl, _, _, rfl, rfl, ⟨by decide, by decide, by decide⟩, _, _, rfl, rfl, ⟨by decide, by decide +kernel⟩, _, _, rfl, rfl, ?_, _, hd, ?_, same_over hs hD, ms ++ [(if n < 0 then -n else n).fmod ((10 ^ (60 : Int).toNat) ^ (20 : Int).toNat)], ?_, ?_, ?_⟩⟩
      · show ((10 ^ (60 : Int).toNat) ^ (20 : Int).toNat : Int) ≠ 0
        decide +kernel
      · rw [List.length_map]
        exact small_line (by omega)
      · rw [upd_same, List.map_append]
        rfl
      · rw [List.length_append, hm]
        rfl
      · intro m hm'
        rcases List.mem_append.mp hm' with h | h
        · exact hn m h
        · rw [List.mem_singleton.mp h]
          exact Int.fmod_nonneg_of_pos _ (by decide +kernel)
    · rintro H' ⟨hs, ms, hd, hm, hn⟩
      refine ⟨_, rfl, (by show 5 ≤ sizeLine; decide), fun p hp => ?_⟩
      have ne : D ≠ p := ne_of_none hd hp
      exact q _ p D ms (hs.trans (same_new hp)) ⟨⟨0, 0, 7, 0, upd_same, by decide, by decide, ⟨by decide, by decide⟩, by decide⟩, by rw [upd_ne ne]; exact hd, ne, hn⟩
theorem ok_text {f : Addr} {fd : FuncData} (F : Fun K "_law_text" "_law_text" s__law_text f fd) (m_range : mg "range" = none) (m_len : mg "len" = none)
    (c__law_pick : Cal P w K mg base 1 "_law_pick" spPick) (c__law_some : Cal P w K mg base 2 "_law_some" spSome) : FnOk P w K mg base CX0 3 f fd ["_law_tape_here", "_law_most"] spText := by
  refine F.ok sc__law_text (fun vs H Q E h => ?_) (fun cdv A outer s H vs Q E hr h => ?_)
  · obtain ⟨tp, cl, ns, most, rfl, _⟩ := h
    rfl
  · obtain ⟨tp, cl, ns, most, rfl, T, h1, h2, q⟩ := h
    refine ⟨_, (pss_cons (ps_set (i := 2) sc__law_text.nd rfl (Or.inr rfl) (pe_str))
    (pss_cons (ps_set (i := 3) sc__law_text.nd rfl (Or.inl rfl) (pe_lst pa_nil))
    (pss_cons (ps_for PassesOwn.never rfl (pi_range1 (by rfl) m_range (pa_cons (pe_c c__law_some hr (by decide) rfl (pa_cons (pv 0) (pa_cons (pe_int) (pa_cons (pv 1) pa_nil)))) pa_nil)) (pg_name (i := 4) sc__law_text.nd rfl (Or.inl rfl))
    (pss_one (ps_expr (pe_bm PySem.F.plainAttrs_list PySem.F.slot_list_append PySem.F.type_list_append mt_append (pv 3) (pa_cons (pe_join (pe_str) (pe_lc (own := [("_law_at", 5)]) rfl sc__law_text.nd (pi_range1 (by rfl) m_range (pa_cons (pe_c c__law_some hr (by decide) rfl (pa_cons (pv 0) (pa_cons (pe_int) (pa_cons (pe_int) pa_nil)))) pa_nil)) (blkOk_by (N := N__law_text) (sc := defScope s__law_text) (by decide +kernel)) (fun _ _ _ _ _ => (pg_name (i := 5) sc__law_text.nd rfl (Or.inl rfl))) (fun _ _ _ _ _ => pts_nil) (fun _ _ _ _ _ => (pe_ix ix_str (pv 2) (pe_c c__law_pick hr (by decide) rfl (pa_cons (pv 0) (pa_cons (pe_callB call_len_str (by rfl) m_len (by decide +kernel) (pa_cons (pv 2) pa_nil)) pa_nil))) (fun _ _ => rfl))))) pa_nil)))))
    (pss_one (ps_ret (pe_bm PySem.F.plainAttrs_str PySem.F.slot_str_strip PySem.F.type_str_strip mt_stripChars (pe_slice sl_str (pe_join (pe_str) (pv 3)) po_none (po_some (pe_int))) (pa_cons (pe_str) pa_nil))))))), ?_⟩
    refine ⟨Nat.zero_le _, fun wl hwl => ?_⟩
    have T0 : Tape (upd H wl (.lst [])) tp cl ns := T.new hwl
    obtain ⟨nt, nc⟩ := T.fresh hwl
    refine ⟨_, rfl, _, rfl, tp, cl, ns, 1, most, rfl, T0, h1, by omega, fun H1 d k1 T1 d0 d1 => ⟨d, rfl, by omega, by omega, ?_⟩⟩
    have hw1 : H1 wl = some (.lst []) := k1 wl _ nt.symm upd_same
    have k01 : KB tp H H1 := fun b o n e => k1 b o n (by rw [upd_ne (ne_of_none e hwl)]; exact e)
    refine for_it (walk_range (lo := 0) (n := d.toNat)) (fun i σ H' => ∃ k4, σ = [some (.ref tp), some (.int most), some (.str SG), some (.ref wl), k4, none] ∧ KB tp H H' ∧ Tape H' tp cl ns ∧
      ∃ ws : List Str, H' wl = some (.lst (ws.map V.str)) ∧ ws.length = i ∧ ∀ v ∈ ws, Wd (cp v) ∧ v.length ≤ 6) ⟨none, rfl, k01, T1, [], hw1, rfl, fun _ h => nomatch h⟩ (fun _ _ _ _ _ => trivial) ?_ ?_
    · rintro i x σ Ha Hb hi ⟨k4, rfl, ka, Ta, ws, hw, hwl', hwd⟩ ⟨rfl, rfl⟩
      refine ⟨_, rfl, .inl ⟨rfl, _, SqL.of hw⟩, ⟨_, rfl⟩, _, rfl, tp, cl, ns, 1, 6, rfl, Ta, by decide, by decide, fun Hc d2 kc Tc e0 e1 => ⟨d2, rfl, by omega, by omega, fun D hD => ?_⟩⟩
      have hwc : Hc wl = some (.lst (ws.map V.str)) := kc wl _ nt.symm hw
      have nD := Tc.fresh hD
      refine lc_range (lo := 0) (n := d2.toNat) (fun j H' => KB tp Hc H' ∧ Tape H' tp cl ns ∧ ∃ cs : List Nat, H' D = some (.lst ((cs.map fun c => (⟨#[c]⟩ : Str)).map V.str)) ∧ cs.length = j ∧ ∀ c ∈ cs, Sgn c)
        ⟨(KB.refl _ _).over hD, Tc.new hD, [], upd_same, rfl, fun _ h => nomatch h⟩ ?_ ?_
      · rintro j H' hj ⟨kj, Tj, cs, hd, hcl, hcs⟩
        refine ⟨rfl, _, rfl, _, rfl, _, rfl, SG, rfl, sg_line, tp, cl, ns, _, rfl, Tj, (by rw [sg_len]; decide), fun H3 d3 k3 T3 p0 p1 => ?_⟩
        obtain ⟨c, hc, hsg⟩ := sg_at p0 p1
        have hd3 : H3 D = some (.lst ((cs.map fun c => (⟨#[c]⟩ : Str)).map V.str)) := k3 D _ nD.1.symm hd
        refine ⟨SG, d3, c, rfl, rfl, sg_line, hc, _, hd3, ?_, (kj.trans k3).over hD, T3.other nD.1 nD.2, cs ++ [c], ?_, ?_, ?_⟩
        · rw [List.length_map, List.length_map]
          exact small_line (by omega)
        · rw [upd_same, List.map_append, List.map_append]
          rfl
        · rw [List.length_append, hcl]
          rfl
        · intro c' hc'
          rcases List.mem_append.mp hc' with h | h
          · exact hcs c' h
          · rw [List.mem_singleton.mp h]
            exact hsg
      · rintro H' ⟨kj, Tj, cs, hd, hcl, hcs⟩
        have hw' : H' wl = some (.lst (ws.map V.str)) := kj wl _ nt.symm hwc
        refine ⟨_, D, _, rfl, rfl, .inl (SqL.of hd), ?_, wl, _, _, rfl, rfl, hw', ?_, _, rfl, ?_, Tj.other nt nc, ws ++ [Txt.join (Str.ofString "") (cs.map fun c => (⟨#[c]⟩ : Str))], ?_, ?_, ?_⟩
        · rw [sum_ones, List.length_map]
          have : (Str.ofString "").length = 0 := by decide +kernel
          rw [this]
          omega
        · rw [List.length_map, hwl']
          exact small_line (by omega)
        · exact fun b o n e => by
            rw [upd_ne (ne_of_none e hwl)]
            exact kj b o n (kc b o n (ka b o n e))
        · rw [upd_same, List.map_append]
          rfl
        · rw [List.length_append, hwl']
          rfl
        · intro v hv
          rcases List.mem_append.mp hv with h | h
          · exact hwd v h
          · rw [List.mem_singleton.mp h, word_cp]
            refine ⟨⟨fun e => ?_, hcs⟩, ?_⟩
            · rw [e] at hcl
              have : d2.toNat = 0 := hcl.symm
              omega
            · rw [← cp_len, word_cp, hcl]
              omega
    · rintro σ H' ⟨k4, rfl, ka, Ta, ws, hw, hwl', hwd⟩
      have hn : ws.length ≤ 1000 := by omega
      have hsum : (ws.map (·.length)).sum ≤ 6000 := Nat.le_trans (sum_le (n := 6) fun v hv => (hwd v hv).2) (by omega)
      have hflat : (flat (ws.map cp)).length ≤ 7000 := by
        rw [flat_len]
        have e : (ws.map cp).map (·.length) = ws.map (·.length) := by
          rw [List.map_map]
          exact List.map_congr_left fun v _ => cp_len v
        rw [e, List.length_map]
        omega
      have hW : ∀ v ∈ ws.map cp, Wd v := fun v hv => by
        obtain ⟨u, hu, rfl⟩ := List.mem_map.mp hv
        exact (hwd u hu).1
      have hne : ws.map cp ≠ [] := fun e => by
        have := congrArg List.length e
        rw [List.length_map, hwl'] at this
        have : d.toNat = 0 := this
        omega
      have hj : cp (Txt.join (Str.ofString " ") ws) = (flat (ws.map cp)).drop 1 := by rw [TL.join_eq, join_cp]
      have hc : cp (cutS (Txt.join (Str.ofString " ") ws) none (some 60)) = ((flat (ws.map cp)).drop 1).take 60 := by rw [cut60 rfl, hj]
      refine ⟨⟨_, rfl⟩, _, rfl, _, wl, ws, rfl, rfl, .inl (SqL.of hw), ?_, _, rfl, _, rfl, ?_, rfl, _, _, rfl, rfl, ?_, q H' _ ka Ta (words_good hW hne hc)⟩
      · have : (Str.ofString " ").length = 1 := by decide +kernel
        rw [this]
        omega
      · rw [← cp_len, hj, List.length_drop]
        exact Nat.le_of_lt (small_line (by omega))
      · rw [← cp_len, hc, List.length_take]
        exact Nat.le_of_lt (small_line (by omega))
end
end Sea
namespace Sea
open PySem PySem.Spec PyProof.Rows L2
/-- the text that an entry holds -/
def keyT (e : Int × Value) : Str := strOf e.2
def TxtE (P : Program) (w : World) (e : Int × Value) : Prop := ∃ (k : Str) (tk : Tok), e.2 = Value.str k tk ∧ e.1 = (PySem.strKind P w).hash k
/-- the set at a holds the texts xs, each once -/
structure SetT (P : Program) (w : World) (h : Heap) (a : Addr) (xs : List Str) : Prop where
  ex : ∃ (o : Obj) (es : Array (Int × Value)) (ep : Nat) (t : SetTable), h.get? a = some o ∧ o.ExactSet ∧ o.data = .set es ep t ∧ (∀ e ∈ es.toList, TxtE P w e) ∧ (es.toList.map keyT).Nodup ∧
    (∀ k, k ∈ es.toList.map keyT ↔ k ∈ xs) ∧ es.size ≤ xs.length ∧ t.fits es.size = true ∧ Ris t.place.toList ∧ (w.params.followText "set-order" = true ∨ t.led = true)
section
variable {P : Program} {w : World}
theorem txt_elems {l : List (Int × Value)} (g : ∀ e ∈ l, TxtE P w e) : ElemsOf (PySem.strKind P w) l := fun e he => by
  obtain ⟨k, tk, h1, h2⟩ := g e he
  exact ⟨⟨k, by rw [h1]; exact strKind_is _ _ _ _, h2⟩, by rw [h1] <;> rfl⟩
theorem txt_is {e : Int × Value} (g : TxtE P w e) (k : Str) : (PySem.strKind P w).is k e.2 = true ↔ keyT e = k := by
  obtain ⟨k0, tk, h1, _⟩ := g
  unfold keyT
  rw [h1]
  constructor
  · exact fun q => (PySem.strKind P w).inj _ _ _ (strKind_is P w k0 tk) q
  · rintro rfl
    exact strKind_is _ _ _ _
theorem txt_mem {l : List (Int × Value)} (g : ∀ e ∈ l, TxtE P w e) (k : Str) : k ∈ l.map keyT ↔ ∃ e ∈ l, (PySem.strKind P w).is k e.2 = true := by
  rw [List.mem_map]
  exact ⟨fun ⟨e, he, q⟩ => ⟨e, he, (txt_is (g e he) k).2 q⟩, fun ⟨e, he, q⟩ => ⟨e, he, (txt_is (g e he) k).1 q⟩⟩
theorem SetT.keep {h h' : Heap} {a : Addr} {xs : List Str} (R : SetT P w h a xs) (k : ∀ o, h.get? a = some o → h'.get? a = some o) : SetT P w h' a xs := by
  obtain ⟨o, es, ep, t, ho, r⟩ := R.ex
  exact ⟨o, es, ep, t, k o ho, r⟩
variable {A : Around} {E : Value → Shared → Prop} {s : Shared} {a : Addr} {xs : List Str}
/-- the entry laid, and the table made anew where it is too full -/
theorem lay_tail {g : Bool → Sem Unit} (hg : ∀ (b : Bool) (s1 : Shared) (Q' : Unit → Shared → Prop), Q' () s1 → wpAny (model P w) A (g b) Q' E s1)
    {o : Obj} {es es1 : Array (Int × Value)} {ep : Nat} {t t2 : SetTable} {ys : List Str} (ho : s.heap.get? a = some o) (hex : o.ExactSet) (hd : o.data = .set es ep t)
    (g1 : ∀ e ∈ es1.toList, TxtE P w e) (nd : (es1.toList.map keyT).Nodup) (m1 : ∀ k, k ∈ es1.toList.map keyT ↔ k ∈ ys) (hz : es1.size ≤ ys.length) (hb : ys.length < scanBound)
    (hf : t2.fits es1.size = true) (hr : Ris t2.place.toList) (hl : w.params.followText "set-order" = true ∨ t2.led = true) {dummy : Bool} {R : Option Bool → Shared → Prop}
    (hR : ∀ h', Heap.SameBut a s.heap h' → SetT P w h' a ys → R (some true) { s with heap := h' }) :
    wpAny (model P w) A (do
        storeSet a es1 t2
        if (!dummy && t2.tooFull) = true then do
            g (relayAll t2 es1 (SetTable.grown es1.size)).2.2
            storeSet a (relayAll t2 es1 (SetTable.grown es1.size)).1 (relayAll t2 es1 (SetTable.grown es1.size)).2.1
            pure (some true)
          else pure (some true)) R E s := by
  have hb1 : es1.size < scanBound := Nat.lt_of_le_of_lt hz hb
  refine wpAny_bind (wpAny_storeSet_of ho hd ?_ (fits_of_scanBound hb1))
  have o1 := store_at (es' := es1) (t' := t2) ho hd
  have sb := Heap.SameBut.update s.heap a (Obj.putSet es1 t2)
  by_cases full : (!dummy && t2.tooFull) = true
  · rw [if_pos full]
    have pm := relayAll_perm t2 es1 (SetTable.grown es1.size)
    have f3 := relayAll_fits t2 es1 (SetTable.grown es1.size)
    have r3 := relayAll_ris t2 es1 (SetTable.grown es1.size)
    have l3 := relayAll_led t2 es1 (SetTable.grown es1.size)
    generalize relayAll t2 es1 (SetTable.grown es1.size) = Z at pm f3 r3 l3 ⊢
    obtain ⟨es2, t3, gave⟩ := Z
    dsimp only at pm f3 r3 l3 ⊢
    have same : es2.size = es1.size := by rw [← Array.length_toList, pm.length_eq, Array.length_toList]
    refine wpAny_bind (hg _ _ _ (wpAny_bind (wpAny_storeSet_of o1 rfl ?_ (fits_of_scanBound (by rw [same]; exact hb1)))))
    refine wpAny_pure (hR _ (sb.trans (Heap.SameBut.update _ a _)) ⟨_, es2, _, t3, store_at (es' := es2) (t' := t3) o1 rfl, hex, rfl, fun e he => g1 e (pm.mem_iff.mp he),
      (pm.map keyT).nodup_iff.mpr nd, fun k => (pm.map keyT).mem_iff.trans (m1 k), by rw [same]; exact hz, f3, r3, hl.imp id fun q => by rw [l3]; exact q⟩)
  · rw [if_neg full]
    exact wpAny_pure (hR _ sb ⟨_, es1, _, t2, o1, hex, rfl, g1, nd, m1, hz, hf, hr, hl⟩)
theorem add_text {k : Str} {tk : Tok} {Q : Bool → Shared → Prop} (R : SetT P w s.heap a xs) (room : xs.length + 1 < scanBound)
    (hQ : ∀ h' b, Heap.SameBut a s.heap h' → SetT P w h' a (xs ++ [k]) → Q b { s with heap := h' }) :
    wpAny (model P w) A (setAddHashed a (.str k tk) ((PySem.strKind P w).hash k)) Q E s := by
  obtain ⟨o, es, ep, t, ho, hex, hd, g, nd, hm, hz, hf, hr, hl⟩ := R.ex
  have hb : es.size < scanBound := by omega
  have hkey : (PySem.strKind P w).is k (.str k tk) = true := strKind_is _ _ _ _
  have hsc : (Value.str k tk).scannable = true := rfl
  have hel : ElemsOf (PySem.strKind P w) es.toList := txt_elems g
  unfold setAddHashed setAddHashedIn
  refine wpAny_holding (wpAny_bind (wpAny_setState_of ho hd hf ?_))
  dsimp only
  rw [byScan_of hsc hb hel]
  simp only [↓reduceIte]
  unfold setAddByScan
  refine wpAny_bind (wpAny_bind (wpAny_rule (wpAny_bind (wpAny_setScan_of hkey ho hd hf hel ?_))))
  cases hfi : List.findIdx? (fun e => (PySem.strKind P w).is k e.2) es.toList with
  | some j =>
    dsimp only
    obtain ⟨hj, pj, _⟩ := List.findIdx?_eq_some_iff_getElem.mp hfi
    have kin : k ∈ xs := (hm k).1 ((txt_mem g k).2 ⟨es.toList[j], List.getElem_mem hj, pj⟩)
    refine wpAny_pure (wpAny_pure (hQ s.heap _ (Heap.SameBut.refl a s.heap) ⟨o, es, ep, t, ho, hex, hd, g, nd, fun i => (hm i).trans ?_, by rw [List.length_append]; omega, hf, hr, hl⟩))
    rw [List.mem_append, List.mem_singleton]
    exact ⟨.inl, fun q => q.elim id fun e => e ▸ kin⟩
  | none =>
    dsimp only
    have kout : k ∉ es.toList.map keyT := fun q => by
      obtain ⟨e, he, q⟩ := (txt_mem g k).1 q
      have c := List.findIdx?_eq_none_iff.mp hfi e he
      rw [q] at c
      cases c
    have gw : ∀ (b : Bool) {s1 : Shared} {Q' : Unit → Shared → Prop}, Q' () s1 → wpAny (model P w) A (match b with | true => rule "set.scan.the-table-gave-way" | false => pure ()) Q' E s1 :=
      fun b s1 Q' q => by cases b <;> first | exact wpAny_pure q | exact wpAny_rule q
    have pm := layNew_perm t es ((PySem.strKind P w).hash k) (.str k tk)
    have f1 := layNew_fits t es ((PySem.strKind P w).hash k) (.str k tk)
    have r1 := layNew_ris t es ((PySem.strKind P w).hash k) (.str k tk) hr
    have l1 := layNew_led t es ((PySem.strKind P w).hash k) (.str k tk)
    generalize layNew t es ((PySem.strKind P w).hash k) (.str k tk) = Z at pm f1 r1 l1 ⊢
    obtain ⟨es1, t1, dummy, gave⟩ := Z
    dsimp only at pm f1 r1 l1 ⊢
    rw [Array.toList_push] at pm
    have pc : es1.toList.Perm (((PySem.strKind P w).hash k, Value.str k tk) :: es.toList) := pm.trans (List.perm_append_singleton _ _)
    have pk : (es1.toList.map keyT).Perm (k :: es.toList.map keyT) := pc.map keyT
    have g1 : ∀ e ∈ es1.toList, TxtE P w e := fun e he => by
      rcases List.mem_cons.mp (pc.mem_iff.mp he) with q | q
      · rw [q]; exact ⟨k, tk, rfl, rfl⟩
      · exact g e q
    have nd1 : (es1.toList.map keyT).Nodup := pk.nodup_iff.mpr (List.nodup_cons.mpr ⟨kout, nd⟩)
    have m1 : ∀ i, i ∈ es1.toList.map keyT ↔ i ∈ xs ++ [k] := fun i => by
      rw [pk.mem_iff, List.mem_cons, hm i, List.mem_append, List.mem_singleton]
      exact Or.comm
    have z1 : es1.size ≤ (xs ++ [k]).length := by
      rw [← Array.length_toList, pc.length_eq, List.length_cons, Array.length_toList, List.length_append]
      exact Nat.succ_le_succ hz
    have b1 : (xs ++ [k]).length < scanBound := by rw [List.length_append]; exact room
    have led1 : w.params.followText "set-order" = true ∨ t1.led = true := hl.imp id fun q => by rw [l1]; exact q
    refine wpAny_bind (gw _ ?_)
    split
    · refine wpAny_bind ?_
      rw [hashByValue_scannable 8 hsc]
      refine wpAny_pure (lay_tail ?_ ho hex hd g1 nd1 m1 z1 b1 ?_ ?_ ?_ ?_)
      · intro b s1 Q' q; cases b <;> first | exact wpAny_pure q | exact wpAny_rule q
      · first | (split <;> first | exact f1 | exact SetTable.fits_plain_off f1) | exact f1
      · first | (split <;> exact r1) | exact r1
      · first | (split <;> exact led1) | exact led1
      · intro h' sb r; dsimp only; exact wpAny_pure (hQ h' _ sb r)
    · refine wpAny_bind (wpAny_pure ?_)
      simp only [↓reduceIte]
      refine lay_tail ?_ ho hex hd g1 nd1 m1 z1 b1 f1 r1 led1 ?_
      · intro b s1 Q' q; cases b <;> first | exact wpAny_pure q | exact wpAny_rule q
      · intro h' sb r; dsimp only; exact wpAny_pure (hQ h' _ sb r)
end
end Sea
namespace Sea
open PySem PySem.Spec PyProof.Rows L2
section
variable {P : Program} {w : World} {A : Around} {R : Result → Shared → Prop} {I : Addr} {fp wr : List Addr} {G : Array GenState → Array GenState → Prop} {n : Nat} {Pv : Nat → Value → Prop} {St : Nat → Shared → Prop}
theorem fill_texts (W : WalksS P w A.in1 I fp wr G n Pv St) (S : Addr) (hS : S ∉ fp) (xs : List Str) (hn : xs.length = n) (hfew : n < 4000)
    (hval : ∀ i v, Pv i v → ∃ t, v = .str (xs.getD i Str.empty) t) :
    ∀ (k i : Nat) (s : Shared), n - i = k → i ≤ n → St i s → SetT P w s.heap S (xs.take i) →
      (∀ s', Moved (S :: wr) G s s' → SetT P w s'.heap S xs → R (.ok (.ret .none)) s') →
      codeAny (model P w) A (.builtin "set.update.loop" ⟨[.ref S, .ref I], []⟩) R s := by
  have out : S ∉ wr := fun h => hS (W.sub _ h)
  have more : ∀ b ∈ wr, b ∈ S :: wr := fun b hb => List.mem_cons_of_mem _ hb
  intro k
  induction k with
  | zero =>
    intro i s hk hi hst hT hR
    have e : i = n := by omega
    subst e
    rw [← hn, List.take_length] at hT
    refine codeAny_builtin PyProof.Rows.F.entry_set_update_loop ?_
    rw [Around.under_plainId PyProof.Rows.F.plain_set_update_loop _]
    exact wpAny_bind (W.done s _ _ hst fun s' hm => wpAny_pure (hR s' (hm.mono more) (hT.keep fun o => hm.heap S o out)))
  | succ k ih =>
    intro i s hk hi hst hT hR
    have lt : i < n := by omega
    refine codeAny_builtin PyProof.Rows.F.entry_set_update_loop ?_
    rw [Around.under_plainId PyProof.Rows.F.plain_set_update_loop _]
    refine wpAny_bind (W.item i s _ _ lt hst fun v s' hP hst' hm => ?_)
    obtain ⟨t, rfl⟩ := hval i v hP
    have hT' : SetT P w s'.heap S (xs.take i) := hT.keep fun o => hm.heap S o out
    show wpAny _ A.in1 (holding [Value.str (xs.getD i Str.empty) t] (setAdd S (.str (xs.getD i Str.empty) t)) >>= _) _ _ s'
    refine wpAny_bind (wpAny_holding ?_)
    unfold setAdd
    refine wpAny_holding (wpAny_bind ((PySem.strKind P w).pyHash (k := xs.getD i Str.empty) (strKind_is _ _ _ _) ?_))
    refine add_text (s := { s' with toks := s'.toks + 1 }) hT' (by
      have := List.length_take_le' i xs
      unfold scanBound
      omega) fun h' b sb hT2 => ?_
    have step : xs.take i ++ [xs.getD i Str.empty] = xs.take (i + 1) := by
      have hl : i < xs.length := by omega
      rw [List.take_add_one, List.getD_eq_getElem?_getD, List.getElem?_eq_getElem hl]
      rfl
    rw [step] at hT2
    refine wpAny_pure ⟨plainId_quiet PyProof.Rows.F.plain_set_update_loop _, ih (i + 1) _ (by omega) lt (W.frame _ s' _ _ hst' (Nat.le_succ _) fun b hb o e => ?_) hT2 fun s2 hm2 hT3 => ?_⟩
    · rw [sb.2 b (fun q : b = S => hS (q ▸ hb))]
      exact e
    · refine hR s2 (Moved.trans W.gtrans ((hm.mono more).then_heap (Nat.le_succ _) fun b o hb e => ?_) hm2) hT3
      rw [sb.2 b (fun q : b = S => hb (q ▸ List.mem_cons_self))]
      exact e
end
section
variable {P : Program} {w : World} {A : Around} {E : Value → Shared → Prop} {s : Shared}
theorem setT_fresh {h : Heap} {a : Addr} (ho : h.get? a = some { cls := .type "set", dict := none, data := .set #[] 0 (.fresh 0 0 (!w.params.followText "set-order")) }) : SetT P w h a [] :=
  ⟨_, #[], 0, _, ho, ⟨rfl, rfl, rfl⟩, rfl, (fun e he => by simp at he), (by simp), (fun k => by simp), (Nat.le_refl _), (by rfl), List.Pairwise.nil, by
    show _ ∨ (!w.params.followText "set-order") = true
    cases w.params.followText "set-order"
    · exact .inr rfl
    · exact .inl rfl⟩
/-- a fresh set -/
abbrev SET0 (w : World) : Obj := { cls := .type "set", dict := none, data := .set #[] 0 (.fresh 0 0 (!w.params.followText "set-order")) }
theorem set_of_texts {l : Addr} {items : Array Value} {xs : List Str} {Q : Value → Shared → Prop} (hh : A.handled = none) (hl : s.heap.IsList l items) (hi : PyProof.Rows.StrsAre items.toList xs) (hfew : xs.length < 4000)
    (h : ∀ (h' : Heap) (tk : Nat), SetT P w h' s.heap.objs.size xs → (∀ b o, b < s.heap.objs.size → s.heap.get? b = some o → h'.get? b = some o) → Q (.ref s.heap.objs.size) { s with heap := h', toks := tk }) :
    wpAny (model P w) A (call (.type "set") [.ref l]) Q E s := by
  obtain ⟨c, tl, hmro⟩ := PySem.F.called_set.mro
  have hmade := PySem.F.called_set.made
  have hsub := PySem.F.called_set.sub
  refine wpAny_call (codeAny_of_tree ?_)
  show wpAny _ _ (callAny (.type "set") _) _ _ _
  refine wpAny_pure ⟨Code.quiet_builtin _ (by decide +kernel), codeAny_builtin PySem.F.entry_type_call ?_⟩
  rw [Around.under_plain (weight_type_call_type "set" [.ref l] []) rfl]
  have h1 := PySem.F.called_set.notType
  have h2 := PySem.F.called_set.canCreate
  have hct := PySem.F.typeCall_set_1 (.ref l)
  repeat (any_goals (first | assumption | wp_step))
  refine codeAny_mono (code_set_led1 (.ref l) (E := E) (Q₁ := fun obj s1 => obj = .ref s.heap.objs.size ∧ s1 = { s with heap := s.heap.push (SET0 w) }) ⟨rfl, rfl⟩) fun r s1 hr => ?_
  cases r with
  | error e => exact hr
  | ok fl =>
    cases fl with
    | next => exact hr.elim
    | brk => exact hr.elim
    | cont => exact hr.elim
    | ret obj =>
      obtain ⟨rfl, rfl⟩ := hr
      have hS : (s.heap.push (SET0 w)).get? s.heap.objs.size = some (SET0 w) := Heap.get?_push_size _ rfl
      have hT : Shared.TypeIs { s with heap := s.heap.push (SET0 w) } (.ref s.heap.objs.size) "set" := ⟨_, hS, rfl⟩
      have hli := PySem.F.called_set.init.lookup
      have hbi := PySem.F.called_set.init.bind (.ref s.heap.objs.size)
      repeat (any_goals (first | assumption | wp_step))
      refine codeAny_mono (codeAny_call_builtin (R := wants (fun r s2 => r = .none ∧ ∃ h' tk, s2 = { s with heap := h', toks := tk } ∧ SetT P w h' s.heap.objs.size xs ∧
          (∀ b o, b < s.heap.objs.size → s.heap.get? b = some o → h'.get? b = some o)) E) PySem.F.called_set.init.plain PySem.F.entry_set_init (check_set_init_1 hT ?_)) fun r2 s2 hr2 => ?_
      · obtain ⟨ol, hol, hcl, nl, hdl⟩ := hl
        obtain ⟨ocls, odict, odata, oslots⟩ := ol
        simp only at hcl hdl
        subst hcl
        subst hdl
        have hol' : (s.heap.push (SET0 w)).get? l = some { cls := .type "list", dict := odict, data := .seq items nl, slots := oslots } := Heap.get?_push_of_some _ hol
        have hsls := PySem.F.sub_list_set
        have hslf := PySem.F.sub_list_frozenset
        have hne : (Value.type "list" == Value.type "dict") = false := by decide
        have hl1 : (s.heap.push (SET0 w)).IsList l items := ⟨_, hol', rfl, nl, rfl⟩
        unfold Builtin.«set.__init__» noKeywords Builtin.Frozenset.updateFrom
        generalize hPI : pyIter = PI
        wp_walk
        subst hPI
        refine wpAny_pyIter_list hl1 (wpAny_bind (wpAny_runValue ?_))
        have lS : l < s.heap.objs.size := Heap.lt_size hol
        have hh3 : A.in1.in1.in1.handled = none := by simp [hh]
        have nI : l ≠ (s.heap.push (SET0 w)).objs.size := by
          rw [Heap.size_push]
          exact Nat.ne_of_lt (Nat.lt_succ_of_lt lS)
        have nS : s.heap.objs.size ∉ [(s.heap.push (SET0 w)).objs.size, l] := by
          rw [Heap.size_push]
          simp only [List.mem_cons, List.not_mem_nil, or_false, not_or]
          exact ⟨Nat.ne_of_lt (Nat.lt_succ_self _), Nat.ne_of_gt lS⟩
        have hsz : xs.length = items.size := by rw [← StrsAre.len_eq hi, Array.length_toList]
        refine fill_texts ((Walks.list hh3 _ l nI items).toS) s.heap.objs.size nS xs hsz (by rw [← hsz]; exact hfew) (fun i v hv => SS.strs_at hi i v (by rw [Array.getElem?_toList]; exact hv))
          (items.size - 0) 0 _ (by omega) (Nat.zero_le _) ⟨⟨_, Heap.get?_push_size _ rfl, rfl, rfl⟩, (hl1.push _)⟩ (setT_fresh (Heap.get?_push_of_some _ hS)) ?_
        intro s' hm hT'
        obtain ⟨h', g', d', tk', os'⟩ := s'
        have eg : g' = s.gens := hm.gens
        have ed : d' = s.drawn := hm.drawn
        have eo : os' = s.os := hm.os
        subst eg
        subst ed
        subst eo
        show wpAny _ _ _ _ _ _
        refine wpAny_pure ?_
        show wpAny _ _ (ret Value.none) _ _ _
        refine wpAny_pure ⟨rfl, h', tk', rfl, hT', fun b o hb e => ?_⟩
        refine hm.heap b o ?_ (Heap.get?_push_of_some _ (Heap.get?_push_of_some _ e))
        simp only [List.mem_cons, List.not_mem_nil, or_false, not_or]
        exact ⟨Nat.ne_of_lt hb, by rw [Heap.size_push]; exact Nat.ne_of_lt (Nat.lt_succ_of_lt hb)⟩
      · cases r2 with
        | error e => exact hr2
        | ok fl2 =>
          cases fl2 with
          | ret r =>
            obtain ⟨rfl, h', tk, rfl, hT', hk'⟩ := hr2
            repeat (any_goals (first | assumption | wp_step))
            exact h _ _ hT' hk'
          | _ => exact hr2.elim
end
end Sea
namespace Sea
open PySem PySem.Spec PyProof.Rows L2
section
variable {P : Program} {w : World} {A : Around} {E : Value → Shared → Prop} {s : Shared}
theorem sorted_setT {a : Addr} {xs : List Str} {Q : Value → Shared → Prop} (R : SetT P w s.heap a xs) (hh : A.handled = none) (h64 : xs.length < 64)
    (hQ : ∀ s' p (out : Array Value) (c : Nat) (zs : List Str), (∀ b o, s.heap.get? b = some o → s'.heap.get? b = some o) → s'.gens = s.gens → s'.os = s.os → s.heap.objs.size ≤ p →
      s'.heap.get? p = some (seqObj "list" out c) → StrsAre out.toList zs → zs.Nodup → sortedS zs = true → (∀ k, k ∈ zs ↔ k ∈ xs) → zs.length ≤ xs.length → Q (.ref p) s') :
    wpAny (model P w) A (call (.builtin "sorted") [.ref a]) Q E s := by
  obtain ⟨o, es, ep, t, ho, hex, hd, g, nd, hm, hz, hf, hr, hl⟩ := R.ex
  refine Calls.call_function_entry kind_sorted plain_sorted entry_sorted (args_sorted1 _) ?_
  unfold Builtin.«sorted»
  refine wpAny_bind (m := checkCount "sorted" 1 1 _) (wpAny_pure ?_)
  refine wpAny_bind (collect_set (A := A.in1) hh ⟨o, ho, hex.1, hd⟩ hf (by unfold scanBound; omega) hr hl fun s1 vs k1 hz1 g1 o1 pm => ?_)
  have vl : vs.length = es.size := by rw [pm.length_eq, List.length_map, Array.length_toList]
  have all : ∀ v, v ∈ vs → ∃ x t, v = .str x t := fun v hv => by
    obtain ⟨e, he, q⟩ := List.mem_map.mp (pm.mem_iff.mp hv)
    obtain ⟨k, tk, h1, _⟩ := g e he
    exact ⟨k, tk, by rw [← q]; exact h1⟩
  have hS : StrsAre vs (vs.map strOf) := strsAre_map vs all
  have pk : (vs.map strOf).Perm (es.toList.map keyT) := by
    have q := pm.map strOf
    rw [List.map_map] at q
    exact q
  refine wpAny_bind (wpAny_newList ?_ (by rw [vl, sizeLine_eq]; omega))
  have hoL : (s1.heap.push (seqObj "list" vs.toArray 0)).get? s1.heap.objs.size = some (seqObj "list" vs.toArray 0) := Heap.get?_push_size _ rfl
  refine wpAny_bind (wpAny_holding (wpAny_call_entry slot_list_sort ⟨_, hoL, rfl⟩ entry_list_sort (list_sort_treeK strKind_oneLt hoL hS.keysOf (fun v1 v2 rest e => keyKind_strs (by rw [← e]; exact hS)) (by omega)
    fun st' a1 a2 => ⟨_, rfl, ?_⟩) (args_list_sort _)))
  obtain ⟨zs, z1, z2, z3⟩ := sorted_out_str hS a1 a2
  obtain ⟨c, hc⟩ := sortedHeap_at (vs := vs) (out := (arrOf st').map (·.2)) hoL
  have pn : zs.Perm (es.toList.map keyT) := z2.trans pk
  refine wpAny_pure ⟨_, rfl, hQ _ s1.heap.objs.size _ c zs (fun b u e => ?_) g1 o1 hz1 hc z1 (pn.nodup_iff.mpr nd) z3 (fun k => pn.mem_iff.trans (hm k)) (by rw [pn.length_eq, List.length_map, Array.length_toList]; exact hz)⟩
  have q := k1 b u e
  have lt := Heap.lt_size q
  show (sortedHeap (s1.heap.push (seqObj "list" vs.toArray 0)) s1.heap.objs.size vs _).get? b = some u
  rw [sortedHeap_old (Nat.ne_of_lt lt) (by rw [size_push']; exact Nat.lt_succ_of_lt lt)]
  exact Heap.get?_push_of_some _ q
end
/-- the set of the texts xs at a -/
def SetTO (P : Program) (w : World) (a : Addr) (xs : List Str) : HO := .ext fun h => SetT P w h a xs
section
variable {X : Cx}
theorem setTO_new {w : World} {P : Program} {H : Hp} {h : Heap} {a : Addr} {xs : List Str} (R : SetT P w h a xs) : ObjOk P w H h a (SetTO P w a xs) := by
  have ⟨o, _, _, _, ho, _⟩ := R.ex
  exact ⟨R, ⟨o, ho⟩, fun h1 h2 p k => SetT.keep p k⟩
def rSetT (X : Cx) : List V → Hp → VK → Prop := fun vs H Q => ∃ (l : Addr) (xs : List Str), vs = [.ref l] ∧ SqL X.K H l (xs.map V.str) ∧ xs.length < 4000 ∧ ∀ p, H p = none → Q (.ref p) (upd H p (SetTO X.prog X.w p xs))
theorem cr_setT (hc : X.calm = true) : CallR X (.type "set") (rSetT X) := by
  intro pins s σ H vs us Q I r h
  obtain ⟨l, xs, rfl, hq, hfew, q⟩ := h
  obtain ⟨u, rfl, ru⟩ := vals1 r
  cases ru
  obtain ⟨its, rv, pl, hz⟩ := I.list hq
  refine set_of_texts (I.ok.hd hc) pl.isList (by simpa using strsAre_of rv) hfew fun h' tk R hk => ?_
  exact ⟨.ref _, upd H s.heap.objs.size (SetTO X.prog X.w s.heap.objs.size xs), I.laid (t' := tk) (fun b o e => hk b o (Heap.lt_size e) e) (Nat.le_refl _) (setTO_new R), rfl, q _ (I.hok.fresh (Nat.le_refl _))⟩
def rSortedT (X : Cx) : List V → Hp → VK → Prop := fun vs H Q => ∃ (a : Addr) (xs : List Str), vs = [.ref a] ∧ H a = some (SetTO X.prog X.w a xs) ∧ xs.length < 64 ∧
  ∀ (zs : List Str) (p : Addr), zs.Nodup → sortedS zs = true → (∀ k, k ∈ zs ↔ k ∈ xs) → zs.length ≤ xs.length → H p = none → Q (.ref p) (upd H p (.lst (zs.map V.str)))
theorem vals_strs : ∀ {us : List Value} {xs : List Str}, StrsAre us xs → Vals (xs.map V.str) us
  | _, _, .nil => .nil
  | _, _, .cons x t h => .cons ⟨t, rfl⟩ (vals_strs h)
theorem cr_sortedSetT (hc : X.calm = true) : CallR X (.builtin "sorted") (rSortedT X) := by
  intro pins s σ H vs us Q I r h
  obtain ⟨a, xs, rfl, ha, h64, q⟩ := h
  have R : SetT X.prog X.w s.heap a xs := (I.hok a _ ha).1
  rw [Vals.ref1 r]
  refine sorted_setT R (I.ok.hd hc) h64 fun s' p out c zs k g o hp hg hi hn hs hm hl => ?_
  have hlen : (zs.map V.str).length ≤ sizeLine := by rw [List.length_map, sizeLine_eq]; omega
  have fresh : H p = none := I.hok.fresh hp
  have J : Inv X pins σ (upd H p (.lst (zs.map V.str))) { s with heap := s'.heap, gens := s'.gens, drawn := s'.drawn, toks := s'.toks } :=
    I.call (ch := []) (Un.laid k hp fresh) (I.hok.laid k hp ⟨hlen, out.toList, c, vals_strs hi, hg⟩) (by rw [g]; exact I.bare) (fun _ z => nomatch z)
  have e : s' = { s with heap := s'.heap, gens := s'.gens, drawn := s'.drawn, toks := s'.toks } := by
    obtain ⟨_, _, _, _, _⟩ := s'
    simp only at o
    rw [o]
  rw [e]
  exact ⟨.ref p, _, J, rfl, q zs p hn hs hm hl fresh⟩
end
end Sea
namespace Sea
open PySem PySem.Spec PyProof.Rows L2
def tChain3 (r1 r2 r3 : R2) (ta tb tc td : TE) : TT := fun σ H Q => ta σ H fun x H1 => tb σ H1 fun y H2 => r1 x y H2 fun z H3 => ∃ k, z = .bl k ∧
  (if k = true then tc σ H3 fun v H4 => r2 y v H4 fun z2 H5 => ∃ k2, z2 = .bl k2 ∧ (if k2 = true then td σ H5 fun u H6 => r3 v u H6 fun z3 H7 => ∃ k3, z3 = .bl k3 ∧ Q k3 H7 else Q false H5) else Q false H3)
theorem pt_chain3 {X : Cx} {a b c d : Expr} {ta tb tc td : TE} {pos : Pos} {o1 o2 o3 : CmpOp} {r1 r2 r3 : R2} (h1 : OpR X (compareOp o1) r1) (h2 : OpR X (compareOp o2) r2) (h3 : OpR X (compareOp o3) r3)
    (ha : PE X a ta) (hb : PE X b tb) (hc : PE X c tc) (hd : PE X d td) (hm : lastMarks [o1, o2, o3] [b, c, d] = false := by with_unfolding_all rfl) :
    PT X (.Compare a [o1, o2, o3] [b, c, d] pos) (tChain3 r1 r2 r3 ta tb tc td) := by
  refine ⟨fun pins s σ H Q I h => ?_⟩
  refine isTrue_chain (thn (ha.run pins s σ H _ I h) fun v s1 ⟨x, H1, I1, rx, q1⟩ => test_link (thn (hb.run pins s1 σ H1 _ I1 q1) fun u s2 ⟨y, H2, I2, ry, q2⟩ =>
    thn (h1 pins s2 σ H2 x y v u _ I2 rx ry q2) fun e1 s3 ⟨z, H3, I3, rz, k, ez, q3⟩ => ?_)) hm
  subst ez
  cases rz
  refine wpAny_truthy_bool ?_
  cases k with
  | false => exact ite_ff ⟨H3, I3, q3⟩
  | true =>
    refine ite_tt (test_link (thn (hc.run pins s3 σ H3 _ I3 q3) fun w1 s4 ⟨v2, H4, I4, rv, q4⟩ => thn (h2 pins s4 σ H4 y v2 u w1 _ I4 ry rv q4) fun e2 s5 ⟨z2, H5, I5, rz2, k2, ez2, q5⟩ => ?_))
    subst ez2
    cases rz2
    refine wpAny_truthy_bool ?_
    cases k2 with
    | false => exact ite_ff ⟨H5, I5, q5⟩
    | true =>
      refine ite_tt (test_last (thn (hd.run pins s5 σ H5 _ I5 q5) fun w2 s6 ⟨u2, H6, I6, ru, q6⟩ => thn (h3 pins s6 σ H6 v2 u2 w1 w2 _ I6 rv ru q6) fun e3 s7 ⟨z3, H7, I7, rz3, k3, ez3, q7⟩ => ?_))
      subst ez3
      cases rz3
      exact wpAny_truthy_bool ⟨H7, I7, q7⟩
end Sea
namespace Sea
open PySem PySem.Spec PyProof.Rows L2
/-- the iterator that a tuple at l gives -/
abbrev tupIt (l : Addr) : Obj := { cls := .type "tuple_iterator", data := .fields #[.ref l, .int 0 0] }
abbrev enumOf (it : Addr) : Obj := { cls := .type "enumerate", data := .fields #[.none, .bool false, .ref it, rawInt 0, .none, .none] }
theorem made_enum (l : Addr) (items : Array Value) (n : Nat) (dct : Option Addr) (sl : Array (Option Value)) :
    Meets (Builtin.«enumerate.__new__» ⟨[.type "enumerate", .ref l], []⟩) (fun _ R s => s.heap.get? l = some { cls := .type "tuple", dict := dct, data := .seq items n, slots := sl } ∧
      R (.ok (.ret (.ref (s.heap.push (tupIt l)).objs.size))) { s with heap := (s.heap.push (tupIt l)).push (enumOf s.heap.objs.size) }) :=
  .of_wp fun prog w A R s h => by
    obtain ⟨hp, g, d, tk, os⟩ := s
    obtain ⟨hl, h⟩ := h
    have hsub := sub_enumerate
    have hT : Heap.IsTuple (Shared.heap ⟨hp, g, d, tk, os⟩) l items := ⟨_, hl, rfl, n, rfl⟩
    wp_walk using AutoSeq1.wpAny_loadPart' hl
    refine wpAny_stack_any fun st => wpAny_pure ?_
    split
    · rename_i c _ _ _ _ _
      cases (c == Value.type "enumerate") <;>
        (wp_walk using AutoSeq1.wpAny_loadPart' hl, wpAny_pyIter_tuple hT
         exact ⟨_, rfl, h⟩)
    · wp_walk using AutoSeq1.wpAny_loadPart' hl, wpAny_pyIter_tuple hT
      exact ⟨_, rfl, h⟩
section
variable {prog : Program} {w : World} {A : Around} {E : Value → Shared → Prop} {s : Shared}
theorem call_enumT {l : Addr} {items : Array Value} {Q : Value → Shared → Prop} (hL : s.heap.IsTuple l items)
    (h : ∀ h', IsEnum h' (s.heap.objs.size + 1) s.heap.objs.size 0 .none → h'.IsTupleIter s.heap.objs.size l 0 → h'.objs.size = s.heap.objs.size + 2 →
      (∀ b o, s.heap.get? b = some o → h'.get? b = some o) → Q (.ref (s.heap.objs.size + 1)) { s with heap := h' }) :
    wpAny (model prog w) A (call (.type "enumerate") [.ref l]) Q E s := by
  obtain ⟨⟨c, dct, dt, sl⟩, hl, hc, n, hd⟩ := hL
  replace hc : c = .type "tuple" := hc
  replace hd : dt = .seq items n := hd
  subst hc hd
  refine callType_new F.called_enumerate (by decide) (F.typeCall_enumerate_1 _) (F.newCall_enumerate_1 _) (fun obj => F.args_object_init_2 obj _) F.entry_enumerate_new (made_enum l items n dct sl) ⟨hl, ?_⟩
  have hz : (s.heap.push (tupIt l)).objs.size = s.heap.objs.size + 1 := Heap.size_push ..
  show _ ∧ _
  rw [hz]
  have he : IsEnum ((s.heap.push (tupIt l)).push (enumOf s.heap.objs.size)) (s.heap.objs.size + 1) s.heap.objs.size 0 .none := by
    have q := Heap.get?_push_size (s.heap.push (tupIt l)) (o := enumOf s.heap.objs.size) rfl
    rw [hz] at q
    exact q
  exact ⟨⟨_, he, rfl⟩, h _ he ⟨_, Heap.get?_push_of_some _ (Heap.get?_push_size _ rfl), rfl, rfl⟩ (by rw [Heap.size_push, hz]) fun b o x => Heap.get?_push_of_some _ (Heap.get?_push_of_some _ x)⟩
end
theorem drawsT {prog : Program} {w : World} {A : Around} (hh : A.handled = none) (it l : Addr) (hne : l ≠ it) (items : Array Value) :
    Draws prog w A it [it, l] items.size (fun i v => items[i]? = some v) (fun i h => h.IsTupleIter it l i ∧ h.IsTuple l items) where
  live := fun _ _ st => let ⟨o, ho, _⟩ := st.1; ⟨o, ho⟩
  frame := fun _ _ _ st hk => ⟨let ⟨o, ho, r⟩ := st.1; ⟨o, hk it List.mem_cons_self o ho, r⟩, let ⟨o, ho, r⟩ := st.2; ⟨o, hk l (List.mem_cons_of_mem _ List.mem_cons_self) o ho, r⟩⟩
  item := fun i s Q E hi st hQ => by
    refine RZ.nextOf_tuple_item st.1 st.2 (x := items[i]) (by simp [hi]) fun h' hit' hs' => ?_
    exact hQ _ h' s.toks (by simp [hi]) ⟨hit', let ⟨o, ho, r⟩ := st.2; ⟨o, (hs'.2 l hne).trans ho, r⟩⟩ hs'
  done := fun s Q E st hE => RZ.nextOf_tuple_end hh st.1 st.2 (by simp) hE
/-- the items of the tuple at a, each with its number, in a new pair -/
def IenT (K : PySem.W.Frag) (a : Addr) : It where
  go := fun i H => ∃ (xs : List V) (x : V), SqT K H a xs ∧ xs[i]? = some x
  yld := fun i H v H' => ∃ T x, v = .ref T ∧ H T = none ∧ H' = upd H T (.tup [.int (i : Nat), x]) ∧ ∀ xs, SqT K H a xs → xs[i]? = some x
  stop := fun i H => ∃ xs : List V, SqT K H a xs ∧ xs.length ≤ i
theorem turn_enumT {P : Program} {w : World} {K : PySem.W.Frag} {elts : List Expr} {kk : Nat} {tpos : Pos} (a e it : Addr) :
    Turn P w K (.Tuple elts kk tpos) (IenT K a) [e, it] e (fun i h => (∃ old, IsEnum h e it ((i : Nat) : Int) old) ∧ h.IsTupleIter it a i ∧ e ≠ it) where
  mem := List.mem_cons_self
  obj := fun i h st b hb => by
    obtain ⟨⟨old, he⟩, ⟨o, ho, hc, hd⟩, _⟩ := st
    rcases List.mem_cons.mp hb with z | z
    · subst z
      exact ⟨_, he, fun v q => nomatch q⟩
    · rw [List.mem_singleton.mp z]
      exact ⟨o, ho, fun v q => by rw [hd] at q; cases q⟩
  keep := fun i h h' st k => by
    obtain ⟨⟨old, he⟩, ⟨o, ho, r⟩, ne⟩ := st
    exact ⟨⟨old, k e List.mem_cons_self _ he⟩, ⟨o, k it (List.mem_cons_of_mem _ List.mem_cons_self) o ho, r⟩, ne⟩
  item := by
    intro X hP hw hK hc i pins s σ H E I hf st hg
    subst hP hw hK
    obtain ⟨⟨old, he⟩, hit, hne⟩ := st
    obtain ⟨xs, x, hq, hx⟩ := hg
    obtain ⟨its, rv, p, hz⟩ := I.tuple hq
    obtain ⟨u, hu, ru⟩ := rv.get hx
    have hel : e < s.heap.objs.size := Heap.lt_size he
    have hil : it < s.heap.objs.size := by
      obtain ⟨_, q, _⟩ := hit
      exact Heap.lt_size q
    have nea : a ≠ it := fun z => by
      obtain ⟨o1, h1, h2, _⟩ := hit
      obtain ⟨o2, h3, h4, _⟩ := p
      rw [z, h1] at h3
      cases h3
      rw [h2] at h4
      exact absurd (Value.type.inj h4) (by decide)
    have nee : e ≠ a := fun z => by
      obtain ⟨o2, h3, h4, _⟩ := p
      rw [← z, (show s.heap.get? e = some _ from he)] at h3
      cases h3
      exact absurd (Value.type.inj h4) (by decide)
    have il : i < its.toArray.size := by
      have := (List.getElem?_eq_some_iff.mp hu).1
      rw [List.size_toArray]
      exact this
    refine wpAny_pyNext_enum_itemD (drawsT (A := X.A.in1) (I.ok.hd hc) it a nea its.toArray) he ⟨hit, p⟩ il hne (fun q => ?_) fun y h' tk hP ho hit' hT hsz hk => ?_
    · rcases List.mem_cons.mp q with z | z
      · exact hne z
      · exact nee (List.mem_singleton.mp z)
    have ey : y = u := by
      have : its.toArray[i]? = some u := by rw [← Array.getElem?_toList]; exact hu
      exact Option.some.inj (hP.symm.trans this)
    subst ey
    refine ⟨_, rfl, wpAny_letOwnedTupleGo_enum (s := ⟨h', s.gens, s.drawn, tk + 1, s.os⟩) ho fun h2 he2 sb => ?_⟩
    have hT2 : h2.get? s.heap.objs.size = some { cls := .type "tuple", data := .seq #[.int i tk, y] } := (sb.2 _ (Nat.ne_of_gt hel)).trans hT
    have nw : ObjOk X.prog X.w (upd H s.heap.objs.size (.tup [.int (i : Nat), x])) h2 s.heap.objs.size (.tup [.int (i : Nat), x]) :=
      ⟨by show 2 ≤ sizeLine; decide, [.int i tk, y], .cons ⟨_, rfl⟩ (.cons ru .nil), ⟨_, hT2, rfl, _, rfl⟩⟩
    have kk2 : ∀ b ob, b ∉ [e, it] → s.heap.get? b = some ob → h2.get? b = some ob := fun b ob hb q => by
      have b1 : b ≠ e := fun z => hb (z ▸ List.mem_cons_self)
      have b2 : b ≠ it := fun z => hb (z ▸ List.mem_cons_of_mem _ List.mem_cons_self)
      exact (sb.2 b b1).trans (hk b ob b1 b2 q)
    have J : Inv X pins σ (upd H s.heap.objs.size (.tup [.int (i : Nat), x])) ⟨h2, s.gens, s.drawn, tk + 1, s.os⟩ := I.turnedNew (t' := tk + 1) kk2 hf (Nat.le_refl _) nw
    refine ⟨.ref s.heap.objs.size, _, J, rfl, ⟨_, x, rfl, I.hok.fresh (Nat.le_refl _), rfl, fun ys hy => by rw [I.tuple_inj hy hq]; exact hx⟩, ⟨⟨y, ?_⟩, ?_, hne⟩, fun b hb => ?_⟩
    · have e1 : ((i + 1 : Nat) : Int) = (i : Int) + 1 := Int.natCast_succ i
      rw [e1]
      exact he2
    · obtain ⟨⟨o, ho2, r⟩, _⟩ := hit'
      exact ⟨o, (sb.2 it hne.symm).trans ho2, r⟩
    · have hlt : b < s.heap.objs.size := by
        rcases List.mem_cons.mp hb with z | z
        · exact z ▸ hel
        · exact (List.mem_singleton.mp z) ▸ hil
      rw [upd_ne (Nat.ne_of_lt hlt)]
      exact (hf b hb).1
  done := by
    intro X hP hw hK hc i pins s σ H E I hf st hg
    subst hP hw hK
    obtain ⟨⟨old, he⟩, hit, hne⟩ := st
    obtain ⟨xs, hq, hx⟩ := hg
    obtain ⟨its, rv, p, hz⟩ := I.tuple hq
    obtain ⟨f0, f1, f2, f3, f4, f5⟩ := hf it (List.mem_cons_of_mem _ List.mem_cons_self)
    have hl := rv.length
    have nea : a ≠ it := fun z => by
      obtain ⟨o1, h1, h2, _⟩ := hit
      obtain ⟨o2, h3, h4, _⟩ := p
      rw [z, h1] at h3
      cases h3
      rw [h2] at h4
      exact absurd (Value.type.inj h4) (by decide)
    have hend : its.toArray[i]? = none := Array.getElem?_eq_none (by rw [List.size_toArray]; omega)
    have hT : s.TypeIs (.ref e) "enumerate" := ⟨_, he, rfl⟩
    unfold pyNext
    refine wpAny_bind (wpAny_attempt (wpAny_callSpecial?_slot (name := Str.ofString "__next__") hT F.slot_enumerate_next
      (wpAny_call_entry F.slot_enumerate_next hT F.entry_enumerate_next ?_ (F.args_enumerate_next_1 _))))
    show wpAny _ _ (field (.ref e) 2 >>= _) _ _ s
    refine wpAny_bind (wpAny_field he rfl (x := .ref it) rfl ?_)
    refine wpAny_bind (RZ.nextOf_tuple_end (I.ok.hd hc) hit p hend fun h' z eb hs => ?_)
    obtain ⟨o, ho, hcl⟩ := id hs
    refine wpAny_bind (wpAny_isInstance (T := "StopIteration") (b := true) ⟨o, ho, hcl⟩ isSubtype_stop ?_)
    exact wpAny_pure ⟨rfl, I.turned (t' := s.toks) (fun b o hb q => eb b o hb q) f0 f1 f3 f4 f5⟩
  self := fun A i s Q E st h => by
    obtain ⟨⟨_, he⟩, _⟩ := st
    exact wpAny_pyIter_enum he h
def iEnT (K : PySem.W.Frag) (ta : TA) : TI := fun σ H R => ta σ H fun vs H1 => ∃ a xs, vs = [.ref a] ∧ SqT K H1 a xs ∧ R (IenT K a) H1
theorem pi_enT {X : Cx} {e : Expr} {ta : TA} {p pos tpos : Pos} {elts : List Expr} {kk : Nat} (hg : Gl X "enumerate") (hm : X.mg "enumerate" = none) (ha : PA X [e] ta) (hs : starEach [e] X.env = [(false, eval e X.env)] := by rfl) :
    PI X (.Tuple elts kk tpos) (.Call (.Name "enumerate" p) [e] [] pos) (iEnT X.K ta) := by
  refine ⟨fun pins s σ H R I h => ?_⟩
  refine Call_ (ld_blt I hg hm boot_enumerate (PyProof.Rows.callWith_type1 (thn (ha.run pos pins s σ H _ I h) fun us s1 ⟨vs, H1, I1, r1, q1⟩ => ?_) hs rfl))
  obtain ⟨a, xs, ex, hq, q⟩ := q1
  subst ex
  cases r1 with
  | cons r rr =>
    cases rr
    cases r
    obtain ⟨its, rv, p2, hz⟩ := I1.tuple hq
    refine call_enumT p2 fun h' he hit hsz hk => wpAny_pyIter_enum he ?_
    have I2 : Inv X pins σ H1 { s1 with heap := h' } := I1.kept (t' := s1.toks) hk
    refine ⟨s1.heap.objs.size + 1, [s1.heap.objs.size + 1, s1.heap.objs.size], _, _, H1, rfl, I2, turn_enumT a (s1.heap.objs.size + 1) s1.heap.objs.size, ⟨⟨.none, he⟩, hit, Nat.succ_ne_self _⟩, fun b hb => ?_, q⟩
    have hle : s1.heap.objs.size ≤ b := by
      rcases List.mem_cons.mp hb with z | z
      · exact z ▸ Nat.le_succ _
      · exact (List.mem_singleton.mp z) ▸ Nat.le_refl _
    exact I1.fpOk hle (I1.hok.fresh hle)
/-- its turns, for for_it and lc_it -/
theorem walk_enT {K : PySem.W.Frag} {a : Addr} {xs : List V} : Walk (IenT K a) xs.length (fun H => SqT K H a xs)
    (fun i H v H' => ∃ T x, v = .ref T ∧ H T = none ∧ xs[i]? = some x ∧ H' = upd H T (.tup [.int (i : Nat), x])) :=
  ⟨fun i H hi hs => ⟨xs, xs[i], hs, List.getElem?_eq_getElem hi⟩, fun H hs => ⟨xs, hs, Nat.le_refl _⟩, fun i H v H' _ hs ⟨T, x, h1, h2, h3, h4⟩ => ⟨T, x, h1, h2, h4 xs hs, h3⟩⟩
end Sea
namespace Sea
open PySem PySem.Spec PyProof.Rows L2
/-- a def's promise to callers around whom no guard stands -/
structure FnG (P : Program) (w : World) (K : PySem.W.Frag) (mg : Str → Option Value) (base : Heap) (CX : CXT) (k : Nat) (f : Addr) (fd : FuncData) (ps : List Str) (sp : Sp) : Prop where
  many : ∀ vs H Q E, sp vs H Q E → vs.length = ps.length
  runs : ∀ (A : Around) (outer : List Env) (s : Shared) (H : Hp) (args : Args) (us : List Value) (vs : List V) (Q : VK) (E : XK), A.guards = some [] → Room k A → Env0 P w K mg base A outer s H → BindsTo s fd args (ps.zip us) →
    Vals vs us → sp vs H Q E → codeAny (model P w) A (.call (.ref f) args) (CR CX outer P w H s Q E) s
section
variable {P : Program} {w : World} {K : PySem.W.Frag} {mg : Str → Option Value} {base : Heap}
theorem FunG.ok {x qual : Str} {st : Stmt} {f : Addr} {fd : FuncData} {N ps : List Str} {k : Nat} {sp : Sp} (F : Fun K x qual st f fd) (S : FnScope N ps (defScope st)) (many : ∀ vs H Q E, sp vs H Q E → vs.length = ps.length)
    (body : ∀ (cdv : Value) (A : Around) (outer : List Env) (s : Shared) (H : Hp) (vs : List V) (Q : VK) (E : XK), A.guards = some [] → Room k (A.deeper (envOfC qual (defScope st) s.heap.objs.size f cdv)) → sp vs H Q E →
      ∃ t, PSs (cxOf CX0 P w K mg base N qual (defScope st) f cdv A outer s H E).nox (defBody st) t ∧ t { nx := fun _ H' => Q .non H', rt := Q } (start N vs) H) : FnG P w K mg base CX0 (k + 1) f fd ps sp := by
  obtain ⟨oc, od, kV, doc, pm, an, cdv, ct, osl, rfl, lk, hcd⟩ := F.ex
  constructor
  · exact many
  intro A outer s H args us vs Q E ga room env bt rv h
  have inK : K.In s.heap := env.mod.kin.keeps fun b o e => (env.bs b o e).1
  refine codeAny_call_function room.depth (inK _ _ lk) rfl S.co S.gen rfl (PySem.W.codeRec_of inK hcd) (bt _ _ _ _ ?_)
  refine wpAny_newFunctionEnv_cells S.kind (fun y hy => ?_) fun own eo s1 x => ?_
  · obtain ⟨n, v⟩ := y
    have hn := (List.of_mem_zip hy).1
    rcases S.par n hn with q | q
    · exact Or.inl q
    · exact Or.inr ⟨q, PySem.W.cellsFrom_some _ _ _ (Or.inl q)⟩
  · subst eo
    have free : s.heap.NoLimit := env.mod.nolimit.keeps fun b o e => (env.bs b o e).1
    refine ⟨free.keeps x.toInCall.keep, codeAny_func ?_⟩
    obtain ⟨t, ht0, hq⟩ := body cdv A outer s H vs Q E ga (room.deeper _) h
    have ht := ht0.nox
    have J : Inv (cxOf CX0 P w K mg base N qual (defScope st) f cdv A outer s H E) [] (start N vs) H s1 := inv_start S room.hd env (many _ _ _ _ h) rv x
    refine wpAny_mono (ht.run [] s1 (start N vs) H _ J hq) (fun fl s' hs => ?_) fun e s' hs => hs
    cases fl with
    | next =>
      obtain ⟨σ', H', J', q⟩ := hs
      exact ⟨V.non, H', J'.os, J'.bare, J'.base, J'.hok, rfl, q⟩
    | ret u =>
      obtain ⟨v, σ', H', J', rv', q⟩ := hs
      exact ⟨v, H', J'.os, J'.bare, J'.base, J'.hok, rv', q⟩
    | brk =>
      obtain ⟨_, _, _, q⟩ := hs
      exact q.elim
    | cont =>
      obtain ⟨_, _, _, q⟩ := hs
      exact q.elim
end
end Sea
namespace Sea
open PySem PySem.Spec PyProof.Rows L2
/-- a def whose promise knows how great the heap is when it is called -/
structure FnS (P : Program) (w : World) (K : PySem.W.Frag) (mg : Str → Option Value) (base : Heap) (k : Nat) (f : Addr) (fd : FuncData) (ps : List Str) (sp : Nat → Sp) : Prop where
  many : ∀ n vs H Q E, sp n vs H Q E → vs.length = ps.length
  runs : ∀ (A : Around) (outer : List Env) (s : Shared) (H : Hp) (args : Args) (us : List Value) (vs : List V) (Q : VK) (E : XK), Room k A → Env0 P w K mg base A outer s H → BindsTo s fd args (ps.zip us) →
    Vals vs us → sp s.heap.objs.size vs H Q E → codeAny (model P w) A (.call (.ref f) args) (CR CX0 outer P w H s Q E) s
theorem FunS.ok {P : Program} {w : World} {K : PySem.W.Frag} {mg : Str → Option Value} {base : Heap} {x qual : Str} {st : Stmt} {f : Addr} {fd : FuncData} {N ps : List Str} {k : Nat} {sp : Nat → Sp} (F : Fun K x qual st f fd) (S : FnScope N ps (defScope st))
    (many : ∀ n vs H Q E, sp n vs H Q E → vs.length = ps.length)
    (body : ∀ (cdv : Value) (A : Around) (outer : List Env) (s : Shared) (H : Hp) (vs : List V) (Q : VK) (E : XK), Room k (A.deeper (envOfC qual (defScope st) s.heap.objs.size f cdv)) → sp s.heap.objs.size vs H Q E →
      ∃ t, PSs (cxOf CX0 P w K mg base N qual (defScope st) f cdv A outer s H E).nox (defBody st) t ∧ t { nx := fun _ H' => Q .non H', rt := Q } (start N vs) H) : FnS P w K mg base (k + 1) f fd ps sp := by
  obtain ⟨oc, od, kV, doc, pm, an, cdv, ct, osl, rfl, lk, hcd⟩ := F.ex
  constructor
  · exact many
  intro A outer s H args us vs Q E room env bt rv h
  have inK : K.In s.heap := env.mod.kin.keeps fun b o e => (env.bs b o e).1
  refine codeAny_call_function room.depth (inK _ _ lk) rfl S.co S.gen rfl (PySem.W.codeRec_of inK hcd) (bt _ _ _ _ ?_)
  refine wpAny_newFunctionEnv_cells S.kind (fun y hy => ?_) fun own eo s1 x => ?_
  · obtain ⟨n, v⟩ := y
    have hn := (List.of_mem_zip hy).1
    rcases S.par n hn with q | q
    · exact Or.inl q
    · exact Or.inr ⟨q, PySem.W.cellsFrom_some _ _ _ (Or.inl q)⟩
  · subst eo
    have free : s.heap.NoLimit := env.mod.nolimit.keeps fun b o e => (env.bs b o e).1
    refine ⟨free.keeps x.toInCall.keep, codeAny_func ?_⟩
    obtain ⟨t, ht0, hq⟩ := body cdv A outer s H vs Q E (room.deeper _) h
    have ht := ht0.nox
    have J : Inv (cxOf CX0 P w K mg base N qual (defScope st) f cdv A outer s H E) [] (start N vs) H s1 := inv_start S room.hd env (many _ _ _ _ _ h) rv x
    refine wpAny_mono (ht.run [] s1 (start N vs) H _ J hq) (fun fl s' hs => ?_) fun e s' hs => hs
    cases fl with
    | next =>
      obtain ⟨σ', H', J', q⟩ := hs
      exact ⟨V.non, H', J'.os, J'.bare, J'.base, J'.hok, rfl, q⟩
    | ret u =>
      obtain ⟨v, σ', H', J', rv', q⟩ := hs
      exact ⟨v, H', J'.os, J'.bare, J'.base, J'.hok, rv', q⟩
    | brk =>
      obtain ⟨_, _, _, q⟩ := hs
      exact q.elim
    | cont =>
      obtain ⟨_, _, _, q⟩ := hs
      exact q.elim
end Sea
namespace Sea
open PySem PySem.Spec PyProof.Rows L2
def rOwnEqT (C : Addr) (sp : Sp) : R2 := fun x y H Q => ∃ (a b dx : Addr) (fs : List (Str × V)) (ys : List V), x = .ref a ∧ y = .ref b ∧ H a = some (.ins C dx fs) ∧ H b = some (.tup ys) ∧ sp [.ref a, .ref b] H (fun v H' => (∃ k, v = .bl k) ∧ Q v H') E0
/-- a == b of two instances of the class at C, by its own def -/
def rOwnEq (C : Addr) (sp : Sp) : R2 := fun x y H Q => ∃ (a b dx dy : Addr) (fs gs : List (Str × V)), x = .ref a ∧ y = .ref b ∧ H a = some (.ins C dx fs) ∧ H b = some (.ins C dy gs) ∧ sp [.ref a, .ref b] H (fun v H' => (∃ k, v = .bl k) ∧ Q v H') E0
section
variable {X : Cx} {n k : Nat} {C f : Addr} {fd : FuncData} {ps : List Str} {sp : Sp}
theorem op_ownEqT (F : FnOk X.prog X.w X.K X.mg X.base CX0 n f fd ps sp) (hr : Room k X.A) (hk : n ≤ k) (ht : PySem.W.subIn X.K (.type "tuple") (.ref C) = some false) (hs : PySem.W.findIn X.K (.ref C) "__eq__" = some (some (.ref f))) (hf : PySem.W.isFn X.K (.ref f) = true) (hb : Binds X.K fd ps []) :
    OpR X (compareOp .Eq) (rOwnEqT C sp) := by
  intro pins s σ H x y u v Q I rx ry h
  obtain ⟨a, b, dx, fs, ys, rfl, rfl, ha, hb', hsp⟩ := h
  cases rx
  cases ry
  obtain ⟨mA, J, _⟩ := ins_get I.hok ha
  obtain ⟨od, J, _⟩ := J.look
  obtain ⟨its, _, ⟨o, ho, hcl, _, _⟩, _⟩ := I.tuple (SqT.of hb')
  obtain ⟨m, hF⟩ := I.fr
  have lk : PySem.W.Looks (model X.prog X.w) s.heap (typeOf (.ref b)) (.type "tuple") := hcl ▸ (PySem.W.Looks.ld ho).andThen .now
  show wpAny (model X.prog X.w) X.A (richCompare .Eq (.ref a) (.ref b)) (EP X pins σ Q) X.xe s
  have nf : PySem.W.notFirst X.K C (.type "tuple") = true := by
    unfold PySem.W.notFirst
    rw [ht]
    rfl
  refine PySem.W.cmp_K (op := .Eq) (tb := .type "tuple") hr.units0 hF I.ok.mod.kin J lk nf hs hf ?_
  have r2 : Vals [V.ref a, V.ref b] [Value.ref a, Value.ref b] := .cons rfl (.cons rfl .nil)
  have hl := F.len _ _ _ _ hsp
  have bt := hb s [.ref a, .ref b] I.kIn (by rw [List.append_nil]; exact hl)
  rw [List.append_nil] at bt
  refine wpAny_call (codeAny_mono (F.run X.A X.stack s H ⟨[.ref a, .ref b], []⟩ [.ref a, .ref b] [.ref a, .ref b] _ E0 (hr.mono hk) I.env0 bt r2 hsp) fun r s' hq => ?_)
  cases r with
  | error e => exact hq.elim
  | ok fl =>
    cases fl with
    | ret w =>
      obtain ⟨z, H', I', rz, ⟨kk, ez⟩, q⟩ := I.after hq
      subst ez
      cases rz
      exact ⟨.bl kk, H', I', rfl, q⟩
    | next => exact False.elim hq
    | brk => exact False.elim hq
    | cont => exact False.elim hq
theorem op_ownEq (F : FnOk X.prog X.w X.K X.mg X.base CX0 n f fd ps sp) (hr : Room k X.A) (hk : n ≤ k) (hs : PySem.W.findIn X.K (.ref C) "__eq__" = some (some (.ref f))) (hf : PySem.W.isFn X.K (.ref f) = true) (hb : Binds X.K fd ps []) :
    OpR X (compareOp .Eq) (rOwnEq C sp) := by
  intro pins s σ H x y u v Q I rx ry h
  obtain ⟨a, b, dx, dy, fs, gs, rfl, rfl, ha, hb', hsp⟩ := h
  cases rx
  cases ry
  obtain ⟨mA, J, _⟩ := ins_get I.hok ha
  obtain ⟨mB, J', _⟩ := ins_get I.hok hb'
  obtain ⟨od, J, _⟩ := J.look
  obtain ⟨od', J', _⟩ := J'.look
  obtain ⟨m, hF⟩ := I.fr
  show wpAny (model X.prog X.w) X.A (richCompare .Eq (.ref a) (.ref b)) (EP X pins σ Q) X.xe s
  refine PySem.W.cmp_K (op := .Eq) (tb := .ref C) hr.units0 hF I.ok.mod.kin J J'.type (by simp [PySem.W.notFirst]) hs hf ?_
  have r2 : Vals [V.ref a, V.ref b] [Value.ref a, Value.ref b] := .cons rfl (.cons rfl .nil)
  have hl := F.len _ _ _ _ hsp
  have bt := hb s [.ref a, .ref b] I.kIn (by rw [List.append_nil]; exact hl)
  rw [List.append_nil] at bt
  refine wpAny_call (codeAny_mono (F.run X.A X.stack s H ⟨[.ref a, .ref b], []⟩ [.ref a, .ref b] [.ref a, .ref b] _ E0 (hr.mono hk) I.env0 bt r2 hsp) fun r s' hq => ?_)
  cases r with
  | error e => exact hq.elim
  | ok fl =>
    cases fl with
    | ret w =>
      obtain ⟨z, H', I', rz, ⟨kk, ez⟩, q⟩ := I.after hq
      subst ez
      cases rz
      exact ⟨.bl kk, H', I', rfl, q⟩
    | next => exact False.elim hq
    | brk => exact False.elim hq
    | cont => exact False.elim hq
end
end Sea
namespace Sea
open PySem PySem.Spec PyProof.Rows L2
def iLT (K : PySem.W.Frag) (tl : TE) : TI := fun σ H R => tl σ H fun x H1 => ∃ a, x = .ref a ∧ (((∃ xs, SqL K H1 a xs) ∧ R (Itl K a) H1) ∨ ((∃ xs, SqT K H1 a xs) ∧ R (Itt K a) H1))
section
variable {X : Cx}
theorem pi_lt {tg l : Expr} {tl : TE} (hl : PE X l tl) : PI X tg l (iLT X.K tl) := by
  refine ⟨fun pins s σ H R I h => ?_⟩
  refine thn (hl.run pins s σ H _ I h) fun v s1 ⟨x, H1, I1, r1, q1⟩ => ?_
  obtain ⟨a, e, q1⟩ := q1
  subst e
  cases r1
  rcases q1 with ⟨⟨xs, hq⟩, q⟩ | ⟨⟨xs, hq⟩, q⟩
  · obtain ⟨its, rv, p, hz⟩ := I1.list hq
    refine wpAny_pyIter_list p.isList ?_
    refine ⟨s1.heap.objs.size, [s1.heap.objs.size], _, _, H1, rfl, I1.kept (t' := s1.toks) fun b o e => Heap.get?_push_of_some _ e, turn_list a _, ⟨_, Heap.get?_push_size _ rfl, rfl, rfl⟩, fun b hb => ?_, q⟩
    have e : b = s1.heap.objs.size := by simpa using hb
    subst e
    exact I1.fpOk (Nat.le_refl _) (I1.hok.fresh (Nat.le_refl _))
  · obtain ⟨its, rv, p, hz⟩ := I1.tuple hq
    refine wpAny_pyIter_tuple (show s1.heap.IsTuple a its.toArray from p) ?_
    refine ⟨s1.heap.objs.size, [s1.heap.objs.size], _, _, H1, rfl, I1.kept (t' := s1.toks) fun b o e => Heap.get?_push_of_some _ e, turn_tuple a _, ⟨_, Heap.get?_push_size _ rfl, rfl, rfl⟩, fun b hb => ?_, q⟩
    have e : b = s1.heap.objs.size := by simpa using hb
    subst e
    exact I1.fpOk (Nat.le_refl _) (I1.hok.fresh (Nat.le_refl _))
end
end Sea
namespace Sea
open PySem PySem.Spec PyProof.Rows L2
section
variable {X : Cx} {CX : CXT} {k : Nat} {f C : Addr} {fd : FuncData} {ps : List Str} {sp : Sp} {dvs : List V} {ds : List Value} {E : L2.St → XK} {x : Str} {p pos : Pos} {e : Expr} {es : List Expr} {t : TA}
def tMakeS (C : Addr) (sp : Sp) (dvs : List V) (E : L2.St → XK) (t : TA) : TE := fun σ H Q => t σ H fun vs H1 => ∀ x dx, H1 x = none → H1 dx = none → dx ≠ x →
  sp (.ref x :: (vs ++ dvs)) (upd (upd H1 dx (.own x)) x (.ins C dx [])) (fun v H2 => v = .non ∧ Q (.ref x) H2) (E σ)
theorem run_makeS {pins : List (Addr × Obj)} {σ : L2.St} {H : Hp} {s : Shared} {Q : VK} {us : List Value} {vs : List V} (M : Mk X.K C f) (F : FnOk X.prog X.w X.K X.mg X.base CX k f fd ps sp) (hr : Room (k + 1) X.A) (hb : Binds X.K fd ps ds) (hd : Vals dvs ds)
    (hx : PassesAt CX X σ (E σ)) (I : Inv X pins σ H s) (r : Vals vs us)
    (h : ∀ x dx, H x = none → H dx = none → dx ≠ x → sp (.ref x :: (vs ++ dvs)) (upd (upd H dx (.own x)) x (.ins C dx [])) (fun v H2 => v = .non ∧ Q (.ref x) H2) (E σ)) :
    wpAny (model X.prog X.w) X.A (call (.ref C) us) (EP X pins σ Q) X.xe s := by
  have hq := h (s.heap.objs.size + 1) s.heap.objs.size (I.hok.fresh (Nat.le_succ _)) (I.hok.fresh (Nat.le_refl _)) (Nat.ne_of_lt (Nat.lt_succ_self _))
  have I2 := Inv.made (C := C) I
  have r2 : Vals (V.ref (s.heap.objs.size + 1) :: (vs ++ dvs)) (Value.ref (s.heap.objs.size + 1) :: (us ++ ds)) := .cons rfl (r.append hd)
  have hl : (Value.ref (s.heap.objs.size + 1) :: us ++ ds).length = ps.length := by
    have e := r2.length
    rw [F.len _ _ _ _ hq] at e
    exact e.symm
  refine wpAny_call (make_map (f := f) I.kIn M.makes M.init (beq_iff_eq.mp M.fn) (codeAny_mono (F.run _ X.stack _ _ ⟨Value.ref (s.heap.objs.size + 1) :: us, []⟩ (Value.ref (s.heap.objs.size + 1) :: (us ++ ds)) _ _ (E σ) (hr.make C us [])
    (I2.env0.make C us []) (hb _ (Value.ref (s.heap.objs.size + 1) :: us) I2.kIn hl) r2 hq) fun r s' hq' => ?_))
  cases r with
  | error e => exact hx pins _ _ e s' I2 hq'
  | ok fl =>
    cases fl with
    | ret u =>
      obtain ⟨v, H', I3, rv, ev, q3⟩ := I2.after hq'
      subst ev
      exact ⟨rv, ⟨V.ref (s.heap.objs.size + 1), H', I3, rfl, q3⟩⟩
    | next => exact False.elim hq'
    | brk => exact False.elim hq'
    | cont => exact False.elim hq'
theorem pe_makeS (M : Mk X.K C f) (F : FnOk X.prog X.w X.K X.mg X.base CX k f fd ps sp) (hr : Room (k + 1) X.A) (hg : Gl X x) (hm : X.mg x = some (.ref C)) (hb : Binds X.K fd ps ds) (hd : Vals dvs ds) (hx : ∀ σ, PassesAt CX X σ (E σ))
    (ha : PA X (e :: es) t) (hdb : (x == ("__debug__" : Str)) = false := by decide) (he : starEach (e :: es) X.env = (false, eval e X.env) :: starEach es X.env := by rfl) (hpl : (backTo pos (starEach es X.env)).any (·.1) = false := by rfl) :
    PE X (.Call (.Name x p) (e :: es) [] pos) (tMakeS C sp dvs E t) := by
  refine ⟨fun pins s σ H Q I h => ?_⟩
  refine wpAny_Call_Name_kw (ld_glob I hg hm ?_ hdb)
  refine PySem.W.callWith_K (h₀ := X.base) I.ok.mod.kin M.kp (thn (ha.run pos pins s σ H _ I h) fun us s1 ⟨vs, H1, I1, r, q⟩ => ⟨I1.kIn, ?_⟩) he hpl
  exact run_makeS M F hr hb hd (hx σ) I1 r q
end
end Sea
namespace Sea
open PySem PySem.Spec PyProof.Rows L2
section
variable {X : Cx} {n k : Nat} {C f : Addr} {fd : FuncData} {ps : List Str} {sp : Sp}
def rOwnIn (neg : Bool) (C : Addr) (sp : Sp) : R2 := fun x y H Q => ∃ (a dx : Addr) (fs : List (Str × V)), y = .ref a ∧ H a = some (.ins C dx fs) ∧ sp [.ref a, x] H (fun v H' => ∃ k, v = .bl k ∧ Q (.bl (if neg then !k else k)) H') E0
theorem op_ownNotIn (F : FnOk X.prog X.w X.K X.mg X.base CX0 n f fd ps sp) (hr : Room k X.A) (hk : n ≤ k) (hs : PySem.W.findIn X.K (.ref C) "__contains__" = some (some (.ref f))) (hf : PySem.W.isFn X.K (.ref f) = true) (hb : Binds X.K fd ps []) :
    OpR X (compareOp .NotIn) (rOwnIn true C sp) := by
  intro pins s σ H x y u v Q I rx ry h
  obtain ⟨a, dx, fs, rfl, ha, hsp⟩ := h
  cases ry
  obtain ⟨mA, J, _⟩ := ins_get I.hok ha
  obtain ⟨od, J, _⟩ := J.look
  obtain ⟨m, hF⟩ := I.fr
  refine PySem.W.notIn_K hF I.ok.mod.kin J hs hf ?_
  have r2 : Vals [V.ref a, x] [Value.ref a, u] := .cons rfl (.cons rx .nil)
  have hl := F.len _ _ _ _ hsp
  have bt := hb s [.ref a, u] I.kIn (by rw [List.append_nil]; exact hl)
  rw [List.append_nil] at bt
  refine wpAny_call (codeAny_mono (F.run X.A X.stack s H ⟨[.ref a, u], []⟩ [.ref a, u] [.ref a, x] _ E0 (hr.mono hk) I.env0 bt r2 hsp) fun r s' hq => ?_)
  cases r with
  | error e => exact hq.elim
  | ok fl =>
    cases fl with
    | ret w =>
      obtain ⟨z, H', I', rz, kk, ez, q⟩ := I.after hq
      subst ez
      cases rz
      exact wpAny_truthy_bool ⟨.bl (!kk), H', I', rfl, q⟩
    | next => exact False.elim hq
    | brk => exact False.elim hq
    | cont => exact False.elim hq
def rLcm : List V → Hp → VK → Prop := fun vs H Q => ∃ a b : Int, vs = [.int a, .int b] ∧ a.natAbs < 2 ^ 64 ∧ b.natAbs < 2 ^ 64 ∧ Q (.int ((Nat.lcm a.natAbs b.natAbs : Nat) : Int)) H
theorem cr_lcm : CallR X (.builtin "math.lcm") rLcm := by
  intro pins s σ H vs us Q I r h
  obtain ⟨a, b, rfl, ha, hb, q⟩ := h
  obtain ⟨t, u, rfl⟩ := Vals.int2 r
  exact PySem.W.mc_lcm ha hb fun _ => ⟨.int _, H, I.tok _, ⟨_, rfl⟩, q⟩
end
end Sea
namespace Sea
open PySem PySem.Spec PyProof.Rows L2
/-- signs of a text, the percent sign aside -/
def AscP (z : Str) : Prop := ∀ c ∈ cp z, 32 ≤ c ∧ c ≤ 126 ∧ c ≠ 37
/-- a thing that is no tuple and no list -/
def Sc (x : V) (d : PyData) : Prop :=
  match d with
  | .none => x = .non
  | .bool b => x = .bl b
  | .int i => x = .int i ∧ i.natAbs < 10 ^ 40
  | .str z => x = .str z ∧ z.length ≤ 100 ∧ AscP z
  | _ => False
/-- a thing: l, whether lists may stand in it; ms, how many items at most, from outside in -/
def Th (l : Bool) : List Nat → Hp → V → PyData → Prop
  | [], _, x, d => Sc x d
  | m :: r, H, x, d => Sc x d ∨ ∃ (a : Addr) (xs : List V) (ds : List PyData), x = .ref a ∧ ds.length ≤ m ∧ Paired (Th l r H) xs ds ∧
      ((d = .tuple ds ∧ H a = some (.tup xs)) ∨ (l = true ∧ d = .list ds ∧ H a = some (.lst xs)))
/-- tuples stay -/
def KT (H H' : Hp) : Prop := ∀ a xs, H a = some (.tup xs) → H' a = some (.tup xs)
theorem KT.refl (H : Hp) : KT H H := fun _ _ h => h
theorem KT.trans {H H1 H2 : Hp} (a : KT H H1) (b : KT H1 H2) : KT H H2 := fun _ _ h => b _ _ (a _ _ h)
theorem KT.of_same {H H' : Hp} (s : Same H H') : KT H H' := fun _ _ h => s _ _ h
theorem KB.kt {tp cl : Addr} {ns : List Int} {H H' : Hp} (k : KB tp H H') (T : Tape H tp cl ns) : KT H H' := fun a xs h => by
  refine k _ _ (fun z => ?_) h
  obtain ⟨i, r, y, c, q, _⟩ := T.ex
  rw [z, q] at h
  cases h
theorem KT.over {H H' : Hp} {D : Addr} {ys zs : List V} (k : KT H H') (h : H' D = some (.lst ys)) : KT H (upd H' D (.lst zs)) := fun a xs e => by
  have e1 := k _ _ e
  rw [upd_ne (fun z => by rw [z, h] at e1; cases e1)]
  exact e1
theorem KT.new {H H' : Hp} {D : Addr} {o : HO} (k : KT H H') (h : H' D = none) : KT H (upd H' D o) := fun a xs e => by
  have e1 := k _ _ e
  rw [upd_ne (fun z => by rw [z, h] at e1; cases e1)]
  exact e1
theorem paired_imp {α β : Type} {R S : α → β → Prop} (h : ∀ a b, R a b → S a b) : ∀ {l : List α} {r : List β}, Paired R l r → Paired S l r
  | _, _, .nil => .nil
  | _, _, .cons a b => .cons (h _ _ a) (paired_imp h b)
theorem Th.keep {l : Bool} : ∀ {ms : List Nat} {H H' : Hp} {x : V} {d : PyData}, Th l ms H x d → Same H H' → Th l ms H' x d
  | [], _, _, _, _, h, _ => h
  | m :: r, H, H', x, d, h, s => by
    rcases h with h | ⟨a, xs, ds, h1, h2, h3, h4⟩
    · exact .inl h
    · refine .inr ⟨a, xs, ds, h1, h2, paired_imp (fun _ _ q => q.keep s) h3, ?_⟩
      rcases h4 with ⟨e, h⟩ | ⟨e1, e, h⟩
      · exact .inl ⟨e, s _ _ h⟩
      · exact .inr ⟨e1, e, s _ _ h⟩
theorem Th.kt : ∀ {ms : List Nat} {H H' : Hp} {x : V} {d : PyData}, Th false ms H x d → KT H H' → Th false ms H' x d
  | [], _, _, _, _, h, _ => h
  | m :: r, H, H', x, d, h, s => by
    rcases h with h | ⟨a, xs, ds, h1, h2, h3, h4⟩
    · exact .inl h
    · refine .inr ⟨a, xs, ds, h1, h2, paired_imp (fun _ _ q => q.kt s) h3, ?_⟩
      rcases h4 with ⟨e, h⟩ | ⟨e1, _⟩
      · exact .inl ⟨e, s _ _ h⟩
      · cases e1
theorem Th.up : ∀ {ms : List Nat} {H : Hp} {x : V} {d : PyData}, Th false ms H x d → Th true ms H x d
  | [], _, _, _, h => h
  | m :: r, H, x, d, h => by
    rcases h with h | ⟨a, xs, ds, h1, h2, h3, h4⟩
    · exact .inl h
    · refine .inr ⟨a, xs, ds, h1, h2, paired_imp (fun _ _ q => q.up) h3, ?_⟩
      rcases h4 with ⟨e, h⟩ | ⟨e1, _⟩
      · exact .inl ⟨e, h⟩
      · cases e1
theorem Sc.th {l : Bool} {ms : List Nat} {H : Hp} {x : V} {d : PyData} (h : Sc x d) : Th l ms H x d := by
  cases ms with
  | nil => exact h
  | cons m r => exact .inl h
theorem Sc.plain {x : V} {d : PyData} (h : Sc x d) : Plain x := by
  cases d with
  | none => rw [show x = .non from h]; trivial
  | bool b => rw [show x = .bl b from h]; trivial
  | int i => rw [h.1]; trivial
  | str z => rw [h.1]; trivial
  | tuple ds => exact h.elim
  | list ds => exact h.elim
  | dict ds => exact h.elim
theorem Th.any {l : Bool} {ms : List Nat} {H : Hp} {x : V} {d : PyData} (h : Th l ms H x d) : AnyV H x := by
  cases ms with
  | nil => exact .inl (Sc.plain h)
  | cons m r =>
    rcases h with h | ⟨a, xs, ds, h1, h2, h3, h4⟩
    · exact .inl h.plain
    · rcases h4 with ⟨_, h⟩ | ⟨_, _, h⟩
      · exact .inr ⟨a, xs, h1, .inr h⟩
      · exact .inr ⟨a, xs, h1, .inl h⟩
theorem Th.sc {l : Bool} {ms : List Nat} {H : Hp} {x : V} {d : PyData} (h : Th l ms H x d) (hx : Plain x) : Sc x d := by
  cases ms with
  | nil => exact h
  | cons m r =>
    rcases h with h | ⟨a, xs, ds, h1, h2, h3, h4⟩
    · exact h
    · rw [h1] at hx
      exact hx.elim
theorem paired_dp {K : PySem.W.Frag} {H : Hp} {R : V → PyData → Prop} (h : ∀ a b, R a b → Dp K H a b) : ∀ {l : List V} {r : List PyData}, Paired R l r → DpAll K H l r
  | _, _, .nil => .nil
  | _, _, .cons a b => .cons (h _ _ a) (paired_dp h b)
theorem Sc.dp {K : PySem.W.Frag} {H : Hp} {x : V} {d : PyData} (h : Sc x d) : Dp K H x d := by
  cases d with
  | none => rw [show x = .non from h]; exact .non
  | bool b => rw [show x = .bl b from h]; exact .bl b
  | int i => rw [h.1]; exact .int i
  | str z => rw [h.1]; exact .str z
  | tuple ds => exact h.elim
  | list ds => exact h.elim
  | dict ds => exact h.elim
theorem Th.dp {K : PySem.W.Frag} {l : Bool} : ∀ {ms : List Nat} {H : Hp} {x : V} {d : PyData}, Th l ms H x d → Dp K H x d
  | [], _, _, _, h => Sc.dp h
  | m :: r, H, x, d, h => by
    rcases h with h | ⟨a, xs, ds, h1, h2, h3, h4⟩
    · exact h.dp
    · have hd := paired_dp (K := K) (fun _ _ q => Th.dp (ms := r) q) h3
      rw [h1]
      rcases h4 with ⟨e, h⟩ | ⟨_, e, h⟩
      · rw [e]
        exact .tup (SqT.of h) hd
      · rw [e]
        exact .lst (SqL.of h) hd
def sizeB : List Nat → Nat
  | [] => 1010
  | m :: r => 1010 + m * (sizeB r + 2) + 3
theorem pow40 {i : Int} (h : i.natAbs < 10 ^ 40) : i.natAbs.log2 < 1920 := by
  by_cases z : i.natAbs = 0
  · rw [z]
    decide
  · exact Nat.lt_of_lt_of_le ((Nat.log2_lt (k := 140) z).mpr (Nat.lt_of_lt_of_le h (by decide))) (by decide)
structure ShowD (d : PyData) (n k : Nat) : Prop where
  ok : d.showable = true
  nd : d.hasDict = false
  dp : d.depth ≤ k
  sz : d.shown.length ≤ n
theorem ascp_big {z : Str} (h : AscP z) : ∀ c ∈ z.cps.toList, c < 16 ^ 8 := fun c hc => by
  have := h c hc
  have e : (16 : Nat) ^ 8 = 4294967296 := by decide
  rw [e]
  omega
theorem int_show {i : Int} (h : i.natAbs < 10 ^ 40) : ((toString i : String) : Str).length ≤ 1010 := by
  have e := int_text_length_le10 (a := i) (k := 40) (by decide) h
  have e2 : ((toString i : String) : Str).length = (toString i).length := PySem.ofString_length _
  rw [e2]
  omega
theorem Sc.show {x : V} {d : PyData} (h : Sc x d) : ShowD d 1010 0 := by
  cases d with
  | none => exact ⟨rfl, rfl, Nat.le_refl _, by decide +kernel⟩
  | bool b => exact ⟨rfl, rfl, Nat.le_refl _, by cases b <;> decide +kernel⟩
  | int i => exact ⟨decide_eq_true (pow40 h.2), rfl, Nat.le_refl _, int_show h.2⟩
  | str z =>
    refine ⟨rfl, rfl, Nat.le_refl _, ?_⟩
    have := StrLaws.reprText_len z (ascp_big h.2.2)
    have h2 := h.2.1
    show (reprText z).length ≤ 1010
    omega
  | tuple ds => exact h.elim
  | list ds => exact h.elim
  | dict ds => exact h.elim
theorem all_show {R : V → PyData → Prop} {n k : Nat} (h : ∀ a b, R a b → ShowD b n k) : ∀ {l : List V} {r : List PyData}, Paired R l r →
    PyData.showableAll r = true ∧ PyData.hasDictAll r = false ∧ PyData.depthAll r ≤ k ∧ ((PyData.shownAll r).map (·.length)).sum ≤ r.length * n ∧ (PyData.shownAll r).length = r.length
  | _, _, .nil => ⟨rfl, rfl, Nat.zero_le _, Nat.zero_le _, rfl⟩
  | _, d :: r, .cons (l₁ := vs) a b => by
    obtain ⟨q1, q2, q3, q4, q5⟩ := all_show h b
    have g := h _ _ a
    refine ⟨?_, ?_, ?_, ?_, ?_⟩
    · show (d.showable && PyData.showableAll r) = true
      rw [g.ok, q1]
      rfl
    · show (d.hasDict || PyData.hasDictAll r) = false
      rw [g.nd, q2]
      rfl
    · show max d.depth (PyData.depthAll r) ≤ k
      have := g.dp
      omega
    · show (List.map (·.length) (d.shown :: PyData.shownAll r)).sum ≤ _
      rw [List.map_cons, List.sum_cons, List.length_cons, Nat.succ_mul]
      have := g.sz
      omega
    · show (d.shown :: PyData.shownAll r).length = _
      rw [List.length_cons, List.length_cons, q5]
theorem sizeB_up : ∀ ms : List Nat, 1010 ≤ sizeB ms
  | [] => Nat.le_refl _
  | m :: r => by
    show 1010 ≤ 1010 + m * (sizeB r + 2) + 3
    omega
theorem Th.show {l : Bool} : ∀ {ms : List Nat} {H : Hp} {x : V} {d : PyData}, Th l ms H x d → ShowD d (sizeB ms) ms.length
  | [], _, _, _, h => Sc.show h
  | m :: r, H, x, d, h => by
    rcases h with h | ⟨a, xs, ds, h1, h2, h3, h4⟩
    · obtain ⟨a1, a2, a3, a4⟩ := h.show
      exact ⟨a1, a2, by omega, Nat.le_trans a4 (sizeB_up _)⟩
    · obtain ⟨q1, q2, q3, q4, q5⟩ := all_show (fun _ _ q => Th.show (ms := r) q) h3
      have e1 : ds.length * sizeB r ≤ m * sizeB r := Nat.mul_le_mul_right _ h2
      have e2 : m * (sizeB r + 2) = m * sizeB r + m * 2 := Nat.mul_add _ _ _
      have e3 := PySem.tupleText_len_le (PyData.shownAll ds)
      have e4 := PySem.listText_len_le (PyData.shownAll ds)
      rcases h4 with ⟨e, _⟩ | ⟨_, e, _⟩ <;> rw [e]
      · refine ⟨q1, q2, ?_, ?_⟩
        · show PyData.depthAll ds + 1 ≤ r.length + 1
          omega
        · show (tupleText (PyData.shownAll ds)).length ≤ 1010 + m * (sizeB r + 2) + 3
          omega
      · refine ⟨q1, q2, ?_, ?_⟩
        · show PyData.depthAll ds + 1 ≤ r.length + 1
          omega
        · show (listText (PyData.shownAll ds)).length ≤ 1010 + m * (sizeB r + 2) + 3
          omega
end Sea
namespace Sea
open PySem PySem.Spec PyProof.Rows L2
abbrev LET : Str := Str.ofString "abcdefghijklmnopqrstuvwxyz"
theorem let_cp : cp LET = (List.range 26).map (· + 97) := by decide +kernel
theorem in_let {c : Nat} : c ∈ cp LET ↔ 97 ≤ c ∧ c ≤ 122 := by
  rw [let_cp, List.mem_map]
  constructor
  · rintro ⟨a, ha, rfl⟩
    have := List.mem_range.mp ha
    omega
  · intro h
    exact ⟨c - 97, List.mem_range.mpr (by omega), by omega⟩
structure NameW (l : List Nat) : Prop where
  some : 1 ≤ l.length
  most : l.length ≤ 8
  sign : ∀ c ∈ l, 97 ≤ c ∧ c ≤ 122
open Classical in
noncomputable def nameV : V → Bool
  | .str z => decide (NameW (cp z))
  | _ => false
open Classical in
theorem nameV_no {z : Str} (h : ¬ NameW (cp z)) : nameV (.str z) = false := decide_eq_false h
open Classical in
theorem nameV_yes {z : Str} (h : NameW (cp z)) : nameV (.str z) = true := decide_eq_true h
def spIsIntA : Sp := fun vs H Q _ => ∃ x, vs = [x] ∧ AnyV H x ∧ Q (.bl (isInt x)) H
def spWithinA : Sp := fun vs H Q _ => ∃ x lo hi, vs = [x, .int lo, .int hi] ∧ AnyV H x ∧ Q (.bl (inside x lo hi)) H
/-- the empty tuple that stands for a default, in the written part -/
def DfT (K : PySem.W.Frag) (a : Addr) : Prop := ∃ o n, K.lookup a = some o ∧ o.cls = .type "tuple" ∧ o.data = .seq #[] n
theorem DfT.sq {K : PySem.W.Frag} {H : Hp} {a : Addr} (h : DfT K a) : SqT K H a [] := by
  obtain ⟨o, n, h1, h2, h3⟩ := h
  exact .inr ⟨o, #[], n, h1, h2, h3, Nat.zero_le _, .nil⟩
theorem DfT.ty {K : PySem.W.Frag} {H : Hp} {a : Addr} (h : DfT K a) : TyX K H (.ref a) (.type "tuple") := by
  obtain ⟨o, n, h1, h2, h3⟩ := h
  exact .kTuple h1 h2
def spItemsA (K : PySem.W.Frag) : Sp := fun vs H Q _ => ∃ x, vs = [x] ∧ ((Plain x ∧ ∀ H', Same H H' → Q .non H') ∨ (∃ a, x = .ref a ∧ DfT K a ∧ ∀ H', Same H H' → Q (.ref a) H') ∨ ∃ a xs, x = .ref a ∧ (H a = some (.tup xs) ∨ H a = some (.lst xs)) ∧ ∀ H' t, Same H H' → H' t = some (.tup xs) → Q (.ref t) H')
def spPartsA : Sp := fun vs H Q _ => ∃ x n, vs = [x, .int n] ∧ ((Plain x ∧ ∀ H', Same H H' → Q .non H') ∨ ∃ a xs, x = .ref a ∧ (H a = some (.tup xs) ∨ H a = some (.lst xs)) ∧ xs.length ≤ 1000 ∧
  ((xs.length : Int) = n → ∀ H' t, Same H H' → H' t = some (.tup xs) → Q (.ref t) H') ∧ ((xs.length : Int) ≠ n → ∀ H', Same H H' → Q .non H'))
noncomputable def spNameA : Sp := fun vs H Q _ => ∃ x, vs = [x] ∧ AnyV H x ∧ (∀ z, x = .str z → z.length ≤ 2000) ∧ ∀ H', Same H H' → Q (.bl (nameV x)) H'
theorem small3 {n : Nat} (h : n ≤ 2000) : n ≤ sizeLine := by
  rw [sizeLine_eq]
  omega
theorem all_reps (l : List Nat) (p : Nat → Bool) : ((l.map fun c => p c).all id) = l.all p := by
  rw [List.all_map]
  rfl
section
variable {P : Program} {w : World} {K : PySem.W.Frag} {mg : Str → Option Value} {base : Heap}
theorem ok_is_integerA {f : Addr} {fd : FuncData} (F : Fun K "is_integer" "is_integer" s_is_integer f fd)
    (m_isinstance : mg "isinstance" = none) (m_int : mg "int" = none) (m_bool : mg "bool" = none) : FnOk P w K mg base CX0 1 f fd ["thing"] spIsIntA := by
  refine F.ok sc_is_integer (fun vs H Q E h => ?_) (fun cdv A outer s H vs Q E hr h => ?_)
  · obtain ⟨x, rfl, _⟩ := h
    rfl
  · obtain ⟨x, rfl, hp, q⟩ := h
    refine ⟨_, (pss_one (ps_ret (pe_and (pe_callB call_isi (by rfl) m_isinstance (by decide +kernel) (pa_cons (pv 0) (pa_cons (pe_bltn (v := .ty "int") (by rfl) m_int (by decide +kernel) rfl) pa_nil))) (pe_one (pe_not (pe_callB call_isi (by rfl) m_isinstance (by decide +kernel) (pa_cons (pv 0) (pa_cons (pe_bltn (v := .ty "bool") (by rfl) m_bool (by decide +kernel) rfl) pa_nil)))))))), ?_⟩
    cases x with
    | int i => exact ⟨_, rfl, _, _, _, _, true, rfl, .ty _, .base (.int i), kit_ty (by decide +kernel), true, rfl, iteT ⟨_, rfl, _, _, _, _, false, rfl, .ty _, .base (.int i), kit_ty (by decide +kernel), false, rfl, q⟩⟩
    | bl b => exact ⟨_, rfl, _, _, _, _, true, rfl, .ty _, .base (.bl b), kit_ty (by decide +kernel), true, rfl, iteT ⟨_, rfl, _, _, _, _, true, rfl, .ty _, .base (.bl b), kit_ty (by decide +kernel), true, rfl, q⟩⟩
    | non => exact ⟨_, rfl, _, _, _, _, false, rfl, .ty _, .base .non, kit_ty (by decide +kernel), false, rfl, iteF q⟩
    | str z => exact ⟨_, rfl, _, _, _, _, false, rfl, .ty _, .base (.str z), kit_ty (by decide +kernel), false, rfl, iteF q⟩
    | ref a =>
      rcases hp with hp | ⟨a', xs, ea, hl | hl⟩
      · exact hp.elim
      · cases ea
        exact ⟨_, rfl, _, _, _, _, false, rfl, .ty _, .base (.lst hl), kit_ty (by decide +kernel), false, rfl, iteF q⟩
      · cases ea
        exact ⟨_, rfl, _, _, _, _, false, rfl, .ty _, .base (.tup hl), kit_ty (by decide +kernel), false, rfl, iteF q⟩
    | byt z => rcases hp with hp | ⟨a', xs, ea, _⟩ <;> first | exact hp.elim | cases ea
    | flt z => rcases hp with hp | ⟨a', xs, ea, _⟩ <;> first | exact hp.elim | cases ea
    | ty z => rcases hp with hp | ⟨a', xs, ea, _⟩ <;> first | exact hp.elim | cases ea
theorem ok_is_withinA {f : Addr} {fd : FuncData} (F : Fun K "is_within" "is_within" s_is_within f fd)
    (c_is_integer : Cal P w K mg base 1 "is_integer" spIsIntA) : FnOk P w K mg base CX0 2 f fd ["thing", "low", "high"] spWithinA := by
  refine F.ok sc_is_within (fun vs H Q E h => ?_) (fun cdv A outer s H vs Q E hr h => ?_)
  · obtain ⟨x, lo, hi, rfl, _⟩ := h
    rfl
  · obtain ⟨x, lo, hi, rfl, hp, q⟩ := h
    refine ⟨_, (pss_one (ps_ret (pe_and (pe_c c_is_integer hr (by decide) rfl (pa_cons (pv 0) pa_nil)) (pe_one (pe_chain op_le op_le (pv 1) (pv 0) (pv 2)))))), ?_⟩
    refine ⟨_, rfl, x, rfl, hp, ?_⟩
    cases x with
    | int i =>
      refine ⟨true, rfl, iteT ⟨_, rfl, _, rfl, _, _, rfl, rfl, _, rfl, ?_⟩⟩
      refine ite2 (fun e => ?_) (fun e => ?_)
      · refine ⟨_, rfl, _, _, rfl, rfl, ?_⟩
        have q' : Q (.bl (decide (lo ≤ i) && decide (i ≤ hi))) H := q
        rw [e, Bool.true_and] at q'
        exact q'
      · have q' : Q (.bl (decide (lo ≤ i) && decide (i ≤ hi))) H := q
        rw [Bool.eq_false_iff.mpr e, Bool.false_and] at q'
        exact q'
    | _ => exact ⟨false, rfl, iteF q⟩
theorem ok_items_ofA {f : Addr} {fd : FuncData} (F : Fun K "items_of" "items_of" s_items_of f fd) (m_isinstance : mg "isinstance" = none) (m_tuple : mg "tuple" = none) (m_list : mg "list" = none) :
    FnOk P w K mg base CX0 1 f fd ["thing"] (spItemsA K) := by
  refine F.ok sc_items_of (fun vs H Q E h => ?_) (fun cdv A outer s H vs Q E hr h => ?_)
  · obtain ⟨x, rfl, _⟩ := h
    rfl
  · obtain ⟨x, rfl, hx⟩ := h
    refine ⟨_, (pss_cons (ps_if (pt_val (pe_callB call_isiT (by rfl) m_isinstance (by decide +kernel) (pa_cons (pv 0) (pa_cons (pe_tup (pa_cons (pe_bltn (v := .ty "tuple") (by rfl) m_tuple (by decide +kernel) rfl) (pa_cons (pe_bltn (v := .ty "list") (by rfl) m_list (by decide +kernel) rfl) pa_nil))) pa_nil))))
    (pss_one (ps_ret (pe_callTy call_tuple_of (by rfl) m_tuple (by decide +kernel) (pa_cons (pv 0) pa_nil))))
    pss_nil)
    (pss_one (ps_ret (pe_non)))), ?_⟩
    refine ⟨_, rfl, (by show 2 ≤ sizeLine; decide), fun p hp => ?_⟩
    have sp := same_new (o := .tup [V.ty "tuple", V.ty "list"]) hp
    have noB : ∀ {t : String}, kitB t "tuple" = some false → kitB t "list" = some false → PySem.W.kitAny K (.type t) [.type "tuple", .type "list"] = some false := fun {t} h1 h2 =>
      kitAny_cons (b := false) (kit_ty h1) (fun _ => kitAny_cons (b := false) (kit_ty h2) (fun _ => rfl) (fun z => nomatch z)) (fun z => nomatch z)
    rcases hx with ⟨hx, q⟩ | ⟨a, rfl, hdf, q⟩ | ⟨a, xs, rfl, ha | ha, q⟩
    · have q' := q _ sp
      cases x with
      | int i => exact ⟨_, p, _, _, _, false, rfl, upd_same, .cons (.ty _) (.cons (.ty _) .nil), .base (.int i), noB (by decide +kernel) (by decide +kernel), false, rfl, q'⟩
      | bl b => exact ⟨_, p, _, _, _, false, rfl, upd_same, .cons (.ty _) (.cons (.ty _) .nil), .base (.bl b), noB (by decide +kernel) (by decide +kernel), false, rfl, q'⟩
      | non => exact ⟨_, p, _, _, _, false, rfl, upd_same, .cons (.ty _) (.cons (.ty _) .nil), .base .non, noB (by decide +kernel) (by decide +kernel), false, rfl, q'⟩
      | str z => exact ⟨_, p, _, _, _, false, rfl, upd_same, .cons (.ty _) (.cons (.ty _) .nil), .base (.str z), noB (by decide +kernel) (by decide +kernel), false, rfl, q'⟩
      | ref a => exact hx.elim
      | byt z => exact hx.elim
      | flt z => exact hx.elim
      | ty z => exact hx.elim
    · exact ⟨_, p, _, _, _, true, rfl, upd_same, .cons (.ty _) (.cons (.ty _) .nil), hdf.ty, kitAny_cons (b := true) (kit_ty (by decide +kernel)) (fun z => nomatch z) (fun _ => rfl), true, rfl,
        _, rfl, a, [], rfl, .inr ⟨hdf.sq, q _ sp⟩⟩
    · exact ⟨_, p, _, _, _, true, rfl, upd_same, .cons (.ty _) (.cons (.ty _) .nil), .base (.tup (sp _ _ ha)), kitAny_cons (b := true) (kit_ty (by decide +kernel)) (fun z => nomatch z) (fun _ => rfl), true, rfl,
        _, rfl, a, xs, rfl, .inr ⟨SqT.of (sp _ _ ha), q _ a sp (sp _ _ ha)⟩⟩
    · exact ⟨_, p, _, _, _, true, rfl, upd_same, .cons (.ty _) (.cons (.ty _) .nil), .base (.lst (sp _ _ ha)), kitAny_cons (b := false) (kit_ty (by decide +kernel)) (fun _ => kitAny_cons (b := true) (kit_ty (by decide +kernel)) (fun z => nomatch z) (fun _ => rfl)) (fun z => nomatch z), true, rfl,
        _, rfl, a, xs, rfl, .inl ⟨SqL.of (sp _ _ ha), fun l hl => q _ l (sp.trans (same_new hl)) upd_same⟩⟩
theorem ok_parts_ofA {f : Addr} {fd : FuncData} (F : Fun K "parts_of" "parts_of" s_parts_of f fd) (m_len : mg "len" = none) (c_items_of : Cal P w K mg base 1 "items_of" (spItemsA K)) :
    FnOk P w K mg base CX0 2 f fd ["thing", "many"] spPartsA := by
  refine F.ok sc_parts_of (fun vs H Q E h => ?_) (fun cdv A outer s H vs Q E hr h => ?_)
  · obtain ⟨x, n, rfl, _⟩ := h
    rfl
  · obtain ⟨x, n, rfl, hx⟩ := h
    refine ⟨_, (pss_cons (ps_set (i := 2) sc_parts_of.nd rfl (Or.inl rfl) (pe_c c_items_of hr (by decide) rfl (pa_cons (pv 0) pa_nil)))
    (pss_cons (ps_if (PW.pt (pw_or (pt_cmpR op_isN (pv 2) (pe_non) (nomark _)) (pw_or1 (pt_cmpR op_ne (pe_callB call_len (by rfl) m_len (by decide +kernel) (pa_cons (pv 2) pa_nil)) (pv 1) (nomark _)))))
    (pss_one (ps_ret (pe_non)))
    pss_nil)
    (pss_one (ps_ret (pv 2))))), ?_⟩
    rcases hx with ⟨hx, q⟩ | ⟨a, xs, rfl, ha, hl, q1, q2⟩
    · exact ⟨_, rfl, x, rfl, .inl ⟨hx, fun H1 s1 => ⟨_, rfl, rfl, _, rfl, q H1 s1⟩⟩⟩
    · refine ⟨_, rfl, .ref a, rfl, .inr (.inr ⟨a, xs, rfl, ha, fun H1 t s1 h1 => ?_⟩)⟩
      refine ⟨_, rfl, rfl, _, rfl, _, rfl, _, xs.length, rfl, .inr ⟨_, SqT.of h1, rfl⟩, _, rfl, rfl, _, rfl, ?_⟩
      by_cases e : (xs.length : Int) = n
      · rw [e, decide_eq_true rfl]
        exact ⟨_, rfl, q1 e H1 t s1 h1⟩
      · rw [decide_eq_false (fun z => e (V.int.inj z))]
        exact q2 e H1 s1
theorem ok_is_nameA {f : Addr} {fd : FuncData} (F : Fun K "is_name" "is_name" s_is_name f fd) (m_isinstance : mg "isinstance" = none) (m_str : mg "str" = none) (m_len : mg "len" = none) (m_all : mg "all" = none)
    {t : Tok} (g_LETTERS : mg "LETTERS" = some (.str LET t)) : FnOk P w K mg base CX0 1 f fd ["thing"] spNameA := by
  refine F.ok sc_is_name (fun vs H Q E h => ?_) (fun cdv A outer s H vs Q E hr h => ?_)
  · obtain ⟨x, rfl, _⟩ := h
    rfl
  · obtain ⟨x, rfl, hany, hsz, q⟩ := h
    refine ⟨_, (pss_cons (ps_if (PW.pt (pw_or (pt_not (pt_val (pe_callB call_isi (by rfl) m_isinstance (by decide +kernel) (pa_cons (pv 0) (pa_cons (pe_bltn (v := .ty "str") (by rfl) m_str (by decide +kernel) rfl) pa_nil))))) (pw_or1 (pt_not (pt_chain op_le op_le (pe_int) (pe_callB call_len (by rfl) m_len (by decide +kernel) (pa_cons (pv 0) pa_nil)) (pe_int))))))
    (pss_one (ps_ret (pe_bl)))
    pss_nil)
    (pss_one (ps_ret (pe_callB (cr_all rfl) (by rfl) m_all (by decide +kernel) (pa_cons (pe_lc (own := [("sign", 1)]) rfl sc_is_name.nd (pi_str (pv 0)) (blkOk_by (N := N_is_name) (sc := defScope s_is_name) (by decide +kernel)) (fun _ _ _ _ _ => (pg_name (i := 1) sc_is_name.nd rfl (Or.inl rfl))) (fun _ _ _ _ _ => pts_nil) (fun _ _ _ _ _ => (pe_cmpR op_in_sign (pv 1) (pe_glob (v := .str LET) rfl g_LETTERS ⟨_, rfl⟩) rfl))) pa_nil))))), ?_⟩
    cases x with
    | int i => exact ⟨_, rfl, _, _, _, _, false, rfl, .ty _, .base (.int i), kit_ty (by decide +kernel), false, rfl, q H (Same.refl H)⟩
    | bl b => exact ⟨_, rfl, _, _, _, _, false, rfl, .ty _, .base (.bl b), kit_ty (by decide +kernel), false, rfl, q H (Same.refl H)⟩
    | non => exact ⟨_, rfl, _, _, _, _, false, rfl, .ty _, .base .non, kit_ty (by decide +kernel), false, rfl, q H (Same.refl H)⟩
    | ref a =>
      rcases hany with hp | ⟨a', xs, ea, hl | hl⟩
      · exact hp.elim
      · cases ea
        exact ⟨_, rfl, _, _, _, _, false, rfl, .ty _, .base (.lst hl), kit_ty (by decide +kernel), false, rfl, q H (Same.refl H)⟩
      · cases ea
        exact ⟨_, rfl, _, _, _, _, false, rfl, .ty _, .base (.tup hl), kit_ty (by decide +kernel), false, rfl, q H (Same.refl H)⟩
    | byt z => rcases hany with hp | ⟨a', xs, ea, _⟩ <;> first | exact hp.elim | cases ea
    | flt z => rcases hany with hp | ⟨a', xs, ea, _⟩ <;> first | exact hp.elim | cases ea
    | ty z => rcases hany with hp | ⟨a', xs, ea, _⟩ <;> first | exact hp.elim | cases ea
    | str z =>
      have hz : z.length ≤ 2000 := hsz z rfl
      have hzl := small3 hz
      have no : ∀ H', Same H H' → ¬ NameW (cp z) → Q (.bl false) H' := fun H' hs hg => by
        have q' := q H' hs
        rw [nameV_no hg] at q'
        exact q'
      refine ⟨_, rfl, _, _, _, _, true, rfl, .ty _, .base (.str z), kit_ty (by decide +kernel), true, rfl, ?_⟩
      refine ⟨_, rfl, _, z.length, rfl, ⟨hzl, rfl⟩, _, _, rfl, rfl, _, rfl, ite2 (fun h1 => ⟨_, _, rfl, rfl, _, rfl, ?_⟩) (fun h1 => ⟨_, rfl, no H (Same.refl H) fun g => ?_⟩)⟩
      · by_cases h8 : ((z.length : Nat) : Int) ≤ 8
        · rw [decide_eq_true h8]
          refine ⟨_, rfl, z, rfl, fun D hD => ?_⟩
          refine lc_it walk_str (fun i H' => Same H H' ∧ H' D = some (.lst ((((cp z).take i).map fun c => decide (c ∈ cp LET)).map V.bl))) ⟨same_new hD, by rw [List.take_zero]; exact upd_same⟩ (fun _ _ _ _ => trivial) ?_ ?_
          · rintro i x Ha Hb hi ⟨hs, hd⟩ ⟨rfl, c, hc, rfl⟩
            have hc' : (cp z)[i]? = some c := by rw [Array.getElem?_toList]; exact hc
            refine ⟨rfl, _, rfl, c, LET, rfl, rfl, _, hd, ?_, same_over hs hD, ?_⟩
            · rw [List.length_map, List.length_map, List.length_take]
              have hi' : i < z.length := hi
              exact small_line (by omega)
            · rw [upd_same, List.take_add_one, hc', List.map_append, List.map_append]
              rfl
          · rintro H' ⟨hs, hd⟩
            have e0 : (cp z).take z.cps.size = cp z := List.take_of_length_le (by rw [cp_len]; exact Nat.le_refl _)
            rw [e0] at hd
            have q' := q H' hs
            have e : ((cp z).map fun c => decide (c ∈ cp LET)).all id = nameV (.str z) := by
              rw [all_reps]
              by_cases g : NameW (cp z)
              · rw [nameV_yes g]
                exact List.all_eq_true.mpr fun c hc => decide_eq_true (in_let.mpr (g.sign c hc))
              · rw [nameV_no g, Bool.eq_false_iff]
                intro t
                refine g ⟨?_, ?_, fun c hc => in_let.mp (of_decide_eq_true (List.all_eq_true.mp t c hc))⟩
                · rw [cp_len]
                  have := of_decide_eq_true h1
                  omega
                · rw [cp_len]
                  omega
            refine ⟨D, _, rfl, SqL.of hd, ?_⟩
            rw [e]
            exact q'
        · rw [decide_eq_false h8]
          refine no H (Same.refl H) fun g => h8 ?_
          have := g.most
          rw [cp_len] at this
          omega
      · have := g.some
        rw [cp_len] at this
        exact h1 (decide_eq_true (by omega))
end
end Sea
namespace Sea
open PySem PySem.Spec PyProof.Rows L2
structure Cue where
  s : Int
  e : Int
  nm : Str
  tx : Str
  deriving DecidableEq
def Cue.vs (c : Cue) : List V := [.int c.s, .int c.e, .str c.nm, .str c.tx]
/-- the items of a tuple or a list -/
def seqD : PyData → Option (List PyData)
  | .tuple ds => some ds
  | .list ds => some ds
  | _ => none
/-- a thing's parts, as a cue's -/
def cueD (d : PyData) : Option Cue :=
  match seqD d with
  | some [.int s, .int e, .str n, .str t] => some ⟨s, e, n, t⟩
  | _ => none
structure GoodC (lo len : Int) (c : Cue) : Prop where
  nm : NameW (cp c.nm)
  tx : Good (cp c.tx)
  lo : lo ≤ c.s
  lt : c.s < c.e
  hi : c.e ≤ len
open Classical in
/-- whether a thing can stand as a cue from lo on in a reel of this length -/
noncomputable def okD (lo len : Int) (d : PyData) : Bool :=
  match cueD d with
  | some c => decide (GoodC lo len c)
  | none => false
def endD (d : PyData) : Int :=
  match cueD d with
  | some c => c.e
  | none => 0
/-- the number of the first thing that can't stand -/
noncomputable def judgeD (len : Int) : Int → List PyData → Option Nat
  | _, [] => none
  | lo, d :: r => if okD lo len d = true then (judgeD len (endD d) r).map (· + 1) else some 0
open Classical in
theorem okD_good {lo len : Int} {d : PyData} (h : okD lo len d = true) : ∃ c, cueD d = some c ∧ GoodC lo len c := by
  unfold okD at h
  cases e : cueD d with
  | none => rw [e] at h; cases h
  | some c => rw [e] at h; exact ⟨c, rfl, of_decide_eq_true h⟩
open Classical in
theorem okD_of {lo len : Int} {d : PyData} {c : Cue} (h : cueD d = some c) (g : GoodC lo len c) : okD lo len d = true := by
  unfold okD
  rw [h]
  exact decide_eq_true g
theorem cueD_parts {d : PyData} {c : Cue} (h : cueD d = some c) : seqD d = some [.int c.s, .int c.e, .str c.nm, .str c.tx] := by
  unfold cueD at h
  split at h
  · rename_i e
    have := Option.some.inj h
    subst this
    exact e
  · cases h
theorem Th.int {l : Bool} {ms : List Nat} {H : Hp} {x : V} {i : Int} (h : Th l ms H x (.int i)) : x = .int i := by
  cases ms with
  | nil => exact h.1
  | cons m r =>
    rcases h with h | ⟨a, xs, ds, h1, h2, h3, ⟨e, _⟩ | ⟨_, e, _⟩⟩
    · exact h.1
    · cases e
    · cases e
theorem Th.str {l : Bool} {ms : List Nat} {H : Hp} {x : V} {z : Str} (h : Th l ms H x (.str z)) : x = .str z ∧ z.length ≤ 100 ∧ AscP z := by
  cases ms with
  | nil => exact h
  | cons m r =>
    rcases h with h | ⟨a, xs, ds, h1, h2, h3, ⟨e, _⟩ | ⟨_, e, _⟩⟩
    · exact h
    · cases e
    · cases e
theorem Sc.seq {x : V} {d : PyData} (h : Sc x d) : seqD d = none := by
  cases d with
  | tuple ds => exact h.elim
  | list ds => exact h.elim
  | _ => rfl
theorem Th.lenS {l : Bool} {ms : List Nat} {H : Hp} {x : V} {d : PyData} (h : Th l ms H x d) : ∀ z, x = .str z → z.length ≤ 100 := by
  intro z e
  subst e
  have := h.sc trivial
  cases d with
  | none => cases (show V.str z = .non from this)
  | bool b => cases (show V.str z = .bl b from this)
  | int i => cases this.1
  | str y => cases this.1; exact this.2.1
  | tuple ds => exact this.elim
  | list ds => exact this.elim
  | dict ds => exact this.elim
theorem isInt_int {l : Bool} {ms : List Nat} {H : Hp} {x : V} {d : PyData} (h : Th l ms H x d) (e : isInt x = true) : ∃ i, x = .int i ∧ d = .int i := by
  cases x with
  | int i =>
    have := h.sc trivial
    cases d with
    | none => cases (show V.int i = .non from this)
    | bool b => cases (show V.int i = .bl b from this)
    | int j => cases this.1; exact ⟨i, rfl, rfl⟩
    | str y => cases this.1
    | tuple ds => exact this.elim
    | list ds => exact this.elim
    | dict ds => exact this.elim
  | _ => cases e
theorem is_str {l : Bool} {ms : List Nat} {H : Hp} {z : Str} {d : PyData} (h : Th l ms H (.str z) d) : d = .str z := by
  have := h.sc trivial
  cases d with
  | none => cases (show V.str z = .non from this)
  | bool b => cases (show V.str z = .bl b from this)
  | int j => cases this.1
  | str y => cases this.1; rfl
  | tuple ds => exact this.elim
  | list ds => exact this.elim
  | dict ds => exact this.elim
open Classical in
theorem nameV_good {x : V} (h : nameV x = true) : ∃ z, x = .str z ∧ NameW (cp z) := by
  cases x with
  | str z => exact ⟨z, rfl, of_decide_eq_true h⟩
  | _ => cases h
open Classical in
theorem textV_good {x : V} (h : textV x = true) : ∃ z, x = .str z ∧ Good (cp z) := by
  cases x with
  | str z => exact ⟨z, rfl, of_decide_eq_true h⟩
  | _ => cases h
theorem paired4 {R : V → PyData → Prop} {xs : List V} {ds : List PyData} (h : Paired R xs ds) (e : xs.length = 4) : ∃ a b c d a' b' c' d', xs = [a, b, c, d] ∧ ds = [a', b', c', d'] ∧ R a a' ∧ R b b' ∧ R c c' ∧ R d d' := by
  cases h with
  | nil => cases e
  | cons h1 h =>
    cases h with
    | nil => cases e
    | cons h2 h =>
      cases h with
      | nil => cases e
      | cons h3 h =>
        cases h with
        | nil => cases e
        | cons h4 h =>
          cases h with
          | nil => exact ⟨_, _, _, _, _, _, _, _, rfl, rfl, h1, h2, h3, h4⟩
          | cons h5 h => simp only [List.length_cons] at e; omega
theorem paired_len {α β : Type} {R : α → β → Prop} : ∀ {l : List α} {r : List β}, Paired R l r → l.length = r.length
  | _, _, .nil => rfl
  | _, _, .cons _ t => congrArg (· + 1) (paired_len t)
noncomputable def spCueA : Sp := fun vs H Q _ => ∃ (x : V) (d : PyData) (lo len : Int), vs = [x, .int lo, .int len] ∧ Th true [5, 1] H x d ∧
  (∀ c, cueD d = some c → GoodC lo len c → ∀ H' t, Same H H' → H' t = some (.tup c.vs) → Q (.ref t) H') ∧ (okD lo len d = false → ∀ H', Same H H' → Q .non H')
section
variable {P : Program} {w : World} {K : PySem.W.Frag} {mg : Str → Option Value} {base : Heap}
theorem ok_cue_ofA {f : Addr} {fd : FuncData} (F : Fun K "cue_of" "cue_of" s_cue_of f fd) (c_parts_of : Cal P w K mg base 2 "parts_of" spPartsA) (c_is_integer : Cal P w K mg base 1 "is_integer" spIsIntA)
    (c_is_name : Cal P w K mg base 1 "is_name" spNameA) (c_is_text : Cal P w K mg base 2 "is_text" spIsText) : FnOk P w K mg base CX0 3 f fd ["thing", "earliest", "length"] spCueA := by
  refine F.ok sc_cue_of (fun vs H Q E h => ?_) (fun cdv A outer s H vs Q E hr h => ?_)
  · obtain ⟨x, d, lo, len, rfl, _⟩ := h
    rfl
  · obtain ⟨x, d, lo, len, rfl, hx, qy, qn⟩ := h
    refine ⟨_, (pss_cons (ps_set (i := 3) sc_cue_of.nd rfl (Or.inl rfl) (pe_c c_parts_of hr (by decide) rfl (pa_cons (pv 0) (pa_cons (pe_int) pa_nil))))
    (pss_cons (ps_if (pt_cmpR op_isN (pv 3) (pe_non) (nomark _))
    (pss_one (ps_ret (pe_non)))
    pss_nil)
    (pss_cons (ps_asg (pv 3) (pg_tup rfl (pgs_cons (pg_name (i := 4) sc_cue_of.nd rfl (Or.inl rfl)) (pgs_cons (pg_name (i := 5) sc_cue_of.nd rfl (Or.inl rfl)) (pgs_cons (pg_name (i := 6) sc_cue_of.nd rfl (Or.inl rfl)) (pgs_cons (pg_name (i := 7) sc_cue_of.nd rfl (Or.inl rfl)) pgs_nil))))))
    (pss_cons (ps_if (PW.pt (pw_or (pt_not (pt_val (pe_c c_is_integer hr (by decide) rfl (pa_cons (pv 4) pa_nil)))) (pw_or (pt_not (pt_val (pe_c c_is_integer hr (by decide) rfl (pa_cons (pv 5) pa_nil)))) (pw_or (pt_not (pt_val (pe_c c_is_name hr (by decide) rfl (pa_cons (pv 6) pa_nil)))) (pw_or1 (pt_not (pt_val (pe_c c_is_text hr (by decide) rfl (pa_cons (pv 7) pa_nil)))))))))
    (pss_one (ps_ret (pe_non)))
    pss_nil)
    (pss_cons (ps_if (pt_not (pt_chain3 op_le op_lt op_le (pv 1) (pv 4) (pv 5) (pv 2)))
    (pss_one (ps_ret (pe_non)))
    pss_nil)
    (pss_one (ps_ret (pv 3)))))))), ?_⟩
    rcases hx with hx | ⟨a, xs, ds, rfl, hm, hp, hd⟩
    · -- no tuple and no list
      have no : okD lo len d = false := by
        rw [Bool.eq_false_iff]
        intro t
        obtain ⟨c, e, _⟩ := okD_good t
        have e2 := cueD_parts e
        rw [hx.seq] at e2
        cases e2
      exact ⟨_, rfl, x, 4, rfl, .inl ⟨hx.plain, fun H1 s1 => ⟨_, rfl, rfl, _, rfl, qn no H1 s1⟩⟩⟩
    have hs : seqD d = some ds ∧ (H a = some (.tup xs) ∨ H a = some (.lst xs)) := by
      rcases hd with ⟨e, h⟩ | ⟨_, e, h⟩
      · rw [e]; exact ⟨rfl, .inl h⟩
      · rw [e]; exact ⟨rfl, .inr h⟩
    have le := paired_len hp
    refine ⟨_, rfl, .ref a, 4, rfl, .inr ⟨a, xs, rfl, hs.2, by omega, fun e4 H1 t s1 h1 => ?_, fun e4 H1 s1 => ?_⟩⟩
    rotate_left
    · have no : okD lo len d = false := by
        rw [Bool.eq_false_iff]
        intro t
        obtain ⟨c, e, _⟩ := okD_good t
        have e2 := cueD_parts e
        rw [hs.1] at e2
        have e3 := congrArg List.length (Option.some.inj e2)
        have : ds.length = 4 := e3
        omega
      exact ⟨_, rfl, rfl, _, rfl, qn no H1 s1⟩
    obtain ⟨va, vb, vc, ve, da, db, dc, de, rfl, rfl, ra, rb, rc, re⟩ := paired4 hp (by omega)
    -- what a good one is
    have good : okD lo len d = true → ∃ i j n z, va = .int i ∧ vb = .int j ∧ vc = .str n ∧ ve = .str z ∧ cueD d = some ⟨i, j, n, z⟩ ∧ GoodC lo len ⟨i, j, n, z⟩ := fun t => by
      obtain ⟨c, e, g⟩ := okD_good t
      have e2 := cueD_parts e
      rw [hs.1] at e2
      have e3 := Option.some.inj e2
      obtain ⟨e31, e32⟩ := List.cons.inj e3
      obtain ⟨e41, e42⟩ := List.cons.inj e32
      obtain ⟨e51, e52⟩ := List.cons.inj e42
      obtain ⟨e61, e62⟩ := List.cons.inj e52
      subst e31 e41 e51 e61
      exact ⟨c.s, c.e, c.nm, c.tx, ra.int, rb.int, rc.str.1, re.str.1, e, g⟩
    have no : ∀ H', Same H H' → (okD lo len d = true → False) → Q .non H' := fun H' s t => qn (Bool.eq_false_iff.mpr t) H' s
    refine ⟨_, rfl, rfl, _, rfl, _, rfl, t, _, rfl, SqT.of h1, rfl, _, _, rfl, _, _, rfl, _, _, rfl, _, _, rfl, rfl, ?_⟩
    refine ⟨_, rfl, va, rfl, (ra.keep s1).any, _, rfl, ?_⟩
    cases ia : isInt va with
    | false => exact no H1 s1 fun g => by obtain ⟨i, j, n, z, e, _⟩ := good g; rw [e] at ia; cases ia
    | true =>
    obtain ⟨i, rfl, rfl⟩ := isInt_int ra ia
    refine ⟨_, rfl, vb, rfl, (rb.keep s1).any, _, rfl, ?_⟩
    cases ib : isInt vb with
    | false => exact no H1 s1 fun g => by obtain ⟨i, j, n, z, _, e, _⟩ := good g; rw [e] at ib; cases ib
    | true =>
    obtain ⟨j, rfl, rfl⟩ := isInt_int rb ib
    refine ⟨_, rfl, vc, rfl, (rc.keep s1).any, fun z e => Nat.le_trans (rc.lenS z e) (by decide), fun H2 s2 => ⟨_, rfl, ?_⟩⟩
    have s12 := s1.trans s2
    cases ic : nameV vc with
    | false => exact no H2 s12 fun g => by obtain ⟨i, j, n, z, _, _, e, _, _, gg⟩ := good g; rw [e, nameV_yes gg.nm] at ic; cases ic
    | true =>
    obtain ⟨n, rfl, hn⟩ := nameV_good ic
    have en := is_str rc
    subst en
    refine ⟨_, rfl, ve, rfl, (re.keep s12).any, fun z e => Nat.le_trans (re.lenS z e) (by decide), fun H3 s3 => ⟨_, rfl, ?_⟩⟩
    have s13 := s12.trans s3
    cases ie : textV ve with
    | false => exact no H3 s13 fun g => by obtain ⟨i, j, n, z, _, _, _, e, _, gg⟩ := good g; rw [e, textV_yes gg.tx] at ie; cases ie
    | true =>
    obtain ⟨z, rfl, hz⟩ := textV_good ie
    have ez := is_str re
    subst ez
    have ec : cueD d = some ⟨i, j, n, z⟩ := by
      unfold cueD
      rw [hs.1]
    have bad : ¬ GoodC lo len ⟨i, j, n, z⟩ → okD lo len d = true → False := fun ng g => by
      obtain ⟨c, e, gg⟩ := okD_good g
      rw [ec] at e
      cases e
      exact ng gg
    refine ⟨_, rfl, _, rfl, _, _, rfl, rfl, _, rfl, ?_⟩
    by_cases h1' : lo ≤ i
    · rw [decide_eq_true h1']
      refine iteT ⟨_, rfl, _, _, rfl, rfl, _, rfl, ?_⟩
      by_cases h2' : i < j
      · rw [decide_eq_true h2']
        refine iteT ⟨_, rfl, _, _, rfl, rfl, _, rfl, ?_⟩
        by_cases h3' : j ≤ len
        · rw [decide_eq_true h3']
          exact ⟨_, rfl, qy _ ec ⟨hn, hz, h1', h2', h3'⟩ H3 t s13 (s3 _ _ (s2 _ _ h1))⟩
        · rw [decide_eq_false h3']
          exact no H3 s13 (bad fun g => h3' g.hi)
      · rw [decide_eq_false h2']
        exact iteF (no H3 s13 (bad fun g => h2' g.lt))
    · rw [decide_eq_false h1']
      exact iteF (no H3 s13 (bad fun g => h1' g.lo))
end
end Sea
namespace Sea
open PySem PySem.Spec PyProof.Rows L2
structure XI (P : Program) (w : World) (K : PySem.W.Frag) (mg : Str → Option Value) (base : Heap) (nm fld : Str) (C : Addr) : Prop where
  ex : ∃ (fI : Addr) (fd : FuncData), XC K mg nm fld C fI ∧ FnOk P w K mg base CX0 1 fI fd ["self", fld] (spIni K C fld) ∧ Binds K fd ["self", fld] []
/-- a cue at its place -/
def At (H : Hp) (e : Addr × Cue) : Prop := H e.1 = some (.tup e.2.vs)
abbrev refsC (L : List (Addr × Cue)) : List V := L.map fun e => V.ref e.1
abbrev cuesC (L : List (Addr × Cue)) : List Cue := L.map (·.2)
theorem refs_app (a b : List (Addr × Cue)) : refsC (a ++ b) = refsC a ++ refsC b := List.map_append
theorem cues_app (a b : List (Addr × Cue)) : cuesC (a ++ b) = cuesC a ++ cuesC b := List.map_append
theorem At.keep {H H' : Hp} {e : Addr × Cue} (h : At H e) (s : Same H H') : At H' e := s _ _ h
structure CueG (c : Cue) : Prop where
  nm : NameW (cp c.nm)
  tx : Good (cp c.tx)
/-- cues that are handed, or the default -/
def ArgC (K : PySem.W.Frag) (H : Hp) (x : V) (d : PyData) : Prop := Th true [60, 5, 1] H x d ∨ (d = .tuple [] ∧ ∃ a, x = .ref a ∧ DfT K a)
theorem ArgC.keep {K : PySem.W.Frag} {H H' : Hp} {x : V} {d : PyData} (h : ArgC K H x d) (s : Same H H') : ArgC K H' x d := h.imp (fun h => h.keep s) fun h => h
noncomputable def spJudgedA (K : PySem.W.Frag) (CB CM : Addr) : Sp := fun vs H Q E => ∃ (x : V) (d : PyData) (len : Int), vs = [.int len, x] ∧ ArgC K H x d ∧
  (seqD d = none → ∀ H' q, Same H H' → H' q = none → E (.ref CB) (some q) (upd H' q (.xd [(("number" : Str), .int (-1))]))) ∧
  (∀ ds k, seqD d = some ds → judgeD len 0 ds = some k → ∀ H' q, Same H H' → H' q = none → E (.ref CB) (some q) (upd H' q (.xd [(("number" : Str), .int (k : Nat))]))) ∧
  (∀ ds, seqD d = some ds → judgeD len 0 ds = none → 40 < ds.length → ∀ H' q, Same H H' → H' q = none → E (.ref CM) (some q) (upd H' q (.xd [(("word" : Str), .str (Str.ofString "cue"))]))) ∧
  (∀ ds, seqD d = some ds → judgeD len 0 ds = none → ds.length ≤ 40 → ∀ H' t L, Same H H' → H' t = some (.tup (refsC L)) → (cuesC L).map some = ds.map cueD → (∀ e ∈ L, At H' e) → (∀ c ∈ cuesC L, CueG c) → Q (.ref t) H')
theorem paired_get' {α β : Type} {R : α → β → Prop} : ∀ {l : List α} {r : List β}, Paired R l r → ∀ {i : Nat} {u : α}, l[i]? = some u → ∃ v, r[i]? = some v ∧ R u v
  | _, _, .nil, i, v, h => by cases h
  | _, _, .cons a t, 0, v, h => by
    cases h
    exact ⟨_, rfl, a⟩
  | _, _, .cons a t, i + 1, v, h => paired_get' t h
theorem drop_at {α : Type} {l : List α} {i : Nat} {x : α} (h : l[i]? = some x) : l.drop i = x :: l.drop (i + 1) := by
  obtain ⟨hlt, e⟩ := List.getElem?_eq_some_iff.mp h
  rw [List.drop_eq_getElem_cons hlt, e]
section
variable {P : Program} {w : World} {K : PySem.W.Frag} {mg : Str → Option Value} {base : Heap} {CB CM : Addr}
theorem ok_judged_cuesA {f : Addr} {fd : FuncData} (F : Fun K "judged_cues" "judged_cues" s_judged_cues f fd) (m_enumerate : mg "enumerate" = none) (m_len : mg "len" = none) (m_tuple : mg "tuple" = none)
    {t : Tok} (g_MOST_CUES : mg "MOST_CUES" = some (.int 40 t)) (xB : XI P w K mg base "BadCue" "number" CB) (xM : XI P w K mg base "TooMany" "word" CM)
    (c_items_of : Cal P w K mg base 1 "items_of" (spItemsA K)) (c_cue_of : Cal P w K mg base 3 "cue_of" spCueA) : FnOk P w K mg base (L2.CX P w) 4 f fd ["length", "cues"] (spJudgedA K CB CM) := by
  obtain ⟨fIB, fdB, XB, FB, bB⟩ := xB.ex
  obtain ⟨fIM, fdM, XM, FM, bM⟩ := xM.ex
  refine F.okX sc_judged_cues (fun vs H Q E h => ?_) (fun cdv A outer s H vs Q E hr h => ?_)
  · obtain ⟨x, d, len, rfl, _⟩ := h
    rfl
  · obtain ⟨x, d, len, rfl, hx, qs, qb, qm, qy⟩ := h
    refine ⟨_, (pss_cons (ps_set (i := 2) sc_judged_cues.nd rfl (Or.inl rfl) (pe_c c_items_of hr (by decide) rfl (pa_cons (pv 1) pa_nil)))
    (pss_cons (ps_if (pt_cmpR op_isN (pv 2) (pe_non) (nomark _))
    (pss_one (ps_raise rfl (takes_of rfl rfl rfl rfl) (pmk_oex XB.ox XB.iC XB.tI FB (hr.mono (by decide)) bB .nil pass0 rfl XB.gC (pa_cons (pe_un un_neg (pe_int)) pa_nil))))
    pss_nil)
    (pss_cons (ps_set (i := 3) sc_judged_cues.nd rfl (Or.inl rfl) (pe_lst pa_nil))
    (pss_cons (ps_set (i := 4) sc_judged_cues.nd rfl (Or.inl rfl) (pe_int))
    (pss_cons (ps_for (passes_of rfl) rfl (pi_enT (by rfl) m_enumerate (pa_cons (pv 2) pa_nil)) (pg_tup rfl (pgs_cons (pg_name (i := 5) sc_judged_cues.nd rfl (Or.inl rfl)) (pgs_cons (pg_name (i := 6) sc_judged_cues.nd rfl (Or.inl rfl)) pgs_nil)))
    (pss_cons (ps_set (i := 7) sc_judged_cues.nd rfl (Or.inl rfl) (pe_c c_cue_of hr (by decide) rfl (pa_cons (pv 6) (pa_cons (pv 4) (pa_cons (pv 0) pa_nil)))))
    (pss_cons (ps_if (pt_cmpR op_isN (pv 7) (pe_non) (nomark _))
    (pss_one (ps_raise rfl (takes_of rfl rfl rfl rfl) (pmk_oex XB.ox XB.iC XB.tI FB (hr.mono (by decide)) bB .nil pass0 rfl XB.gC (pa_cons (pv 5) pa_nil))))
    pss_nil)
    (pss_cons (ps_expr (pe_bm PySem.F.plainAttrs_list PySem.F.slot_list_append PySem.F.type_list_append mt_append (pv 3) (pa_cons (pv 7) pa_nil)))
    (pss_one (ps_set (i := 4) sc_judged_cues.nd rfl (Or.inl rfl) (pe_ix ix_tup (pv 7) (pe_int) (fun _ _ => rfl))))))))
    (pss_cons (ps_if (pt_cmpR op_gt (pe_callB call_len (by rfl) m_len (by decide +kernel) (pa_cons (pv 3) pa_nil)) (pe_glob (v := .int 40) rfl g_MOST_CUES ⟨_, rfl⟩) (nomark _))
    (pss_one (ps_raise rfl (takes_of rfl rfl rfl rfl) (pmk_oex XM.ox XM.iC XM.tI FM (hr.mono (by decide)) bM .nil pass0 rfl XM.gC (pa_cons (pe_str) pa_nil))))
    pss_nil)
    (pss_one (ps_ret (pe_callTy call_tuple_of (by rfl) m_tuple (by decide +kernel) (pa_cons (pv 3) pa_nil)))))))))), ?_⟩
    rcases hx with hx | ⟨rfl, a, rfl, hdf⟩
    rotate_left
    · refine ⟨_, rfl, .ref a, rfl, .inr (.inl ⟨a, rfl, hdf, fun H1 s1 => ?_⟩)⟩
      refine ⟨_, rfl, rfl, _, rfl, Nat.zero_le _, fun D hD => ⟨_, rfl, a, [], rfl, hdf.sq, ?_⟩⟩
      refine for_it walk_enT (fun i σ H' => ∃ (k5 k6 k7 : Option V), σ = [some (.int len), some (.ref a), some (.ref a), some (.ref D), some (.int 0), k5, k6, k7] ∧ Same H1 H' ∧ H' D = some (.lst [])) ⟨none, none, none, rfl, same_new hD, upd_same⟩ (fun _ _ _ _ _ => hdf.sq) (fun i x σ Ha Hb hi => absurd hi (Nat.not_lt_zero _)) ?_
      rintro σ H' ⟨k5, k6, k7, rfl, hs, hd⟩
      refine ⟨_, rfl, _, 0, rfl, .inl ⟨_, SqL.of hd, rfl⟩, _, _, rfl, rfl, _, rfl, ite2 (fun k => absurd (of_decide_eq_true k) (by decide)) (fun k => ?_)⟩
      refine ⟨_, rfl, D, _, rfl, .inl ⟨SqL.of hd, fun l hl3 => ?_⟩⟩
      exact qy [] rfl rfl (Nat.zero_le _) _ l [] ((s1.trans hs).trans (same_new hl3)) upd_same rfl (fun _ h => nomatch h) (fun _ h => nomatch h)
    rcases hx with hx | ⟨a, xs, ds, rfl, hm, hp, hd⟩
    · refine ⟨_, rfl, x, rfl, .inl ⟨hx.plain, fun H1 s1 => ⟨_, rfl, rfl, _, rfl, 1, rfl, mk_fin XB.ox XB.no fun q hq => qs hx.seq H1 q s1 hq⟩⟩⟩
    have hs : seqD d = some ds ∧ (H a = some (.tup xs) ∨ H a = some (.lst xs)) := by
      rcases hd with ⟨e, h⟩ | ⟨_, e, h⟩
      · rw [e]; exact ⟨rfl, .inl h⟩
      · rw [e]; exact ⟨rfl, .inr h⟩
    have le := paired_len hp
    refine ⟨_, rfl, .ref a, rfl, .inr (.inr ⟨a, xs, rfl, hs.2, fun H1 it s1 h1 => ?_⟩)⟩
    refine ⟨_, rfl, rfl, _, rfl, (Nat.zero_le _), fun D hD => ?_⟩
    have h1D : (upd H1 D (.lst [])) it = some (.tup xs) := (same_new hD) _ _ h1
    refine ⟨_, rfl, it, xs, rfl, SqT.of h1D, ?_⟩
    refine for_it walk_enT (fun i σ H' => ∃ (lo : Int) (k5 k6 k7 : Option V) (L' : List (Addr × Cue)), σ = [some (.int len), some (.ref a), some (.ref it), some (.ref D), some (.int lo), k5, k6, k7] ∧ Same H1 H' ∧
      H' D = some (.lst (refsC L')) ∧ (cuesC L').map some = (ds.take i).map cueD ∧ (∀ e ∈ L', At H' e) ∧ (∀ c ∈ cuesC L', CueG c) ∧ judgeD len 0 ds = (judgeD len lo (ds.drop i)).map (· + i))
      ⟨0, none, none, none, [], rfl, same_new hD, upd_same, rfl, (fun _ h => nomatch h), (fun _ h => nomatch h), by simp⟩ (fun i σ H' _ ⟨_, _, _, _, _, _, hs, _⟩ => SqT.of (hs _ _ h1)) ?_ ?_
    · rintro i x σ Ha Hb hi ⟨lo, k5, k6, k7, L', rfl, hss, hd', hc, hat, hg, hj⟩ ⟨T, y, rfl, hT, hy, rfl⟩
      obtain ⟨dy, hdy, ry⟩ := paired_get' hp hy
      have sT := same_new (o := .tup [.int (i : Nat), y]) hT
      have s1b : Same H1 (upd Ha T (.tup [.int (i : Nat), y])) := hss.trans sT
      have dr := drop_at hdy
      have llen : L'.length ≤ i := by
        have := congrArg List.length hc
        rw [List.length_map, List.length_map, List.length_map, List.length_take] at this
        omega
      have hi60 : i < 60 := by
        have := (List.getElem?_eq_some_iff.mp hdy).1
        omega
      refine ⟨T, _, rfl, SqT.of upd_same, rfl, _, _, rfl, _, _, rfl, rfl, ?_⟩
      refine ⟨_, rfl, _, rfl, _, rfl, y, dy, lo, len, rfl, ry.keep (s1.trans s1b), fun c hc1 gc H2 t2 s2 h2 => ?_, fun no H2 s2 => ?_⟩
      · -- it stands
        refine ⟨_, rfl, rfl, _, rfl, ?_⟩
        have hd2 : H2 D = some (.lst (refsC L')) := s2 _ _ (sT _ _ hd')
        refine ⟨_, rfl, .inl ⟨rfl, _, SqL.of hd2⟩, _, rfl, D, _, _, rfl, rfl, hd2, (by rw [List.length_map]; exact small_line (by omega)), ?_⟩
        have nDt : t2 ≠ D := fun z => by rw [z, hd2] at h2; cases h2
        have h3 : (upd H2 D (.lst (refsC L' ++ [V.ref t2]))) t2 = some (.tup c.vs) := by rw [upd_ne nDt]; exact h2
        refine ⟨_, rfl, t2, _, 1, _, rfl, rfl, SqT.of h3, atI_nat (j := 1) rfl, c.e, _, _, _, L' ++ [(t2, c)], rfl, same_over (s1b.trans s2) hD, ?_, ?_, ?_, ?_, ?_⟩
        · rw [upd_same, refs_app]
          rfl
        · rw [cues_app, List.map_append, hc, List.take_add_one, hdy, List.map_append]
          show _ ++ [some c] = _ ++ [cueD dy]
          rw [hc1]
        · intro e' he'
          rcases List.mem_append.mp he' with h | h
          · have q1 := hat e' h
            have ne : e'.1 ≠ D := fun z => by
              have q2 : Ha e'.1 = some (.tup e'.2.vs) := q1
              rw [z, hd'] at q2
              cases q2
            show (upd H2 D _) e'.1 = _
            rw [upd_ne ne]
            exact s2 _ _ (sT _ _ q1)
          · rw [List.mem_singleton.mp h]
            exact h3
        · intro c' hc'
          rw [cues_app] at hc'
          rcases List.mem_append.mp hc' with h | h
          · exact hg c' h
          · rw [List.mem_singleton.mp h]
            exact ⟨gc.nm, gc.tx⟩
        · rw [hj, dr]
          show ((if okD lo len dy = true then _ else _) : Option Nat).map _ = _
          rw [if_pos (okD_of hc1 gc), Option.map_map]
          have ee : endD dy = c.e := by
            unfold endD
            rw [hc1]
          rw [ee]
          congr 1
          funext n
          show n + 1 + i = n + (i + 1)
          omega
      · -- it does not
        refine ⟨_, rfl, rfl, _, rfl, _, rfl, mk_fin XB.ox XB.no fun q hd3 => ?_⟩
        have r := qb ds i hs.1 (by
          rw [hj, dr]
          show ((if okD lo len dy = true then _ else _) : Option Nat).map _ = _
          rw [if_neg (by rw [no]; exact Bool.false_ne_true)]
          show some (0 + i) = some i
          rw [Nat.zero_add]) H2 q ((s1.trans s1b).trans s2) hd3
        exact r
    · rintro σ H' ⟨lo, k5, k6, k7, L', rfl, hss, hd', hc, hat, hg, hj⟩
      rw [le, List.drop_length] at hj
      have hj' : judgeD len 0 ds = none := hj
      rw [le, List.take_length] at hc
      have len' : L'.length = ds.length := by
        have := congrArg List.length hc
        rw [List.length_map, List.length_map, List.length_map] at this
        exact this
      refine ⟨_, rfl, _, L'.length, rfl, .inl ⟨_, SqL.of hd', (List.length_map ..).symm⟩, _, _, rfl, rfl, _, rfl, ite2 (fun k => ?_) (fun k => ?_)⟩
      · refine mk_fin XM.ox XM.no fun q hd3 => qm ds hs.1 hj' ?_ H' q (s1.trans hss) hd3
        have : (40 : Int) < (L'.length : Nat) := of_decide_eq_true k
        omega
      · refine ⟨_, rfl, D, _, rfl, .inl ⟨SqL.of hd', fun l hl3 => ?_⟩⟩
        refine qy ds hs.1 hj' ?_ _ l L' ((s1.trans hss).trans (same_new hl3)) upd_same hc (fun e he => (hat e he).keep (same_new hl3)) hg
        have : ¬ (40 : Int) < (L'.length : Nat) := fun z => k (decide_eq_true z)
        omega
end
end Sea
namespace Sea
open PySem PySem.Spec PyProof.Rows L2
theorem putF_len (f : Str) (v : V) : ∀ fs : List (Str × V), (putF f v fs).length ≤ fs.length + 1
  | [] => Nat.le_refl _
  | (g, x) :: r => by
    show (if g = f then (g, v) :: r else (g, x) :: putF f v r).length ≤ _
    by_cases h : g = f
    · rw [if_pos h]
      exact Nat.le_succ _
    · rw [if_neg h]
      exact Nat.succ_le_succ (putF_len f v r)
def reelF (a b c d : V) : List (Str × V) := putF "_naming" d (putF "_speakers" c (putF "cues" b (putF "length" a [])))
theorem reel_length (a b c d : V) : (reelF a b c d).lookup ("length" : Str) = some a := by
  unfold reelF
  rw [lookup_putF, if_neg (by decide +kernel), lookup_putF, if_neg (by decide +kernel), lookup_putF, if_neg (by decide +kernel), lookup_putF, if_pos rfl]
theorem reel_cues (a b c d : V) : (reelF a b c d).lookup ("cues" : Str) = some b := by
  unfold reelF
  rw [lookup_putF, if_neg (by decide +kernel), lookup_putF, if_neg (by decide +kernel), lookup_putF, if_pos rfl]
theorem cues3 (a b c : V) : (putF "_speakers" c (putF "cues" b (putF "length" a []))).lookup ("cues" : Str) = some b := by
  rw [lookup_putF, if_neg (by decide +kernel), lookup_putF, if_pos rfl]
theorem cues2 (a b : V) : (putF "cues" b (putF "length" a [])).lookup ("cues" : Str) = some b := by
  rw [lookup_putF, if_pos rfl]
theorem ne_ins {H : Hp} {x p C dx : Addr} {fs : List (Str × V)} {o : HO} (hx : H x = some (.ins C dx fs)) (hp : H p = some o) (ho : ∀ z, o ≠ .ins C dx z) : p ≠ x := fun e => by
  rw [e, hx] at hp
  exact ho fs (Option.some.inj hp).symm
theorem few_put {f : Str} {v : V} {fs : List (Str × V)} {n : Nat} (h : fs.length ≤ n) (h2 : n + 1 ≤ 100) : (putF f v fs).length < 1000 := by
  have := putF_len f v fs
  omega
/-- a def with one default, as it stands behind the top -/
structure FunV (K : PySem.W.Frag) (x qual : Str) (st : Stmt) (f : Addr) (fd : FuncData) : Prop where
  ex : ∃ (oc : Value) (od : Option Addr) (TD : Addr) (kV doc pm : Value) (an : Option Addr) (cdv ct : Value) (osl : Array (Option Value)) (o : Obj) (d0 : Value) (n : Nat),
    fd = PySem.W.fnOf x qual (defArgs st) (defBody st) (defScope st) (.ref TD) kV doc pm an cdv ct ∧ K.lookup f = some ⟨oc, od, .func fd, osl⟩ ∧ PySem.W.codeIn K cdv qual = true ∧ K.lookup TD = some o ∧ o.data = .seq #[d0] n
theorem FunV.okX {P : Program} {w : World} {K : PySem.W.Frag} {mg : Str → Option Value} {base : Heap} {x qual : Str} {st : Stmt} {f : Addr} {fd : FuncData} {N ps : List Str} {k : Nat} {sp : Sp} (F : FunV K x qual st f fd) (S : FnScope N ps (defScope st)) (len : ∀ vs H Q E, sp vs H Q E → vs.length = ps.length)
    (hbody : ∀ (cdv : Value) (A : Around) (outer : List Env) (s : Shared) (H : Hp) (vs : List V) (Q : VK) (E : XK), Room k (A.deeper (envOfC qual (defScope st) s.heap.objs.size f cdv)) → sp vs H Q E →
      ∃ t, PSs (cxOf (L2.CX P w) P w K mg base N qual (defScope st) f cdv A outer s H E) (defBody st) t ∧ t { nx := fun _ H' => Q .non H', rt := Q } (start N vs) H) : FnOk P w K mg base (L2.CX P w) (k + 1) f fd ps sp := by
  obtain ⟨oc, od, TD, kV, doc, pm, an, cdv, ct, osl, o, d0, n, rfl, lk, hcd, _⟩ := F.ex
  exact fn_of lk hcd S len fun A outer s H vs Q E hr hsp => hbody cdv A outer s H vs Q E hr hsp
theorem reel_binds {K : PySem.W.Frag} {f : Addr} {fd : FuncData} (F : FunV K "__init__" "Reel.__init__" s_Reel___init__ f fd) : Binds K fd ["self", "length", "cues"] [] := by
  obtain ⟨oc, od, TD, kV, doc, pm, an, cdv, ct, osl, o, d0, n, rfl, lk, hcd, lT, oT⟩ := F.ex
  intro s us X hl
  rw [List.append_nil] at hl ⊢
  obtain ⟨a, b, c, rfl⟩ : ∃ a b c, us = [a, b, c] := match us, hl with | [a, b, c], _ => ⟨a, b, c, rfl⟩
  have e : ∃ k, bindArgs (PySem.W.fnOf "__init__" "Reel.__init__" (defArgs s_Reel___init__) (defBody s_Reel___init__) (defScope s_Reel___init__) (.ref TD) kV doc pm an cdv ct) ⟨[a, b, c], []⟩ = seqItems? (.ref TD) >>= k ∧
      k (some #[d0]) = pure ((["self", "length", "cues"] : List Str).zip [a, b, c]) := ⟨_, rfl, rfl⟩
  obtain ⟨k, e1, e2⟩ := e
  refine BindsTo.of_looks fun M => ?_
  rw [e1]
  exact looks_items X lT oT (.of_pure e2)
/-- what the top has written of Reel -/
structure RC (K : PySem.W.Frag) (mg : Str → Option Value) (CR fI : Addr) : Prop where
  cl : Cls K CR
  made : Mk K CR fI
  g : mg "Reel" = some (.ref CR)
  nL : NoAttr K CR "length"
  nC : NoAttr K CR "cues"
  nS : NoAttr K CR "_speakers"
  nN : NoAttr K CR "_naming"
  kl : PySem.W.findIn K (.ref CR) "__class__" = some (some (.builtin "object.__class__"))
  gt : PySem.W.specialIn K (.builtin "object.__class__") "__get__" = some (some (.builtin "getset_descriptor.__get__"))
  tk : PySem.W.takesIn K (.builtin "object.__class__") = some true
  mr : PySem.W.mroIn K CR (.type "object") = some true
/-- lists and tuples stay -/
def KS (H H' : Hp) : Prop := ∀ a xs, (H a = some (.lst xs) → H' a = some (.lst xs)) ∧ (H a = some (.tup xs) → H' a = some (.tup xs))
theorem KS.of_kb {x C dx : Addr} {fs : List (Str × V)} {H H' : Hp} (hx : H x = some (.ins C dx fs)) (k : KB x H H') : KS H H' := fun a xs =>
  ⟨fun h => k _ _ (ne_ins hx h fun z e => by cases e) h, fun h => k _ _ (ne_ins hx h fun z e => by cases e) h⟩
theorem Th.ks {l : Bool} : ∀ {ms : List Nat} {H H' : Hp} {x : V} {d : PyData}, Th l ms H x d → KS H H' → Th l ms H' x d
  | [], _, _, _, _, h, _ => h
  | m :: r, H, H', x, d, h, s => by
    rcases h with h | ⟨a, xs, ds, h1, h2, h3, h4⟩
    · exact .inl h
    · refine .inr ⟨a, xs, ds, h1, h2, paired_imp (fun _ _ q => q.ks s) h3, ?_⟩
      rcases h4 with ⟨e, h⟩ | ⟨e1, e, h⟩
      · exact .inl ⟨e, (s _ _).2 h⟩
      · exact .inr ⟨e1, e, (s _ _).1 h⟩
structure SpeakS (cs : List Cue) (zs : List Str) : Prop where
  nd : zs.Nodup
  st : sortedS zs = true
  mem : ∀ k, k ∈ zs ↔ k ∈ cs.map (·.nm)
def nameB (c : Cue) : Bool := Txt.startswith c.tx (c.nm ++ Str.ofString ":")
def namesAt (cs : List Cue) (i : Nat) : Bool :=
  match cs[i]? with
  | some c => nameB c
  | none => false
def namingTo (cs : List Cue) (n : Nat) : List Nat := (List.range n).filter (namesAt cs)
/-- the reel at x -/
def ReelAt (H : Hp) (CR x : Addr) (len : Int) (L : List (Addr × Cue)) : Prop := ∃ (dx t sp nm : Addr) (zs : List Str), H x = some (.ins CR dx (reelF (.int len) (.ref t) (.ref sp) (.ref nm))) ∧ H t = some (.tup (refsC L)) ∧ (∀ e ∈ L, At H e) ∧
  H sp = some (.tup (zs.map V.str)) ∧ SpeakS (cuesC L) zs ∧ H nm = some (.tup ((namingTo (cuesC L) L.length).map fun n => V.int (n : Nat)))
theorem ReelAt.keep {H H' : Hp} {CR x : Addr} {len : Int} {L : List (Addr × Cue)} (h : ReelAt H CR x len L) (s : Same H H') : ReelAt H' CR x len L := by
  obtain ⟨dx, t, sp, nm, zs, h1, h2, h3, h4, h5, h6⟩ := h
  exact ⟨dx, t, sp, nm, zs, s _ _ h1, s _ _ h2, fun e he => (h3 e he).keep s, s _ _ h4, h5, s _ _ h6⟩
noncomputable def spReelA (K : PySem.W.Frag) (CR CB CM CLn : Addr) : Sp := fun vs H Q E => ∃ (x dx : Addr) (lx cx : V) (ld cd : PyData), vs = [.ref x, lx, cx] ∧ H x = some (.ins CR dx []) ∧ Th true [1] H lx ld ∧ ArgC K H cx cd ∧
  (inside lx 1 2000 = false → ∀ H' q, KB x H H' → H' q = none → E (.ref CLn) (some q) (upd H' q (.xd [(("length" : Str), lx)]))) ∧
  (∀ len, lx = .int len → 1 ≤ len → len ≤ 2000 →
    (seqD cd = none → ∀ H' q, KB x H H' → H' q = none → E (.ref CB) (some q) (upd H' q (.xd [(("number" : Str), .int (-1))]))) ∧
    (∀ ds k, seqD cd = some ds → judgeD len 0 ds = some k → ∀ H' q, KB x H H' → H' q = none → E (.ref CB) (some q) (upd H' q (.xd [(("number" : Str), .int (k : Nat))]))) ∧
    (∀ ds, seqD cd = some ds → judgeD len 0 ds = none → 40 < ds.length → ∀ H' q, KB x H H' → H' q = none → E (.ref CM) (some q) (upd H' q (.xd [(("word" : Str), .str (Str.ofString "cue"))]))) ∧
    (∀ ds, seqD cd = some ds → judgeD len 0 ds = none → ds.length ≤ 40 → ∀ H' L, KB x H H' → ReelAt H' CR x len L → (cuesC L).map some = ds.map cueD → (∀ c ∈ cuesC L, CueG c) → Q .non H'))
section
variable {P : Program} {w : World} {K : PySem.W.Frag} {mg : Str → Option Value} {base : Heap} {CB CM CR CLn fI : Addr}
theorem ok_reelA {f : Addr} {fd : FuncData} (F : FunV K "__init__" "Reel.__init__" s_Reel___init__ f fd) (m_enumerate : mg "enumerate" = none) (m_tuple : mg "tuple" = none) (m_sorted : mg "sorted" = none) (m_set : mg "set" = none)
    {t : Tok} (g_MOST_TICKS : mg "MOST_TICKS" = some (.int 2000 t)) (T : RC K mg CR fI) (xL : XI P w K mg base "BadLength" "length" CLn) (c_is_within : Cal P w K mg base 2 "is_within" spWithinA) (c_judged_cues : CalX P w K mg base 4 "judged_cues" (spJudgedA K CB CM)) :
    FnOk P w K mg base (L2.CX P w) 5 f fd ["self", "length", "cues"] (spReelA K CR CB CM CLn) := by
  obtain ⟨fIL, fdL, XL, FL, bL⟩ := xL.ex
  refine F.okX sc_Reel___init__ (fun vs H Q E h => ?_) (fun cdv A outer s H vs Q E hr h => ?_)
  · obtain ⟨x, dx, lx, cx, ld, cd, rfl, _⟩ := h
    rfl
  · obtain ⟨x, dx, lx, cx, ld, cd, rfl, hx, hl, hc, qL, qq⟩ := h
    refine ⟨_, (pss_cons (ps_if (pt_not (pt_val (pe_c c_is_within hr (by decide) rfl (pa_cons (pv 1) (pa_cons (pe_int) (pa_cons (pe_glob (v := .int 2000) rfl g_MOST_TICKS ⟨_, rfl⟩) pa_nil))))))
    (pss_one (ps_raise rfl (takes_of rfl rfl rfl rfl) (pmk_oex XL.ox XL.iC XL.tI FL (hr.mono (by decide)) bL .nil pass0 rfl XL.gC (pa_cons (pv 1) pa_nil))))
    pss_nil)
    (pss_cons (ps_fld (pv 0) (pv 1) rfl)
    (pss_cons (ps_fld (tv := tCallSD (spJudgedA K CB CM) [] (WE fun cls d _ H => E cls d H) (tCons (tVar 1) (tCons (tVar 2) tNil))) (pv 0) (by
          refine pe_cX (k := 4) (j := 4) (sp := spJudgedA K CB CM) ?_ ?_ ?_ ?_ ?_ ?_
          · exact c_judged_cues
          · exact hr
          · decide
          · rfl
          · exact (fun σ => passAt (takes_of rfl rfl rfl rfl) σ)
          · exact (pa_cons (pv 1) (pa_cons (pv 2) pa_nil))) rfl)
    (pss_cons (ps_fld (pv 0) (pe_callTy call_tuple_of (by rfl) m_tuple (by decide +kernel) (pa_cons (pe_callB (cr_sortedSetT rfl) (by rfl) m_sorted (by decide +kernel) (pa_cons (pe_callTy (cr_setT rfl) (by rfl) m_set (by decide +kernel) (pa_cons (pe_lc (own := [("cue", 3)]) rfl sc_Reel___init__.nd (pi_tup (pe_fld (pv 0) rfl)) (blkOk_by (N := N_Reel___init__) (sc := defScope s_Reel___init__) (by decide +kernel)) (fun _ _ _ _ _ => (pg_name (i := 3) sc_Reel___init__.nd rfl (Or.inl rfl))) (fun _ _ _ _ _ => pts_nil) (fun _ _ _ _ _ => (pe_ix (show IxR _ (rIxT K) from ix_tup) (pv 3) (pe_int) (fun _ _ => rfl)))) pa_nil)) pa_nil)) pa_nil)) rfl)
    (pss_one (ps_fld (pv 0) (pe_callTy call_tuple_of (by rfl) m_tuple (by decide +kernel) (pa_cons (pe_lc (own := [("number", 4), ("cue", 3)]) (g := gTup K 2 (gCons (gName 4) (gCons (gName 3) gNil))) rfl sc_Reel___init__.nd (pi_enT (by rfl) m_enumerate (pa_cons (pe_fld (pv 0) rfl) pa_nil)) (blkOk_by (N := N_Reel___init__) (sc := defScope s_Reel___init__) (by decide +kernel)) (fun _ _ _ _ _ => by exact (pg_tup rfl (pgs_cons (pg_name (i := 4) sc_Reel___init__.nd rfl (Or.inl rfl)) (pgs_cons (pg_name (i := 3) sc_Reel___init__.nd rfl (Or.inl rfl)) pgs_nil)))) (fun _ _ _ _ _ => pts_one (pt_val (show PE _ _ (tBM K "str" _ _ _) from pe_bm PySem.F.plainAttrs_str PySem.F.slot_str_startswith PySem.F.type_str_startswith mt_startswith (pe_ix (show IxR _ (rIxT K) from ix_tup) (pv 3) (pe_int) (fun _ _ => rfl)) (pa_cons (pe_op op_add_str (pe_ix (show IxR _ (rIxT K) from ix_tup) (pv 3) (pe_int) (fun _ _ => rfl)) (pe_str)) pa_nil)))) (fun _ _ _ _ _ => (pv 4))) pa_nil)) rfl)))))), ?_⟩
    refine ⟨_, rfl, lx, 1, 2000, rfl, hl.any, _, rfl, ?_⟩
    cases hI : inside lx 1 2000 with
    | false => exact ⟨_, rfl, mk_fin XL.ox XL.no fun q hq => qL hI H q (KB.refl x H) hq⟩
    | true =>
    obtain ⟨len, rfl, l1, l2⟩ : ∃ len, lx = .int len ∧ 1 ≤ len ∧ len ≤ 2000 := by
      cases lx with
      | int i =>
        have : (decide (1 ≤ i) && decide (i ≤ 2000)) = true := hI
        rw [Bool.and_eq_true] at this
        exact ⟨i, rfl, of_decide_eq_true this.1, of_decide_eq_true this.2⟩
      | _ => cases hI
    obtain ⟨qs, qb, qm, qy⟩ := qq len rfl l1 l2
    refine ⟨_, rfl, _, rfl, x, CR, dx, [], rfl, hx, T.cl, T.nL, (by decide : 0 < 1000), ?_⟩
    have k1 : KB x H (upd H x (.ins CR dx (putF "length" (.int len) []))) := (KB.refl x H).set
    refine ⟨_, rfl, _, rfl, cx, cd, len, rfl, hc.imp (fun h => h.ks (.of_kb hx k1)) (fun h => h), fun hn H' q s2 hq => qs hn H' q (k1.trans (.of_same s2)) hq, fun ds k hs hk H' q s2 hq => qb ds k hs hk H' q (k1.trans (.of_same s2)) hq, fun ds hs hk hm H' q s2 hq => qm ds hs hk hm H' q (k1.trans (.of_same s2)) hq, fun ds hs hj hle H2 t2 L2 s2 h2 hcs hat hg => ?_⟩
    have k2 := k1.trans (.of_same s2)
    have hx2 := s2 x _ upd_same
    have nt2 : t2 ≠ x := ne_ins hx2 h2 fun z e => by cases e
    have nL2 : ∀ e ∈ L2, e.1 ≠ x := fun e he => ne_ins hx2 (hat e he) fun z q => by cases q
    have lds : L2.length = ds.length := by
      have := congrArg List.length hcs
      rw [List.length_map, List.length_map, List.length_map] at this
      exact this
    have lL2 : L2.length ≤ 40 := by omega
    refine ⟨_, rfl, x, CR, dx, _, rfl, hx2, T.cl, T.nC, few_put (n := 0) (Nat.le_refl 0) (by decide), ?_⟩
    have k3 : KB x H2 (upd H2 x (.ins CR dx (putF "cues" (.ref t2) (putF "length" (.int len) [])))) := (KB.refl x H2).set
    have h3 := k3 t2 _ nt2 h2
    have at3 : ∀ e ∈ L2, At (upd H2 x (.ins CR dx (putF "cues" (.ref t2) (putF "length" (.int len) [])))) e := fun e he => k3 _ _ (nL2 e he) (hat e he)
    generalize hH3 : (upd H2 x (.ins CR dx (putF "cues" (.ref t2) (putF "length" (.int len) [])))) = H3 at k3 h3 at3 ⊢
    have hx3 : H3 x = some (.ins CR dx (putF "cues" (.ref t2) (putF "length" (.int len) []))) := by rw [← hH3]; exact upd_same
    have k03 := k2.trans k3
    -- the speakers
    refine ⟨_, rfl, x, CR, dx, _, _, rfl, hx3, T.cl, T.nC, cues2 _ _, t2, rfl, ⟨_, SqT.of h3⟩, fun D hD => ?_⟩
    refine lc_it walk_tup (fun i H' => Same H3 H' ∧ H' D = some (.lst ((((cuesC L2).take i).map (·.nm)).map V.str))) ⟨same_new hD, upd_same⟩ (fun i H' _ hq => SqT.of (hq.1 _ _ h3)) ?_ ?_
    · rintro i y Ha Hb hi ⟨hs, hd⟩ ⟨rfl, hy⟩
      have hi' : i < L2.length := by rw [List.length_map] at hi; exact hi
      obtain ⟨e, he, rfl⟩ : ∃ e, L2[i]? = some e ∧ y = V.ref e.1 := by
        rw [List.getElem?_map, List.getElem?_eq_getElem hi'] at hy
        exact ⟨L2[i], List.getElem?_eq_getElem hi', (Option.some.inj hy).symm⟩
      have hA := hs _ _ (at3 e (List.mem_of_getElem? he))
      have he2 : (cuesC L2)[i]? = some e.2 := by rw [List.getElem?_map, he]; rfl
      refine ⟨rfl, _, rfl, e.1, _, 2, _, rfl, rfl, SqT.of hA, atI_nat (j := 2) rfl, _, hd, ?_, same_over hs hD, ?_⟩
      · rw [List.length_map, List.length_map, List.length_take, List.length_map]
        exact small_line (by omega)
      · rw [upd_same, List.take_add_one, he2, List.map_append, List.map_append]
        rfl
    rintro H4 ⟨s4, hd⟩
    have lr : (refsC L2).length = (cuesC L2).length := by rw [List.length_map, List.length_map]
    have lc2 : (cuesC L2).length = L2.length := List.length_map ..
    rw [lr, List.take_length] at hd
    have l64 : ((cuesC L2).map (·.nm)).length < 64 := by rw [List.length_map, lc2]; omega
    refine ⟨D, _, rfl, SqL.of hd, by omega, fun p hp => ⟨p, _, rfl, upd_same, l64, fun zs p2 z1 z2 z3 z4 hp2 => ⟨p2, _, rfl, .inl ⟨SqL.of upd_same, fun l hl => ?_⟩⟩⟩⟩
    have s5 := ((s4.trans (same_new hp)).trans (same_new hp2)).trans (same_new (o := .tup (zs.map V.str)) hl)
    have hx5 := s5 _ _ hx3
    generalize hH5 : (upd _ l (.tup (zs.map V.str))) = H5 at s5 hx5 ⊢
    have hl5 : H5 l = some (.tup (zs.map V.str)) := by rw [← hH5]; exact upd_same
    have nlx : l ≠ x := ne_ins hx5 hl5 fun z e => by cases e
    refine ⟨_, rfl, x, CR, dx, _, rfl, hx5, T.cl, T.nS, few_put (n := 1) (putF_len _ _ _) (by decide), ?_⟩
    have k6 := (KB.of_same s5 : KB x H3 _).set (o := .ins CR dx (putF "_speakers" (.ref l) (putF "cues" (.ref t2) (putF "length" (.int len) []))))
    have h6 := k6 t2 _ nt2 h3
    have at6 := fun e (he : e ∈ L2) => k6 _ _ (nL2 e he) (at3 e he)
    have hl6 : (upd H5 x (.ins CR dx (putF "_speakers" (.ref l) (putF "cues" (.ref t2) (putF "length" (.int len) []))))) l = some (.tup (zs.map V.str)) := by
      rw [upd_ne nlx]
      exact hl5
    generalize hH6 : (upd _ x (.ins CR dx (putF "_speakers" (.ref l) (putF "cues" (.ref t2) (putF "length" (.int len) []))))) = H6 at k6 h6 at6 hl6 ⊢
    have hx6 : H6 x = some (.ins CR dx (putF "_speakers" (.ref l) (putF "cues" (.ref t2) (putF "length" (.int len) [])))) := by rw [← hH6]; exact upd_same
    -- who is named
    refine ⟨_, rfl, x, CR, dx, _, _, rfl, hx6, T.cl, T.nC, cues3 _ _ _, t2, _, rfl, SqT.of h6, fun D2 hD2 => ?_⟩
    refine lc_it walk_enT (fun i H' => Same H6 H' ∧ H' D2 = some (.lst ((namingTo (cuesC L2) i).map fun n => V.int (n : Nat)))) ⟨same_new hD2, upd_same⟩ (fun i H' _ hq => SqT.of (hq.1 _ _ h6)) ?_ ?_
    · rintro i y Ha Hb hi ⟨hs, hd2⟩ ⟨T2, v, rfl, hT2, hv, rfl⟩
      have hi' : i < L2.length := by rw [List.length_map] at hi; exact hi
      obtain ⟨e, he, rfl⟩ : ∃ e, L2[i]? = some e ∧ v = V.ref e.1 := by
        rw [List.getElem?_map, List.getElem?_eq_getElem hi'] at hv
        exact ⟨L2[i], List.getElem?_eq_getElem hi', (Option.some.inj hv).symm⟩
      have hme := List.mem_of_getElem? he
      have sT := same_new (o := .tup [.int (i : Nat), V.ref e.1]) hT2
      have hA := sT _ _ (hs _ _ (at6 e hme))
      have hd3 := sT _ _ hd2
      have s7 := hs.trans sT
      have he2 : (cuesC L2)[i]? = some e.2 := by rw [List.getElem?_map, he]; rfl
      have na : namesAt (cuesC L2) i = nameB e.2 := by
        unfold namesAt
        rw [he2]
      have up : namingTo (cuesC L2) (i + 1) = namingTo (cuesC L2) i ++ (if nameB e.2 = true then [i] else []) := by
        unfold namingTo
        rw [List.range_succ, List.filter_append]
        congr 1
        show (List.filter (namesAt (cuesC L2)) [i]) = _
        rw [List.filter_cons, na]
        rfl
      have few : (namingTo (cuesC L2) i).length ≤ i := by
        have := List.length_filter_le (namesAt (cuesC L2)) (List.range i)
        rw [List.length_range] at this
        exact this
      refine ⟨T2, _, rfl, SqT.of upd_same, rfl, _, _, rfl, _, _, rfl, rfl, rfl, _, rfl, e.1, _, 3, _, rfl, rfl, SqT.of hA, atI_nat (j := 3) rfl, rfl, _, rfl, e.1, _, 2, _, rfl, rfl, SqT.of hA, atI_nat (j := 2) rfl, _, _, rfl, rfl, ?_, _, _, rfl, rfl, _, rfl, ite2 (fun nb => ?_) (fun nb => ?_)⟩
      · have W := hg e.2 (List.mem_of_getElem? he2)
        have m8 := W.nm.most
        rw [cp_len] at m8
        have c1 : (Str.ofString ":").length = 1 := by decide +kernel
        rw [c1]
        exact Nat.le_of_lt (small1000 (by omega))
      · refine ⟨_, rfl, _, hd3, small_line (by rw [List.length_map]; omega), same_over s7 hD2, ?_⟩
        have nb' : nameB e.2 = true := nb
        rw [upd_same, up, if_pos nb', List.map_append]
        rfl
      · refine ⟨s7, ?_⟩
        have nb' : ¬ nameB e.2 = true := nb
        rw [up, if_neg nb', List.append_nil]
        exact hd3
    rintro H7 ⟨s7, hd2⟩
    have lr3 : (refsC L2).length = L2.length := List.length_map ..
    rw [lr3] at hd2
    refine ⟨D2, _, rfl, .inl ⟨SqL.of hd2, fun l2 hl2 => ?_⟩⟩
    have s8 := s7.trans (same_new (o := .tup ((namingTo (cuesC L2) L2.length).map fun n => V.int (n : Nat))) hl2)
    have hx8 := s8 _ _ hx6
    have hl8 : (upd H7 l2 (.tup ((namingTo (cuesC L2) L2.length).map fun n => V.int (n : Nat)))) l2 = some (.tup ((namingTo (cuesC L2) L2.length).map fun n => V.int (n : Nat))) := upd_same
    have nl2 : l2 ≠ x := ne_ins hx8 hl8 fun z e => by cases e
    refine ⟨_, rfl, x, CR, dx, _, rfl, hx8, T.cl, T.nN, few_put (n := 2) (Nat.le_trans (putF_len _ _ _) (Nat.succ_le_succ (putF_len _ _ _))) (by decide), ?_⟩
    have k9 : KB x H6 _ := (KB.of_same s8).set (o := .ins CR dx (reelF (.int len) (.ref t2) (.ref l) (.ref l2)))
    refine qy ds hs hj hle _ L2 ((k03.trans k6).trans k9) ⟨dx, t2, l, l2, zs, upd_same, k9 _ _ nt2 h6, fun e he => k9 _ _ (nL2 e he) (at6 e he), k9 _ _ nlx hl6, ⟨z1, z2, z3⟩, ?_⟩ hcs hg
    show (upd _ x _) l2 = _
    rw [upd_ne nl2]
    exact hl8
end
end Sea
namespace Sea
open PySem PySem.Spec PyProof.Rows L2
def cuP (c : Cue) : PyData := .tuple [.int c.s, .int c.e, .str c.nm, .str c.tx]
def cusP (cs : List Cue) : PyData := .tuple (cs.map cuP)
/-- what a text's signs are -/
def AscS (z : Str) : Prop := ∀ c ∈ cp z, c < 1114112
theorem asc_ok {z : Str} (h : AscS z) : (PyData.str z).canLay0 = true := by
  show (z.cps.all (· < 0x110000)) = true
  rw [Array.all_eq_true_iff_forall_mem]
  intro c hc
  exact decide_eq_true (h c (Array.mem_toList_iff.mpr hc))
theorem strs_shaped {ss : List Str} (h : ∀ z ∈ ss, AscS z) : SeqAt.shaped (.list (ss.map .str)) = true := by
  have h1 : ∀ ss : List Str, (∀ z ∈ ss, AscS z) → PyData.canLayAll0 (ss.map .str) = true := fun ss => by
    induction ss with
    | nil => intro _; rfl
    | cons a r ih =>
      intro h
      show (PyData.canLay0 (.str a) && PyData.canLayAll0 (r.map .str)) = true
      rw [asc_ok (h a List.mem_cons_self), ih fun z hz => h z (List.mem_cons_of_mem _ hz)]
      rfl
  have h2 : ∀ ss : List Str, PyData.depthAll (ss.map .str) = 0 := fun ss => by
    induction ss with
    | nil => rfl
    | cons a r ih =>
      show max (PyData.depth (.str a)) (PyData.depthAll (r.map .str)) = 0
      rw [ih]
      rfl
  show (PyData.canLayAll0 (ss.map .str) && decide (PyData.depthAll (ss.map .str) + 1 ≤ 64)) = true
  rw [h1 ss h, h2, decide_eq_true (by decide)]
  rfl
theorem strs_eqv : ∀ cs ds : List Str, PyData.eqvAll (cs.map .str) (ds.map .str) = decide (cs = ds)
  | [], [] => rfl
  | [], d :: r => (decide_eq_false (by simp)).symm
  | c :: r, [] => (decide_eq_false (by simp)).symm
  | c :: r, d :: q => by
    show ((c == d) && PyData.eqvAll (r.map .str) (q.map .str)) = _
    rw [strs_eqv r q]
    by_cases h1 : c = d
    · by_cases h2 : r = q
      · subst h1 h2
        simp
      · rw [decide_eq_false h2, Bool.and_false, decide_eq_false (fun e => h2 (List.cons.inj e).2)]
    · rw [beq_eq_false_iff_ne.mpr h1, Bool.false_and, decide_eq_false (fun e => h1 (List.cons.inj e).1)]
theorem dp_strs {K : PySem.W.Frag} {H : Hp} : ∀ ss : List Str, DpAll K H (ss.map V.str) (ss.map .str)
  | [] => .nil
  | a :: r => .cons (.str a) (dp_strs r)
end Sea
namespace Sea
open PySem PySem.Spec PyProof.Rows L2
mutual
def tupD : PyData → PyData
  | .list xs => .tuple (tupDs xs)
  | .tuple xs => .tuple (tupDs xs)
  | .dict kvs => .dict kvs
  | .none => .none
  | .bool b => .bool b
  | .int i => .int i
  | .str z => .str z
def tupDs : List PyData → List PyData
  | [] => []
  | x :: xs => tupD x :: tupDs xs
end
theorem tupDs_map : ∀ ds : List PyData, tupDs ds = ds.map tupD
  | [] => rfl
  | d :: r => congrArg (tupD d :: ·) (tupDs_map r)
theorem tupD_seq {d : PyData} {ds : List PyData} (h : seqD d = some ds) : tupD d = .tuple (ds.map tupD) := by
  cases d with
  | tuple xs => rw [← tupDs_map]; cases h; rfl
  | list xs => rw [← tupDs_map]; cases h; rfl
  | _ => cases h
theorem tupD_int {d : PyData} {i : Int} (h : tupD d = .int i) : d = .int i := by
  cases d with
  | int j => exact h
  | tuple ds => cases h
  | list ds => cases h
  | dict ds => cases h
  | none => cases h
  | bool b => cases h
  | str z => cases h
theorem tupD_str {d : PyData} {i : Str} (h : tupD d = .str i) : d = .str i := by
  cases d with
  | int j => cases h
  | tuple ds => cases h
  | list ds => cases h
  | dict ds => cases h
  | none => cases h
  | bool b => cases h
  | str z => exact h
theorem cueD_tup {d : PyData} {c : Cue} : cueD d = some c ↔ tupD d = cuP c := by
  constructor
  · intro h
    rw [tupD_seq (cueD_parts h)]
    rfl
  · intro h
    have hs : ∃ ds, seqD d = some ds := by
      cases d with
      | tuple ds => exact ⟨ds, rfl⟩
      | list ds => exact ⟨ds, rfl⟩
      | int j => cases h
      | dict ds => cases h
      | none => cases h
      | bool b => cases h
      | str z => cases h
    obtain ⟨ds, hs⟩ := hs
    rw [tupD_seq hs] at h
    have h2 : ds.map tupD = [.int c.s, .int c.e, .str c.nm, .str c.tx] := PyData.tuple.inj h
    have l4 : ds.length = 4 := by
      have := congrArg List.length h2
      rw [List.length_map] at this
      exact this
    obtain ⟨a, b, n, t, rfl⟩ : ∃ a b n t, ds = [a, b, n, t] := match ds, l4 with | [a, b, n, t], _ => ⟨a, b, n, t, rfl⟩
    obtain ⟨e1, h2⟩ := List.cons.inj h2
    obtain ⟨e2, h2⟩ := List.cons.inj h2
    obtain ⟨e3, h2⟩ := List.cons.inj h2
    obtain ⟨e4, h2⟩ := List.cons.inj h2
    have e1 := tupD_int e1
    have e2 := tupD_int e2
    have e3 := tupD_str e3
    have e4 := tupD_str e4
    subst e1 e2 e3 e4
    unfold cueD
    rw [hs]
theorem same_none {H H' : Hp} {a : Addr} (s : Same H H') (h : H' a = none) : H a = none := by
  cases e : H a with
  | none => rfl
  | some o => rw [s _ _ e] at h; cases h
def lenOf : V → Int
  | .int i => i
  | _ => 0
/-- what is due: which error, what it is told with -/
noncomputable def dueK (lx : V) (cd : PyData) : Option (Nat × V) :=
  if inside lx 1 2000 = false then some (0, lx) else
    match seqD cd with
    | none => some (1, .int (-1))
    | some ds =>
      match judgeD (lenOf lx) 0 ds with
      | some k => some (1, .int (k : Nat))
      | none => if 40 < ds.length then some (2, .str (Str.ofString "cue")) else none
theorem due_len {lx : V} {cd : PyData} (h : inside lx 1 2000 = false) : dueK lx cd = some (0, lx) := if_pos h
theorem due_not {i : Int} {cd : PyData} (h : inside (.int i) 1 2000 = true) (hs : seqD cd = none) : dueK (.int i) cd = some (1, .int (-1)) := by
  unfold dueK
  rw [if_neg (by rw [h]; simp), hs]
theorem due_cue {i : Int} {cd : PyData} {ds : List PyData} {k : Nat} (h : inside (.int i) 1 2000 = true) (hs : seqD cd = some ds) (hj : judgeD i 0 ds = some k) : dueK (.int i) cd = some (1, .int (k : Nat)) := by
  unfold dueK
  rw [if_neg (by rw [h]; simp), hs]
  show (match judgeD i 0 ds with | some k => _ | none => _) = _
  rw [hj]
theorem due_many {i : Int} {cd : PyData} {ds : List PyData} (h : inside (.int i) 1 2000 = true) (hs : seqD cd = some ds) (hj : judgeD i 0 ds = none) (hl : 40 < ds.length) : dueK (.int i) cd = some (2, .str (Str.ofString "cue")) := by
  unfold dueK
  rw [if_neg (by rw [h]; simp), hs]
  show (match judgeD i 0 ds with | some k => _ | none => _) = _
  rw [hj]
  exact if_pos hl
theorem due_none {i : Int} {cd : PyData} {ds : List PyData} (h : inside (.int i) 1 2000 = true) (hs : seqD cd = some ds) (hj : judgeD i 0 ds = none) (hl : ds.length ≤ 40) : dueK (.int i) cd = none := by
  unfold dueK
  rw [if_neg (by rw [h]; simp), hs]
  show (match judgeD i 0 ds with | some k => _ | none => _) = _
  rw [hj]
  exact if_neg (by omega)
/-- Reel(lx, cx) -/
theorem reel_reads {K : PySem.W.Frag} {CR CB CM CLn : Addr} {H1 : Hp} {lx cx : V} {ld cd : PyData} {Qr : Addr → Hp → Prop} {E : XK} (hl : Th true [1] H1 lx ld) (hc : ArgC K H1 cx cd)
    (bad0 : ∀ H2 q, dueK lx cd = some (0, lx) → Same H1 H2 → H2 q = none → E (.ref CLn) (some q) (upd H2 q (.xd [(("length" : Str), lx)])))
    (bad1 : ∀ v H2 q, dueK lx cd = some (1, v) → Plain v → Same H1 H2 → H2 q = none → E (.ref CB) (some q) (upd H2 q (.xd [(("number" : Str), v)])))
    (bad2 : ∀ v H2 q, dueK lx cd = some (2, v) → Plain v → Same H1 H2 → H2 q = none → E (.ref CM) (some q) (upd H2 q (.xd [(("word" : Str), v)])))
    (good : ∀ len ds H2 x L, lx = .int len → 1 ≤ len → len ≤ 2000 → seqD cd = some ds → judgeD len 0 ds = none → ds.length ≤ 40 → dueK lx cd = none → Same H1 H2 → ReelAt H2 CR x len L → (cuesC L).map some = ds.map cueD → (∀ c ∈ cuesC L, CueG c) → Qr x H2) :
    ∀ x dx, H1 x = none → H1 dx = none → dx ≠ x → spReelA K CR CB CM CLn (.ref x :: ([lx, cx] ++ [])) (upd (upd H1 dx (.own x)) x (.ins CR dx [])) (fun v H2 => v = .non ∧ Qr x H2) E := by
  intro x dx hx hdx ne
  have sN : Same H1 (upd (upd H1 dx (.own x)) x (.ins CR dx [])) := fun c o e => by
    rw [upd_ne (ne_of_none e hx), upd_ne (ne_of_none e hdx)]
    exact e
  have sk : ∀ {H2}, KB x (upd (upd H1 dx (.own x)) x (.ins CR dx [])) H2 → Same H1 H2 := fun {H2} k c o e => k c o (ne_of_none e hx) (sN _ _ e)
  refine ⟨x, dx, lx, cx, ld, cd, rfl, upd_same, hl.keep sN, hc.keep sN, fun hI H' q kb hq => bad0 H' q (due_len hI) (sk kb) hq, fun len e h1 h2 => ?_⟩
  have hI : inside (.int len) 1 2000 = true := by
    show (decide (1 ≤ len) && decide (len ≤ 2000)) = true
    rw [decide_eq_true h1, decide_eq_true h2]
    rfl
  subst e
  exact ⟨fun hs H' q kb hq => bad1 _ H' q (due_not hI hs) trivial (sk kb) hq, fun ds k hs hj H' q kb hq => bad1 _ H' q (due_cue hI hs hj) trivial (sk kb) hq, fun ds hs hj hm H' q kb hq => bad2 _ H' q (due_many hI hs hj hm) trivial (sk kb) hq,
    fun ds hs hj hm H' L kb hR hcs hg => ⟨rfl, good len ds H' x L rfl h1 h2 hs hj hm (due_none hI hs hj hm) (sk kb) hR hcs hg⟩⟩
theorem tupDs_cues : ∀ cs : List Cue, tupDs (cs.map cuP) = cs.map cuP
  | [] => rfl
  | c :: r => by
    show tupD (cuP c) :: tupDs (r.map cuP) = cuP c :: r.map cuP
    rw [tupDs_cues r]
    rfl
theorem okD_cong {lo len : Int} {d e : PyData} (h : cueD d = cueD e) : okD lo len d = okD lo len e := by
  unfold okD
  rw [h]
theorem endD_cong {d e : PyData} (h : cueD d = cueD e) : endD d = endD e := by
  unfold endD
  rw [h]
theorem judge_cong {len : Int} : ∀ {ds es : List PyData} {lo : Int}, ds.map cueD = es.map cueD → judgeD len lo ds = judgeD len lo es
  | [], [], _, _ => rfl
  | [], _ :: _, _, h => by cases h
  | _ :: _, [], _, h => by cases h
  | d :: r, e :: q, lo, h => by
    have h1 := (List.cons.inj h).1
    show (if okD lo len d = true then (judgeD len (endD d) r).map (· + 1) else some 0) = (if okD lo len e = true then (judgeD len (endD e) q).map (· + 1) else some 0)
    rw [okD_cong h1, endD_cong h1, judge_cong (List.cons.inj h).2]
theorem cus_cueD (cs : List Cue) : (cs.map cuP).map cueD = cs.map some := by
  rw [List.map_map]
  exact List.map_congr_left fun c _ => cueD_tup.mpr rfl
theorem some_inj {α : Type} : ∀ {l r : List α}, l.map some = r.map some → l = r
  | [], [], _ => rfl
  | [], _ :: _, h => by cases h
  | _ :: _, [], h => by cases h
  | a :: l, b :: r, h => by
    rw [Option.some.inj (List.cons.inj h).1, some_inj (List.cons.inj h).2]
theorem due_ok {len : Int} {d : PyData} {cs : List Cue} (h1 : 1 ≤ len) (h2 : len ≤ 2000) (e : tupD d = cusP cs) (hj : judgeD len 0 (cs.map cuP) = none) (h40 : cs.length ≤ 40) :
    ∃ ds, seqD d = some ds ∧ ds.map cueD = cs.map some ∧ dueK (.int len) d = none := by
  have hI : inside (.int len) 1 2000 = true := by
    show (decide (1 ≤ len) && decide (len ≤ 2000)) = true
    rw [decide_eq_true h1, decide_eq_true h2]
    rfl
  have hs : ∃ ds, seqD d = some ds := by
    cases d with
    | tuple ds => exact ⟨ds, rfl⟩
    | list ds => exact ⟨ds, rfl⟩
    | int j => cases e
    | dict ds => cases e
    | none => cases e
    | bool b => cases e
    | str z => cases e
  obtain ⟨ds, hs⟩ := hs
  rw [tupD_seq hs] at e
  have e2 : ds.map tupD = cs.map cuP := PyData.tuple.inj e
  have e3 : ds.map cueD = cs.map some := by
    refine List.ext_getElem? fun i => ?_
    have := congrArg (·[i]?) e2
    simp only [List.getElem?_map] at this ⊢
    cases h3 : ds[i]? with
    | none =>
      rw [h3] at this
      cases h4 : cs[i]? with
      | none => rfl
      | some c => rw [h4] at this; cases this
    | some d =>
      rw [h3] at this
      cases h4 : cs[i]? with
      | none => rw [h4] at this; cases this
      | some c =>
        rw [h4] at this
        have h5 : tupD d = cuP c := Option.some.inj this
        show some (cueD d) = some (some c)
        rw [cueD_tup.mpr h5]
  have el : ds.length = cs.length := by
    have := congrArg List.length e2
    rw [List.length_map, List.length_map] at this
    exact this
  refine ⟨ds, hs, e3, due_none hI hs ?_ (by omega)⟩
  rw [judge_cong (es := cs.map cuP) (by rw [cus_cueD]; exact e3)]
  exact hj
/-- Reel(len, cx), all good -/
theorem reel_good {K : PySem.W.Frag} {CR CB CM CLn : Addr} {H1 : Hp} {len : Int} {cx : V} {cd : PyData} {cs : List Cue} {Qr : Addr → Hp → Prop} {E : XK} (h1 : 1 ≤ len) (h2 : len ≤ 2000) (hc : ArgC K H1 cx cd) (e : tupD cd = cusP cs)
    (hj : judgeD len 0 (cs.map cuP) = none) (h40 : cs.length ≤ 40)
    (good : ∀ H2 x L, Same H1 H2 → ReelAt H2 CR x len L → cuesC L = cs → (∀ c ∈ cs, CueG c) → Qr x H2) :
    ∀ x dx, H1 x = none → H1 dx = none → dx ≠ x → spReelA K CR CB CM CLn (.ref x :: ([V.int len, cx] ++ [])) (upd (upd H1 dx (.own x)) x (.ins CR dx [])) (fun v H2 => v = .non ∧ Qr x H2) E := by
  obtain ⟨ds, hs, e3, ed⟩ := due_ok h1 h2 e hj h40
  have hl : Th true [1] H1 (.int len) (.int len) := Sc.th ⟨rfl, Nat.lt_of_le_of_lt (by omega : len.natAbs ≤ 2000) (by decide)⟩
  refine reel_reads hl hc (fun H2 q h => ?_) (fun v H2 q h => ?_) (fun v H2 q h => ?_) (fun len' ds' H2 x L el l1 l2 hs' hj' hm ek s hR hcs hg => ?_)
  · rw [ed] at h
    cases h
  · rw [ed] at h
    cases h
  · rw [ed] at h
    cases h
  · cases el
    rw [hs] at hs'
    cases hs'
    have ec : cuesC L = cs := some_inj (hcs.trans e3)
    exact good H2 x L s hR ec (by rw [← ec]; exact hg)
end Sea
namespace Sea
open PySem PySem.Spec PyProof.Rows L2
structure Piece where
  nm : Str
  s : Int
  e : Int
  up : Int
  dn : Int
  on : Bool
def wayS (b : Bool) : Str := if b = true then Str.ofString "on" else Str.ofString "back"
def Piece.vs (p : Piece) : List V := [.str p.nm, .int p.s, .int p.e, .int p.up, .int p.dn, .str (wayS p.on)]
structure GoodP (len : Int) (p : Piece) : Prop where
  nm : NameW (cp p.nm)
  s0 : 0 ≤ p.s
  lt : p.s < p.e
  el : p.e ≤ len
  u1 : 1 ≤ p.up
  u6 : p.up ≤ 6
  d1 : 1 ≤ p.dn
  d6 : p.dn ≤ 6
  g : Nat.gcd p.up.natAbs p.dn.natAbs ≤ 1
def PAt (H : Hp) (e : Addr × Piece) : Prop := H e.1 = some (.tup e.2.vs)
abbrev refsP (L : List (Addr × Piece)) : List V := L.map fun e => V.ref e.1
abbrev pcs (L : List (Addr × Piece)) : List Piece := L.map (·.2)
theorem PAt.keep {H H' : Hp} {e : Addr × Piece} (h : PAt H e) (s : Same H H') : PAt H' e := s _ _ h
theorem PAt.kt {H H' : Hp} {e : Addr × Piece} (h : PAt H e) (s : KT H H') : PAt H' e := s _ _ h
/-- what the top has written of Plan -/
structure PlC (K : PySem.W.Frag) (mg : Str → Option Value) (CP fI : Addr) : Prop where
  cl : Cls K CP
  made : Mk K CP fI
  g : mg "Plan" = some (.ref CP)
  nR : NoAttr K CP "reel"
  nP : NoAttr K CP "pieces"
  nN : NoAttr K CP "_names"
  nA : NoAttr K CP "arrows"
  nS : NoAttr K CP "starts"
  nE : NoAttr K CP "ends"
  nG : NoAttr K CP "_grain"
  nQ : NoAttr K CP "_pieces"
  nZ : NoAttr K CP "_sends"
  nF : NoAttr K CP "_factors"
  nH : NoAttr K CP "_shown"
  nB : NoAttr K CP "_behind"
  nT : NoAttr K CP "_strips"
  nD : NoAttr K CP "_sends"
  ways : ∃ (mc : Value) (aW : Addr) (u : Value), ClX.CRead K CP mc ∧ ClX.CVal K CP mc "WAYS" (.ref aW) u ∧ ∀ H, SqT K H aW [V.str (Str.ofString "on"), V.str (Str.ofString "back")]
def spForm (CR : Addr) : Sp := fun vs H Q _ => ∃ (xr a : Addr) (len : Int) (L : List (Addr × Cue)) (p : Piece), vs = [.ref xr, .ref a] ∧ ReelAt H CR xr len L ∧ H a = some (.tup p.vs) ∧ GoodP len p ∧ ∀ H' t, Same H H' → PAt H' (t, p) → Q (.ref t) H'
theorem inV_strs (z : Str) : ∀ ss : List Str, inV (.str z) (ss.map V.str) = decide (z ∈ ss)
  | [] => rfl
  | a :: r => by
    show (eqV (.str a) (.str z) || inV (.str z) (r.map V.str)) = _
    rw [inV_strs z r]
    show ((a == z) || decide (z ∈ r)) = decide (z ∈ a :: r)
    by_cases h : a = z
    · subst h
      simp
    · rw [beq_eq_false_iff_ne.mpr h, Bool.false_or]
      by_cases h2 : z ∈ r
      · simp [h2]
      · rw [decide_eq_false h2, decide_eq_false]
        intro q
        rcases List.mem_cons.mp q with e | e
        · exact h e.symm
        · exact h2 e
theorem flat_strs (ss : List Str) : (ss.map V.str).all flatV = true := by
  induction ss with
  | nil => rfl
  | cons a r ih => exact ih
section
variable {P : Program} {w : World} {K : PySem.W.Frag} {mg : Str → Option Value} {base : Heap} {CR CP fR fP : Addr}
theorem ok_piece_form {f : Addr} {fd : FuncData} (F : Fun K "piece_of_form" "piece_of_form" s_piece_of_form f fd) (m_isinstance : mg "isinstance" = none) (m_str : mg "str" = none) (g_gcd : mg "gcd" = some (.builtin "math.gcd")) {t : Tok} (g_MOST_RATE : mg "MOST_RATE" = some (.int 6 t)) (TR : RC K mg CR fR) (TP : PlC K mg CP fP)
    (c_parts_of : Cal P w K mg base 2 "parts_of" spPartsA) (c_is_name : Cal P w K mg base 1 "is_name" spNameA) (c_is_integer : Cal P w K mg base 1 "is_integer" spIsIntA) (c_is_within : Cal P w K mg base 2 "is_within" spWithinA) :
    FnOk P w K mg base CX0 3 f fd ["reel", "thing"] (spForm CR) := by
  refine F.ok sc_piece_of_form (fun vs H Q E h => ?_) (fun cdv A outer s H vs Q E hr h => ?_)
  · obtain ⟨xr, a, len, L, p, rfl, _⟩ := h
    rfl
  · obtain ⟨xr, a, len, L, p, rfl, hR, ha, gp, q⟩ := h
    refine ⟨_, (pss_cons (ps_set (i := 2) sc_piece_of_form.nd rfl (Or.inl rfl) (pe_c c_parts_of hr (by decide) rfl (pa_cons (pv 1) (pa_cons (pe_int) pa_nil))))
    (pss_cons (ps_if (pt_cmpR op_isN (pv 2) (pe_non) (nomark _))
    (pss_one (ps_ret (pe_non)))
    pss_nil)
    (pss_cons (ps_asg (pv 2) (pg_tup rfl (pgs_cons (pg_name (i := 3) sc_piece_of_form.nd rfl (Or.inl rfl)) (pgs_cons (pg_name (i := 4) sc_piece_of_form.nd rfl (Or.inl rfl)) (pgs_cons (pg_name (i := 5) sc_piece_of_form.nd rfl (Or.inl rfl)) (pgs_cons (pg_name (i := 6) sc_piece_of_form.nd rfl (Or.inl rfl)) (pgs_cons (pg_name (i := 7) sc_piece_of_form.nd rfl (Or.inl rfl)) (pgs_cons (pg_name (i := 8) sc_piece_of_form.nd rfl (Or.inl rfl)) pgs_nil))))))))
    (pss_cons (ps_if (PW.pt (pw_or (pt_not (pt_val (pe_c c_is_name hr (by decide) rfl (pa_cons (pv 3) pa_nil)))) (pw_or (pt_not (pt_val (pe_c c_is_integer hr (by decide) rfl (pa_cons (pv 4) pa_nil)))) (pw_or1 (pt_not (pt_val (pe_c c_is_integer hr (by decide) rfl (pa_cons (pv 5) pa_nil))))))))
    (pss_one (ps_ret (pe_non)))
    pss_nil)
    (pss_cons (ps_if (pt_not (pt_chain3 op_le op_lt op_le (pe_int) (pv 4) (pv 5) (pe_fld (pv 0) rfl)))
    (pss_one (ps_ret (pe_non)))
    pss_nil)
    (pss_cons (ps_if (PW.pt (pw_or (pt_not (pt_val (pe_c c_is_within hr (by decide) rfl (pa_cons (pv 6) (pa_cons (pe_int) (pa_cons (pe_glob (v := .int 6) rfl g_MOST_RATE ⟨_, rfl⟩) pa_nil)))))) (pw_or (pt_not (pt_val (pe_c c_is_within hr (by decide) rfl (pa_cons (pv 7) (pa_cons (pe_int) (pa_cons (pe_glob (v := .int 6) rfl g_MOST_RATE ⟨_, rfl⟩) pa_nil)))))) (pw_or1 (pt_cmpR op_gt (pe_callBfun cr_gcd rfl g_gcd (pa_cons (pv 6) (pa_cons (pv 7) pa_nil))) (pe_int) (nomark _))))))
    (pss_one (ps_ret (pe_non)))
    pss_nil)
    (pss_cons (ps_if (PW.pt (pw_or (pt_not (pt_val (pe_callB call_isi (by rfl) m_isinstance (by decide +kernel) (pa_cons (pv 8) (pa_cons (pe_bltn (v := .ty "str") (by rfl) m_str (by decide +kernel) rfl) pa_nil))))) (pw_or1 (pt_cmpR op_notIn_seq (pv 8) (ClX.pe_cval (pe_glob (v := .ref CP) rfl TP.g rfl) rfl) rfl))))
    (pss_one (ps_ret (pe_non)))
    pss_nil)
    (pss_one (ps_ret (pv 2)))))))))), ?_⟩
    obtain ⟨dx, _, _, _, _, hx, _⟩ := id hR
    obtain ⟨mc, aW, u, w1, w2, w3⟩ := TP.ways
    refine ⟨_, rfl, .ref a, 6, rfl, .inr ⟨a, p.vs, rfl, .inl ha, (by show 6 ≤ 1000; decide), fun _ H1 t s1 h1 => ?_, fun h => absurd rfl h⟩⟩
    refine ⟨_, rfl, rfl, _, rfl, _, rfl, t, _, rfl, SqT.of h1, rfl, _, _, rfl, _, _, rfl, _, _, rfl, _, _, rfl, _, _, rfl, _, _, rfl, rfl, ?_⟩
    refine ⟨_, rfl, .str p.nm, rfl, .inl trivial, fun z e => by cases e; have := gp.nm.most; rw [cp_len] at this; omega, fun H2 s2 => ⟨_, rfl, ?_⟩⟩
    rw [nameV_yes gp.nm]
    refine ⟨_, rfl, .int p.s, rfl, .inl trivial, _, rfl, _, rfl, .int p.e, rfl, .inl trivial, _, rfl, ?_⟩
    have S2 := s1.trans s2
    refine ⟨_, rfl, _, _, rfl, rfl, _, rfl, ?_⟩
    rw [decide_eq_true gp.s0]
    refine iteT ⟨_, rfl, _, _, rfl, rfl, _, rfl, ?_⟩
    rw [decide_eq_true gp.lt]
    refine iteT ⟨_, rfl, xr, CR, dx, _, _, rfl, S2 _ _ hx, TR.cl, TR.nL, reel_length _ _ _ _, _, _, rfl, rfl, _, rfl, ?_⟩
    rw [decide_eq_true gp.el]
    have iu : inside (.int p.up) 1 6 = true := by
      show (decide (1 ≤ p.up) && decide (p.up ≤ 6)) = true
      rw [decide_eq_true gp.u1, decide_eq_true gp.u6]
      rfl
    have id' : inside (.int p.dn) 1 6 = true := by
      show (decide (1 ≤ p.dn) && decide (p.dn ≤ 6)) = true
      rw [decide_eq_true gp.d1, decide_eq_true gp.d6]
      rfl
    refine ⟨_, rfl, .int p.up, 1, 6, rfl, .inl trivial, _, rfl, ?_⟩
    rw [iu]
    refine ⟨_, rfl, .int p.dn, 1, 6, rfl, .inl trivial, _, rfl, ?_⟩
    rw [id']
    refine ⟨_, rfl, _, rfl, _, _, rfl, _, _, rfl, rfl, _, rfl, ?_⟩
    have ng : ¬ (1 : Int) < ((Nat.gcd p.up.natAbs p.dn.natAbs : Nat) : Int) := by
      have := gp.g
      omega
    rw [decide_eq_false ng]
    refine ⟨_, rfl, _, _, _, _, true, rfl, .ty _, .base (.str _), kit_ty (by decide +kernel), true, rfl, _, rfl, CP, mc, _, u, rfl, w1, w2, aW, _, rfl, .inr (w3 H2), rfl, rfl, _, rfl, ?_⟩
    have ew : inV (.str (wayS p.on)) [V.str (Str.ofString "on"), V.str (Str.ofString "back")] = true := by
      rw [show [V.str (Str.ofString "on"), V.str (Str.ofString "back")] = [Str.ofString "on", Str.ofString "back"].map V.str from rfl, inV_strs]
      unfold wayS
      cases p.on <;> simp
    show (if (!inV (.str (wayS p.on)) [V.str (Str.ofString "on"), V.str (Str.ofString "back")]) = true then _ else _)
    rw [ew]
    exact ⟨_, rfl, q H2 t S2 (s2 _ _ h1)⟩
end
end Sea
namespace Sea
open PySem PySem.Spec PyProof.Rows L2
theorem ref_at {α : Type} {L : List (Addr × α)} {i : Nat} {v : V} (h : (L.map fun e => V.ref e.1)[i]? = some v) : ∃ e, L[i]? = some e ∧ v = .ref e.1 := by
  rw [List.getElem?_map] at h
  cases e : L[i]? with
  | none => rw [e] at h; cases h
  | some d => rw [e] at h; exact ⟨d, rfl, (Option.some.inj h).symm⟩
theorem take_snd {α : Type} {L M : List (Addr × α)} {i : Nat} {e d : Addr × α} (h : (M.map (·.2)) = (L.map (·.2)).take i) (he : L[i]? = some e) (hd : d.2 = e.2) : ((M ++ [d]).map (·.2)) = (L.map (·.2)).take (i + 1) := by
  rw [List.map_append, h, List.take_add_one, List.getElem?_map, he, List.map_cons, List.map_nil, hd]
  rfl
theorem len_take {α : Type} {L M : List (Addr × α)} {i : Nat} (h : (M.map (·.2)) = (L.map (·.2)).take i) : M.length ≤ i := by
  have := congrArg List.length h
  rw [List.length_map, List.length_take] at this
  omega
def spPieces (CR : Addr) : Sp := fun vs H Q _ => ∃ (xr ap : Addr) (len : Int) (L : List (Addr × Cue)) (M : List (Addr × Piece)), vs = [.ref xr, .ref ap] ∧ ReelAt H CR xr len L ∧ (H ap = some (.tup (refsP M)) ∨ H ap = some (.lst (refsP M))) ∧ (∀ e ∈ M, PAt H e ∧ GoodP len e.2) ∧
  1 ≤ M.length ∧ M.length ≤ 12 ∧ ((pcs M).map (·.nm)).Nodup ∧ ∀ H' t M', Same H H' → H' t = some (.tup (refsP M')) → pcs M' = pcs M → (∀ e ∈ M', PAt H' e) → Q (.ref t) H'
section
variable {P : Program} {w : World} {K : PySem.W.Frag} {mg : Str → Option Value} {base : Heap} {CR CP fR fP : Addr}
theorem ok_pieces {f : Addr} {fd : FuncData} (F : Fun K "judged_pieces" "judged_pieces" s_judged_pieces f fd) (m_enumerate : mg "enumerate" = none) (m_len : mg "len" = none) (m_tuple : mg "tuple" = none) {t : Tok} (g_MOST_PIECES : mg "MOST_PIECES" = some (.int 12 t))
    (c_items_of : Cal P w K mg base 1 "items_of" (spItemsA K)) (c_piece_of_form : Cal P w K mg base 3 "piece_of_form" (spForm CR)) : FnOk P w K mg base CX0 4 f fd ["reel", "pieces"] (spPieces CR) := by
  refine F.ok sc_judged_pieces (fun vs H Q E h => ?_) (fun cdv A outer s H vs Q E hr h => ?_)
  · obtain ⟨xr, ap, len, L, M, rfl, _⟩ := h
    rfl
  · obtain ⟨xr, ap, len, L, M, rfl, hR, ha, hM, l1, l12, nd, q⟩ := h
    refine ⟨_, (pss_cons (ps_set (i := 2) sc_judged_pieces.nd rfl (Or.inl rfl) (pe_c c_items_of hr (by decide) rfl (pa_cons (pv 1) pa_nil)))
    (pss_cons (ps_if (pt_not (pt_truth (pv 2) (by intro _; rfl)))
    (pss_one ps_never)
    pss_nil)
    (pss_cons (ps_set (i := 3) sc_judged_pieces.nd rfl (Or.inl rfl) (pe_lst pa_nil))
    (pss_cons (ps_for PassesOwn.never rfl (pi_enT (by rfl) m_enumerate (pa_cons (pv 2) pa_nil)) (pg_tup rfl (pgs_cons (pg_name (i := 4) sc_judged_pieces.nd rfl (Or.inl rfl)) (pgs_cons (pg_name (i := 5) sc_judged_pieces.nd rfl (Or.inl rfl)) pgs_nil)))
    (pss_cons (ps_set (i := 6) sc_judged_pieces.nd rfl (Or.inl rfl) (pe_c c_piece_of_form hr (by decide) rfl (pa_cons (pv 0) (pa_cons (pv 5) pa_nil))))
    (pss_cons (ps_if (pt_cmpR op_isN (pv 6) (pe_non) (nomark _))
    (pss_one ps_never)
    pss_nil)
    (pss_one (ps_expr (pe_bm PySem.F.plainAttrs_list PySem.F.slot_list_append PySem.F.type_list_append mt_append (pv 3) (pa_cons (pv 6) pa_nil)))))))
    (pss_cons (ps_if (pt_cmpR op_gt (pe_callB call_len (by rfl) m_len (by decide +kernel) (pa_cons (pv 3) pa_nil)) (pe_glob (v := .int 12) rfl g_MOST_PIECES ⟨_, rfl⟩) (nomark _))
    (pss_one ps_never)
    pss_nil)
    (pss_cons (ps_set (i := 7) sc_judged_pieces.nd rfl (Or.inl rfl) (pe_dnewK))
    (pss_cons (ps_for PassesOwn.never rfl (pi_list (pv 3)) (pg_name (i := 6) sc_judged_pieces.nd rfl (Or.inl rfl))
    (pss_cons (ps_if (pt_cmp (pc_din (hu_of hr) (pe_ix ix_tup (pv 6) (pe_int) (fun _ _ => rfl)) (pv 7)))
    (pss_one ps_never)
    pss_nil)
    (pss_one (ps_dput (hu_of hr) (pv 7) (pe_ix ix_tup (pv 6) (pe_int) (fun _ _ => rfl)) (pe_bl) rfl))))
    (pss_one (ps_ret (pe_callTy call_tuple_of (by rfl) m_tuple (by decide +kernel) (pa_cons (pv 3) pa_nil))))))))))), ?_⟩
    have sl : sizeLine = 16777216 := sizeLine_eq
    refine ⟨_, rfl, .ref ap, rfl, .inr (.inr ⟨ap, _, rfl, ha, fun H1 it s1 h1 => ?_⟩)⟩
    have ne : (!(refsP M).isEmpty) = true := by
      cases M with
      | nil => exact absurd l1 (by decide)
      | cons e r => rfl
    refine ⟨_, rfl, _, .inr (.inl ⟨_, SqT.of h1, rfl⟩), ?_⟩
    rw [ne]
    refine ⟨Nat.zero_le _, fun D hD => ?_⟩
    have sD := same_new (o := .lst []) hD
    have h1D := sD _ _ h1
    refine ⟨_, rfl, it, _, rfl, SqT.of h1D, ?_⟩
    refine for_it walk_enT (fun i σ H' => ∃ (k4 k5 k6 : Option V) (N : List (Addr × Piece)), σ = [some (.ref xr), some (.ref ap), some (.ref it), some (.ref D), k4, k5, k6, none] ∧ Same H1 H' ∧ H' D = some (.lst (refsP N)) ∧ pcs N = (pcs M).take i ∧ ∀ e ∈ N, PAt H' e)
      ⟨none, none, none, [], rfl, sD, upd_same, rfl, fun _ h => nomatch h⟩ (fun i σ H' _ ⟨_, _, _, _, _, hs, _⟩ => SqT.of (hs _ _ h1)) ?_ ?_
    · rintro i x σ Ha Hb hi ⟨k4, k5, k6, N, rfl, hs, hd, hn, hN⟩ ⟨T, v, rfl, hT, hv, rfl⟩
      obtain ⟨e, he, rfl⟩ := ref_at hv
      obtain ⟨eA, eG⟩ := hM e (List.mem_of_getElem? he)
      have sT := same_new (o := .tup [.int (i : Nat), V.ref e.1]) hT
      have S := (s1.trans hs).trans sT
      have lN : N.length ≤ i := len_take hn
      have hi' : i < M.length := (List.getElem?_eq_some_iff.mp he).1
      refine ⟨T, _, rfl, SqT.of upd_same, rfl, _, _, rfl, _, _, rfl, rfl, ?_⟩
      refine ⟨_, rfl, _, rfl, xr, e.1, len, L, e.2, rfl, hR.keep S, eA.keep S, eG, fun H2 t2 s2 h2 => ?_⟩
      have hd2 := s2 _ _ (sT _ _ hd)
      refine ⟨_, rfl, rfl, _, rfl, _, rfl, .inl ⟨rfl, _, SqL.of hd2⟩, _, rfl, D, _, _, rfl, rfl, hd2, small_line (by rw [List.length_map]; omega), _, _, _, N ++ [(t2, e.2)], rfl, ?_, ?_, take_snd hn he rfl, fun d hd' => ?_⟩
      · intro b o hb
        have nb : b ≠ D := ne_of_none hb hD
        rw [upd_ne nb]
        exact s2 _ _ (sT _ _ (hs _ _ hb))
      · rw [upd_same]
        show _ = some (HO.lst (List.map _ _))
        rw [List.map_append]
        rfl
      · have ko : KT H2 (upd H2 D (.lst (refsP N ++ [V.ref t2]))) := (KT.refl H2).over hd2
        rcases List.mem_append.mp hd' with h | h
        · exact (((hN d h).keep sT).keep s2).kt ko
        · rw [List.mem_singleton.mp h]
          exact h2.kt ko
    rintro σ H3 ⟨k4, k5, k6, N, rfl, s3, hd3, hn3, hN3⟩
    have lr : (refsP M).length = (pcs M).length := by rw [List.length_map, List.length_map]
    rw [lr, List.take_length] at hn3
    have lN : N.length = M.length := by
      have := congrArg List.length hn3
      rw [List.length_map, List.length_map] at this
      exact this
    refine ⟨_, rfl, _, N.length, rfl, .inl ⟨_, SqL.of hd3, (List.length_map ..).symm⟩, _, _, rfl, rfl, _, rfl, ite2 (fun h => ?_) (fun _ => ?_)⟩
    · have := of_decide_eq_true h
      omega
    refine fun kd hkd => ?_
    have skd := same_new (o := .dK []) hkd
    have ndk : D ≠ kd := ne_of_none hd3 hkd
    refine ⟨_, rfl, D, rfl, ⟨_, SqL.of (skd _ _ hd3)⟩, ?_⟩
    refine for_it walk_list (fun i σ H' => ∃ (k6 : Option V) (kvs : List (Key × V)), σ = [some (.ref xr), some (.ref ap), some (.ref it), some (.ref D), k4, k5, k6, some (.ref kd)] ∧ Same H3 H' ∧ H' kd = some (.dK kvs) ∧ kvs.length ≤ i ∧ ∀ z : Str, (valV kvs (Sum.inr z)).isSome = true → z ∈ ((pcs M).take i).map (·.nm))
      ⟨k6, [], rfl, skd, upd_same, Nat.le_refl _, fun z h => nomatch h⟩ (fun i σ H' _ ⟨_, _, _, hs, _⟩ => SqL.of (hs _ _ hd3)) ?_ ?_
    · rintro i x σ Ha Hb hi ⟨k6, kvs, rfl, hs, hk, hl, hz⟩ ⟨rfl, hy⟩
      obtain ⟨e, he, rfl⟩ := ref_at hy
      have eA : Hb e.1 = some (.tup e.2.vs) := (hN3 e (List.mem_of_getElem? he)).keep hs
      have hp : (pcs M)[i]? = some e.2 := by rw [← hn3, List.getElem?_map, he]; rfl
      have tk : ((pcs M).take (i + 1)).map (·.nm) = ((pcs M).take i).map (·.nm) ++ [e.2.nm] := by
        rw [List.take_add_one, hp, List.map_append]
        rfl
      have hnot : valV kvs (Sum.inr e.2.nm) = none := by
        cases ev : valV kvs (Sum.inr e.2.nm) with
        | none => rfl
        | some v =>
          have hin := hz e.2.nm (by rw [ev]; rfl)
          have nd2 : (((pcs M).take (i + 1)).map (·.nm)).Nodup := by
            rw [List.map_take]
            exact nd.sublist (List.take_sublist _ _)
          rw [tk] at nd2
          exact absurd rfl ((List.nodup_append.mp nd2).2.2 _ hin _ (List.mem_singleton.mpr rfl))
      have hi2 : i < N.length := (List.getElem?_eq_some_iff.mp he).1
      refine ⟨_, rfl, e.1, _, 0, _, rfl, rfl, SqT.of eA, atI_nat (j := 0) rfl, _, rfl, kd, _, rfl, DGet.k (k := Sum.inr e.2.nm) hk, _, rfl, ?_⟩
      rw [hnot]
      refine ⟨_, rfl, _, rfl, e.1, _, 0, _, rfl, rfl, SqT.of eA, atI_nat (j := 0) rfl, kd, _, rfl, DPut.k (k := Sum.inr e.2.nm) hk (by omega), _, _, rfl, ?_, upd_same, ?_, fun z h => ?_⟩
      · intro b o hb
        have nb : b ≠ kd := ne_of_none hb hkd
        rw [upd_ne nb]
        exact hs _ _ hb
      · have := length_putK kvs (Sum.inr e.2.nm) (V.bl true)
        omega
      · rw [valV_put] at h
        rw [tk]
        by_cases ez : (Sum.inr z : Key) = Sum.inr e.2.nm
        · cases ez
          exact List.mem_append_right _ (List.mem_singleton.mpr rfl)
        · rw [if_neg ez] at h
          exact List.mem_append_left _ (hz z h)
    rintro σ H4 ⟨k6', kvs, rfl, s4, hk4, _⟩
    refine ⟨_, rfl, D, _, rfl, .inl ⟨SqL.of (s4 _ _ hd3), fun l hl => ?_⟩⟩
    have sl' := same_new (o := .tup (refsP N)) hl
    exact q _ l N (((s1.trans s3).trans s4).trans sl') upd_same hn3 fun e he => ((hN3 e he).keep s4).keep sl'
end
end Sea
namespace Sea
open PySem PySem.Spec PyProof.Rows L2
def AAt (H : Hp) (e : Addr × (Str × Str)) : Prop := H e.1 = some (.tup [.str e.2.1, .str e.2.2])
abbrev refsA (L : List (Addr × (Str × Str))) : List V := L.map fun e => V.ref e.1
abbrev prs (L : List (Addr × (Str × Str))) : List (Str × Str) := L.map (·.2)
theorem AAt.keep {H H' : Hp} {e : Addr × (Str × Str)} (h : AAt H e) (s : Same H H') : AAt H' e := s _ _ h
theorem AAt.kt {H H' : Hp} {e : Addr × (Str × Str)} (h : AAt H e) (s : KT H H') : AAt H' e := s _ _ h
theorem hu65 {A : Around} {k : Nat} (hr : Room k A) : A.units + 65 < cLine := by
  have := hr.un
  omega
def arP (a : Str × Str) : PyData := .tuple [.str a.1, .str a.2]
theorem nameS {z : Str} (h : NameW (cp z)) : AscS z := fun c hc => by
  have := h.sign c hc
  omega
theorem arP_shaped {a : Str × Str} (h1 : AscS a.1) (h2 : AscS a.2) : SeqAt.shaped (arP a) = true := by
  show ((PyData.canLay0 (.str a.1) && (PyData.canLay0 (.str a.2) && true)) && decide (_ ≤ 64)) = true
  rw [asc_ok h1, asc_ok h2]
  rfl
theorem arPs_shaped {as : List (Str × Str)} (h : ∀ a ∈ as, AscS a.1 ∧ AscS a.2) : SeqAt.shaped (.list (as.map arP)) = true := by
  have h1 : ∀ as : List (Str × Str), (∀ a ∈ as, AscS a.1 ∧ AscS a.2) → PyData.canLayAll0 (as.map arP) = true := fun as => by
    induction as with
    | nil => intro _; rfl
    | cons a r ih =>
      intro h
      show (PyData.canLay0 (arP a) && PyData.canLayAll0 (r.map arP)) = true
      have e : PyData.canLay0 (arP a) = true := by
        show (PyData.canLay0 (.str a.1) && (PyData.canLay0 (.str a.2) && true)) = true
        rw [asc_ok (h a List.mem_cons_self).1, asc_ok (h a List.mem_cons_self).2]
        rfl
      rw [e, ih fun z hz => h z (List.mem_cons_of_mem _ hz)]
      rfl
  have h2 : ∀ as : List (Str × Str), PyData.depthAll (as.map arP) ≤ 1 := fun as => by
    induction as with
    | nil => exact Nat.zero_le _
    | cons a r ih =>
      show max (PyData.depth (arP a)) (PyData.depthAll (r.map arP)) ≤ 1
      have : PyData.depth (arP a) = 1 := rfl
      omega
  have := h2 as
  show (PyData.canLayAll0 (as.map arP) && decide (PyData.depthAll (as.map arP) + 1 ≤ 64)) = true
  rw [h1 as h, decide_eq_true (by omega)]
  rfl
theorem arP_eqv (a b : Str × Str) : PyData.eqv (arP a) (arP b) = decide (a = b) := by
  show ((a.1 == b.1) && ((a.2 == b.2) && true)) = _
  obtain ⟨a1, a2⟩ := a
  obtain ⟨b1, b2⟩ := b
  by_cases h : ((a1, a2) : Str × Str) = (b1, b2)
  · cases h
    simp
  · rw [decide_eq_false h, Bool.eq_false_iff]
    intro q
    simp only [Bool.and_true, Bool.and_eq_true, beq_iff_eq] at q
    exact h (by rw [q.1, q.2])
theorem arP_any (a : Str × Str) (as : List (Str × Str)) : ((as.map arP).any fun z => PyData.eqv z (arP a)) = decide (a ∈ as) := by
  induction as with
  | nil => rfl
  | cons b r ih =>
    rw [List.map_cons, List.any_cons, ih, arP_eqv]
    by_cases h : b = a
    · subst h
      simp
    · rw [decide_eq_false h, Bool.false_or]
      by_cases h2 : a ∈ r
      · simp [h2]
      · rw [decide_eq_false h2, decide_eq_false]
        intro q
        rcases List.mem_cons.mp q with e | e
        · exact h e.symm
        · exact h2 e
theorem dp_arrows {K : PySem.W.Frag} {H : Hp} : ∀ {L : List (Addr × (Str × Str))}, (∀ e ∈ L, AAt H e) → DpAll K H (refsA L) ((prs L).map arP)
  | [], _ => .nil
  | e :: r, h => .cons (.tup (SqT.of (h e List.mem_cons_self)) (.cons (.str _) (.cons (.str _) .nil))) (dp_arrows fun d hd => h d (List.mem_cons_of_mem _ hd))
def spArrowsJ : Sp := fun vs H Q _ => ∃ (nt aa : Addr) (ns : List Str) (M : List (Addr × (Str × Str))), vs = [.ref nt, .ref aa] ∧ H nt = some (.tup (ns.map V.str)) ∧ (∀ n ∈ ns, NameW (cp n)) ∧ (H aa = some (.tup (refsA M)) ∨ H aa = some (.lst (refsA M))) ∧
  (∀ e ∈ M, AAt H e ∧ e.2.1 ∈ ns ∧ e.2.2 ∈ ns) ∧ (prs M).Nodup ∧ M.length ≤ 1000 ∧ ∀ H' t M', Same H H' → H' t = some (.tup (refsA M')) → prs M' = prs M → (∀ e ∈ M', AAt H' e) → Q (.ref t) H'
/-- names of pieces, chosen -/
structure Chosen (ns ss : List Str) : Prop where
  some : 1 ≤ ss.length
  most : ss.length ≤ 1000
  nd : ss.Nodup
  sub : ∀ z ∈ ss, z ∈ ns
def spWrong : Sp := fun vs H Q _ => ∃ (nt aa : Addr) (ns ss : List Str), vs = [.ref nt, .ref aa] ∧ H nt = some (.tup (ns.map V.str)) ∧ (H aa = some (.tup (ss.map V.str)) ∨ H aa = some (.lst (ss.map V.str))) ∧ Chosen ns ss ∧ ∀ H', Same H H' → Q .non H'
def spChosen : Sp := fun vs H Q _ => ∃ (nt aa : Addr) (ns ss : List Str), vs = [.ref nt, .ref aa] ∧ H nt = some (.tup (ns.map V.str)) ∧ (H aa = some (.tup (ss.map V.str)) ∨ H aa = some (.lst (ss.map V.str))) ∧ Chosen ns ss ∧ ∀ H' t, Same H H' → H' t = some (.tup (ss.map V.str)) → Q (.ref t) H'
section
variable {P : Program} {w : World} {K : PySem.W.Frag} {mg : Str → Option Value} {base : Heap} {CR CP fR fP : Addr}
theorem ok_arrowsJ {f : Addr} {fd : FuncData} (F : Fun K "judged_arrows" "judged_arrows" s_judged_arrows f fd) (m_enumerate : mg "enumerate" = none) (m_tuple : mg "tuple" = none)
    (c_items_of : Cal P w K mg base 1 "items_of" (spItemsA K)) (c_parts_of : Cal P w K mg base 2 "parts_of" spPartsA) : FnOk P w K mg base CX0 3 f fd ["names", "arrows"] spArrowsJ := by
  refine F.ok sc_judged_arrows (fun vs H Q E h => ?_) (fun cdv A outer s H vs Q E hr h => ?_)
  · obtain ⟨nt, aa, ns, M, rfl, _⟩ := h
    rfl
  · obtain ⟨nt, aa, ns, M, rfl, hnt, hns, ha, hM, nd, l1000, q⟩ := h
    refine ⟨_, (pss_cons (ps_set (i := 2) sc_judged_arrows.nd rfl (Or.inl rfl) (pe_c c_items_of hr (by decide) rfl (pa_cons (pv 1) pa_nil)))
    (pss_cons (ps_if (pt_cmpR op_isN (pv 2) (pe_non) (nomark _))
    (pss_one ps_never)
    pss_nil)
    (pss_cons (ps_set (i := 3) sc_judged_arrows.nd rfl (Or.inl rfl) (pe_lst pa_nil))
    (pss_cons (ps_for PassesOwn.never rfl (pi_enT (by rfl) m_enumerate (pa_cons (pv 2) pa_nil)) (pg_tup rfl (pgs_cons (pg_name (i := 4) sc_judged_arrows.nd rfl (Or.inl rfl)) (pgs_cons (pg_name (i := 5) sc_judged_arrows.nd rfl (Or.inl rfl)) pgs_nil)))
    (pss_cons (ps_set (i := 6) sc_judged_arrows.nd rfl (Or.inl rfl) (pe_c c_parts_of hr (by decide) rfl (pa_cons (pv 5) (pa_cons (pe_int) pa_nil))))
    (pss_cons (ps_if (PW.pt (pw_or (pt_cmpR op_isN (pv 6) (pe_non) (nomark _)) (pw_or (pt_cmpR op_notIn_seq (pe_ix ix_tup (pv 6) (pe_int) (fun _ _ => rfl)) (pv 0) rfl) (pw_or (pt_cmpR op_notIn_seq (pe_ix ix_tup (pv 6) (pe_int) (fun _ _ => rfl)) (pv 0) rfl) (pw_or1 (pt_cmpR (op_inD (hu65 hr)) (pv 6) (pv 3) rfl))))))
    (pss_one ps_never)
    pss_nil)
    (pss_one (ps_expr (pe_bm PySem.F.plainAttrs_list PySem.F.slot_list_append PySem.F.type_list_append mt_append (pv 3) (pa_cons (pv 6) pa_nil)))))))
    (pss_one (ps_ret (pe_callTy call_tuple_of (by rfl) m_tuple (by decide +kernel) (pa_cons (pv 3) pa_nil)))))))), ?_⟩
    refine ⟨_, rfl, .ref aa, rfl, .inr (.inr ⟨aa, _, rfl, ha, fun H1 it s1 h1 => ?_⟩)⟩
    refine ⟨_, rfl, rfl, _, rfl, Nat.zero_le _, fun D hD => ?_⟩
    have sD := same_new (o := .lst []) hD
    refine ⟨_, rfl, it, _, rfl, SqT.of (sD _ _ h1), ?_⟩
    refine for_it walk_enT (fun i σ H' => ∃ (k4 k5 k6 : Option V) (N : List (Addr × (Str × Str))), σ = [some (.ref nt), some (.ref aa), some (.ref it), some (.ref D), k4, k5, k6] ∧ Same H1 H' ∧ H' D = some (.lst (refsA N)) ∧ prs N = (prs M).take i ∧ ∀ e ∈ N, AAt H' e)
      ⟨none, none, none, [], rfl, sD, upd_same, rfl, fun _ h => nomatch h⟩ (fun i σ H' _ ⟨_, _, _, _, _, hs, _⟩ => SqT.of (hs _ _ h1)) ?_ ?_
    · rintro i x σ Ha Hb hi ⟨k4, k5, k6, N, rfl, hs, hd, hn, hN⟩ ⟨T, v, rfl, hT, hv, rfl⟩
      obtain ⟨e, he, rfl⟩ := ref_at hv
      obtain ⟨eA, e1, e2⟩ := hM e (List.mem_of_getElem? he)
      have sT := same_new (o := .tup [.int (i : Nat), V.ref e.1]) hT
      have S := (s1.trans hs).trans sT
      have lN : N.length ≤ i := len_take hn
      have hi' : i < M.length := (List.getElem?_eq_some_iff.mp he).1
      refine ⟨T, _, rfl, SqT.of upd_same, rfl, _, _, rfl, _, _, rfl, rfl, ?_⟩
      refine ⟨_, rfl, .ref e.1, 2, rfl, .inr ⟨e.1, _, rfl, .inl (S _ _ eA), (by show 2 ≤ 1000; decide), fun _ H2 t2 s2 h2 => ?_, fun h => absurd rfl h⟩⟩
      have S2 := S.trans s2
      have hd2 := s2 _ _ (sT _ _ hd)
      have hnt2 := S2 _ _ hnt
      have hN2 : ∀ d ∈ N, AAt H2 d := fun d hd' => ((hN d hd').keep sT).keep s2
      refine ⟨_, rfl, rfl, _, rfl, _, rfl, t2, _, 0, _, rfl, rfl, SqT.of h2, atI_nat (j := 0) rfl, _, rfl, nt, _, rfl, .inr (SqT.of hnt2), rfl, flat_strs ns, _, rfl, ?_⟩
      show (if (!inV (.str e.2.1) (ns.map V.str)) = true then _ else _)
      rw [inV_strs, decide_eq_true e1]
      refine ⟨_, rfl, t2, _, 1, _, rfl, rfl, SqT.of h2, atI_nat (j := 1) rfl, _, rfl, nt, _, rfl, .inr (SqT.of hnt2), rfl, flat_strs ns, _, rfl, ?_⟩
      show (if (!inV (.str e.2.2) (ns.map V.str)) = true then _ else _)
      rw [inV_strs, decide_eq_true e2]
      have hmem : ∀ a ∈ prs N, a ∈ (prs M).take i := fun a h => by rw [← hn]; exact h
      have asc : ∀ a ∈ prs M, AscS a.1 ∧ AscS a.2 := fun a h => by
        obtain ⟨d, hd', rfl⟩ := List.mem_map.mp h
        obtain ⟨_, q1, q2⟩ := hM d hd'
        exact ⟨nameS (hns _ q1), nameS (hns _ q2)⟩
      have heM : (prs M)[i]? = some e.2 := by rw [List.getElem?_map, he]; rfl
      have nin : ¬ e.2 ∈ prs N := fun h => by
        have h1 := hmem _ h
        have nd2 : ((prs M).take (i + 1)).Nodup := nd.sublist (List.take_sublist _ _)
        rw [List.take_add_one, heM] at nd2
        exact absurd rfl ((List.nodup_append.mp nd2).2.2 _ h1 _ (List.mem_singleton.mpr rfl))
      refine ⟨_, rfl, _, rfl, arP e.2, (prs N).map arP, .tup (SqT.of h2) (.cons (.str _) (.cons (.str _) .nil)), .lst (SqL.of hd2) (dp_arrows hN2), arP_shaped (asc _ (List.mem_of_getElem? heM)).1 (asc _ (List.mem_of_getElem? heM)).2, arPs_shaped (fun a h => asc a (List.mem_of_mem_take (hmem a h))), _, rfl, ?_⟩
      rw [arP_any, decide_eq_false nin]
      refine ⟨_, rfl, .inl ⟨rfl, _, SqL.of hd2⟩, _, rfl, D, _, _, rfl, rfl, hd2, small_line (by rw [List.length_map]; omega), _, _, _, N ++ [(t2, e.2)], rfl, ?_, ?_, take_snd hn he rfl, fun d hd' => ?_⟩
      · intro b o hb
        have nb : b ≠ D := ne_of_none hb hD
        rw [upd_ne nb]
        exact s2 _ _ (sT _ _ (hs _ _ hb))
      · rw [upd_same]
        show _ = some (HO.lst (List.map _ _))
        rw [List.map_append]
        rfl
      · have ko : KT H2 (upd H2 D (.lst (refsA N ++ [V.ref t2]))) := (KT.refl H2).over hd2
        rcases List.mem_append.mp hd' with h | h
        · exact (hN2 d h).kt ko
        · rw [List.mem_singleton.mp h]
          exact ko _ _ h2
    rintro σ H3 ⟨k4, k5, k6, N, rfl, s3, hd3, hn3, hN3⟩
    have lr : (refsA M).length = (prs M).length := by rw [List.length_map, List.length_map]
    rw [lr, List.take_length] at hn3
    refine ⟨_, rfl, D, _, rfl, .inl ⟨SqL.of hd3, fun l hl => ?_⟩⟩
    have sl' := same_new (o := .tup (refsA N)) hl
    exact q _ l N ((s1.trans s3).trans sl') upd_same hn3 fun e he => (hN3 e he).keep sl'
theorem ok_wrong {f : Addr} {fd : FuncData} (F : Fun K "wrong_name" "wrong_name" s_wrong_name f fd) (m_enumerate : mg "enumerate" = none)
    (c_items_of : Cal P w K mg base 1 "items_of" (spItemsA K)) : FnOk P w K mg base CX0 2 f fd ["names", "things"] spWrong := by
  refine F.ok sc_wrong_name (fun vs H Q E h => ?_) (fun cdv A outer s H vs Q E hr h => ?_)
  · obtain ⟨nt, aa, ns, ss, rfl, _⟩ := h
    rfl
  · obtain ⟨nt, aa, ns, ss, rfl, hnt, ha, hc, q⟩ := h
    refine ⟨_, (pss_cons (ps_set (i := 2) sc_wrong_name.nd rfl (Or.inl rfl) (pe_c c_items_of hr (by decide) rfl (pa_cons (pv 1) pa_nil)))
    (pss_cons (ps_if (pt_not (pt_truth (pv 2) (by intro _; rfl)))
    (pss_one (ps_ret (pe_un un_neg (pe_int))))
    pss_nil)
    (pss_cons (ps_for PassesOwn.never rfl (pi_enT (by rfl) m_enumerate (pa_cons (pv 2) pa_nil)) (pg_tup rfl (pgs_cons (pg_name (i := 3) sc_wrong_name.nd rfl (Or.inl rfl)) (pgs_cons (pg_name (i := 4) sc_wrong_name.nd rfl (Or.inl rfl)) pgs_nil)))
    (pss_one (ps_if (PW.pt (pw_or (pt_cmpR op_notIn_seq (pv 4) (pv 0) rfl) (pw_or1 (pt_cmpR op_in_seq (pv 4) (pe_slice sl_tup (pv 2) po_none (po_some (pv 3))) rfl))))
    (pss_one (ps_ret (pv 3)))
    pss_nil)))
    (pss_one (ps_ret (pe_non)))))), ?_⟩
    refine ⟨_, rfl, .ref aa, rfl, .inr (.inr ⟨aa, _, rfl, ha, fun H1 it s1 h1 => ?_⟩)⟩
    have ne : (!(ss.map V.str).isEmpty) = true := by
      cases ss with
      | nil => exact absurd hc.some (by decide)
      | cons e r => rfl
    refine ⟨_, rfl, _, .inr (.inl ⟨_, SqT.of h1, rfl⟩), ?_⟩
    rw [ne]
    refine ⟨_, rfl, it, _, rfl, SqT.of h1, ?_⟩
    refine for_it walk_enT (fun i σ H' => ∃ (k3 k4 : Option V), σ = [some (.ref nt), some (.ref aa), some (.ref it), k3, k4] ∧ Same H1 H') ⟨none, none, rfl, Same.refl H1⟩ (fun i σ H' _ ⟨_, _, _, hs⟩ => SqT.of (hs _ _ h1)) ?_ ?_
    · rintro i x σ Ha Hb hi ⟨k3, k4, rfl, hs⟩ ⟨T, v, rfl, hT, hv, rfl⟩
      have hi' : i < ss.length := by rw [List.length_map] at hi; exact hi
      obtain ⟨z, hz, rfl⟩ : ∃ z, ss[i]? = some z ∧ v = V.str z := by
        rw [List.getElem?_map, List.getElem?_eq_getElem hi'] at hv
        exact ⟨ss[i], List.getElem?_eq_getElem hi', (Option.some.inj hv).symm⟩
      have sT := same_new (o := .tup [.int (i : Nat), V.str z]) hT
      have S := hs.trans sT
      have hzm := List.mem_of_getElem? hz
      refine ⟨T, _, rfl, SqT.of upd_same, rfl, _, _, rfl, _, _, rfl, rfl, ?_⟩
      refine ⟨_, rfl, _, rfl, nt, _, rfl, .inr (SqT.of (S _ _ (s1 _ _ hnt))), rfl, flat_strs ns, _, rfl, ?_⟩
      show (if (!inV (.str z) (ns.map V.str)) = true then _ else _)
      rw [inV_strs, decide_eq_true (hc.sub z hzm)]
      refine ⟨_, rfl, _, rfl, _, rfl, _, rfl, it, _, rfl, SqT.of (S _ _ h1), ?_, fun p hp => ?_⟩
      · rintro ⟨_, z'⟩
        have z2 : HT.sIx (ss.map V.str).length (ss.map V.str).length (some ((i : Nat) : Int)) = (ss.map V.str).length := z'
        rw [HT.sIx_nat, List.length_map] at z2
        omega
      have ecut : cutV (ss.map V.str) none (some ((i : Nat) : Int)) = (ss.take i).map V.str := by
        unfold cutV
        rw [HT.sIx_nat, HT.sIx_none, List.drop_zero, Nat.sub_zero, List.length_map, List.map_take]
        rw [Nat.min_eq_left (Nat.le_of_lt hi')]
      rw [ecut]
      refine ⟨p, _, rfl, .inr (SqT.of upd_same), rfl, flat_strs _, _, rfl, ?_⟩
      show (if inV (.str z) ((ss.take i).map V.str) = true then _ else _)
      have nin : ¬ z ∈ ss.take i := fun h => by
        have nd2 : (ss.take (i + 1)).Nodup := hc.nd.sublist (List.take_sublist _ _)
        rw [List.take_add_one, hz] at nd2
        exact absurd rfl ((List.nodup_append.mp nd2).2.2 _ h _ (List.mem_singleton.mpr rfl))
      rw [inV_strs, decide_eq_false nin]
      exact ⟨_, _, rfl, S.trans (same_new hp)⟩
    · rintro σ H' ⟨k3, k4, rfl, hs⟩
      exact q H' (s1.trans hs)
theorem ok_startsJ {f : Addr} {fd : FuncData} (F : Fun K "judged_starts" "judged_starts" s_judged_starts f fd)
    (c_items_of : Cal P w K mg base 1 "items_of" (spItemsA K)) (c_wrong_name : Cal P w K mg base 2 "wrong_name" spWrong) : FnOk P w K mg base CX0 3 f fd ["names", "starts"] spChosen := by
  refine F.ok sc_judged_starts (fun vs H Q E h => ?_) (fun cdv A outer s H vs Q E hr h => ?_)
  · obtain ⟨nt, aa, ns, ss, rfl, _⟩ := h
    rfl
  · obtain ⟨nt, aa, ns, ss, rfl, hnt, ha, hc, q⟩ := h
    refine ⟨_, (pss_cons (ps_set (i := 2) sc_judged_starts.nd rfl (Or.inl rfl) (pe_c c_wrong_name hr (by decide) rfl (pa_cons (pv 0) (pa_cons (pv 1) pa_nil))))
    (pss_cons (ps_if (pt_cmpR op_notN (pv 2) (pe_non) (nomark _))
    (pss_one ps_never)
    pss_nil)
    (pss_one (ps_ret (pe_c c_items_of hr (by decide) rfl (pa_cons (pv 1) pa_nil)))))), ?_⟩
    refine ⟨_, rfl, _, rfl, nt, aa, ns, ss, rfl, hnt, ha, hc, fun H1 s1 => ⟨_, rfl, rfl, _, rfl, ?_⟩⟩
    exact ⟨_, rfl, .ref aa, rfl, .inr (.inr ⟨aa, _, rfl, ha.imp (s1 _ _) (s1 _ _), fun H2 it s2 h2 => q H2 it (s1.trans s2) h2⟩)⟩
theorem ok_endsJ {f : Addr} {fd : FuncData} (F : Fun K "judged_ends" "judged_ends" s_judged_ends f fd)
    (c_items_of : Cal P w K mg base 1 "items_of" (spItemsA K)) (c_wrong_name : Cal P w K mg base 2 "wrong_name" spWrong) : FnOk P w K mg base CX0 3 f fd ["names", "ends"] spChosen := by
  refine F.ok sc_judged_ends (fun vs H Q E h => ?_) (fun cdv A outer s H vs Q E hr h => ?_)
  · obtain ⟨nt, aa, ns, ss, rfl, _⟩ := h
    rfl
  · obtain ⟨nt, aa, ns, ss, rfl, hnt, ha, hc, q⟩ := h
    refine ⟨_, (pss_cons (ps_set (i := 2) sc_judged_ends.nd rfl (Or.inl rfl) (pe_c c_wrong_name hr (by decide) rfl (pa_cons (pv 0) (pa_cons (pv 1) pa_nil))))
    (pss_cons (ps_if (pt_cmpR op_notN (pv 2) (pe_non) (nomark _))
    (pss_one ps_never)
    pss_nil)
    (pss_one (ps_ret (pe_c c_items_of hr (by decide) rfl (pa_cons (pv 1) pa_nil)))))), ?_⟩
    refine ⟨_, rfl, _, rfl, nt, aa, ns, ss, rfl, hnt, ha, hc, fun H1 s1 => ⟨_, rfl, rfl, _, rfl, ?_⟩⟩
    exact ⟨_, rfl, .ref aa, rfl, .inr (.inr ⟨aa, _, rfl, ha.imp (s1 _ _) (s1 _ _), fun H2 it s2 h2 => q H2 it (s1.trans s2) h2⟩)⟩
end
end Sea
namespace Sea
open PySem PySem.Spec PyProof.Rows L2
inductive Led (as : List (Str × Str)) (ss : List Str) : Str → Prop
  | at {z : Str} : z ∈ ss → Led as ss z
  | on {a : Str × Str} : Led as ss a.1 → a ∈ as → Led as ss a.2
theorem nodup_le {α : Type} [DecidableEq α] : ∀ {xs ys : List α}, xs.Nodup → (∀ z ∈ xs, z ∈ ys) → xs.length ≤ ys.length
  | [], _, _, _ => Nat.zero_le _
  | x :: r, ys, nd, h => by
    have hx := h x List.mem_cons_self
    have nd' := List.nodup_cons.mp nd
    have l := nodup_le (ys := ys.erase x) nd'.2 fun z hz => (List.mem_erase_of_ne (fun e => by subst e; exact nd'.1 hz)).mpr (h z (List.mem_cons_of_mem _ hz))
    have e := List.length_erase_of_mem hx
    have p := List.length_pos_of_mem hx
    rw [List.length_cons]
    omega
def spLed : Sp := fun vs H Q _ => ∃ (nt aa : Addr) (ss ns : List Str) (M : List (Addr × (Str × Str))), vs = [.ref nt, .ref aa] ∧ H nt = some (.tup (ss.map V.str)) ∧ (H aa = some (.tup (refsA M)) ∨ H aa = some (.lst (refsA M))) ∧
  (∀ e ∈ M, AAt H e ∧ e.2.1 ∈ ns ∧ e.2.2 ∈ ns) ∧ (∀ z ∈ ss, z ∈ ns) ∧ ss.Nodup ∧ ns.length ≤ 1000 ∧
  ∀ (H' : Hp) (t : Addr) (fs : List Str), Same H H' → H' t = some (.lst (fs.map V.str)) → (∀ z, z ∈ fs ↔ Led (prs M) ss z) → Q (.ref t) H'
/-- a for over a list or a tuple -/
theorem lt_for {K : PySem.W.Frag} {a : Addr} {xs : List V} {g : TG} {tb : TS} {D : Ends} {σ : L2.St} {H : Hp} (Pv : Nat → L2.St → Hp → Prop) (h0 : Pv 0 σ H)
    (hk : (∀ i σ H, i ≤ xs.length → Pv i σ H → SqL K H a xs) ∨ (∀ i σ H, i ≤ xs.length → Pv i σ H → SqT K H a xs))
    (hs : ∀ i x σ H H', i < xs.length → Pv i σ H → YAt xs i H x H' → g x σ H' fun σ2 H2 => tb { D with nx := Pv (i + 1), ct := Pv (i + 1), bk := D.nx } σ2 H2) (hd : ∀ σ H, Pv xs.length σ H → D.nx σ H) :
    ((∃ xs, SqL K H a xs) ∧ ∃ W : Nat → Nat → L2.St → Hp → Prop, (∃ m, W 0 m σ H) ∧ ∀ i m σ H, W i m σ H →
      ((Itl K a).stop i H ∧ D.nx σ H) ∨ ((Itl K a).go i H ∧ ∃ N : L2.St → Hp → Prop, (∀ σ' H', N σ' H' → ∃ m', m' < m ∧ W (i + 1) m' σ' H') ∧ ∀ x H', (Itl K a).yld i H x H' → g x σ H' fun σ2 H2 => tb { D with nx := N, ct := N, bk := D.nx } σ2 H2)) ∨
    ((∃ xs, SqT K H a xs) ∧ ∃ W : Nat → Nat → L2.St → Hp → Prop, (∃ m, W 0 m σ H) ∧ ∀ i m σ H, W i m σ H →
      ((Itt K a).stop i H ∧ D.nx σ H) ∨ ((Itt K a).go i H ∧ ∃ N : L2.St → Hp → Prop, (∀ σ' H', N σ' H' → ∃ m', m' < m ∧ W (i + 1) m' σ' H') ∧ ∀ x H', (Itt K a).yld i H x H' → g x σ H' fun σ2 H2 => tb { D with nx := N, ct := N, bk := D.nx } σ2 H2)) := by
  rcases hk with hk | hk
  · exact .inl ⟨⟨xs, hk 0 σ H (Nat.zero_le _) h0⟩, for_it walk_list Pv h0 hk hs hd⟩
  · exact .inr ⟨⟨xs, hk 0 σ H (Nat.zero_le _) h0⟩, for_it walk_tup Pv h0 hk hs hd⟩
section
variable {P : Program} {w : World} {K : PySem.W.Frag} {mg : Str → Option Value} {base : Heap} {CR CP fR fP : Addr}
theorem ok_led_to {f : Addr} {fd : FuncData} (F : Fun K "led_to" "led_to" s_led_to f fd) (m_list : mg "list" = none) (m_len : mg "len" = none) : FnOk P w K mg base CX0 1 f fd ["names", "arrows"] spLed := by
  refine F.ok sc_led_to (fun vs H Q E h => ?_) (fun cdv A outer s H vs Q E hr h => ?_)
  · obtain ⟨nt, aa, ss, ns, M, rfl, _⟩ := h
    rfl
  · obtain ⟨nt, aa, ss, ns, M, rfl, hnt, ha, hM, sub, nd, ln, q⟩ := h
    refine ⟨_, (pss_cons (ps_set (i := 2) sc_led_to.nd rfl (Or.inl rfl) (pe_callTy call_list_of (by rfl) m_list (by decide +kernel) (pa_cons (pv 0) pa_nil)))
    (pss_cons (ps_set (i := 3) sc_led_to.nd rfl (Or.inl rfl) (pe_int))
    (pss_cons (ps_while PassesOwn.never (pt_cmpR op_lt (pv 3) (pe_callB call_len (by rfl) m_len (by decide +kernel) (pa_cons (pv 2) pa_nil)) (nomark _))
    (pss_cons (ps_for PassesOwn.never rfl (pi_lt (pv 1)) (pg_tup rfl (pgs_cons (pg_name (i := 4) sc_led_to.nd rfl (Or.inl rfl)) (pgs_cons (pg_name (i := 5) sc_led_to.nd rfl (Or.inl rfl)) pgs_nil)))
    (pss_one (ps_if (PW.pt (pw_and (pt_cmpR op_eq (pv 4) (pe_ix ix_list (pv 2) (pv 3) (fun _ _ => rfl)) (nomark _)) (pw_and1 (pt_cmpR op_notIn_seq (pv 5) (pv 2) rfl))))
    (pss_one (ps_expr (pe_bm PySem.F.plainAttrs_list PySem.F.slot_list_append PySem.F.type_list_append mt_append (pv 2) (pa_cons (pv 5) pa_nil))))
    pss_nil)))
    (pss_one (ps_aug (i := 3) sc_led_to.nd rfl (Or.inl rfl) (pe_int) ip_add))))
    (pss_one (ps_ret (pv 2)))))), ?_⟩
    refine ⟨_, rfl, nt, _, rfl, .inr (SqT.of hnt), fun D hD => ?_⟩
    have sD := same_new (o := .lst (ss.map V.str)) hD
    have sl : sizeLine = 16777216 := sizeLine_eq
    let Inv : Nat → List Str → L2.St → Hp → Prop := fun n fs σ H' => (∃ k4 k5 : Option V, σ = [some (.ref nt), some (.ref aa), some (.ref D), some (.int (n : Nat)), k4, k5]) ∧ Same H H' ∧ H' D = some (.lst (fs.map V.str)) ∧ fs.Nodup ∧ (∀ z ∈ fs, z ∈ ns) ∧ (∀ z ∈ ss, z ∈ fs) ∧ (∀ z ∈ fs, Led (prs M) ss z)
    refine ⟨fun m σ H' => ∃ n fs, m = ns.length - n ∧ n ≤ fs.length ∧ Inv n fs σ H' ∧ ∀ a ∈ prs M, a.1 ∈ fs.take n → a.2 ∈ fs,
      ⟨_, 0, ss, rfl, Nat.zero_le _, ⟨⟨none, none, rfl⟩, sD, upd_same, nd, sub, fun z h => h, fun z h => .at h⟩, fun a _ h => nomatch h⟩, ?_⟩
    rintro m σ H1 ⟨n, fs, rfl, hn, ⟨⟨k4, k5, rfl⟩, s1, hd1, nd1, sub1, st1, led1⟩, cl1⟩
    have lf : fs.length ≤ ns.length := nodup_le nd1 sub1
    refine ⟨_, rfl, _, rfl, _, fs.length, rfl, .inl ⟨_, SqL.of hd1, (List.length_map ..).symm⟩, _, _, rfl, rfl, _, rfl, ?_⟩
    by_cases hlt : n < fs.length
    · rw [decide_eq_true (show ((n : Nat) : Int) < ((fs.length : Nat) : Int) by omega)]
      refine iteT ⟨fun σ' H' => ∃ fs', Inv (n + 1) fs' σ' H' ∧ n + 1 ≤ fs'.length ∧ ∀ a ∈ prs M, a.1 ∈ fs'.take (n + 1) → a.2 ∈ fs', ?_, ?_⟩
      · rintro σ' H' ⟨fs', I, l', c'⟩
        have := nodup_le I.2.2.2.1 I.2.2.2.2.1
        exact ⟨ns.length - (n + 1), by omega, n + 1, fs', rfl, l', I, c'⟩
      have hz : fs[n]? = some fs[n] := List.getElem?_eq_getElem hlt
      -- one turn of the walk over the arrows
      let Pv : Nat → L2.St → Hp → Prop := fun i σ' H' => ∃ fs', Inv n fs' σ' H' ∧ (∃ mo, fs' = fs ++ mo) ∧ ∀ a ∈ (prs M).take i, a.1 = fs[n] → a.2 ∈ fs'
      have p0 : Pv 0 [some (.ref nt), some (.ref aa), some (.ref D), some (.int (n : Nat)), k4, k5] H1 := ⟨fs, ⟨⟨k4, k5, rfl⟩, s1, hd1, nd1, sub1, st1, led1⟩, ⟨[], (List.append_nil _).symm⟩, fun a h => nomatch h⟩
      refine ⟨_, rfl, aa, rfl, lt_for (xs := refsA M) Pv p0 ?_ ?_ ?_⟩
      · rcases ha with ha | ha
        · exact .inr fun i σ' H' _ ⟨_, I, _⟩ => SqT.of (I.2.1 _ _ ha)
        · exact .inl fun i σ' H' _ ⟨_, I, _⟩ => SqL.of (I.2.1 _ _ ha)
      · rintro i x σ' Ha Hb hi ⟨fs', ⟨⟨k4, k5, rfl⟩, s2, hd2, nd2, sub2, st2, led2⟩, ⟨mo, em⟩, cl2⟩ ⟨rfl, hy⟩
        obtain ⟨e, he, rfl⟩ := ref_at hy
        obtain ⟨eA, e1, e2⟩ := hM e (List.mem_of_getElem? he)
        have eA2 := s2 _ _ eA
        have hz2 : fs'[n]? = some fs[n] := by rw [em, List.getElem?_append_left hlt]; exact hz
        have hz3 : (fs'.map V.str)[n]? = some (V.str fs[n]) := by rw [List.getElem?_map, hz2]; rfl
        have hp : (prs M)[i]? = some e.2 := by rw [List.getElem?_map, he]; rfl
        have tk : (prs M).take (i + 1) = (prs M).take i ++ [e.2] := by rw [List.take_add_one, hp]; rfl
        refine ⟨e.1, _, rfl, SqT.of eA2, rfl, _, _, rfl, _, _, rfl, rfl, ?_⟩
        refine ⟨_, rfl, _, rfl, _, rfl, D, _, ((n : Nat) : Int), _, rfl, rfl, SqL.of hd2, atI_nat (j := n) hz3, rfl, _, rfl, ?_⟩
        have old : ∀ a ∈ (prs M).take (i + 1), (a.1 = fs[n] → a = e.2 → a.2 ∈ fs') → a.1 = fs[n] → a.2 ∈ fs' := fun a h h2 h3 => by
          rw [tk] at h
          rcases List.mem_append.mp h with h | h
          · exact cl2 a h h3
          · exact h2 h3 (List.mem_singleton.mp h)
        refine ite2 (fun hd => ?_) (fun hd => ?_)
        · have el : e.2.1 = fs[n] := V.str.inj (of_decide_eq_true hd)
          refine ⟨_, rfl, _, rfl, D, _, rfl, .inl (SqL.of hd2), rfl, flat_strs fs', _, rfl, ?_⟩
          show (if (!inV (.str e.2.2) (fs'.map V.str)) = true then _ else _)
          rw [inV_strs]
          by_cases hin : e.2.2 ∈ fs'
          · rw [decide_eq_true hin]
            exact ⟨fs', ⟨⟨_, _, rfl⟩, s2, hd2, nd2, sub2, st2, led2⟩, ⟨mo, em⟩, fun a h => old a h fun _ h2 => h2 ▸ hin⟩
          · rw [decide_eq_false hin]
            have lf2 := nodup_le nd2 sub2
            refine ⟨_, rfl, .inl ⟨rfl, _, SqL.of hd2⟩, _, rfl, D, _, _, rfl, rfl, hd2, small_line (by rw [List.length_map]; omega), fs' ++ [e.2.2], ⟨⟨_, _, rfl⟩, ?_, ?_, ?_, ?_, ?_, ?_⟩, ⟨mo ++ [e.2.2], by rw [em, List.append_assoc]⟩, fun a h h3 => ?_⟩
            · intro b o hb
              have nb : b ≠ D := ne_of_none hb hD
              rw [upd_ne nb]
              exact s2 _ _ hb
            · rw [upd_same, List.map_append]
              rfl
            · exact List.nodup_append.mpr ⟨nd2, List.nodup_cons.mpr ⟨List.not_mem_nil, List.nodup_nil⟩, fun a ha b hb => by
                rw [List.mem_singleton.mp hb]
                exact fun h => hin (h ▸ ha)⟩
            · intro z hz
              rcases List.mem_append.mp hz with h | h
              · exact sub2 z h
              · rw [List.mem_singleton.mp h]
                exact e2
            · exact fun z hz => List.mem_append_left _ (st2 z hz)
            · intro z hz
              rcases List.mem_append.mp hz with h | h
              · exact led2 z h
              · rw [List.mem_singleton.mp h]
                exact .on (by rw [el]; exact led2 _ (List.mem_of_getElem? hz2)) (List.mem_of_getElem? hp)
            · rw [tk] at h
              rcases List.mem_append.mp h with h | h
              · exact List.mem_append_left _ (cl2 a h h3)
              · rw [List.mem_singleton.mp h]
                exact List.mem_append_right _ (List.mem_singleton.mpr rfl)
        · refine ⟨fs', ⟨⟨_, _, rfl⟩, s2, hd2, nd2, sub2, st2, led2⟩, ⟨mo, em⟩, fun a h => old a h fun h3 h2 => ?_⟩
          exact absurd (decide_eq_true (congrArg V.str (by rw [← h3, h2]))) hd
      · rintro σ' H' ⟨fs', ⟨⟨k4, k5, rfl⟩, I⟩, ⟨mo, em⟩, c'⟩
        have c' : ∀ a ∈ prs M, a.1 = fs[n] → a.2 ∈ fs' := fun a h => c' a (by rw [List.take_of_length_le (by rw [List.length_map, List.length_map]; exact Nat.le_refl _)]; exact h)
        refine ⟨_, rfl, ?_⟩
        refine ⟨_, _, rfl, rfl, fs', ⟨⟨_, _, rfl⟩, I⟩, by rw [em, List.length_append]; omega, fun a h h2 => ?_⟩
        rw [em, List.take_append_of_le_length (by omega), List.take_add_one, hz] at h2
        rcases List.mem_append.mp h2 with h2 | h2
        · rw [em]
          exact List.mem_append_left _ (cl1 a h h2)
        · exact c' a h (List.mem_singleton.mp h2)
    · rw [decide_eq_false (show ¬ ((n : Nat) : Int) < ((fs.length : Nat) : Int) by omega)]
      have en : fs.take n = fs := List.take_of_length_le (by omega)
      rw [en] at cl1
      refine ⟨_, rfl, q _ D fs s1 hd1 fun z => ⟨led1 z, fun h => ?_⟩⟩
      induction h with
      | «at» h => exact st1 _ h
      | on _ h ih => exact cl1 _ h ih
end
end Sea
namespace Sea
open PySem PySem.Spec PyProof.Rows L2
def rvA (as : List (Str × Str)) : List (Str × Str) := as.map fun a => (a.2, a.1)
/-- both ways -/
def Both (as : List (Str × Str)) (ss es : List Str) (z : Str) : Prop := Led as ss z ∧ Led (rvA as) es z
def spUnreach : Sp := fun vs H Q _ => ∃ (nt aa st et : Addr) (ns ss es : List Str) (M : List (Addr × (Str × Str))), vs = [.ref nt, .ref aa, .ref st, .ref et] ∧ H nt = some (.tup (ns.map V.str)) ∧ H aa = some (.tup (refsA M)) ∧ H st = some (.tup (ss.map V.str)) ∧ H et = some (.tup (es.map V.str)) ∧
  (∀ e ∈ M, AAt H e ∧ e.2.1 ∈ ns ∧ e.2.2 ∈ ns) ∧ M.length ≤ 1000 ∧ (∀ z ∈ ss, z ∈ ns) ∧ ss.Nodup ∧ (∀ z ∈ es, z ∈ ns) ∧ es.Nodup ∧ ns.length ≤ 1000 ∧
  (∀ H', Same H H' → (∀ z ∈ ns, Both (prs M) ss es z) → Q .non H') ∧ ∀ (H' : Hp) (k : Nat) (z : Str), Same H H' → ns[k]? = some z → (∀ y ∈ ns.take k, Both (prs M) ss es y) → ¬ Both (prs M) ss es z → Q (.str z) H'
section
variable {P : Program} {w : World} {K : PySem.W.Frag} {mg : Str → Option Value} {base : Heap} {CR CP fR fP : Addr}
theorem ok_unreach {f : Addr} {fd : FuncData} (F : Fun K "first_unreached" "first_unreached" s_first_unreached f fd) (c_led_to : Cal P w K mg base 1 "led_to" spLed) :
    FnOk P w K mg base CX0 2 f fd ["names", "arrows", "starts", "ends"] spUnreach := by
  refine F.ok sc_first_unreached (fun vs H Q E h => ?_) (fun cdv A outer s H vs Q E hr h => ?_)
  · obtain ⟨nt, aa, st, et, ns, ss, es, M, rfl, _⟩ := h
    rfl
  · obtain ⟨nt, aa, st, et, ns, ss, es, M, rfl, hnt, haa, hst, het, hM, lM, sub, nd, sub2, nd2, ln, q1, q2⟩ := h
    refine ⟨_, (pss_cons (ps_set (i := 4) sc_first_unreached.nd rfl (Or.inl rfl) (pe_c c_led_to hr (by decide) rfl (pa_cons (pv 2) (pa_cons (pv 1) pa_nil))))
    (pss_cons (ps_set (i := 5) sc_first_unreached.nd rfl (Or.inl rfl) (pe_c c_led_to hr (by decide) rfl (pa_cons (pv 3) (pa_cons (pe_lc (own := [("left", 7), ("right", 8)]) (g := gTup K 2 (gCons (gName 7) (gCons (gName 8) gNil))) rfl sc_first_unreached.nd (pi_tup (pv 1)) (blkOk_by (N := N_first_unreached) (sc := defScope s_first_unreached) (by decide +kernel)) (fun _ _ _ _ _ => by exact (pg_tup rfl (pgs_cons (pg_name (i := 7) sc_first_unreached.nd rfl (Or.inl rfl)) (pgs_cons (pg_name (i := 8) sc_first_unreached.nd rfl (Or.inl rfl)) pgs_nil)))) (fun _ _ _ _ _ => pts_nil) (fun _ _ _ _ _ => (pe_tup (pa_cons (pv 8) (pa_cons (pv 7) pa_nil))))) pa_nil))))
    (pss_cons (ps_for PassesOwn.never rfl (pi_tup (pv 0)) (pg_name (i := 6) sc_first_unreached.nd rfl (Or.inl rfl))
    (pss_one (ps_if (PW.pt (pw_or (pt_cmpR op_notIn_seq (pv 6) (pv 4) rfl) (pw_or1 (pt_cmpR op_notIn_seq (pv 6) (pv 5) rfl))))
    (pss_one (ps_ret (pv 6)))
    pss_nil)))
    (pss_one (ps_ret (pe_non)))))), ?_⟩
    refine ⟨_, rfl, _, rfl, st, aa, ss, ns, M, rfl, hst, .inl haa, hM, sub, nd, ln, fun H1 t1 fs s1 h1 l1 => ?_⟩
    refine ⟨_, rfl, _, rfl, aa, rfl, ⟨_, SqT.of (s1 _ _ haa)⟩, fun D hD => ?_⟩
    refine lc_it walk_tup (fun i H' => Same H1 H' ∧ ∃ N : List (Addr × (Str × Str)), H' D = some (.lst (refsA N)) ∧ prs N = (rvA (prs M)).take i ∧ ∀ e ∈ N, AAt H' e)
      ⟨same_new hD, [], upd_same, rfl, fun _ h => nomatch h⟩ (fun i H' _ hv => SqT.of (hv.1 _ _ (s1 _ _ haa))) ?_ ?_
    · rintro i x Ha Hb hi ⟨hs, N, hd, hn, hN⟩ ⟨rfl, hy⟩
      obtain ⟨e, he, rfl⟩ := ref_at hy
      have eA := hs _ _ (s1 _ _ (hM e (List.mem_of_getElem? he)).1)
      have hi' : i < M.length := (List.getElem?_eq_some_iff.mp he).1
      have lN : N.length ≤ i := by
        have := congrArg List.length hn
        rw [List.length_map, List.length_take] at this
        omega
      refine ⟨e.1, _, rfl, SqT.of eA, rfl, _, _, rfl, _, _, rfl, rfl, rfl, ?_⟩
      refine ⟨_, rfl, _, rfl, Nat.le_of_lt (small_line (by show 2 ≤ 100000; decide)), fun T hT => ?_⟩
      have sT := same_new (o := .tup [.str e.2.2, .str e.2.1]) hT
      refine ⟨_, sT _ _ hd, small_line (by rw [List.length_map]; omega), ?_, N ++ [(T, (e.2.2, e.2.1))], ?_, ?_, fun d hd' => ?_⟩
      · intro b o hb
        have nb : b ≠ D := ne_of_none hb hD
        rw [upd_ne nb]
        exact sT _ _ (hs _ _ hb)
      · rw [upd_same]
        show _ = some (HO.lst (List.map _ (N ++ [_])))
        rw [List.map_append]
        rfl
      · have hg : (rvA (prs M))[i]? = some (e.2.2, e.2.1) := by
          unfold rvA
          rw [List.getElem?_map, List.getElem?_map, he]
          rfl
        show List.map _ (N ++ [_]) = _
        rw [List.map_append, List.take_add_one, hg]
        show prs N ++ _ = _
        rw [hn]
        rfl
      · have ko : KT (upd Hb T (.tup [.str e.2.2, .str e.2.1])) (upd (upd Hb T (.tup [.str e.2.2, .str e.2.1])) D (.lst (refsA N ++ [V.ref T]))) := (KT.refl _).over (sT _ _ hd)
        rcases List.mem_append.mp hd' with h | h
        · exact ((hN d h).keep sT).kt ko
        · rw [List.mem_singleton.mp h]
          exact ko _ _ upd_same
    rintro H2 ⟨s2, N, hd, hn, hN⟩
    have lr : (refsA M).length = (rvA (prs M)).length := by unfold rvA; rw [List.length_map, List.length_map, List.length_map]
    rw [lr, List.take_length] at hn
    have S2 := s1.trans s2
    refine ⟨et, D, es, ns, N, rfl, S2 _ _ het, .inr hd, fun e he => ?_, sub2, nd2, ln, fun H3 t2 gs s3 h3 l3 => ?_⟩
    · have : e.2 ∈ rvA (prs M) := by rw [← hn]; exact List.mem_map.mpr ⟨e, he, rfl⟩
      obtain ⟨a, ha, ea⟩ := List.mem_map.mp this
      obtain ⟨d, hd', rfl⟩ := List.mem_map.mp ha
      obtain ⟨_, p1, p2⟩ := hM d hd'
      rw [← ea]
      exact ⟨hN e he, p2, p1⟩
    rw [hn] at l3
    have S3 := S2.trans s3
    have g1 := (s2.trans s3) _ _ h1
    refine ⟨_, rfl, nt, rfl, ⟨_, SqT.of (S3 _ _ hnt)⟩, ?_⟩
    refine for_it walk_tup (fun i σ H' => (∃ k6 k7 k8 : Option V, σ = [some (.ref nt), some (.ref aa), some (.ref st), some (.ref et), some (.ref t1), some (.ref t2), k6, k7, k8]) ∧ H' = H3 ∧ ∀ y ∈ ns.take i, Both (prs M) ss es y)
      ⟨⟨_, _, _, rfl⟩, rfl, fun _ h => nomatch h⟩ (fun i σ H' _ ⟨_, e, _⟩ => by subst e; exact SqT.of (S3 _ _ hnt)) ?_ ?_
    · rintro i x σ Ha Hb hi ⟨⟨k6, k7, k8, rfl⟩, rfl, hb⟩ ⟨rfl, hy⟩
      obtain ⟨z, hz, rfl⟩ : ∃ z, ns[i]? = some z ∧ x = V.str z := by
        have hi' : i < ns.length := by rw [List.length_map] at hi; exact hi
        rw [List.getElem?_map, List.getElem?_eq_getElem hi'] at hy
        exact ⟨ns[i], List.getElem?_eq_getElem hi', (Option.some.inj hy).symm⟩
      refine ⟨_, rfl, _, rfl, t1, _, rfl, .inl (SqL.of g1), rfl, flat_strs fs, _, rfl, ?_⟩
      show (if (!inV (.str z) (fs.map V.str)) = true then _ else _)
      rw [inV_strs]
      by_cases hf : z ∈ fs
      · rw [decide_eq_true hf]
        refine ⟨_, rfl, _, rfl, t2, _, rfl, .inl (SqL.of h3), rfl, flat_strs gs, _, rfl, ?_⟩
        show (if (!inV (.str z) (gs.map V.str)) = true then _ else _)
        rw [inV_strs]
        by_cases hg : z ∈ gs
        · rw [decide_eq_true hg]
          refine ⟨⟨_, _, _, rfl⟩, rfl, fun y hy => ?_⟩
          rw [List.take_add_one, hz] at hy
          rcases List.mem_append.mp hy with h | h
          · exact hb y h
          · rw [List.mem_singleton.mp h]
            exact ⟨(l1 z).mp hf, (l3 z).mp hg⟩
        · rw [decide_eq_false hg]
          exact ⟨_, rfl, q2 _ i z S3 hz hb fun h => hg ((l3 z).mpr h.2)⟩
      · rw [decide_eq_false hf]
        exact ⟨_, rfl, q2 _ i z S3 hz hb fun h => hf ((l1 z).mpr h.1)⟩
    · rintro σ H' ⟨_, rfl, hb⟩
      rw [List.take_of_length_le (by rw [List.length_map]; exact Nat.le_refl _)] at hb
      exact q1 _ S3 hb
end
end Sea
namespace Sea
open PySem PySem.Spec PyProof.Rows L2
abbrev Tri := Int × Int × Int
def Tri.vs (t : Tri) : List V := [.int t.1, .int t.2.1, .int t.2.2]
def TAt (H : Hp) (e : Addr × Tri) : Prop := H e.1 = some (.tup (Tri.vs e.2))
abbrev refsT (L : List (Addr × Tri)) : List V := L.map fun e => V.ref e.1
abbrev tris (L : List (Addr × Tri)) : List Tri := L.map (·.2)
theorem TAt.keep {H H' : Hp} {e : Addr × Tri} (h : TAt H e) (s : Same H H') : TAt H' e := s _ _ h
theorem TAt.kt {H H' : Hp} {e : Addr × Tri} (h : TAt H e) (s : KT H H') : TAt H' e := s _ _ h
def lowOf (p : Piece) (c : Cue) : Int := if c.s > p.s then c.s else p.s
def highOf (p : Piece) (c : Cue) : Int := if c.e < p.e then c.e else p.e
def triOf (p : Piece) (k : Int) (i : Nat) (c : Cue) : Tri :=
  if p.on = true then ((i : Int), (lowOf p c - p.s) * k, (highOf p c - p.s) * k) else ((i : Int), (p.e - highOf p c) * k, (p.e - lowOf p c) * k)
def tri (p : Piece) (k : Int) (x : Cue × Nat) : Option Tri := if lowOf p x.1 < highOf p x.1 then some (triOf p k x.2 x.1) else none
def triUp (p : Piece) (k : Int) (cs : List Cue) : List Tri := cs.zipIdx.filterMap (tri p k)
def stripF (p : Piece) (k : Int) (cs : List Cue) : List Tri := if p.on = true then triUp p k cs else (triUp p k cs).reverse
theorem triUp_snoc (p : Piece) (k : Int) (cs : List Cue) (c : Cue) : triUp p k (cs ++ [c]) = triUp p k cs ++ (tri p k (c, cs.length)).toList := by
  unfold triUp
  rw [List.zipIdx_append, List.filterMap_append]
  congr 1
  show List.filterMap (tri p k) [(c, 0 + cs.length)] = _
  rw [Nat.zero_add]
  rw [List.filterMap_cons, List.filterMap_nil]
  cases tri p k (c, cs.length) <;> rfl
theorem triUp_len (p : Piece) (k : Int) (cs : List Cue) : (triUp p k cs).length ≤ cs.length := by
  unfold triUp
  exact Nat.le_trans (List.length_filterMap_le _ _) (by rw [List.length_zipIdx]; exact Nat.le_refl _)
theorem wayS_eq (b : Bool) : decide (V.str (wayS b) = V.str (Str.ofString "on")) = b := by
  cases b with
  | true => exact decide_eq_true rfl
  | false => exact decide_eq_false fun h => absurd (V.str.inj h) (by decide +kernel)
def spStrip (CR : Addr) : Sp := fun vs H Q _ => ∃ (xr pa : Addr) (k len : Int) (L : List (Addr × Cue)) (p : Piece), vs = [.ref xr, .ref pa, .int k] ∧ 0 ≤ k ∧ k ≤ 1000 ∧ ReelAt H CR xr len L ∧ L.length ≤ 100 ∧ H pa = some (.tup p.vs) ∧
  ∀ (H' : Hp) (t : Addr) (N : List (Addr × Tri)), Same H H' → H' t = some (.tup (refsT N)) → tris N = stripF p k (cuesC L) → (∀ e ∈ N, TAt H' e) → Q (.ref t) H'
section
variable {P : Program} {w : World} {K : PySem.W.Frag} {mg : Str → Option Value} {base : Heap} {CR CP fR fP : Addr}
theorem ok_strip {f : Addr} {fd : FuncData} (F : Fun K "strip_of_piece" "strip_of_piece" s_strip_of_piece f fd) (TR : RC K mg CR fR) (m_enumerate : mg "enumerate" = none) (m_max : mg "max" = none) (m_min : mg "min" = none) (m_tuple : mg "tuple" = none) {t : Tok} (g_ON : mg "ON" = some (.str (Str.ofString "on") t)) :
    FnOk P w K mg base CX0 1 f fd ["reel", "piece", "factor"] (spStrip CR) := by
  refine F.ok sc_strip_of_piece (fun vs H Q E h => ?_) (fun cdv A outer s H vs Q E hr h => ?_)
  · obtain ⟨xr, pa, k, len, L, p, rfl, _⟩ := h
    rfl
  · obtain ⟨xr, pa, k, len, L, p, rfl, k0, k1, hR, l100, hpa, q⟩ := h
    refine ⟨_, (pss_cons (ps_asg (pv 1) (pg_tup rfl (pgs_cons (pg_name (i := 3) sc_strip_of_piece.nd rfl (Or.inl rfl)) (pgs_cons (pg_name (i := 4) sc_strip_of_piece.nd rfl (Or.inl rfl)) (pgs_cons (pg_name (i := 5) sc_strip_of_piece.nd rfl (Or.inl rfl)) (pgs_cons (pg_name (i := 3) sc_strip_of_piece.nd rfl (Or.inl rfl)) (pgs_cons (pg_name (i := 3) sc_strip_of_piece.nd rfl (Or.inl rfl)) (pgs_cons (pg_name (i := 6) sc_strip_of_piece.nd rfl (Or.inl rfl)) pgs_nil))))))))
    (pss_cons (ps_set (i := 7) sc_strip_of_piece.nd rfl (Or.inl rfl) (pe_lst pa_nil))
    (pss_cons (ps_for PassesOwn.never rfl (pi_enT (by rfl) m_enumerate (pa_cons (pe_fld (pv 0) rfl) pa_nil)) (pg_tup rfl (pgs_cons (pg_name (i := 8) sc_strip_of_piece.nd rfl (Or.inl rfl)) (pgs_cons (pg_name (i := 9) sc_strip_of_piece.nd rfl (Or.inl rfl)) pgs_nil)))
    (pss_cons (ps_set (i := 10) sc_strip_of_piece.nd rfl (Or.inl rfl) (pe_callB (call_max2 rfl) (by rfl) m_max (by decide +kernel) (pa_cons (pv 4) (pa_cons (pe_ix ix_tup (pv 9) (pe_int) (fun _ _ => rfl)) pa_nil))))
    (pss_cons (ps_set (i := 11) sc_strip_of_piece.nd rfl (Or.inl rfl) (pe_callB (call_min2 rfl) (by rfl) m_min (by decide +kernel) (pa_cons (pv 5) (pa_cons (pe_ix ix_tup (pv 9) (pe_int) (fun _ _ => rfl)) pa_nil))))
    (pss_one (ps_if (PW.pt (pw_and (pt_cmpR op_lt (pv 10) (pv 11) (nomark _)) (pw_and1 (pt_cmpR op_eq (pv 6) (pe_glob (v := .str (Str.ofString "on")) rfl g_ON ⟨_, rfl⟩) (nomark _)))))
    (pss_one (ps_expr (pe_bm PySem.F.plainAttrs_list PySem.F.slot_list_append PySem.F.type_list_append mt_append (pv 7) (pa_cons (pe_tup (pa_cons (pv 8) (pa_cons (pe_op op_mul (pe_op op_sub (pv 10) (pv 4)) (pv 2)) (pa_cons (pe_op op_mul (pe_op op_sub (pv 11) (pv 4)) (pv 2)) pa_nil)))) pa_nil))))
    (pss_one (ps_if (pt_cmpR op_lt (pv 10) (pv 11) (nomark _))
    (pss_one (ps_expr (pe_bm PySem.F.plainAttrs_list PySem.F.slot_list_append PySem.F.type_list_append mt_append (pv 7) (pa_cons (pe_tup (pa_cons (pv 8) (pa_cons (pe_op op_mul (pe_op op_sub (pv 5) (pv 11)) (pv 2)) (pa_cons (pe_op op_mul (pe_op op_sub (pv 5) (pv 10)) (pv 2)) pa_nil)))) pa_nil))))
    pss_nil)))))))
    (pss_one (ps_ret (pe_ifExp (pt_cmpR op_eq (pv 6) (pe_glob (v := .str (Str.ofString "on")) rfl g_ON ⟨_, rfl⟩) (nomark _)) (pe_callTy call_tuple_of (by rfl) m_tuple (by decide +kernel) (pa_cons (pv 7) pa_nil)) (pe_callTy call_tuple_of (by rfl) m_tuple (by decide +kernel) (pa_cons (pe_revL (pv 7)) pa_nil)))))))), ?_⟩
    refine ⟨_, rfl, pa, _, rfl, SqT.of hpa, rfl, _, _, rfl, _, _, rfl, _, _, rfl, _, _, rfl, _, _, rfl, _, _, rfl, rfl, Nat.zero_le _, fun D hD => ?_⟩
    have sD := same_new (o := .lst []) hD
    have ck : ∀ i : Int, CMul i k := fun i => .inr ⟨by omega, by omega⟩
    obtain ⟨dx, tc, sp, nm, zs, hx, ht, hat, _⟩ := id hR
    refine ⟨_, rfl, xr, CR, dx, _, _, rfl, sD _ _ hx, TR.cl, TR.nC, reel_cues _ _ _ _, tc, _, rfl, SqT.of (sD _ _ ht), ?_⟩
    refine for_it walk_enT (fun i σ H' => (∃ k8 k9 k10 k11 : Option V, σ = [some (.ref xr), some (.ref pa), some (.int k), some (.int p.dn), some (.int p.s), some (.int p.e), some (.str (wayS p.on)), some (.ref D), k8, k9, k10, k11]) ∧ Same H H' ∧ ∃ N : List (Addr × Tri), H' D = some (.lst (refsT N)) ∧ tris N = triUp p k ((cuesC L).take i) ∧ ∀ e ∈ N, TAt H' e)
      ⟨⟨_, _, _, _, rfl⟩, sD, [], upd_same, rfl, fun _ h => nomatch h⟩ (fun i σ H' _ hv => SqT.of (hv.2.1 _ _ ht)) ?_ ?_
    · rintro i x σ Ha Hb hi ⟨⟨k8, k9, k10, k11, rfl⟩, hs, N, hd, hn, hN⟩ ⟨T, v, rfl, hT, hv, rfl⟩
      obtain ⟨e, he, rfl⟩ := ref_at hv
      have eA := hs _ _ (hat e (List.mem_of_getElem? he))
      have hi' : i < L.length := (List.getElem?_eq_some_iff.mp he).1
      have sT := same_new (o := .tup [.int (i : Nat), V.ref e.1]) hT
      have eA2 := sT _ _ eA
      have hp : (cuesC L)[i]? = some e.2 := by rw [List.getElem?_map, he]; rfl
      have tk : triUp p k ((cuesC L).take (i + 1)) = triUp p k ((cuesC L).take i) ++ (tri p k (e.2, i)).toList := by
        rw [List.take_add_one, hp]
        show triUp p k (_ ++ [e.2]) = _
        rw [triUp_snoc, List.length_take, List.length_map, Nat.min_eq_left (Nat.le_of_lt hi')]
      have lN : N.length ≤ i := by
        have h1 := congrArg List.length hn
        have h2 := triUp_len p k ((cuesC L).take i)
        rw [List.length_take] at h2
        rw [List.length_map] at h1
        omega
      refine ⟨T, _, rfl, SqT.of upd_same, rfl, _, _, rfl, _, _, rfl, rfl, ?_⟩
      refine ⟨_, rfl, _, rfl, e.1, _, 0, _, rfl, rfl, SqT.of eA2, atI_nat (j := 0) rfl, _, _, rfl, ?_⟩
      refine ⟨_, rfl, _, rfl, e.1, _, 1, _, rfl, rfl, SqT.of eA2, atI_nat (j := 1) rfl, _, _, rfl, ?_⟩
      let Inv : Hp → Prop := fun H' => Same H H' ∧ ∃ N : List (Addr × Tri), H' D = some (.lst (refsT N)) ∧ tris N = triUp p k ((cuesC L).take (i + 1)) ∧ ∀ e ∈ N, TAt H' e
      have hd2 : upd Ha T (.tup [.int (i : Nat), V.ref e.1]) D = some (.lst (refsT N)) := sT _ _ hd
      have add : ∀ (T2 : Addr) (tr : Tri), upd Ha T (.tup [.int (i : Nat), V.ref e.1]) T2 = none → tri p k (e.2, i) = some tr → Inv (upd (upd (upd Ha T (.tup [.int (i : Nat), V.ref e.1])) T2 (.tup (Tri.vs tr))) D (.lst (refsT N ++ [.ref T2]))) := fun T2 tr h2 et => by
        have sT2 := same_new (o := .tup (Tri.vs tr)) h2
        have ko : KT _ (upd (upd (upd Ha T (.tup [.int (i : Nat), V.ref e.1])) T2 (.tup (Tri.vs tr))) D (.lst (refsT N ++ [.ref T2]))) := (KT.refl _).over (sT2 _ _ hd2)
        refine ⟨fun b o hb => ?_, N ++ [(T2, tr)], ?_, ?_, fun d hd' => ?_⟩
        · have nb : b ≠ D := ne_of_none hb hD
          rw [upd_ne nb]
          exact sT2 _ _ (sT _ _ (hs _ _ hb))
        · rw [upd_same]
          show _ = some (HO.lst (List.map _ (N ++ [_])))
          rw [List.map_append]
          rfl
        · show List.map _ (N ++ [_]) = _
          rw [List.map_append, tk, et]
          show tris N ++ _ = _
          rw [hn]
          rfl
        · rcases List.mem_append.mp hd' with h | h
          · exact (((hN d h).keep sT).keep sT2).kt ko
          · rw [List.mem_singleton.mp h]
            exact ko _ _ upd_same
      refine ⟨_, rfl, _, rfl, _, _, rfl, rfl, _, rfl, ?_⟩
      by_cases hlt : lowOf p e.2 < highOf p e.2
      · rw [show decide ((if e.2.s > p.s then e.2.s else p.s) < (if e.2.e < p.e then e.2.e else p.e)) = true from decide_eq_true hlt]
        refine iteT ⟨_, rfl, rfl, _, rfl, ?_⟩
        rw [wayS_eq]
        cases ho : p.on with
        | true =>
          refine iteT ⟨_, rfl, .inl ⟨rfl, _, SqL.of hd2⟩, _, rfl, _, rfl, _, rfl, _, _, rfl, rfl, _, rfl, _, _, rfl, rfl, ck _, _, rfl, _, rfl, _, _, rfl, rfl, _, rfl, _, _, rfl, rfl, ck _, Nat.le_of_lt (small_line (by show 3 ≤ 100000; decide)), fun T2 h2 => ?_⟩
          have sT2 := same_new (o := .tup (Tri.vs (triOf p k i e.2))) h2
          have et : tri p k (e.2, i) = some (triOf p k i e.2) := if_pos hlt
          have eo : triOf p k i e.2 = ((i : Int), (lowOf p e.2 - p.s) * k, (highOf p e.2 - p.s) * k) := if_pos ho
          have hA := add T2 _ h2 et
          rw [eo] at hA
          exact ⟨D, _, _, rfl, rfl, same_new (o := .tup _) h2 _ _ hd2, small_line (by rw [List.length_map]; omega), ⟨_, _, _, _, rfl⟩, hA⟩
        | false =>
          refine ⟨_, rfl, _, rfl, _, _, rfl, rfl, _, rfl, ?_⟩
          rw [show decide ((if e.2.s > p.s then e.2.s else p.s) < (if e.2.e < p.e then e.2.e else p.e)) = true from decide_eq_true hlt]
          refine iteT ⟨_, rfl, .inl ⟨rfl, _, SqL.of hd2⟩, _, rfl, _, rfl, _, rfl, _, _, rfl, rfl, _, rfl, _, _, rfl, rfl, ck _, _, rfl, _, rfl, _, _, rfl, rfl, _, rfl, _, _, rfl, rfl, ck _, Nat.le_of_lt (small_line (by show 3 ≤ 100000; decide)), fun T2 h2 => ?_⟩
          have et : tri p k (e.2, i) = some (triOf p k i e.2) := if_pos hlt
          have eo : triOf p k i e.2 = ((i : Int), (p.e - highOf p e.2) * k, (p.e - lowOf p e.2) * k) := if_neg (by rw [ho]; exact Bool.false_ne_true)
          have hA := add T2 _ h2 et
          rw [eo] at hA
          exact ⟨D, _, _, rfl, rfl, same_new (o := .tup _) h2 _ _ hd2, small_line (by rw [List.length_map]; omega), ⟨_, _, _, _, rfl⟩, hA⟩
      · rw [show decide ((if e.2.s > p.s then e.2.s else p.s) < (if e.2.e < p.e then e.2.e else p.e)) = false from decide_eq_false hlt]
        refine ⟨_, rfl, _, rfl, _, _, rfl, rfl, _, rfl, ?_⟩
        rw [show decide ((if e.2.s > p.s then e.2.s else p.s) < (if e.2.e < p.e then e.2.e else p.e)) = false from decide_eq_false hlt]
        refine ⟨⟨_, _, _, _, rfl⟩, hs.trans sT, N, hd2, ?_, fun d hd' => (hN d hd').keep sT⟩
        rw [tk, hn]
        unfold tri
        rw [if_neg hlt]
        exact (List.append_nil _).symm
    · rintro σ H' ⟨⟨k8, k9, k10, k11, rfl⟩, hs, N, hd, hn, hN⟩
      have lr : (refsC L).length = (cuesC L).length := by rw [List.length_map, List.length_map]
      rw [lr, List.take_length] at hn
      refine ⟨_, rfl, rfl, _, rfl, ?_⟩
      rw [wayS_eq]
      cases ho : p.on with
      | true =>
        refine iteT ⟨_, rfl, D, _, rfl, .inl ⟨SqL.of hd, fun l hl => ?_⟩⟩
        have sl := same_new (o := .tup (refsT N)) hl
        refine q _ l N (hs.trans sl) upd_same ?_ fun e he => (hN e he).keep sl
        rw [hn]
        exact (if_pos ho).symm
      | false =>
        refine ⟨_, rfl, D, _, rfl, SqL.of hd, fun l0 hl0 => ⟨l0, _, rfl, .inl ⟨SqL.of upd_same, fun l hl => ?_⟩⟩⟩
        have sl0 := same_new (o := .lst (refsT N).reverse) hl0
        have sl := same_new (o := .tup (refsT N).reverse) hl
        refine q _ l N.reverse ((hs.trans sl0).trans sl) (by rw [upd_same]; show _ = some (HO.tup (List.map _ N.reverse)); rw [List.map_reverse]) ?_ fun e he => ((hN e (List.mem_reverse.mp he)).keep sl0).keep sl
        show List.map _ N.reverse = _
        rw [List.map_reverse]
        show (tris N).reverse = _
        rw [hn]
        exact (if_neg (by rw [ho]; exact Bool.false_ne_true)).symm
end
end Sea
namespace Sea
open PySem PySem.Spec PyProof.Rows L2
abbrev Duo := Int × Int
def Duo.vs (t : Duo) : List V := [.int t.1, .int t.2]
def DAt (H : Hp) (e : Addr × Duo) : Prop := H e.1 = some (.tup (Duo.vs e.2))
abbrev refsD (L : List (Addr × Duo)) : List V := L.map fun e => V.ref e.1
abbrev duos (L : List (Addr × Duo)) : List Duo := L.map (·.2)
theorem DAt.keep {H H' : Hp} {e : Addr × Duo} (h : DAt H e) (s : Same H H') : DAt H' e := s _ _ h
theorem DAt.kt {H H' : Hp} {e : Addr × Duo} (h : DAt H e) (s : KT H H') : DAt H' e := s _ _ h
/-- with its own edge -/
def edgeB (p : Piece) (c : Cue) : Bool := if p.on = true then decide (c.s ≥ p.s) else decide (c.e ≤ p.e)
def sendB (p : Piece) (cs : List Cue) (t : Tri) : Bool := match cs[t.1.toNat]? with | some c => edgeB p c | none => false
def sendsF (p : Piece) (cs : List Cue) (ts : List Tri) : List Duo := (ts.filter (sendB p cs)).map fun t => (t.1, t.2.1)
theorem sendsF_snoc (p : Piece) (cs : List Cue) (ts : List Tri) (t : Tri) : sendsF p cs (ts ++ [t]) = sendsF p cs ts ++ if sendB p cs t = true then [(t.1, t.2.1)] else [] := by
  unfold sendsF
  rw [List.filter_append, List.map_append, List.filter_cons, List.filter_nil]
  cases sendB p cs t <;> rfl
theorem sendsF_len (p : Piece) (cs : List Cue) (ts : List Tri) : (sendsF p cs ts).length ≤ ts.length := by
  unfold sendsF
  rw [List.length_map]
  exact List.length_filter_le _ _
/-- numbers that are there -/
def Nums (cs : List Cue) (ts : List Tri) : Prop := ∀ t ∈ ts, ∃ (i : Nat) (c : Cue), t.1 = (i : Int) ∧ cs[i]? = some c
theorem nums_up (p : Piece) (k : Int) : ∀ (cs : List Cue) (n : Nat), n ≤ cs.length → Nums cs (triUp p k (cs.take n))
  | cs, 0, _ => fun t h => nomatch h
  | cs, n + 1, hn => fun t h => by
    have hc : cs[n]? = some cs[n] := List.getElem?_eq_getElem (by omega)
    rw [List.take_add_one, hc] at h
    have h : t ∈ triUp p k (cs.take n ++ [cs[n]]) := h
    rw [triUp_snoc, List.length_take, Nat.min_eq_left (by omega)] at h
    rcases List.mem_append.mp h with h | h
    · exact nums_up p k cs n (by omega) t h
    · refine ⟨n, cs[n], ?_, hc⟩
      unfold tri at h
      split at h
      · have e : t = triOf p k n cs[n] := by
          have := List.mem_singleton.mp (show t ∈ [triOf p k n cs[n]] from h)
          exact this
        rw [e]
        unfold triOf
        split <;> rfl
      · exact nomatch h
theorem nums_strip (p : Piece) (k : Int) (cs : List Cue) : Nums cs (stripF p k cs) := by
  have h := nums_up p k cs cs.length (Nat.le_refl _)
  rw [List.take_length] at h
  unfold stripF
  split
  · exact h
  · exact fun t ht => h t (List.mem_reverse.mp ht)
theorem strip_len (p : Piece) (k : Int) (cs : List Cue) : (stripF p k cs).length ≤ cs.length := by
  have h := triUp_len p k cs
  unfold stripF
  split
  · exact h
  · rw [List.length_reverse]; exact h
def spSends (CR : Addr) : Sp := fun vs H Q _ => ∃ (xr pa ta : Addr) (len : Int) (L : List (Addr × Cue)) (p : Piece) (N : List (Addr × Tri)), vs = [.ref xr, .ref pa, .ref ta] ∧ ReelAt H CR xr len L ∧ H pa = some (.tup p.vs) ∧ H ta = some (.tup (refsT N)) ∧ (∀ e ∈ N, TAt H e) ∧ Nums (cuesC L) (tris N) ∧ N.length ≤ 1000 ∧
  ∀ (H' : Hp) (t : Addr) (D : List (Addr × Duo)), Same H H' → H' t = some (.tup (refsD D)) → duos D = sendsF p (cuesC L) (tris N) → (∀ e ∈ D, DAt H' e) → Q (.ref t) H'
section
variable {P : Program} {w : World} {K : PySem.W.Frag} {mg : Str → Option Value} {base : Heap} {CR CP fR fP : Addr}
theorem ok_sends {f : Addr} {fd : FuncData} (F : Fun K "sends_of_piece" "sends_of_piece" s_sends_of_piece f fd) (TR : RC K mg CR fR) (m_tuple : mg "tuple" = none) {t : Tok} (g_ON : mg "ON" = some (.str (Str.ofString "on") t)) :
    FnOk P w K mg base CX0 1 f fd ["reel", "piece", "strip"] (spSends CR) := by
  refine F.ok sc_sends_of_piece (fun vs H Q E h => ?_) (fun cdv A outer s H vs Q E hr h => ?_)
  · obtain ⟨xr, pa, ta, len, L, p, N, rfl, _⟩ := h
    rfl
  · obtain ⟨xr, pa, ta, len, L, p, N, rfl, hR, hpa, hta, hN, nums, lN, q⟩ := h
    refine ⟨_, (pss_cons (ps_asg (pv 1) (pg_tup rfl (pgs_cons (pg_name (i := 3) sc_sends_of_piece.nd rfl (Or.inl rfl)) (pgs_cons (pg_name (i := 4) sc_sends_of_piece.nd rfl (Or.inl rfl)) (pgs_cons (pg_name (i := 5) sc_sends_of_piece.nd rfl (Or.inl rfl)) (pgs_cons (pg_name (i := 3) sc_sends_of_piece.nd rfl (Or.inl rfl)) (pgs_cons (pg_name (i := 3) sc_sends_of_piece.nd rfl (Or.inl rfl)) (pgs_cons (pg_name (i := 6) sc_sends_of_piece.nd rfl (Or.inl rfl)) pgs_nil))))))))
    (pss_cons (ps_set (i := 7) sc_sends_of_piece.nd rfl (Or.inl rfl) (pe_lst pa_nil))
    (pss_cons (ps_for PassesOwn.never rfl (pi_tup (pv 2)) (pg_tup rfl (pgs_cons (pg_name (i := 8) sc_sends_of_piece.nd rfl (Or.inl rfl)) (pgs_cons (pg_name (i := 9) sc_sends_of_piece.nd rfl (Or.inl rfl)) (pgs_cons (pg_name (i := 3) sc_sends_of_piece.nd rfl (Or.inl rfl)) pgs_nil))))
    (pss_cons (ps_asg (pe_ix ix_tup (pe_fld (pv 0) rfl) (pv 8) (fun _ _ => rfl)) (pg_tup rfl (pgs_cons (pg_name (i := 10) sc_sends_of_piece.nd rfl (Or.inl rfl)) (pgs_cons (pg_name (i := 11) sc_sends_of_piece.nd rfl (Or.inl rfl)) (pgs_cons (pg_name (i := 3) sc_sends_of_piece.nd rfl (Or.inl rfl)) (pgs_cons (pg_name (i := 3) sc_sends_of_piece.nd rfl (Or.inl rfl)) pgs_nil))))))
    (pss_cons (ps_set (i := 12) sc_sends_of_piece.nd rfl (Or.inl rfl) (pe_ifExp (pt_cmpR op_eq (pv 6) (pe_glob (v := .str (Str.ofString "on")) rfl g_ON ⟨_, rfl⟩) (nomark _)) (pe_cmpR op_ge (pv 10) (pv 4) (nomark _)) (pe_cmpR op_le (pv 11) (pv 5) (nomark _))))
    (pss_one (ps_if (pt_val (pv 12))
    (pss_one (ps_expr (pe_bm PySem.F.plainAttrs_list PySem.F.slot_list_append PySem.F.type_list_append mt_append (pv 7) (pa_cons (pe_tup (pa_cons (pv 8) (pa_cons (pv 9) pa_nil))) pa_nil))))
    pss_nil)))))
    (pss_one (ps_ret (pe_callTy call_tuple_of (by rfl) m_tuple (by decide +kernel) (pa_cons (pv 7) pa_nil))))))), ?_⟩
    refine ⟨_, rfl, pa, _, rfl, SqT.of hpa, rfl, _, _, rfl, _, _, rfl, _, _, rfl, _, _, rfl, _, _, rfl, _, _, rfl, rfl, Nat.zero_le _, fun D hD => ?_⟩
    have sD := same_new (o := .lst []) hD
    obtain ⟨dx, tc, sp, nm, zs, hx, ht, hat, _⟩ := id hR
    refine ⟨_, rfl, ta, rfl, ⟨_, SqT.of (sD _ _ hta)⟩, ?_⟩
    refine for_it walk_tup (fun i σ H' => (∃ k3 k8 k9 k10 k11 k12 : Option V, σ = [some (.ref xr), some (.ref pa), some (.ref ta), k3, some (.int p.s), some (.int p.e), some (.str (wayS p.on)), some (.ref D), k8, k9, k10, k11, k12]) ∧ Same H H' ∧ ∃ M : List (Addr × Duo), H' D = some (.lst (refsD M)) ∧ duos M = sendsF p (cuesC L) ((tris N).take i) ∧ ∀ e ∈ M, DAt H' e)
      ⟨⟨_, _, _, _, _, _, rfl⟩, sD, [], upd_same, rfl, fun _ h => nomatch h⟩ (fun i σ H' _ hv => SqT.of (hv.2.1 _ _ hta)) ?_ ?_
    · rintro i x σ Ha Hb hi ⟨⟨k3, k8, k9, k10, k11, k12, rfl⟩, hs, M, hd, hn, hM⟩ ⟨rfl, hy⟩
      obtain ⟨e, he, rfl⟩ := ref_at hy
      have eA := hs _ _ (hN e (List.mem_of_getElem? he))
      have hi' : i < N.length := (List.getElem?_eq_some_iff.mp he).1
      have hp : (tris N)[i]? = some e.2 := by rw [List.getElem?_map, he]; rfl
      obtain ⟨j, c, e1, ec⟩ := nums e.2 (List.mem_of_getElem? hp)
      obtain ⟨d, hd1, rfl⟩ : ∃ d, L[j]? = some d ∧ c = d.2 := by
        rw [List.getElem?_map] at ec
        cases q : L[j]? with
        | none => rw [q] at ec; cases ec
        | some d => rw [q] at ec; exact ⟨d, rfl, (Option.some.inj ec).symm⟩
      have hj : (refsC L)[j]? = some (V.ref d.1) := by rw [List.getElem?_map, hd1]; rfl
      have dA := hs _ _ (hat d (List.mem_of_getElem? hd1))
      have eb : sendB p (cuesC L) e.2 = edgeB p d.2 := by
        unfold sendB
        rw [e1, Int.toNat_natCast, ec]
      have tk : sendsF p (cuesC L) ((tris N).take (i + 1)) = sendsF p (cuesC L) ((tris N).take i) ++ if edgeB p d.2 = true then [(e.2.1, e.2.2.1)] else [] := by
        rw [List.take_add_one, hp]
        show sendsF p _ (_ ++ [e.2]) = _
        rw [sendsF_snoc, eb]
      have lM : M.length ≤ i := by
        have h1 := congrArg List.length hn
        have h2 := sendsF_len p (cuesC L) ((tris N).take i)
        rw [List.length_take] at h2
        rw [List.length_map] at h1
        omega
      refine ⟨e.1, _, rfl, SqT.of eA, rfl, _, _, rfl, _, _, rfl, _, _, rfl, rfl, ?_⟩
      refine ⟨_, rfl, xr, CR, dx, _, _, rfl, hs _ _ hx, TR.cl, TR.nC, reel_cues _ _ _ _, _, rfl, tc, _, _, _, rfl, rfl, SqT.of (hs _ _ ht), by rw [e1]; exact atI_nat (j := j) hj, ?_⟩
      refine ⟨d.1, _, rfl, SqT.of dA, rfl, _, _, rfl, _, _, rfl, _, _, rfl, _, _, rfl, rfl, ?_⟩
      have lit : ∀ b, edgeB p d.2 = b → sendsF p (cuesC L) ((tris N).take (i + 1)) = duos M ++ if b = true then [(e.2.1, e.2.2.1)] else [] := fun b h => by rw [tk, hn, h]
      have add : ∀ (T2 : Addr), edgeB p d.2 = true → Hb T2 = none → Same H (upd (upd Hb T2 (.tup [.int e.2.1, .int e.2.2.1])) D (.lst (refsD M ++ [.ref T2]))) ∧ ∃ M' : List (Addr × Duo), upd (upd Hb T2 (.tup [.int e.2.1, .int e.2.2.1])) D (.lst (refsD M ++ [.ref T2])) D = some (.lst (refsD M')) ∧ duos M' = sendsF p (cuesC L) ((tris N).take (i + 1)) ∧ ∀ e' ∈ M', DAt (upd (upd Hb T2 (.tup [.int e.2.1, .int e.2.2.1])) D (.lst (refsD M ++ [.ref T2]))) e' := fun T2 hb h2 => by
        have sT2 := same_new (o := .tup [.int e.2.1, .int e.2.2.1]) h2
        have ko : KT _ (upd (upd Hb T2 (.tup [.int e.2.1, .int e.2.2.1])) D (.lst (refsD M ++ [.ref T2]))) := (KT.refl _).over (sT2 _ _ hd)
        refine ⟨fun b o hb => ?_, M ++ [(T2, (e.2.1, e.2.2.1))], ?_, ?_, fun d' hd' => ?_⟩
        · have nb : b ≠ D := ne_of_none hb hD
          rw [upd_ne nb]
          exact sT2 _ _ (hs _ _ hb)
        · rw [upd_same]
          show _ = some (HO.lst (List.map _ (M ++ [_])))
          rw [List.map_append]
          rfl
        · show List.map _ (M ++ [_]) = _
          rw [List.map_append, lit true hb]
          rfl
        · rcases List.mem_append.mp hd' with h | h
          · exact ((hM d' h).keep sT2).kt ko
          · rw [List.mem_singleton.mp h]
            exact ko _ _ upd_same
      have keep : edgeB p d.2 = false → duos M = sendsF p (cuesC L) ((tris N).take (i + 1)) := fun h => by
        rw [lit false h]
        exact (List.append_nil _).symm
      refine ⟨_, rfl, rfl, _, rfl, ?_⟩
      rw [wayS_eq]
      cases ho : p.on with
      | true =>
        refine iteT ⟨_, rfl, _, rfl, _, _, rfl, rfl, _, rfl, _, rfl, ite2 (fun h => ?_) (fun h => ?_)⟩
        · have hb : edgeB p d.2 = true := by unfold edgeB; rw [if_pos ho]; exact h
          refine ⟨_, rfl, .inl ⟨rfl, _, SqL.of hd⟩, _, rfl, _, rfl, Nat.le_of_lt (small_line (by show 2 ≤ 100000; decide)), fun T2 h2 => ?_⟩
          exact ⟨D, _, _, rfl, rfl, same_new (o := .tup _) h2 _ _ hd, small_line (by rw [List.length_map]; omega), ⟨_, _, _, _, _, _, rfl⟩, add T2 hb h2⟩
        · have hb : edgeB p d.2 = false := by unfold edgeB; rw [if_pos ho]; exact Bool.eq_false_iff.mpr h
          exact ⟨⟨_, _, _, _, _, _, rfl⟩, hs, M, hd, keep hb, hM⟩
      | false =>
        refine ⟨_, rfl, _, rfl, _, _, rfl, rfl, _, rfl, _, rfl, ite2 (fun h => ?_) (fun h => ?_)⟩
        · have hb : edgeB p d.2 = true := by unfold edgeB; rw [if_neg (by rw [ho]; exact Bool.false_ne_true)]; exact h
          refine ⟨_, rfl, .inl ⟨rfl, _, SqL.of hd⟩, _, rfl, _, rfl, Nat.le_of_lt (small_line (by show 2 ≤ 100000; decide)), fun T2 h2 => ?_⟩
          exact ⟨D, _, _, rfl, rfl, same_new (o := .tup _) h2 _ _ hd, small_line (by rw [List.length_map]; omega), ⟨_, _, _, _, _, _, rfl⟩, add T2 hb h2⟩
        · have hb : edgeB p d.2 = false := by unfold edgeB; rw [if_neg (by rw [ho]; exact Bool.false_ne_true)]; exact Bool.eq_false_iff.mpr h
          exact ⟨⟨_, _, _, _, _, _, rfl⟩, hs, M, hd, keep hb, hM⟩
    · rintro σ H' ⟨⟨k3, k8, k9, k10, k11, k12, rfl⟩, hs, M, hd, hn, hM⟩
      have lr : (refsT N).length = (tris N).length := by rw [List.length_map, List.length_map]
      rw [lr, List.take_length] at hn
      refine ⟨_, rfl, D, _, rfl, .inl ⟨SqL.of hd, fun l hl => ?_⟩⟩
      have sl := same_new (o := .tup (refsD M)) hl
      exact q _ l M (hs.trans sl) upd_same hn fun e he => (hM e he).keep sl
end
end Sea
namespace Sea
open PySem PySem.Spec PyProof.Rows L2
/-- the heap without x -/
def rest (x : Addr) (H : Hp) : Hp := fun a => if a = x then none else H a
theorem rest_le (x : Addr) (H : Hp) : Same (rest x H) H := fun a o h => by
  unfold rest at h
  split at h
  · cases h
  · exact h
theorem rest_upd (x : Addr) (H : Hp) (o : HO) : rest x (upd H x o) = rest x H := by
  funext a
  unfold rest
  split
  · rfl
  · rename_i n
    exact upd_ne n
theorem rest_same {x : Addr} {H H' : Hp} (s : Same H H') : Same (rest x H) (rest x H') := fun a o h => by
  unfold rest at h ⊢
  split at h
  · cases h
  · rename_i n
    rw [if_neg n]
    exact s _ _ h
theorem rest_at {x p C dx : Addr} {fs : List (Str × V)} {H : Hp} {o : HO} (hx : H x = some (.ins C dx fs)) (hp : H p = some o) (ho : ∀ z, o ≠ .ins C dx z) : rest x H p = some o := by
  unfold rest
  rw [if_neg (ne_ins hx hp ho)]
  exact hp
theorem same_rest {x : Addr} {H H' : Hp} (hx : H x = none) (s : Same H H') : Same H (rest x H') := fun a o h => by
  unfold rest
  rw [if_neg (fun e => by rw [e, hx] at h; cases h)]
  exact s _ _ h
theorem kb_rest {x : Addr} {H H' : Hp} (s : Same (rest x H) (rest x H')) : KB x H H' := fun b o n h => by
  have := s b o (by unfold rest; rw [if_neg n]; exact h)
  exact rest_le _ _ _ _ this
theorem KT.overK {H H' : Hp} {D : Addr} {ks : List (Key × V)} {o : HO} (k : KT H H') (h : H' D = some (.dK ks)) : KT H (upd H' D o) := fun a xs e => by
  have e' := k a xs e
  rw [upd_ne (fun z => by rw [z, h] at e'; cases e')]
  exact e'
theorem dict_step {G : Str → V → Prop} {kvs : List (Key × V)} {z : Str} {v : V} {ns : List Str} {i : Nat} (h : ∀ y ∈ ns.take i, ∃ v, valV kvs (Sum.inr y) = some v ∧ G y v) (hz : ns[i]? = some z) (hv : G z v) :
    ∀ y ∈ ns.take (i + 1), ∃ v', valV (putK kvs (Sum.inr z) v) (Sum.inr y) = some v' ∧ G y v' := fun y hy => by
  by_cases e : y = z
  · subst e
    exact ⟨v, by rw [valV_put, if_pos rfl], hv⟩
  · rw [List.take_add_one, hz] at hy
    rcases List.mem_append.mp hy with hy | hy
    · obtain ⟨v', h1, h2⟩ := h y hy
      exact ⟨v', by rw [valV_put, if_neg (fun q => e (Sum.inr.inj q))]; exact h1, h2⟩
    · exact absurd (List.mem_singleton.mp hy) e
def grainTo (ps : List Piece) : Int := ps.foldl (fun g p => ((Nat.lcm g.natAbs p.dn.natAbs : Nat) : Int)) 1
def factorOf (g : Int) (p : Piece) : Int := (p.up * g).fdiv p.dn
def shownOf (g : Int) (p : Piece) : Int := (p.e - p.s) * factorOf g p
theorem grain_snoc (ps : List Piece) (p : Piece) : grainTo (ps ++ [p]) = ((Nat.lcm (grainTo ps).natAbs p.dn.natAbs : Nat) : Int) := by
  unfold grainTo
  rw [List.foldl_append]
  rfl
theorem dn60 {n : Nat} (h1 : 1 ≤ n) (h6 : n ≤ 6) : n ∣ 60 := by
  have : n = 1 ∨ n = 2 ∨ n = 3 ∨ n = 4 ∨ n = 5 ∨ n = 6 := by omega
  rcases this with h | h | h | h | h | h <;> subst h <;> decide
theorem grain_ok : ∀ (n : Nat) (ps : List Piece), ps.length = n → (∀ p ∈ ps, 1 ≤ p.dn ∧ p.dn ≤ 6) → 1 ≤ grainTo ps ∧ (grainTo ps).natAbs ∣ 60 := by
  intro n
  induction n with
  | zero =>
    intro ps hl _
    cases ps with
    | nil => exact ⟨by decide, by decide⟩
    | cons a r => cases hl
  | succ n ih =>
    intro ps hl h
    have hne : ps ≠ [] := by intro e; rw [e] at hl; cases hl
    have e := (List.dropLast_concat_getLast hne).symm
    generalize ps.dropLast = qs at e
    generalize ps.getLast hne = p at e
    subst e
    have lq : qs.length = n := by
      rw [List.length_append, List.length_cons, List.length_nil] at hl
      omega
    obtain ⟨g1, g2⟩ := ih qs lq fun p hp => h p (List.mem_append_left _ hp)
    obtain ⟨d1, d6⟩ := h p (List.mem_append_right _ (List.mem_singleton.mpr rfl))
    rw [grain_snoc]
    have dv : p.dn.natAbs ∣ 60 := dn60 (by omega) (by omega)
    have h3 : Nat.lcm (grainTo qs).natAbs p.dn.natAbs ∣ 60 := Nat.lcm_dvd g2 dv
    have h4 : 0 < Nat.lcm (grainTo qs).natAbs p.dn.natAbs := Nat.pos_of_dvd_of_pos h3 (by decide)
    exact ⟨by omega, by rw [Int.natAbs_natCast]; exact h3⟩
theorem grain_le {ps : List Piece} (h : ∀ p ∈ ps, 1 ≤ p.dn ∧ p.dn ≤ 6) : 1 ≤ grainTo ps ∧ grainTo ps ≤ 60 := by
  obtain ⟨h1, h2⟩ := grain_ok _ ps rfl h
  have := Nat.le_of_dvd (by decide) h2
  exact ⟨h1, by omega⟩
theorem factor_le {g : Int} {p : Piece} (g1 : 1 ≤ g) (g2 : g ≤ 60) (u1 : 1 ≤ p.up) (u6 : p.up ≤ 6) (d1 : 1 ≤ p.dn) : 0 ≤ factorOf g p ∧ factorOf g p ≤ 360 := by
  unfold factorOf
  have h0 : 0 ≤ p.up * g := Int.mul_nonneg (by omega) (by omega)
  have h1 : p.up * g ≤ 6 * 60 := Int.mul_le_mul u6 g2 (by omega) (by omega)
  rw [Int.fdiv_eq_ediv_of_nonneg _ (by omega)]
  refine ⟨Int.ediv_nonneg h0 (by omega), ?_⟩
  have := Int.ediv_le_self p.dn h0
  omega
/-- to which names arrows lead from here -/
def rightsOf (as : List (Str × Str)) (z : Str) : List Str := (as.filter fun a => decide (a.1 = z)).map (·.2)
theorem rights_snoc (as : List (Str × Str)) (a : Str × Str) (z : Str) : rightsOf (as ++ [a]) z = rightsOf as z ++ if a.1 = z then [a.2] else [] := by
  unfold rightsOf
  rw [List.filter_append, List.map_append, List.filter_cons, List.filter_nil]
  by_cases h : a.1 = z
  · rw [decide_eq_true h, if_pos h]
    rfl
  · rw [decide_eq_false h, if_neg h]
    rfl
theorem rights_few {as : List (Str × Str)} {ns : List Str} (nd : as.Nodup) (h : ∀ a ∈ as, a.2 ∈ ns) (z : Str) : (rightsOf as z).length ≤ ns.length := by
  have nd2 : (rightsOf as z).Nodup := by
    unfold rightsOf
    refine List.pairwise_map.mpr (List.Pairwise.imp_of_mem ?_ (nd.filter _))
    intro a b ha hb hne e
    refine hne ?_
    have h1 := of_decide_eq_true (List.mem_filter.mp ha).2
    have h2 := of_decide_eq_true (List.mem_filter.mp hb).2
    exact Prod.ext (h1.trans h2.symm) e
  refine nodup_le nd2 fun y hy => ?_
  obtain ⟨a, ha, rfl⟩ := List.mem_map.mp hy
  exact h a (List.mem_filter.mp ha).1
/-- the fields -/
def planF (v1 v2 v3 v4 v5 v6 v7 v8 v9 v10 v11 v12 v13 : V) : List (Str × V) :=
  putF "_sends" v13 (putF "_strips" v12 (putF "_behind" v11 (putF "_shown" v10 (putF "_factors" v9 (putF "_pieces" v8 (putF "_grain" v7 (putF "ends" v6 (putF "starts" v5 (putF "arrows" v4 (putF "_names" v3 (putF "pieces" v2 (putF "reel" v1 []))))))))))))
theorem few1 {f : Str} {v : V} {fs : List (Str × V)} {n : Nat} (h : fs.length < n) : (putF f v fs).length < n + 1 := by
  have := putF_len f v fs
  omega
/-- what the plan's fields lead to -/
structure PlanB (H : Hp) (CR xr pt nt at' st et dP dF dS dB dT dQ : Addr) (len : Int) (L : List (Addr × Cue)) (ps : List Piece) (as : List (Str × Str)) (ss es : List Str) : Prop where
  reel : ReelAt H CR xr len L
  good : ∀ p ∈ ps, GoodP len p
  few : 1 ≤ ps.length ∧ ps.length ≤ 12
  one : (ps.map (·.nm)).Nodup
  pieces : ∃ M : List (Addr × Piece), H pt = some (.tup (refsP M)) ∧ pcs M = ps ∧ ∀ e ∈ M, PAt H e
  names : H nt = some (.tup ((ps.map (·.nm)).map V.str))
  arrows : ∃ A : List (Addr × (Str × Str)), H at' = some (.tup (refsA A)) ∧ prs A = as ∧ ∀ e ∈ A, AAt H e
  ends : ∀ a ∈ as, a.1 ∈ ps.map (·.nm) ∧ a.2 ∈ ps.map (·.nm)
  starts : H st = some (.tup (ss.map V.str))
  lasts : H et = some (.tup (es.map V.str))
  kP : ∃ ks, H dP = some (.dK ks) ∧ ∀ p ∈ ps, ∃ a, valV ks (Sum.inr p.nm) = some (.ref a) ∧ PAt H (a, p)
  kF : ∃ ks, H dF = some (.dK ks) ∧ ∀ p ∈ ps, valV ks (Sum.inr p.nm) = some (.int (factorOf (grainTo ps) p))
  kS : ∃ ks, H dS = some (.dK ks) ∧ ∀ p ∈ ps, valV ks (Sum.inr p.nm) = some (.int (shownOf (grainTo ps) p))
  kB : ∃ ks, H dB = some (.dK ks) ∧ ∀ p ∈ ps, ∃ (a : Addr) (ys : List Str), valV ks (Sum.inr p.nm) = some (.ref a) ∧ H a = some (.tup (ys.map V.str)) ∧ ys.Perm (rightsOf as p.nm) ∧ sortedS ys = true
  kT : ∃ ks, H dT = some (.dK ks) ∧ ∀ p ∈ ps, ∃ (a : Addr) (N : List (Addr × Tri)), valV ks (Sum.inr p.nm) = some (.ref a) ∧ H a = some (.tup (refsT N)) ∧ tris N = stripF p (factorOf (grainTo ps) p) (cuesC L) ∧ ∀ e ∈ N, TAt H e
  kQ : ∃ ks, H dQ = some (.dK ks) ∧ ∀ p ∈ ps, ∃ (a : Addr) (D : List (Addr × Duo)), valV ks (Sum.inr p.nm) = some (.ref a) ∧ H a = some (.tup (refsD D)) ∧ duos D = sendsF p (cuesC L) (stripF p (factorOf (grainTo ps) p) (cuesC L)) ∧ ∀ e ∈ D, DAt H e
theorem PlanB.keep {H H' : Hp} {CR xr pt nt at' st et dP dF dS dB dT dQ : Addr} {len : Int} {L : List (Addr × Cue)} {ps : List Piece} {as : List (Str × Str)} {ss es : List Str}
    (h : PlanB H CR xr pt nt at' st et dP dF dS dB dT dQ len L ps as ss es) (s : Same H H') : PlanB H' CR xr pt nt at' st et dP dF dS dB dT dQ len L ps as ss es where
  reel := h.reel.keep s
  good := h.good
  few := h.few
  one := h.one
  pieces := let ⟨M, a, b, c⟩ := h.pieces; ⟨M, s _ _ a, b, fun e he => (c e he).keep s⟩
  names := s _ _ h.names
  arrows := let ⟨M, a, b, c⟩ := h.arrows; ⟨M, s _ _ a, b, fun e he => (c e he).keep s⟩
  ends := h.ends
  starts := s _ _ h.starts
  lasts := s _ _ h.lasts
  kP := let ⟨k, a, b⟩ := h.kP; ⟨k, s _ _ a, fun p hp => let ⟨c, d, e⟩ := b p hp; ⟨c, d, e.keep s⟩⟩
  kF := let ⟨k, a, b⟩ := h.kF; ⟨k, s _ _ a, b⟩
  kS := let ⟨k, a, b⟩ := h.kS; ⟨k, s _ _ a, b⟩
  kB := let ⟨k, a, b⟩ := h.kB; ⟨k, s _ _ a, fun p hp => let ⟨c, d, e, f, g⟩ := b p hp; ⟨c, d, e, s _ _ f, g⟩⟩
  kT := let ⟨k, a, b⟩ := h.kT; ⟨k, s _ _ a, fun p hp => let ⟨c, d, e, f, g, i⟩ := b p hp; ⟨c, d, e, s _ _ f, g, fun x hx => (i x hx).keep s⟩⟩
  kQ := let ⟨k, a, b⟩ := h.kQ; ⟨k, s _ _ a, fun p hp => let ⟨c, d, e, f, g, i⟩ := b p hp; ⟨c, d, e, s _ _ f, g, fun x hx => (i x hx).keep s⟩⟩
/-- the plan at x -/
def PlanAt (H : Hp) (CR CP x : Addr) (len : Int) (L : List (Addr × Cue)) (ps : List Piece) (as : List (Str × Str)) (ss es : List Str) : Prop := ∃ dx xr pt nt at' st et dP dF dS dB dT dQ : Addr,
  H x = some (.ins CP dx (planF (.ref xr) (.ref pt) (.ref nt) (.ref at') (.ref st) (.ref et) (.int (grainTo ps)) (.ref dP) (.ref dF) (.ref dS) (.ref dB) (.ref dT) (.ref dQ))) ∧
  PlanB H CR xr pt nt at' st et dP dF dS dB dT dQ len L ps as ss es
theorem PlanAt.keep {H H' : Hp} {CR CP x : Addr} {len : Int} {L : List (Addr × Cue)} {ps : List Piece} {as : List (Str × Str)} {ss es : List Str} (h : PlanAt H CR CP x len L ps as ss es) (s : Same H H') : PlanAt H' CR CP x len L ps as ss es := by
  obtain ⟨dx, xr, pt, nt, at', st, et, dP, dF, dS, dB, dT, dQ, h1, h2⟩ := h
  exact ⟨dx, xr, pt, nt, at', st, et, dP, dF, dS, dB, dT, dQ, s _ _ h1, h2.keep s⟩
end Sea
namespace Sea
open PySem PySem.Spec PyProof.Rows L2
def spPlan (CR CP : Addr) : Sp := fun vs H Q _ => ∃ (x dx xr ap aa sa ea : Addr) (len : Int) (L : List (Addr × Cue)) (M : List (Addr × Piece)) (A : List (Addr × (Str × Str))) (ss es : List Str),
  vs = [.ref x, .ref xr, .ref ap, .ref aa, .ref sa, .ref ea] ∧ H x = some (.ins CP dx []) ∧ ReelAt (rest x H) CR xr len L ∧ L.length ≤ 100 ∧ ((rest x H) ap = some (.tup (refsP M)) ∨ (rest x H) ap = some (.lst (refsP M))) ∧ (∀ e ∈ M, PAt (rest x H) e ∧ GoodP len e.2) ∧
  (1 ≤ M.length ∧ M.length ≤ 12) ∧ ((pcs M).map (·.nm)).Nodup ∧ ((rest x H) aa = some (.tup (refsA A)) ∨ (rest x H) aa = some (.lst (refsA A))) ∧ (∀ e ∈ A, AAt (rest x H) e ∧ e.2.1 ∈ (pcs M).map (·.nm) ∧ e.2.2 ∈ (pcs M).map (·.nm)) ∧ (prs A).Nodup ∧ A.length ≤ 1000 ∧
  ((rest x H) sa = some (.tup (ss.map V.str)) ∨ (rest x H) sa = some (.lst (ss.map V.str))) ∧ Chosen ((pcs M).map (·.nm)) ss ∧ ((rest x H) ea = some (.tup (es.map V.str)) ∨ (rest x H) ea = some (.lst (es.map V.str))) ∧ Chosen ((pcs M).map (·.nm)) es ∧
  (∀ z ∈ (pcs M).map (·.nm), Both (prs A) ss es z) ∧ ∀ H', KB x H H' → PlanAt H' CR CP x len L (pcs M) (prs A) ss es → Q .non H'
theorem dict_next {G : Hp → Str → V → Prop} (GK : ∀ H H' y v, KT H H' → G H y v → G H' y v) {Hk H H5 : Hp} {D : Addr} {kvs : List (Key × V)} {ns : List Str} {i : Nat} {z : Str} {v : V} (hD : Hk D = none) (hs : Same Hk H) (hd : H D = some (.dK kvs)) (hl : kvs.length ≤ i)
    (hall : ∀ y ∈ ns.take i, ∃ v, valV kvs (Sum.inr y) = some v ∧ G H y v) (s5 : Same H H5) (hz : ns[i]? = some z) (hv : G H5 z v) :
    Same Hk (upd H5 D (.dK (putK kvs (Sum.inr z) v))) ∧ ∃ ks, upd H5 D (.dK (putK kvs (Sum.inr z) v)) D = some (.dK ks) ∧ ks.length ≤ i + 1 ∧ ∀ y ∈ ns.take (i + 1), ∃ v', valV ks (Sum.inr y) = some v' ∧ G (upd H5 D (.dK (putK kvs (Sum.inr z) v))) y v' := by
  have ko : KT H5 (upd H5 D (.dK (putK kvs (Sum.inr z) v))) := (KT.refl _).overK (s5 _ _ hd)
  have st := dict_step (G := G (upd H5 D (.dK (putK kvs (Sum.inr z) v)))) (kvs := kvs) (ns := ns) (i := i) (fun y hy => by
    obtain ⟨v', h1, h2⟩ := hall y hy
    exact ⟨v', h1, GK _ _ _ _ ko (GK _ _ _ _ (.of_same s5) h2)⟩) hz (GK _ _ _ _ ko hv)
  refine ⟨fun b o hb => ?_, _, upd_same, ?_, st⟩
  · rw [upd_ne (ne_of_none hb hD)]
    exact s5 _ _ (hs _ _ hb)
  · have := length_putK kvs (Sum.inr z : Key) v
    omega
theorem by_name {ps : List Piece} (nd : (ps.map (·.nm)).Nodup) {p p' : Piece} (h : p ∈ ps) (h' : p' ∈ ps) (e : p'.nm = p.nm) : p' = p := by
  obtain ⟨i, hi⟩ := List.getElem?_of_mem h
  obtain ⟨j, hj⟩ := List.getElem?_of_mem h'
  have h1 : (ps.map (·.nm))[i]? = some p.nm := by rw [List.getElem?_map, hi]; rfl
  have h2 : (ps.map (·.nm))[j]? = some p.nm := by rw [List.getElem?_map, hj]; exact congrArg some e
  have hl := (List.getElem?_eq_some_iff.mp h1).1
  have := (List.getElem?_inj hl nd).mp (h1.trans h2.symm)
  subst this
  rw [hi] at hj
  exact (Option.some.inj hj).symm
def GP (ps : List Piece) : Hp → Str → V → Prop := fun H y v => ∃ p ∈ ps, p.nm = y ∧ ∃ a, v = .ref a ∧ PAt H (a, p)
def GI (ps : List Piece) (f : Piece → Int) : Hp → Str → V → Prop := fun _ y v => ∃ p ∈ ps, p.nm = y ∧ v = .int (f p)
def GB (as : List (Str × Str)) : Hp → Str → V → Prop := fun H y v => ∃ (a : Addr) (ys : List Str), v = .ref a ∧ H a = some (.tup (ys.map V.str)) ∧ ys.Perm (rightsOf as y) ∧ sortedS ys = true
def GT (ps : List Piece) (f : Piece → List Tri) : Hp → Str → V → Prop := fun H y v => ∃ p ∈ ps, p.nm = y ∧ ∃ (a : Addr) (N : List (Addr × Tri)), v = .ref a ∧ H a = some (.tup (refsT N)) ∧ tris N = f p ∧ ∀ e ∈ N, TAt H e
def GD (ps : List Piece) (f : Piece → List Duo) : Hp → Str → V → Prop := fun H y v => ∃ p ∈ ps, p.nm = y ∧ ∃ (a : Addr) (N : List (Addr × Duo)), v = .ref a ∧ H a = some (.tup (refsD N)) ∧ duos N = f p ∧ ∀ e ∈ N, DAt H e
theorem GP.kt {ps : List Piece} : ∀ H H' y v, KT H H' → GP ps H y v → GP ps H' y v := fun _ _ _ _ k ⟨p, h, e, a, f, g⟩ => ⟨p, h, e, a, f, g.kt k⟩
theorem GI.kt {ps : List Piece} {f : Piece → Int} : ∀ H H' y v, KT H H' → GI ps f H y v → GI ps f H' y v := fun _ _ _ _ _ h => h
theorem GB.kt {as : List (Str × Str)} : ∀ H H' y v, KT H H' → GB as H y v → GB as H' y v := fun _ _ _ _ k ⟨a, ys, e, h, r⟩ => ⟨a, ys, e, k _ _ h, r⟩
theorem GT.kt {ps : List Piece} {f : Piece → List Tri} : ∀ H H' y v, KT H H' → GT ps f H y v → GT ps f H' y v := fun _ _ _ _ k ⟨p, h, e, a, N, e1, e2, e3, e4⟩ => ⟨p, h, e, a, N, e1, k _ _ e2, e3, fun d hd => (e4 d hd).kt k⟩
theorem GD.kt {ps : List Piece} {f : Piece → List Duo} : ∀ H H' y v, KT H H' → GD ps f H y v → GD ps f H' y v := fun _ _ _ _ k ⟨p, h, e, a, N, e1, e2, e3, e4⟩ => ⟨p, h, e, a, N, e1, k _ _ e2, e3, fun d hd => (e4 d hd).kt k⟩
/-- a dict by the names, at the end -/
def DictN (G : Hp → Str → V → Prop) (ns : List Str) (H : Hp) (d : Addr) : Prop := ∃ ks, H d = some (.dK ks) ∧ ∀ y ∈ ns, ∃ v, valV ks (Sum.inr y) = some v ∧ G H y v
theorem DictN.keep {G : Hp → Str → V → Prop} (GK : ∀ H H' y v, KT H H' → G H y v → G H' y v) {ns : List Str} {H H' : Hp} {d : Addr} (h : DictN G ns H d) (s : Same H H') : DictN G ns H' d :=
  let ⟨ks, h1, h2⟩ := h; ⟨ks, s _ _ h1, fun y hy => let ⟨v, h3, h4⟩ := h2 y hy; ⟨v, h3, GK _ _ _ _ (.of_same s) h4⟩⟩
/-- from the heap to what is beside x -/
theorem tup_rest {x C dx : Addr} {fs : List (Str × V)} {H : Hp} (hx : H x = some (.ins C dx fs)) : KT H (rest x H) := fun a xs h => rest_at hx h fun z e => by cases e
theorem DictN.rest {G : Hp → Str → V → Prop} (GK : ∀ H H' y v, KT H H' → G H y v → G H' y v) {ns : List Str} {x C dx d : Addr} {fs : List (Str × V)} {H : Hp} (hx : H x = some (.ins C dx fs)) (h : DictN G ns H d) : DictN G ns (rest x H) d :=
  let ⟨ks, h1, h2⟩ := h; ⟨ks, rest_at hx h1 (fun z e => by cases e), fun y hy => let ⟨v, h3, h4⟩ := h2 y hy; ⟨v, h3, GK _ _ _ _ (tup_rest hx) h4⟩⟩
/-- tuple(..) where K is said -/
def rTupOf (K : PySem.W.Frag) : List V → Hp → VK → Prop := fun xs H Q => ∃ p ys, xs = [.ref p] ∧ ((SqL K H p ys ∧ ∀ l, H l = none → Q (.ref l) (upd H l (.tup ys))) ∨ (SqT K H p ys ∧ Q (.ref p) H))
theorem cr_tupOf {X : Cx} : CallR X (.type "tuple") (rTupOf X.K) := call_tuple_of
section
variable {P : Program} {w : World} {K : PySem.W.Frag} {mg : Str → Option Value} {base : Heap} {CR CP fR fP : Addr}
theorem ok_plan {f : Addr} {fd : FuncData} (F : Fun K "__init__" "Plan.__init__" s_Plan___init__ f fd) (TP : PlC K mg CP fP) (m_tuple : mg "tuple" = none) (m_sorted : mg "sorted" = none) (g_lcm : mg "lcm" = some (.builtin "math.lcm"))
    (c_judged_pieces : Cal P w K mg base 4 "judged_pieces" (spPieces CR)) (c_judged_arrows : Cal P w K mg base 3 "judged_arrows" spArrowsJ) (c_judged_starts : Cal P w K mg base 3 "judged_starts" spChosen) (c_judged_ends : Cal P w K mg base 3 "judged_ends" spChosen)
    (c_first_unreached : Cal P w K mg base 2 "first_unreached" spUnreach) (c_strip_of_piece : Cal P w K mg base 1 "strip_of_piece" (spStrip CR)) (c_sends_of_piece : Cal P w K mg base 1 "sends_of_piece" (spSends CR)) :
    FnOk P w K mg base CX0 5 f fd ["self", "reel", "pieces", "arrows", "starts", "ends"] (spPlan CR CP) := by
  refine F.ok sc_Plan___init__ (fun vs H Q E h => ?_) (fun cdv A outer s H vs Q E hr h => ?_)
  · obtain ⟨x, dx, xr, ap, aa, sa, ea, len, L, M, As, ss, es, rfl, _⟩ := h
    rfl
  · obtain ⟨x, dx, xr, ap, aa, sa, ea, len, L, M, As, ss, es, rfl, hx, hR, lL, hap, hM, ⟨lM1, lM12⟩, nd, haa, hA, ndA, lA, hsa, cS, hea, cE, both, q⟩ := h
    refine ⟨_, (pss_cons (ps_fld (pv 0) (pv 1) rfl)
    (pss_cons (ps_fld (pv 0) (pe_c c_judged_pieces hr (by decide) rfl (pa_cons (pv 1) (pa_cons (pv 2) pa_nil))) rfl)
    (pss_cons (ps_fld (pv 0) (pe_callTy call_tuple_of (by rfl) m_tuple (by decide +kernel) (pa_cons (pe_lc (own := [("piece", 6)]) rfl sc_Plan___init__.nd (pi_tup (pe_fld (pv 0) rfl)) (blkOk_by (N := N_Plan___init__) (sc := defScope s_Plan___init__) (by decide +kernel)) (fun _ _ _ _ _ => (pg_name (i := 6) sc_Plan___init__.nd rfl (Or.inl rfl))) (fun _ _ _ _ _ => pts_nil) (fun _ _ _ _ _ => (pe_ix (show IxR _ (rIxT K) from ix_tup) (pv 6) (pe_int) (fun _ _ => rfl)))) pa_nil)) rfl)
    (pss_cons (ps_fld (pv 0) (pe_c c_judged_arrows hr (by decide) rfl (pa_cons (pe_fld (pv 0) rfl) (pa_cons (pv 3) pa_nil))) rfl)
    (pss_cons (ps_fld (pv 0) (pe_c c_judged_starts hr (by decide) rfl (pa_cons (pe_fld (pv 0) rfl) (pa_cons (pv 4) pa_nil))) rfl)
    (pss_cons (ps_fld (pv 0) (pe_c c_judged_ends hr (by decide) rfl (pa_cons (pe_fld (pv 0) rfl) (pa_cons (pv 5) pa_nil))) rfl)
    (pss_cons (ps_set (i := 7) sc_Plan___init__.nd rfl (Or.inl rfl) (pe_c c_first_unreached hr (by decide) rfl (pa_cons (pe_fld (pv 0) rfl) (pa_cons (pe_fld (pv 0) rfl) (pa_cons (pe_fld (pv 0) rfl) (pa_cons (pe_fld (pv 0) rfl) pa_nil))))))
    (pss_cons (ps_if (pt_cmpR op_notN (pv 7) (pe_non) (nomark _))
    (pss_one ps_never)
    pss_nil)
    (pss_cons (ps_set (i := 8) sc_Plan___init__.nd rfl (Or.inr rfl) (pe_int))
    (pss_cons (ps_for PassesOwn.never rfl (pi_tup (pe_fld (pv 0) rfl)) (pg_name (i := 6) sc_Plan___init__.nd rfl (Or.inl rfl))
    (pss_one (ps_set (i := 8) sc_Plan___init__.nd rfl (Or.inr rfl) (pe_callBfun cr_lcm rfl g_lcm (pa_cons (pv 8) (pa_cons (pe_ix ix_tup (pv 6) (pe_int) (fun _ _ => rfl)) pa_nil))))))
    (pss_cons (ps_fld (pv 0) (pv 8) rfl)
    (pss_cons (ps_fld (pv 0) (pe_dc (own := [("piece", 6)]) rfl sc_Plan___init__.nd (pi_tup (pe_fld (pv 0) rfl)) (blkOk_by (N := N_Plan___init__) (sc := defScope s_Plan___init__) (by decide +kernel)) (fun _ _ _ _ _ => (pg_name (i := 6) sc_Plan___init__.nd rfl (Or.inl rfl))) (fun _ _ _ _ _ => pts_nil) (fun _ _ _ _ _ => (pe_ix (show IxR _ (rIxT K) from ix_tup) (pv 6) (pe_int) (fun _ _ => rfl))) (fun _ _ _ _ _ => (pv 6))) rfl)
    (pss_cons (ps_fld (pv 0) (pe_dc (own := [("piece", 6)]) rfl sc_Plan___init__.nd (pi_tup (pe_fld (pv 0) rfl)) (blkOk_by (N := N_Plan___init__) (sc := defScope s_Plan___init__) (by decide +kernel)) (fun _ _ _ _ _ => (pg_name (i := 6) sc_Plan___init__.nd rfl (Or.inl rfl))) (fun _ _ _ _ _ => pts_nil) (fun _ _ _ _ _ => (pe_ix (show IxR _ (rIxT K) from ix_tup) (pv 6) (pe_int) (fun _ _ => rfl))) (fun _ _ _ _ _ => by exact (pe_op op_fdivN (pe_op op_mul (pe_ix (show IxR _ (rIxT K) from ix_tup) (pv 6) (pe_int) (fun _ _ => rfl)) (pv 8)) (pe_ix (show IxR _ (rIxT K) from ix_tup) (pv 6) (pe_int) (fun _ _ => rfl))))) rfl)
    (pss_cons (ps_fld (pv 0) (pe_dc (own := [("piece", 6)]) rfl sc_Plan___init__.nd (pi_tup (pe_fld (pv 0) rfl)) (blkOk_by (N := N_Plan___init__) (sc := defScope s_Plan___init__) (by decide +kernel)) (fun _ _ _ _ _ => (pg_name (i := 6) sc_Plan___init__.nd rfl (Or.inl rfl))) (fun _ _ _ _ _ => pts_nil) (fun _ _ _ _ _ => (pe_ix (show IxR _ (rIxT K) from ix_tup) (pv 6) (pe_int) (fun _ _ => rfl))) (fun _ _ _ _ _ => by exact (pe_op op_mul (pe_op op_sub (pe_ix (show IxR _ (rIxT K) from ix_tup) (pv 6) (pe_int) (fun _ _ => rfl)) (pe_ix (show IxR _ (rIxT K) from ix_tup) (pv 6) (pe_int) (fun _ _ => rfl))) (pe_dget (hu_of hr) (show PE _ _ (tFld K (tVar 0) "_factors") from pe_fld (pv 0) rfl) (pe_ix (show IxR _ (rIxT K) from ix_tup) (pv 6) (pe_int) (fun _ _ => rfl)) (fun _ _ => rfl))))) rfl)
    (pss_cons (ps_fld (pv 0) (pe_dc (own := [("name", 9)]) rfl sc_Plan___init__.nd (pi_tup (pe_fld (pv 0) rfl)) (blkOk_by (N := N_Plan___init__) (sc := defScope s_Plan___init__) (by decide +kernel)) (fun _ _ _ _ _ => (pg_name (i := 9) sc_Plan___init__.nd rfl (Or.inr rfl))) (fun _ _ _ _ _ => pts_nil) (fun _ _ _ _ _ => (pv 9)) (fun _ _ _ _ _ => by exact (pe_callTy (show CallR _ (.type "tuple") (rTupOf K) from cr_tupOf) (by rfl) m_tuple (by decide +kernel) (pa_cons (pe_callB (show CallR _ (.builtin "sorted") (rSortedS K) from cr_sortedS) (by rfl) m_sorted (by decide +kernel) (pa_cons (pe_lc (own := [("left", 10), ("right", 11)]) (g := gTup K 2 (gCons (gName 10) (gCons (gName 11) gNil))) rfl sc_Plan___init__.nd (show PI _ _ _ (iTup K (tFld K (tVar 0) "arrows")) from pi_tup (pe_fld (pv 0) rfl)) (blkOk_by (N := N_Plan___init__) (by rfl)) (fun _ _ _ _ _ => by exact (pg_tup rfl (pgs_cons (pg_name (i := 10) sc_Plan___init__.nd rfl (Or.inl rfl)) (pgs_cons (pg_name (i := 11) sc_Plan___init__.nd rfl (Or.inl rfl)) pgs_nil)))) (fun _ _ _ _ _ => pts_one (pt_cmpR op_eq (pv 10) (pv 9) (nomark _))) (fun _ _ _ _ _ => (pv 11))) pa_nil)) pa_nil)))) rfl)
    (pss_cons (ps_fld (pv 0) (pe_dc (own := [("name", 9)]) rfl sc_Plan___init__.nd (pi_tup (pe_fld (pv 0) rfl)) (blkOk_by (N := N_Plan___init__) (sc := defScope s_Plan___init__) (by decide +kernel)) (fun _ _ _ _ _ => (pg_name (i := 9) sc_Plan___init__.nd rfl (Or.inl rfl))) (fun _ _ _ _ _ => pts_nil) (fun _ _ _ _ _ => (pv 9)) (fun _ _ _ _ _ => by exact (pe_c c_strip_of_piece hr (by decide) rfl (pa_cons (pv 1) (pa_cons (pe_dget (hu_of hr) (show PE _ _ (tFld K (tVar 0) "_pieces") from pe_fld (pv 0) rfl) (pv 9) (fun _ _ => rfl)) (pa_cons (pe_dget (hu_of hr) (show PE _ _ (tFld K (tVar 0) "_factors") from pe_fld (pv 0) rfl) (pv 9) (fun _ _ => rfl)) pa_nil)))))) rfl)
    (pss_one (ps_fld (pv 0) (pe_dc (own := [("name", 9)]) rfl sc_Plan___init__.nd (pi_tup (pe_fld (pv 0) rfl)) (blkOk_by (N := N_Plan___init__) (sc := defScope s_Plan___init__) (by decide +kernel)) (fun _ _ _ _ _ => (pg_name (i := 9) sc_Plan___init__.nd rfl (Or.inl rfl))) (fun _ _ _ _ _ => pts_nil) (fun _ _ _ _ _ => (pv 9)) (fun _ _ _ _ _ => by exact (pe_c c_sends_of_piece hr (by decide) rfl (pa_cons (pv 1) (pa_cons (pe_dget (hu_of hr) (show PE _ _ (tFld K (tVar 0) "_pieces") from pe_fld (pv 0) rfl) (pv 9) (fun _ _ => rfl)) (pa_cons (pe_dget (hu_of hr) (show PE _ _ (tFld K (tVar 0) "_strips") from pe_fld (pv 0) rfl) (pv 9) (fun _ _ => rfl)) pa_nil)))))) rfl)))))))))))))))))), ?_⟩
    refine ⟨_, rfl, _, rfl, x, CP, dx, _, rfl, hx, TP.cl, TP.nR, (Nat.lt_of_lt_of_le Nat.zero_lt_one (by decide)), ?_⟩
    generalize hgH1 : upd H x (.ins CP dx (putF "reel" (.ref xr) [])) = H1
    have hxH1 : H1 x = some (.ins CP dx (putF "reel" (.ref xr) [])) := by rw [← hgH1]; exact upd_same
    have erH1 : rest x H1 = rest x H := by rw [← hgH1]; exact rest_upd x _ _
    have S1 : Same (rest x H) H1 := by rw [← erH1]; exact rest_le x H1
    refine ⟨_, rfl, _, rfl, xr, ap, len, L, M, rfl, hR.keep S1, hap.imp (S1 _ _) (S1 _ _), fun e he => ⟨(hM e he).1.keep S1, (hM e he).2⟩, lM1, lM12, nd, fun H2 pt M2 s2 hpt ep hat => ?_⟩
    have hx2 := s2 _ _ hxH1
    refine ⟨_, rfl, x, CP, dx, _, rfl, hx2, TP.cl, TP.nP, (Nat.lt_of_lt_of_le (few1 Nat.zero_lt_one) (by decide)), ?_⟩
    generalize hgH3 : upd H2 x (.ins CP dx (putF "pieces" (.ref pt) (putF "reel" (.ref xr) []))) = H3
    have hxH3 : H3 x = some (.ins CP dx (putF "pieces" (.ref pt) (putF "reel" (.ref xr) []))) := by rw [← hgH3]; exact upd_same
    have erH3 : rest x H3 = rest x H2 := by rw [← hgH3]; exact rest_upd x _ _
    have r2 : Same (rest x H) (rest x H3) := by rw [erH3, ← erH1]; exact rest_same s2
    have S3 := rest_le x H3
    have pt3 : rest x H3 pt = some (.tup (refsP M2)) := by rw [erH3]; exact rest_at hx2 hpt fun z e => by cases e
    have at3 : ∀ e ∈ M2, PAt (rest x H3) e := fun e he => by rw [erH3]; exact rest_at hx2 (hat e he) fun z e => by cases e
    refine ⟨_, rfl, x, CP, dx, _, _, rfl, hxH3, TP.cl, TP.nP, (by (repeat first | rw [lookup_putF, if_neg (by decide +kernel)] | rw [lookup_putF, if_pos rfl])), pt, rfl, ⟨_, SqT.of (S3 _ _ pt3)⟩, fun D hD => ?_⟩
    refine lc_it walk_tup (fun i H' => Same H3 H' ∧ H' D = some (.lst ((((pcs M2).take i).map (·.nm)).map V.str))) ⟨same_new hD, upd_same⟩ (fun i H' _ hq => SqT.of (hq.1 _ _ (S3 _ _ pt3))) ?_ ?_
    · rintro i y Ha Hb hi ⟨hs, hd⟩ ⟨rfl, hy⟩
      obtain ⟨e, he, rfl⟩ := ref_at hy
      have hA := hs _ _ (S3 _ _ (at3 e (List.mem_of_getElem? he)))
      have he2 : (pcs M2)[i]? = some e.2 := by rw [List.getElem?_map, he]; rfl
      have hi' := (List.getElem?_eq_some_iff.mp he2).1
      have lm2 : (pcs M2).length ≤ 12 := by rw [ep, List.length_map]; exact lM12
      refine ⟨rfl, _, rfl, e.1, _, 0, _, rfl, rfl, SqT.of hA, atI_nat (j := 0) rfl, _, hd, ?_, same_over hs hD, ?_⟩
      · rw [List.length_map, List.length_map, List.length_take]
        exact small_line (by omega)
      · rw [upd_same, List.take_add_one, he2, List.map_append, List.map_append]
        rfl
    rintro H4 ⟨s4, hd4⟩
    have lr : (refsP M2).length = (pcs M2).length := by rw [List.length_map, List.length_map]
    rw [lr, List.take_length, ep] at hd4
    refine ⟨D, _, rfl, .inl ⟨SqL.of hd4, fun nt hnt => ?_⟩⟩
    have s5 := s4.trans (same_new (o := .tup (((pcs M).map (·.nm)).map V.str)) hnt)
    generalize hg5 : upd H4 nt (.tup (((pcs M).map (·.nm)).map V.str)) = H5 at s5 ⊢
    have nt5 : H5 nt = some (.tup (((pcs M).map (·.nm)).map V.str)) := by rw [← hg5]; exact upd_same
    have hx5 := s5 _ _ hxH3
    refine ⟨_, rfl, x, CP, dx, _, rfl, hx5, TP.cl, TP.nN, (Nat.lt_of_lt_of_le (few1 (few1 Nat.zero_lt_one)) (by decide)), ?_⟩
    generalize hgH6 : upd H5 x (.ins CP dx (putF "_names" (.ref nt) (putF "pieces" (.ref pt) (putF "reel" (.ref xr) [])))) = H6
    have hxH6 : H6 x = some (.ins CP dx (putF "_names" (.ref nt) (putF "pieces" (.ref pt) (putF "reel" (.ref xr) [])))) := by rw [← hgH6]; exact upd_same
    have erH6 : rest x H6 = rest x H5 := by rw [← hgH6]; exact rest_upd x _ _
    have r6 : Same (rest x H3) (rest x H6) := by rw [erH6]; exact rest_same s5
    have S6 := rest_le x H6
    have nt6 : rest x H6 nt = some (.tup (((pcs M).map (·.nm)).map V.str)) := by rw [erH6]; exact rest_at hx5 nt5 fun z e => by cases e
    have q6 := r2.trans r6
    refine ⟨_, rfl, x, CP, dx, _, _, rfl, hxH6, TP.cl, TP.nN, (by (repeat first | rw [lookup_putF, if_neg (by decide +kernel)] | rw [lookup_putF, if_pos rfl])), _, rfl, nt, aa, (pcs M).map (·.nm), As, rfl, S6 _ _ nt6, ?_, (haa.imp (q6 _ _) (q6 _ _)).imp (S6 _ _) (S6 _ _), fun e he => ⟨((hA e he).1.keep q6).keep S6, (hA e he).2⟩, ndA, lA, fun H7 at2 A2 s7 hat7 eA hA7 => ?_⟩
    · intro n hn
      obtain ⟨p, hp, rfl⟩ := List.mem_map.mp hn
      obtain ⟨e, he, rfl⟩ := List.mem_map.mp hp
      exact (hM e he).2.nm
    have hx7 := s7 _ _ hxH6
    refine ⟨_, rfl, x, CP, dx, _, rfl, hx7, TP.cl, TP.nA, (Nat.lt_of_lt_of_le (few1 (few1 (few1 Nat.zero_lt_one))) (by decide)), ?_⟩
    generalize hgH8 : upd H7 x (.ins CP dx (putF "arrows" (.ref at2) (putF "_names" (.ref nt) (putF "pieces" (.ref pt) (putF "reel" (.ref xr) []))))) = H8
    have hxH8 : H8 x = some (.ins CP dx (putF "arrows" (.ref at2) (putF "_names" (.ref nt) (putF "pieces" (.ref pt) (putF "reel" (.ref xr) []))))) := by rw [← hgH8]; exact upd_same
    have erH8 : rest x H8 = rest x H7 := by rw [← hgH8]; exact rest_upd x _ _
    have r8 : Same (rest x H6) (rest x H8) := by rw [erH8]; exact rest_same s7
    have S8 := rest_le x H8
    have q8 := q6.trans r8
    have at8 : rest x H8 at2 = some (.tup (refsA A2)) := by rw [erH8]; exact rest_at hx7 hat7 fun z e => by cases e
    have A8 : ∀ e ∈ A2, AAt (rest x H8) e := fun e he => by rw [erH8]; exact rest_at hx7 (hA7 e he) fun z e => by cases e
    have nt8 := r8 _ _ nt6
    refine ⟨_, rfl, x, CP, dx, _, _, rfl, hxH8, TP.cl, TP.nN, (by (repeat first | rw [lookup_putF, if_neg (by decide +kernel)] | rw [lookup_putF, if_pos rfl])), _, rfl, nt, sa, (pcs M).map (·.nm), ss, rfl, S8 _ _ nt8, (hsa.imp (q8 _ _) (q8 _ _)).imp (S8 _ _) (S8 _ _), cS, fun H9 st s9 hst9 => ?_⟩
    have hx9 := s9 _ _ hxH8
    refine ⟨_, rfl, x, CP, dx, _, rfl, hx9, TP.cl, TP.nS, (Nat.lt_of_lt_of_le (few1 (few1 (few1 (few1 Nat.zero_lt_one)))) (by decide)), ?_⟩
    generalize hgH10 : upd H9 x (.ins CP dx (putF "starts" (.ref st) (putF "arrows" (.ref at2) (putF "_names" (.ref nt) (putF "pieces" (.ref pt) (putF "reel" (.ref xr) [])))))) = H10
    have hxH10 : H10 x = some (.ins CP dx (putF "starts" (.ref st) (putF "arrows" (.ref at2) (putF "_names" (.ref nt) (putF "pieces" (.ref pt) (putF "reel" (.ref xr) [])))))) := by rw [← hgH10]; exact upd_same
    have erH10 : rest x H10 = rest x H9 := by rw [← hgH10]; exact rest_upd x _ _
    have r10 : Same (rest x H8) (rest x H10) := by rw [erH10]; exact rest_same s9
    have S10 := rest_le x H10
    have q10 := q8.trans r10
    have st10 : rest x H10 st = some (.tup (ss.map V.str)) := by rw [erH10]; exact rest_at hx9 hst9 fun z e => by cases e
    have nt10 := r10 _ _ nt8
    refine ⟨_, rfl, x, CP, dx, _, _, rfl, hxH10, TP.cl, TP.nN, (by (repeat first | rw [lookup_putF, if_neg (by decide +kernel)] | rw [lookup_putF, if_pos rfl])), _, rfl, nt, ea, (pcs M).map (·.nm), es, rfl, S10 _ _ nt10, (hea.imp (q10 _ _) (q10 _ _)).imp (S10 _ _) (S10 _ _), cE, fun H11 et s11 het11 => ?_⟩
    have hx11 := s11 _ _ hxH10
    refine ⟨_, rfl, x, CP, dx, _, rfl, hx11, TP.cl, TP.nE, (Nat.lt_of_lt_of_le (few1 (few1 (few1 (few1 (few1 Nat.zero_lt_one))))) (by decide)), ?_⟩
    generalize hgH12 : upd H11 x (.ins CP dx (putF "ends" (.ref et) (putF "starts" (.ref st) (putF "arrows" (.ref at2) (putF "_names" (.ref nt) (putF "pieces" (.ref pt) (putF "reel" (.ref xr) []))))))) = H12
    have hxH12 : H12 x = some (.ins CP dx (putF "ends" (.ref et) (putF "starts" (.ref st) (putF "arrows" (.ref at2) (putF "_names" (.ref nt) (putF "pieces" (.ref pt) (putF "reel" (.ref xr) []))))))) := by rw [← hgH12]; exact upd_same
    have erH12 : rest x H12 = rest x H11 := by rw [← hgH12]; exact rest_upd x _ _
    have r12 : Same (rest x H10) (rest x H12) := by rw [erH12]; exact rest_same s11
    have S12 := rest_le x H12
    have q12 := q10.trans r12
    have et12 : rest x H12 et = some (.tup (es.map V.str)) := by rw [erH12]; exact rest_at hx11 het11 fun z e => by cases e
    have nt12 := r12 _ _ nt10
    have st12 := r12 _ _ st10
    have at12 := r12 _ _ (r10 _ _ at8)
    have A12 : ∀ e ∈ A2, AAt (rest x H12) e := fun e he => ((A8 e he).keep r10).keep r12
    have pt12 := r12 _ _ (r10 _ _ (r8 _ _ (r6 _ _ pt3)))
    have P12 : ∀ e ∈ M2, PAt (rest x H12) e := fun e he => ((((at3 e he).keep r6).keep r8).keep r10).keep r12
    have hR12 := hR.keep q12
    -- no name unreached
    have lA2 : A2.length ≤ 1000 := by
      have := congrArg List.length eA
      rw [List.length_map, List.length_map] at this
      omega
    have inA : ∀ e ∈ A2, e.2.1 ∈ (pcs M).map (·.nm) ∧ e.2.2 ∈ (pcs M).map (·.nm) := fun e he => by
      have : e.2 ∈ prs As := by rw [← eA]; exact List.mem_map.mpr ⟨e, he, rfl⟩
      obtain ⟨d, hd, ed⟩ := List.mem_map.mp this
      rw [← ed]
      exact (hA d hd).2
    have lns : ((pcs M).map (·.nm)).length ≤ 1000 := by
      rw [List.length_map, List.length_map]
      omega
    refine ⟨_, rfl, x, CP, dx, _, _, rfl, hxH12, TP.cl, TP.nN, (by (repeat first | rw [lookup_putF, if_neg (by decide +kernel)] | rw [lookup_putF, if_pos rfl])), _, rfl, x, CP, dx, _, _, rfl, hxH12, TP.cl, TP.nA, (by (repeat first | rw [lookup_putF, if_neg (by decide +kernel)] | rw [lookup_putF, if_pos rfl])), _, rfl, x, CP, dx, _, _, rfl, hxH12, TP.cl, TP.nS, (by (repeat first | rw [lookup_putF, if_neg (by decide +kernel)] | rw [lookup_putF, if_pos rfl])), _, rfl, x, CP, dx, _, _, rfl, hxH12, TP.cl, TP.nE, (by (repeat first | rw [lookup_putF, if_neg (by decide +kernel)] | rw [lookup_putF, if_pos rfl])), nt, at2, st, et, (pcs M).map (·.nm), ss, es, A2, rfl, S12 _ _ nt12, S12 _ _ at12, S12 _ _ st12, S12 _ _ et12, fun e he => ⟨(A12 e he).keep S12, inA e he⟩, lA2, cS.sub, cS.nd, cE.sub, cE.nd, lns, ?_, ?_⟩
    rotate_left
    · intro H' k z _ hz _ hb
      rw [eA] at hb
      exact absurd (both z (List.mem_of_getElem? hz)) hb
    intro H13 s13 _
    have hx13 := s13 _ _ hxH12
    have r13 : Same (rest x H12) (rest x H13) := rest_same s13
    have S13 := rest_le x H13
    have pt13 := r13 _ _ pt12
    have P13 : ∀ e ∈ M2, PAt (rest x H13) e := fun e he => (P12 e he).keep r13
    have dnb : ∀ p ∈ pcs M, 1 ≤ p.dn ∧ p.dn ≤ 6 := fun p hp => by
      obtain ⟨e, he, rfl⟩ := List.mem_map.mp hp
      exact ⟨(hM e he).2.d1, (hM e he).2.d6⟩
    refine ⟨_, rfl, rfl, _, rfl, _, rfl, x, CP, dx, _, _, rfl, hx13, TP.cl, TP.nP, (by (repeat first | rw [lookup_putF, if_neg (by decide +kernel)] | rw [lookup_putF, if_pos rfl])), pt, rfl, ⟨_, SqT.of (S13 _ _ pt13)⟩, ?_⟩
    refine for_it walk_tup (fun i σ H' => (∃ k6 : Option V, σ = [some (.ref x), some (.ref xr), some (.ref ap), some (.ref aa), some (.ref sa), some (.ref ea), k6, some .non, some (.int (grainTo ((pcs M).take i))), none, none, none]) ∧ H13 = H')
      ⟨⟨_, rfl⟩, rfl⟩ (fun i σ H' _ ⟨_, e⟩ => by subst e; exact SqT.of (S13 _ _ pt13)) ?_ ?_
    · rintro i y σ Ha Hb hi ⟨⟨k6, rfl⟩, rfl⟩ ⟨rfl, hy⟩
      obtain ⟨e, he, rfl⟩ := ref_at hy
      have hA := S13 _ _ (P13 e (List.mem_of_getElem? he))
      have he2 : (pcs M)[i]? = some e.2 := by rw [← ep, List.getElem?_map, he]; rfl
      have tk : (pcs M).take (i + 1) = (pcs M).take i ++ [e.2] := by rw [List.take_add_one, he2]; rfl
      have gb := grain_le (ps := (pcs M).take i) fun p hp => dnb p (List.mem_of_mem_take hp)
      have db := dnb e.2 (List.mem_of_getElem? he2)
      refine ⟨_, rfl, _, rfl, e.1, _, 4, _, rfl, rfl, SqT.of hA, atI_nat (j := 4) rfl, _, _, rfl, by omega, by omega, ⟨some (.ref e.1), ?_⟩, rfl⟩
      rw [tk, grain_snoc]
      rfl
    rintro σ H' ⟨⟨k6, rfl⟩, rfl⟩
    have lr2 : (refsP M2).length = (pcs M).length := by rw [← ep, List.length_map, List.length_map]
    rw [lr2, List.take_length]
    refine ⟨_, rfl, ?_⟩
    refine ⟨_, rfl, x, CP, dx, _, rfl, hx13, TP.cl, TP.nG, (Nat.lt_of_lt_of_le (few1 (few1 (few1 (few1 (few1 (few1 Nat.zero_lt_one)))))) (by decide)), ?_⟩
    generalize hgH14 : upd H13 x (.ins CP dx (putF "_grain" (.int (grainTo (pcs M))) (putF "ends" (.ref et) (putF "starts" (.ref st) (putF "arrows" (.ref at2) (putF "_names" (.ref nt) (putF "pieces" (.ref pt) (putF "reel" (.ref xr) [])))))))) = H14
    have hxH14 : H14 x = some (.ins CP dx (putF "_grain" (.int (grainTo (pcs M))) (putF "ends" (.ref et) (putF "starts" (.ref st) (putF "arrows" (.ref at2) (putF "_names" (.ref nt) (putF "pieces" (.ref pt) (putF "reel" (.ref xr) [])))))))) := by rw [← hgH14]; exact upd_same
    have erH14 : rest x H14 = rest x H13 := by rw [← hgH14]; exact rest_upd x _ _
    have P14 : ∀ e ∈ M2, PAt (rest x H14) e := fun e he => by rw [erH14]; exact P13 e he
    have pt14 : rest x H14 pt = some (.tup (refsP M2)) := by rw [erH14]; exact pt13
    have r14 : Same (rest x H12) (rest x H14) := by rw [erH14]; exact r13
    have S14 := rest_le x H14
    have nt14 := r14 _ _ nt12
    have at14 := r14 _ _ at12
    have R14 := hR12.keep r14
    have gb := grain_le dnb
    have fb : ∀ p ∈ pcs M, 0 ≤ factorOf (grainTo (pcs M)) p ∧ factorOf (grainTo (pcs M)) p ≤ 360 := fun p hp => by
      obtain ⟨e, he, rfl⟩ := List.mem_map.mp hp
      exact factor_le gb.1 gb.2 (hM e he).2.u1 (hM e he).2.u6 (hM e he).2.d1
    have all2 : (refsP M2).length = ((pcs M).map (·.nm)).length := lr2.trans (List.length_map ..).symm
    have lnm : ((pcs M).map (·.nm)).length ≤ 12 := by rw [List.length_map, List.length_map]; exact lM12
    have tkP : ∀ y ∈ (pcs M).map (·.nm), y ∈ ((pcs M).map (·.nm)).take (refsP M2).length := fun y hy => by rw [all2, List.take_length]; exact hy
    have tkN : ∀ y ∈ (pcs M).map (·.nm), y ∈ ((pcs M).map (·.nm)).take (((pcs M).map (·.nm)).map V.str).length := fun y hy => by rw [List.length_map, List.take_length]; exact hy
    have few12 : ∀ {n i : Nat}, n ≤ i → i ≤ 12 → n < sizeLine := fun h1 h2 => small_line (by omega)
    have SH14 := S14
    have tH14 : Same (rest x H14) (rest x H14) := Same.refl _
    refine ⟨_, rfl, x, CP, dx, _, _, rfl, hxH14, TP.cl, TP.nP, (by (repeat first | rw [lookup_putF, if_neg (by decide +kernel)] | rw [lookup_putF, if_pos rfl])), pt, rfl, ⟨_, SqT.of (SH14 _ _ (tH14 _ _ pt14))⟩, fun dP hdP => ?_⟩
    refine dc_tup (fun i H' => Same H14 H' ∧ ∃ ks, H' dP = some (.dK ks) ∧ ks.length ≤ i ∧ ∀ y ∈ ((pcs M).map (·.nm)).take i, ∃ v, valV ks (Sum.inr y) = some v ∧ GP (pcs M) H' y v) ⟨same_new hdP, [], upd_same, Nat.le_refl _, fun _ h => nomatch h⟩ (fun i H' _ hq => SqT.of (hq.1 _ _ (SH14 _ _ (tH14 _ _ pt14)))) ?_ ?_
    · rintro i y Ha hy ⟨hs, kvs, hd, hl, hall⟩
      obtain ⟨e, he, rfl⟩ := ref_at hy
      have hA := hs _ _ (SH14 _ _ (tH14 _ _ (P14 e (List.mem_of_getElem? he))))
      have he2 : (pcs M)[i]? = some e.2 := by rw [← ep, List.getElem?_map, he]; rfl
      have hz : ((pcs M).map (·.nm))[i]? = some e.2.nm := by rw [List.getElem?_map, he2]; rfl
      have hi12 : i ≤ 12 := by have := (List.getElem?_eq_some_iff.mp hz).1; omega
      have hm := List.mem_of_getElem? he2
      exact ⟨rfl, _, rfl, e.1, _, 0, _, rfl, rfl, SqT.of hA, atI_nat (j := 0) rfl, _, rfl, kvs, Sum.inr e.2.nm, rfl, hd, few12 hl hi12, dict_next GP.kt hdP hs hd hl hall (Same.refl _) hz ⟨e.2, hm, rfl, e.1, rfl, hA⟩⟩
    rintro H14c ⟨scH14, ks, hd, _, hall⟩
    have dkdP : DictN (GP (pcs M)) ((pcs M).map (·.nm)) H14c dP := ⟨ks, hd, fun y hy => hall y (tkP y hy)⟩
    have hxH14c := scH14 _ _ hxH14
    refine ⟨_, rfl, x, CP, dx, _, rfl, hxH14c, TP.cl, TP.nQ, (Nat.lt_of_lt_of_le (few1 (few1 (few1 (few1 (few1 (few1 (few1 Nat.zero_lt_one))))))) (by decide)), ?_⟩
    generalize hgH15 : upd H14c x (.ins CP dx (putF "_pieces" (.ref dP) (putF "_grain" (.int (grainTo (pcs M))) (putF "ends" (.ref et) (putF "starts" (.ref st) (putF "arrows" (.ref at2) (putF "_names" (.ref nt) (putF "pieces" (.ref pt) (putF "reel" (.ref xr) []))))))))) = H15
    have hxH15 : H15 x = some (.ins CP dx (putF "_pieces" (.ref dP) (putF "_grain" (.int (grainTo (pcs M))) (putF "ends" (.ref et) (putF "starts" (.ref st) (putF "arrows" (.ref at2) (putF "_names" (.ref nt) (putF "pieces" (.ref pt) (putF "reel" (.ref xr) []))))))))) := by rw [← hgH15]; exact upd_same
    have erH15 : rest x H15 = rest x H14c := by rw [← hgH15]; exact rest_upd x _ _
    have ddP : DictN (GP (pcs M)) ((pcs M).map (·.nm)) (rest x H15) dP := by rw [erH15]; exact dkdP.rest GP.kt hxH14c
    have kH15 : Same (rest x H14) (rest x H15) := by rw [erH15]; exact rest_same scH14
    have SH15 := rest_le x H15
    have tH15 : Same (rest x H14) (rest x H15) := tH14.trans kH15
    refine ⟨_, rfl, x, CP, dx, _, _, rfl, hxH15, TP.cl, TP.nP, (by (repeat first | rw [lookup_putF, if_neg (by decide +kernel)] | rw [lookup_putF, if_pos rfl])), pt, rfl, ⟨_, SqT.of (SH15 _ _ (tH15 _ _ pt14))⟩, fun dF hdF => ?_⟩
    refine dc_tup (fun i H' => Same H15 H' ∧ ∃ ks, H' dF = some (.dK ks) ∧ ks.length ≤ i ∧ ∀ y ∈ ((pcs M).map (·.nm)).take i, ∃ v, valV ks (Sum.inr y) = some v ∧ GI (pcs M) (factorOf (grainTo (pcs M))) H' y v) ⟨same_new hdF, [], upd_same, Nat.le_refl _, fun _ h => nomatch h⟩ (fun i H' _ hq => SqT.of (hq.1 _ _ (SH15 _ _ (tH15 _ _ pt14)))) ?_ ?_
    · rintro i y Ha hy ⟨hs, kvs, hd, hl, hall⟩
      obtain ⟨e, he, rfl⟩ := ref_at hy
      have hA := hs _ _ (SH15 _ _ (tH15 _ _ (P14 e (List.mem_of_getElem? he))))
      have he2 : (pcs M)[i]? = some e.2 := by rw [← ep, List.getElem?_map, he]; rfl
      have hz : ((pcs M).map (·.nm))[i]? = some e.2.nm := by rw [List.getElem?_map, he2]; rfl
      have hi12 : i ≤ 12 := by have := (List.getElem?_eq_some_iff.mp hz).1; omega
      have hm := List.mem_of_getElem? he2
      have db := dnb e.2 hm
      exact ⟨rfl, _, rfl, e.1, _, 0, _, rfl, rfl, SqT.of hA, atI_nat (j := 0) rfl, _, rfl, e.1, _, 3, _, rfl, rfl, SqT.of hA, atI_nat (j := 3) rfl, _, rfl, _, _, rfl, rfl, .inr ⟨by omega, by omega⟩, _, rfl, e.1, _, 4, _, rfl, rfl, SqT.of hA, atI_nat (j := 4) rfl, _, _, rfl, rfl, ⟨by omega, by omega⟩, kvs, Sum.inr e.2.nm, rfl, hd, few12 hl hi12, dict_next GI.kt hdF hs hd hl hall (Same.refl _) hz ⟨e.2, hm, rfl, rfl⟩⟩
    rintro H15c ⟨scH15, ks, hd, _, hall⟩
    have dkdF : DictN (GI (pcs M) (factorOf (grainTo (pcs M)))) ((pcs M).map (·.nm)) H15c dF := ⟨ks, hd, fun y hy => hall y (tkP y hy)⟩
    have hxH15c := scH15 _ _ hxH15
    refine ⟨_, rfl, x, CP, dx, _, rfl, hxH15c, TP.cl, TP.nF, (Nat.lt_of_lt_of_le (few1 (few1 (few1 (few1 (few1 (few1 (few1 (few1 Nat.zero_lt_one)))))))) (by decide)), ?_⟩
    generalize hgH16 : upd H15c x (.ins CP dx (putF "_factors" (.ref dF) (putF "_pieces" (.ref dP) (putF "_grain" (.int (grainTo (pcs M))) (putF "ends" (.ref et) (putF "starts" (.ref st) (putF "arrows" (.ref at2) (putF "_names" (.ref nt) (putF "pieces" (.ref pt) (putF "reel" (.ref xr) [])))))))))) = H16
    have hxH16 : H16 x = some (.ins CP dx (putF "_factors" (.ref dF) (putF "_pieces" (.ref dP) (putF "_grain" (.int (grainTo (pcs M))) (putF "ends" (.ref et) (putF "starts" (.ref st) (putF "arrows" (.ref at2) (putF "_names" (.ref nt) (putF "pieces" (.ref pt) (putF "reel" (.ref xr) [])))))))))) := by rw [← hgH16]; exact upd_same
    have erH16 : rest x H16 = rest x H15c := by rw [← hgH16]; exact rest_upd x _ _
    have ddF : DictN (GI (pcs M) (factorOf (grainTo (pcs M)))) ((pcs M).map (·.nm)) (rest x H16) dF := by rw [erH16]; exact dkdF.rest GI.kt hxH15c
    have kH16 : Same (rest x H15) (rest x H16) := by rw [erH16]; exact rest_same scH15
    have SH16 := rest_le x H16
    have tH16 : Same (rest x H14) (rest x H16) := tH15.trans kH16
    refine ⟨_, rfl, x, CP, dx, _, _, rfl, hxH16, TP.cl, TP.nP, (by (repeat first | rw [lookup_putF, if_neg (by decide +kernel)] | rw [lookup_putF, if_pos rfl])), pt, rfl, ⟨_, SqT.of (SH16 _ _ (tH16 _ _ pt14))⟩, fun dS hdS => ?_⟩
    refine dc_tup (fun i H' => Same H16 H' ∧ ∃ ks, H' dS = some (.dK ks) ∧ ks.length ≤ i ∧ ∀ y ∈ ((pcs M).map (·.nm)).take i, ∃ v, valV ks (Sum.inr y) = some v ∧ GI (pcs M) (shownOf (grainTo (pcs M))) H' y v) ⟨same_new hdS, [], upd_same, Nat.le_refl _, fun _ h => nomatch h⟩ (fun i H' _ hq => SqT.of (hq.1 _ _ (SH16 _ _ (tH16 _ _ pt14)))) ?_ ?_
    · rintro i y Ha hy ⟨hs, kvs, hd, hl, hall⟩
      obtain ⟨e, he, rfl⟩ := ref_at hy
      have hA := hs _ _ (SH16 _ _ (tH16 _ _ (P14 e (List.mem_of_getElem? he))))
      have he2 : (pcs M)[i]? = some e.2 := by rw [← ep, List.getElem?_map, he]; rfl
      have hz : ((pcs M).map (·.nm))[i]? = some e.2.nm := by rw [List.getElem?_map, he2]; rfl
      have hi12 : i ≤ 12 := by have := (List.getElem?_eq_some_iff.mp hz).1; omega
      have hm := List.mem_of_getElem? he2
      have f0 := fb e.2 hm
      obtain ⟨ksF, hF, hFall⟩ := ddF
      obtain ⟨vF, hvF, p', hp', en, rfl⟩ := hFall e.2.nm (List.mem_of_getElem? hz)
      obtain rfl : p' = e.2 := by_name nd hm hp' en
      have dg : DGet Ha dF (V.str e.2.nm) (some (.int (factorOf (grainTo (pcs M)) e.2))) := hvF ▸ DGet.k (k := Sum.inr e.2.nm) (hs _ _ (SH16 _ _ hF))
      exact ⟨rfl, _, rfl, e.1, _, 0, _, rfl, rfl, SqT.of hA, atI_nat (j := 0) rfl, _, rfl, e.1, _, 2, _, rfl, rfl, SqT.of hA, atI_nat (j := 2) rfl, _, rfl, e.1, _, 1, _, rfl, rfl, SqT.of hA, atI_nat (j := 1) rfl, _, _, rfl, rfl, _, rfl, x, CP, dx, _, _, rfl, (hs _ _ hxH16), TP.cl, TP.nF, (by (repeat first | rw [lookup_putF, if_neg (by decide +kernel)] | rw [lookup_putF, if_pos rfl])), _, rfl, e.1, _, 0, _, rfl, rfl, SqT.of hA, atI_nat (j := 0) rfl, dF, _, rfl, dg, _, _, rfl, rfl, .inr ⟨by omega, by omega⟩, kvs, Sum.inr e.2.nm, rfl, hd, few12 hl hi12, dict_next GI.kt hdS hs hd hl hall (Same.refl _) hz ⟨e.2, hm, rfl, rfl⟩⟩
    rintro H16c ⟨scH16, ks, hd, _, hall⟩
    have dkdS : DictN (GI (pcs M) (shownOf (grainTo (pcs M)))) ((pcs M).map (·.nm)) H16c dS := ⟨ks, hd, fun y hy => hall y (tkP y hy)⟩
    have hxH16c := scH16 _ _ hxH16
    refine ⟨_, rfl, x, CP, dx, _, rfl, hxH16c, TP.cl, TP.nH, (Nat.lt_of_lt_of_le (few1 (few1 (few1 (few1 (few1 (few1 (few1 (few1 (few1 Nat.zero_lt_one))))))))) (by decide)), ?_⟩
    generalize hgH17 : upd H16c x (.ins CP dx (putF "_shown" (.ref dS) (putF "_factors" (.ref dF) (putF "_pieces" (.ref dP) (putF "_grain" (.int (grainTo (pcs M))) (putF "ends" (.ref et) (putF "starts" (.ref st) (putF "arrows" (.ref at2) (putF "_names" (.ref nt) (putF "pieces" (.ref pt) (putF "reel" (.ref xr) []))))))))))) = H17
    have hxH17 : H17 x = some (.ins CP dx (putF "_shown" (.ref dS) (putF "_factors" (.ref dF) (putF "_pieces" (.ref dP) (putF "_grain" (.int (grainTo (pcs M))) (putF "ends" (.ref et) (putF "starts" (.ref st) (putF "arrows" (.ref at2) (putF "_names" (.ref nt) (putF "pieces" (.ref pt) (putF "reel" (.ref xr) []))))))))))) := by rw [← hgH17]; exact upd_same
    have erH17 : rest x H17 = rest x H16c := by rw [← hgH17]; exact rest_upd x _ _
    have ddS : DictN (GI (pcs M) (shownOf (grainTo (pcs M)))) ((pcs M).map (·.nm)) (rest x H17) dS := by rw [erH17]; exact dkdS.rest GI.kt hxH16c
    have kH17 : Same (rest x H16) (rest x H17) := by rw [erH17]; exact rest_same scH16
    have SH17 := rest_le x H17
    have tH17 : Same (rest x H14) (rest x H17) := tH16.trans kH17
    refine ⟨_, rfl, x, CP, dx, _, _, rfl, hxH17, TP.cl, TP.nN, (by (repeat first | rw [lookup_putF, if_neg (by decide +kernel)] | rw [lookup_putF, if_pos rfl])), nt, rfl, ⟨_, SqT.of (SH17 _ _ (tH17 _ _ nt14))⟩, fun dB hdB => ?_⟩
    refine dc_tup (fun i H' => Same H17 H' ∧ ∃ ks, H' dB = some (.dK ks) ∧ ks.length ≤ i ∧ ∀ y ∈ ((pcs M).map (·.nm)).take i, ∃ v, valV ks (Sum.inr y) = some v ∧ GB (prs As) H' y v) ⟨same_new hdB, [], upd_same, Nat.le_refl _, fun _ h => nomatch h⟩ (fun i H' _ hq => SqT.of (hq.1 _ _ (SH17 _ _ (tH17 _ _ nt14)))) ?_ ?_
    · rintro i y Ha hy ⟨hs, kvs, hd, hl, hall⟩
      obtain ⟨z, hz, rfl⟩ : ∃ z, ((pcs M).map (·.nm))[i]? = some z ∧ y = V.str z := by
        rw [List.getElem?_map] at hy
        cases q : ((pcs M).map (·.nm))[i]? with
        | none => rw [q] at hy; cases hy
        | some z => rw [q] at hy; exact ⟨z, rfl, (Option.some.inj hy).symm⟩
      have hi12 : i ≤ 12 := by have := (List.getElem?_eq_some_iff.mp hz).1; omega
      have hzm := List.mem_of_getElem? hz
      refine ⟨rfl, _, rfl, _, rfl, x, CP, dx, _, _, rfl, (hs _ _ hxH17), TP.cl, TP.nA, (by (repeat first | rw [lookup_putF, if_neg (by decide +kernel)] | rw [lookup_putF, if_pos rfl])), at2, rfl, ⟨_, SqT.of (hs _ _ (SH17 _ _ (tH17 _ _ at14)))⟩, fun Dl hDl => ?_⟩
      refine lc_it walk_tup (fun i' H' => Same Ha H' ∧ H' Dl = some (.lst ((rightsOf ((prs As).take i') z).map V.str))) ⟨same_new hDl, upd_same⟩ (fun i' H' _ hq => SqT.of (hq.1 _ _ (hs _ _ (SH17 _ _ (tH17 _ _ at14))))) ?_ ?_
      · rintro j y2 Hc Hd hj ⟨hs2, hd2⟩ ⟨rfl, hy2⟩
        obtain ⟨e, he, rfl⟩ := ref_at hy2
        have eA1 := hs2 _ _ (hs _ _ (SH17 _ _ (tH17 _ _ (r14 _ _ (A12 e (List.mem_of_getElem? he))))))
        have he2 : (prs As)[j]? = some e.2 := by rw [← eA, List.getElem?_map, he]; rfl
        have tk : rightsOf ((prs As).take (j + 1)) z = rightsOf ((prs As).take j) z ++ if e.2.1 = z then [e.2.2] else [] := by
          rw [List.take_add_one, he2]
          exact rights_snoc _ _ _
        have lrt : (rightsOf ((prs As).take j) z).length ≤ 1000 := by
          unfold rightsOf
          rw [List.length_map]
          refine Nat.le_trans (List.length_filter_le _ _) ?_
          rw [List.length_take, List.length_map]
          omega
        refine ⟨e.1, _, rfl, SqT.of eA1, rfl, _, _, rfl, _, _, rfl, rfl, rfl, _, rfl, _, rfl, rfl, _, rfl, ite2 (fun h => ?_) (fun h => ?_)⟩
        · have h' : e.2.1 = z := V.str.inj (of_decide_eq_true h)
          refine ⟨_, rfl, _, hd2, small_line (by rw [List.length_map]; omega), same_over hs2 hDl, ?_⟩
          rw [upd_same, tk, if_pos h', List.map_append]
          rfl
        · have h' : ¬ e.2.1 = z := fun q => h (decide_eq_true (congrArg V.str q))
          refine ⟨hs2, ?_⟩
          rw [tk, if_neg h', List.append_nil]
          exact hd2
      rintro Hd ⟨sd, hdl⟩
      have lrA : (refsA A2).length = (prs As).length := by rw [← eA, List.length_map, List.length_map]
      rw [lrA, List.take_length] at hdl
      have l64 : (rightsOf (prs As) z).length < 64 := by
        have := rights_few ndA (ns := (pcs M).map (·.nm)) (fun a ha => by
          obtain ⟨d, hd', rfl⟩ := List.mem_map.mp ha
          exact (hA d hd').2.2) z
        omega
      refine ⟨Dl, _, rfl, SqL.of hdl, l64, fun ys p hperm hsort hp => ⟨p, _, rfl, .inl ⟨SqL.of upd_same, fun l hl' => ?_⟩⟩⟩
      have s5 := (sd.trans (same_new (o := .lst (ys.map V.str)) hp)).trans (same_new (o := .tup (ys.map V.str)) hl')
      exact ⟨kvs, Sum.inr z, rfl, s5 _ _ hd, few12 hl hi12, dict_next GB.kt hdB hs hd hl hall s5 hz ⟨l, ys, rfl, upd_same, hperm, hsort⟩⟩
    rintro H17c ⟨scH17, ks, hd, _, hall⟩
    have dkdB : DictN (GB (prs As)) ((pcs M).map (·.nm)) H17c dB := ⟨ks, hd, fun y hy => hall y (tkN y hy)⟩
    have hxH17c := scH17 _ _ hxH17
    refine ⟨_, rfl, x, CP, dx, _, rfl, hxH17c, TP.cl, TP.nB, (Nat.lt_of_lt_of_le (few1 (few1 (few1 (few1 (few1 (few1 (few1 (few1 (few1 (few1 Nat.zero_lt_one)))))))))) (by decide)), ?_⟩
    generalize hgH18 : upd H17c x (.ins CP dx (putF "_behind" (.ref dB) (putF "_shown" (.ref dS) (putF "_factors" (.ref dF) (putF "_pieces" (.ref dP) (putF "_grain" (.int (grainTo (pcs M))) (putF "ends" (.ref et) (putF "starts" (.ref st) (putF "arrows" (.ref at2) (putF "_names" (.ref nt) (putF "pieces" (.ref pt) (putF "reel" (.ref xr) [])))))))))))) = H18
    have hxH18 : H18 x = some (.ins CP dx (putF "_behind" (.ref dB) (putF "_shown" (.ref dS) (putF "_factors" (.ref dF) (putF "_pieces" (.ref dP) (putF "_grain" (.int (grainTo (pcs M))) (putF "ends" (.ref et) (putF "starts" (.ref st) (putF "arrows" (.ref at2) (putF "_names" (.ref nt) (putF "pieces" (.ref pt) (putF "reel" (.ref xr) [])))))))))))) := by rw [← hgH18]; exact upd_same
    have erH18 : rest x H18 = rest x H17c := by rw [← hgH18]; exact rest_upd x _ _
    have ddB : DictN (GB (prs As)) ((pcs M).map (·.nm)) (rest x H18) dB := by rw [erH18]; exact dkdB.rest GB.kt hxH17c
    have kH18 : Same (rest x H17) (rest x H18) := by rw [erH18]; exact rest_same scH17
    have SH18 := rest_le x H18
    have tH18 : Same (rest x H14) (rest x H18) := tH17.trans kH18
    refine ⟨_, rfl, x, CP, dx, _, _, rfl, hxH18, TP.cl, TP.nN, (by (repeat first | rw [lookup_putF, if_neg (by decide +kernel)] | rw [lookup_putF, if_pos rfl])), nt, rfl, ⟨_, SqT.of (SH18 _ _ (tH18 _ _ nt14))⟩, fun dT hdT => ?_⟩
    refine dc_tup (fun i H' => Same H18 H' ∧ ∃ ks, H' dT = some (.dK ks) ∧ ks.length ≤ i ∧ ∀ y ∈ ((pcs M).map (·.nm)).take i, ∃ v, valV ks (Sum.inr y) = some v ∧ GT (pcs M) (fun p => stripF p (factorOf (grainTo (pcs M)) p) (cuesC L)) H' y v) ⟨same_new hdT, [], upd_same, Nat.le_refl _, fun _ h => nomatch h⟩ (fun i H' _ hq => SqT.of (hq.1 _ _ (SH18 _ _ (tH18 _ _ nt14)))) ?_ ?_
    · rintro i y Ha hy ⟨hs, kvs, hd, hl, hall⟩
      obtain ⟨z, hz, rfl⟩ : ∃ z, ((pcs M).map (·.nm))[i]? = some z ∧ y = V.str z := by
        rw [List.getElem?_map] at hy
        cases q : ((pcs M).map (·.nm))[i]? with
        | none => rw [q] at hy; cases hy
        | some z => rw [q] at hy; exact ⟨z, rfl, (Option.some.inj hy).symm⟩
      have hi12 : i ≤ 12 := by have := (List.getElem?_eq_some_iff.mp hz).1; omega
      have hzm := List.mem_of_getElem? hz
      obtain ⟨ksP, hP, hPall⟩ := ddP
      obtain ⟨vP, hvP, p, hp, en, a, rfl, hPA⟩ := hPall z hzm
      obtain ⟨ksF, hF, hFall⟩ := ddF
      obtain ⟨vF, hvF, p', hp', en', rfl⟩ := hFall z hzm
      obtain rfl : p' = p := by_name nd hp hp' (en'.trans en.symm)
      have f0 := fb p' hp
      have dg1 : DGet Ha dP (V.str z) (some (.ref a)) := hvP ▸ DGet.k (k := Sum.inr z) (hs _ _ (SH18 _ _ (kH18 _ _ (kH17 _ _ (kH16 _ _ hP)))))
      have dg2 : DGet Ha dF (V.str z) (some (.int (factorOf (grainTo (pcs M)) p'))) := hvF ▸ DGet.k (k := Sum.inr z) (hs _ _ (SH18 _ _ (kH18 _ _ (kH17 _ _ hF))))
      refine ⟨rfl, _, rfl, _, rfl, _, rfl, x, CP, dx, _, _, rfl, (hs _ _ hxH18), TP.cl, TP.nQ, (by (repeat first | rw [lookup_putF, if_neg (by decide +kernel)] | rw [lookup_putF, if_pos rfl])), _, rfl, dP, _, rfl, dg1, _, rfl, x, CP, dx, _, _, rfl, (hs _ _ hxH18), TP.cl, TP.nF, (by (repeat first | rw [lookup_putF, if_neg (by decide +kernel)] | rw [lookup_putF, if_pos rfl])), _, rfl, dF, _, rfl, dg2, xr, a, _, len, L, p', rfl, f0.1, by omega, ?_, lL, ?_, fun H' t N sN hN eN hT => ?_⟩
      · exact ((R14.keep tH18).keep SH18).keep hs
      · exact hs _ _ (SH18 _ _ (kH18 _ _ (kH17 _ _ (kH16 _ _ hPA))))
      exact ⟨kvs, Sum.inr z, rfl, sN _ _ hd, few12 hl hi12, dict_next GT.kt hdT hs hd hl hall sN hz ⟨p', hp, en, t, N, rfl, hN, eN, hT⟩⟩
    rintro H18c ⟨scH18, ks, hd, _, hall⟩
    have dkdT : DictN (GT (pcs M) (fun p => stripF p (factorOf (grainTo (pcs M)) p) (cuesC L))) ((pcs M).map (·.nm)) H18c dT := ⟨ks, hd, fun y hy => hall y (tkN y hy)⟩
    have hxH18c := scH18 _ _ hxH18
    refine ⟨_, rfl, x, CP, dx, _, rfl, hxH18c, TP.cl, TP.nT, (Nat.lt_of_lt_of_le (few1 (few1 (few1 (few1 (few1 (few1 (few1 (few1 (few1 (few1 (few1 Nat.zero_lt_one))))))))))) (by decide)), ?_⟩
    generalize hgH19 : upd H18c x (.ins CP dx (putF "_strips" (.ref dT) (putF "_behind" (.ref dB) (putF "_shown" (.ref dS) (putF "_factors" (.ref dF) (putF "_pieces" (.ref dP) (putF "_grain" (.int (grainTo (pcs M))) (putF "ends" (.ref et) (putF "starts" (.ref st) (putF "arrows" (.ref at2) (putF "_names" (.ref nt) (putF "pieces" (.ref pt) (putF "reel" (.ref xr) []))))))))))))) = H19
    have hxH19 : H19 x = some (.ins CP dx (putF "_strips" (.ref dT) (putF "_behind" (.ref dB) (putF "_shown" (.ref dS) (putF "_factors" (.ref dF) (putF "_pieces" (.ref dP) (putF "_grain" (.int (grainTo (pcs M))) (putF "ends" (.ref et) (putF "starts" (.ref st) (putF "arrows" (.ref at2) (putF "_names" (.ref nt) (putF "pieces" (.ref pt) (putF "reel" (.ref xr) []))))))))))))) := by rw [← hgH19]; exact upd_same
    have erH19 : rest x H19 = rest x H18c := by rw [← hgH19]; exact rest_upd x _ _
    have ddT : DictN (GT (pcs M) (fun p => stripF p (factorOf (grainTo (pcs M)) p) (cuesC L))) ((pcs M).map (·.nm)) (rest x H19) dT := by rw [erH19]; exact dkdT.rest GT.kt hxH18c
    have kH19 : Same (rest x H18) (rest x H19) := by rw [erH19]; exact rest_same scH18
    have SH19 := rest_le x H19
    have tH19 : Same (rest x H14) (rest x H19) := tH18.trans kH19
    refine ⟨_, rfl, x, CP, dx, _, _, rfl, hxH19, TP.cl, TP.nN, (by (repeat first | rw [lookup_putF, if_neg (by decide +kernel)] | rw [lookup_putF, if_pos rfl])), nt, rfl, ⟨_, SqT.of (SH19 _ _ (tH19 _ _ nt14))⟩, fun dQ hdQ => ?_⟩
    refine dc_tup (fun i H' => Same H19 H' ∧ ∃ ks, H' dQ = some (.dK ks) ∧ ks.length ≤ i ∧ ∀ y ∈ ((pcs M).map (·.nm)).take i, ∃ v, valV ks (Sum.inr y) = some v ∧ GD (pcs M) (fun p => sendsF p (cuesC L) (stripF p (factorOf (grainTo (pcs M)) p) (cuesC L))) H' y v) ⟨same_new hdQ, [], upd_same, Nat.le_refl _, fun _ h => nomatch h⟩ (fun i H' _ hq => SqT.of (hq.1 _ _ (SH19 _ _ (tH19 _ _ nt14)))) ?_ ?_
    · rintro i y Ha hy ⟨hs, kvs, hd, hl, hall⟩
      obtain ⟨z, hz, rfl⟩ : ∃ z, ((pcs M).map (·.nm))[i]? = some z ∧ y = V.str z := by
        rw [List.getElem?_map] at hy
        cases q : ((pcs M).map (·.nm))[i]? with
        | none => rw [q] at hy; cases hy
        | some z => rw [q] at hy; exact ⟨z, rfl, (Option.some.inj hy).symm⟩
      have hi12 : i ≤ 12 := by have := (List.getElem?_eq_some_iff.mp hz).1; omega
      have hzm := List.mem_of_getElem? hz
      obtain ⟨ksP, hP, hPall⟩ := ddP
      obtain ⟨vP, hvP, p, hp, en, a, rfl, hPA⟩ := hPall z hzm
      obtain ⟨ksT, hT, hTall⟩ := ddT
      obtain ⟨vT, hvT, p', hp', en', tt, N, rfl, hN1, eN1, hT1⟩ := hTall z hzm
      obtain rfl : p' = p := by_name nd hp hp' (en'.trans en.symm)
      have dg1 : DGet Ha dP (V.str z) (some (.ref a)) := hvP ▸ DGet.k (k := Sum.inr z) (hs _ _ (SH19 _ _ (kH19 _ _ (kH18 _ _ (kH17 _ _ (kH16 _ _ hP))))))
      have dg2 : DGet Ha dT (V.str z) (some (.ref tt)) := hvT ▸ DGet.k (k := Sum.inr z) (hs _ _ (SH19 _ _ hT))
      refine ⟨rfl, _, rfl, _, rfl, _, rfl, x, CP, dx, _, _, rfl, (hs _ _ hxH19), TP.cl, TP.nQ, (by (repeat first | rw [lookup_putF, if_neg (by decide +kernel)] | rw [lookup_putF, if_pos rfl])), _, rfl, dP, _, rfl, dg1, _, rfl, x, CP, dx, _, _, rfl, (hs _ _ hxH19), TP.cl, TP.nT, (by (repeat first | rw [lookup_putF, if_neg (by decide +kernel)] | rw [lookup_putF, if_pos rfl])), _, rfl, dT, _, rfl, dg2, xr, a, tt, len, L, p', N, rfl, ?_, ?_, ?_, fun d hd' => ?_, ?_, ?_, fun H' t D sN hN eD hT => ?_⟩
      · exact ((R14.keep tH19).keep SH19).keep hs
      · exact hs _ _ (SH19 _ _ (kH19 _ _ (kH18 _ _ (kH17 _ _ (kH16 _ _ hPA)))))
      · exact hs _ _ (SH19 _ _ hN1)
      · exact hs _ _ (SH19 _ _ (hT1 d hd'))
      · rw [eN1]
        exact nums_strip _ _ _
      · have h1 : (tris N).length = (stripF p' (factorOf (grainTo (pcs M)) p') (cuesC L)).length := congrArg List.length eN1
        have h2 := strip_len p' (factorOf (grainTo (pcs M)) p') (cuesC L)
        rw [List.length_map] at h1 h2
        omega
      rw [eN1] at eD
      exact ⟨kvs, Sum.inr z, rfl, sN _ _ hd, few12 hl hi12, dict_next GD.kt hdQ hs hd hl hall sN hz ⟨p', hp, en, t, D, rfl, hN, eD, hT⟩⟩
    rintro H19c ⟨scH19, ks, hd, _, hall⟩
    have dkdQ : DictN (GD (pcs M) (fun p => sendsF p (cuesC L) (stripF p (factorOf (grainTo (pcs M)) p) (cuesC L)))) ((pcs M).map (·.nm)) H19c dQ := ⟨ks, hd, fun y hy => hall y (tkN y hy)⟩
    have hxH19c := scH19 _ _ hxH19
    refine ⟨_, rfl, x, CP, dx, _, rfl, hxH19c, TP.cl, TP.nZ, (Nat.lt_of_lt_of_le (few1 (few1 (few1 (few1 (few1 (few1 (few1 (few1 (few1 (few1 (few1 (few1 Nat.zero_lt_one)))))))))))) (by decide)), ?_⟩
    generalize hgH20 : upd H19c x (.ins CP dx (putF "_sends" (.ref dQ) (putF "_strips" (.ref dT) (putF "_behind" (.ref dB) (putF "_shown" (.ref dS) (putF "_factors" (.ref dF) (putF "_pieces" (.ref dP) (putF "_grain" (.int (grainTo (pcs M))) (putF "ends" (.ref et) (putF "starts" (.ref st) (putF "arrows" (.ref at2) (putF "_names" (.ref nt) (putF "pieces" (.ref pt) (putF "reel" (.ref xr) [])))))))))))))) = H20
    have hxH20 : H20 x = some (.ins CP dx (putF "_sends" (.ref dQ) (putF "_strips" (.ref dT) (putF "_behind" (.ref dB) (putF "_shown" (.ref dS) (putF "_factors" (.ref dF) (putF "_pieces" (.ref dP) (putF "_grain" (.int (grainTo (pcs M))) (putF "ends" (.ref et) (putF "starts" (.ref st) (putF "arrows" (.ref at2) (putF "_names" (.ref nt) (putF "pieces" (.ref pt) (putF "reel" (.ref xr) [])))))))))))))) := by rw [← hgH20]; exact upd_same
    have erH20 : rest x H20 = rest x H19c := by rw [← hgH20]; exact rest_upd x _ _
    have ddQ : DictN (GD (pcs M) (fun p => sendsF p (cuesC L) (stripF p (factorOf (grainTo (pcs M)) p) (cuesC L)))) ((pcs M).map (·.nm)) (rest x H20) dQ := by rw [erH20]; exact dkdQ.rest GD.kt hxH19c
    have kH20 : Same (rest x H19) (rest x H20) := by rw [erH20]; exact rest_same scH19
    have SH20 := rest_le x H20
    have tH20 : Same (rest x H14) (rest x H20) := tH19.trans kH20
    have uP := (((((ddP.keep GP.kt kH16).keep GP.kt kH17).keep GP.kt kH18).keep GP.kt kH19).keep GP.kt kH20).keep GP.kt SH20
    have uF := ((((ddF.keep GI.kt kH17).keep GI.kt kH18).keep GI.kt kH19).keep GI.kt kH20).keep GI.kt SH20
    have uS := (((ddS.keep GI.kt kH18).keep GI.kt kH19).keep GI.kt kH20).keep GI.kt SH20
    have uB := ((ddB.keep GB.kt kH19).keep GB.kt kH20).keep GB.kt SH20
    have uT := (ddT.keep GT.kt kH20).keep GT.kt SH20
    have uQ := ddQ.keep GD.kt SH20
    have T20 := tH20.trans SH20
    have nin : ∀ p ∈ pcs M, p.nm ∈ (pcs M).map (·.nm) := fun p hp => List.mem_map.mpr ⟨p, hp, rfl⟩
    refine q H20 (kb_rest (q12.trans (r14.trans tH20))) ⟨dx, xr, pt, nt, at2, st, et, dP, dF, dS, dB, dT, dQ, hxH20, ?_⟩
    exact {
      reel := R14.keep T20
      good := fun p hp => by
        obtain ⟨e, he, rfl⟩ := List.mem_map.mp hp
        exact (hM e he).2
      few := by rw [List.length_map]; exact ⟨lM1, lM12⟩
      one := nd
      pieces := ⟨M2, T20 _ _ pt14, ep, fun e he => (P14 e he).keep T20⟩
      names := T20 _ _ nt14
      arrows := ⟨A2, T20 _ _ at14, eA, fun e he => ((A12 e he).keep r14).keep T20⟩
      ends := fun a ha => by
        obtain ⟨d, hd, rfl⟩ := List.mem_map.mp ha
        exact (hA d hd).2
      starts := T20 _ _ (r14 _ _ st12)
      lasts := T20 _ _ (r14 _ _ et12)
      kP := by
        obtain ⟨ks, h1, h2⟩ := uP
        refine ⟨ks, h1, fun p hp => ?_⟩
        obtain ⟨v, hv, p', hp', en, a, rfl, hPA⟩ := h2 p.nm (nin p hp)
        obtain rfl : p' = p := by_name nd hp hp' en
        exact ⟨a, hv, hPA⟩
      kF := by
        obtain ⟨ks, h1, h2⟩ := uF
        refine ⟨ks, h1, fun p hp => ?_⟩
        obtain ⟨v, hv, p', hp', en, rfl⟩ := h2 p.nm (nin p hp)
        obtain rfl : p' = p := by_name nd hp hp' en
        exact hv
      kS := by
        obtain ⟨ks, h1, h2⟩ := uS
        refine ⟨ks, h1, fun p hp => ?_⟩
        obtain ⟨v, hv, p', hp', en, rfl⟩ := h2 p.nm (nin p hp)
        obtain rfl : p' = p := by_name nd hp hp' en
        exact hv
      kB := by
        obtain ⟨ks, h1, h2⟩ := uB
        refine ⟨ks, h1, fun p hp => ?_⟩
        obtain ⟨v, hv, a, ys, rfl, h3, h4, h5⟩ := h2 p.nm (nin p hp)
        exact ⟨a, ys, hv, h3, h4, h5⟩
      kT := by
        obtain ⟨ks, h1, h2⟩ := uT
        refine ⟨ks, h1, fun p hp => ?_⟩
        obtain ⟨v, hv, p', hp', en, a, N, rfl, h3, h4, h5⟩ := h2 p.nm (nin p hp)
        obtain rfl : p' = p := by_name nd hp hp' en
        exact ⟨a, N, hv, h3, h4, h5⟩
      kQ := by
        obtain ⟨ks, h1, h2⟩ := uQ
        refine ⟨ks, h1, fun p hp => ?_⟩
        obtain ⟨v, hv, p', hp', en, a, N, rfl, h3, h4, h5⟩ := h2 p.nm (nin p hp)
        obtain rfl : p' = p := by_name nd hp hp' en
        exact ⟨a, N, hv, h3, h4, h5⟩ }
end
end Sea
namespace Sea
open PySem PySem.Spec PyProof.Rows L2
def hasV (ns : List Str) : V → Bool
  | .str z => decide (z ∈ ns)
  | _ => false
def spHas (CP CR : Addr) : Sp := fun vs H Q _ => ∃ (x : Addr) (v : V) (len : Int) (L : List (Addr × Cue)) (ps : List Piece) (as : List (Str × Str)) (ss es : List Str), vs = [.ref x, v] ∧ PlanAt H CR CP x len L ps as ss es ∧ AnyV H v ∧ Q (.bl (hasV (ps.map (·.nm)) v)) H
/-- in by the plan's own __contains__ -/
structure OwnC (P : Program) (w : World) (K : PySem.W.Frag) (mg : Str → Option Value) (base : Heap) (CP CR : Addr) : Prop where
  ex : ∃ (fC : Addr) (fd : FuncData), FnOk P w K mg base CX0 1 fC fd ["self", "x"] (spHas CP CR) ∧ PySem.W.findIn K (.ref CP) "__contains__" = some (some (.ref fC)) ∧ PySem.W.isFn K (.ref fC) = true ∧ Binds K fd ["self", "x"] []
def spShown (CP CR : Addr) : Sp := fun vs H Q _ => ∃ (x : Addr) (len : Int) (L : List (Addr × Cue)) (ps : List Piece) (as : List (Str × Str)) (ss es : List Str) (p : Piece), vs = [.ref x, .str p.nm] ∧ PlanAt H CR CP x len L ps as ss es ∧
  p ∈ ps ∧ Q (.int (shownOf (grainTo ps) p)) H
def spStripOf (CP CR : Addr) : Sp := fun vs H Q _ => ∃ (x : Addr) (len : Int) (L : List (Addr × Cue)) (ps : List Piece) (as : List (Str × Str)) (ss es : List Str) (p : Piece), vs = [.ref x, .str p.nm] ∧ PlanAt H CR CP x len L ps as ss es ∧
  p ∈ ps ∧ ∀ (a : Addr) (N : List (Addr × Tri)), H a = some (.tup (refsT N)) → tris N = stripF p (factorOf (grainTo ps) p) (cuesC L) → (∀ e ∈ N, TAt H e) → Q (.ref a) H
theorem plan_names (v1 v2 v3 v4 v5 v6 v7 v8 v9 v10 v11 v12 v13 : V) : (planF v1 v2 v3 v4 v5 v6 v7 v8 v9 v10 v11 v12 v13).lookup ("_names" : Str) = some v3 := by unfold planF; (repeat first | rw [lookup_putF, if_neg (by decide +kernel)] | rw [lookup_putF, if_pos rfl])
theorem plan_shown (v1 v2 v3 v4 v5 v6 v7 v8 v9 v10 v11 v12 v13 : V) : (planF v1 v2 v3 v4 v5 v6 v7 v8 v9 v10 v11 v12 v13).lookup ("_shown" : Str) = some v10 := by unfold planF; (repeat first | rw [lookup_putF, if_neg (by decide +kernel)] | rw [lookup_putF, if_pos rfl])
theorem plan_strips (v1 v2 v3 v4 v5 v6 v7 v8 v9 v10 v11 v12 v13 : V) : (planF v1 v2 v3 v4 v5 v6 v7 v8 v9 v10 v11 v12 v13).lookup ("_strips" : Str) = some v12 := by unfold planF; (repeat first | rw [lookup_putF, if_neg (by decide +kernel)] | rw [lookup_putF, if_pos rfl])
section
variable {P : Program} {w : World} {K : PySem.W.Frag} {mg : Str → Option Value} {base : Heap} {CR CP fR fP : Addr}
theorem ok_has {f : Addr} {fd : FuncData} (F : Fun K "__contains__" "Plan.__contains__" s_Plan___contains__ f fd) (TP : PlC K mg CP fP) (m_isinstance : mg "isinstance" = none) (m_str : mg "str" = none) :
    FnOk P w K mg base CX0 1 f fd ["self", "x"] (spHas CP CR) := by
  refine F.ok sc_Plan___contains__ (fun vs H Q E h => ?_) (fun cdv A outer s H vs Q E hr h => ?_)
  · obtain ⟨x, v, len, L, ps, as, ss, es, rfl, _⟩ := h
    rfl
  · obtain ⟨x, v, len, L, ps, as, ss, es, rfl, hP, hany, q⟩ := h
    refine ⟨_, (pss_one (ps_ret (pe_and (pe_callB call_isi (by rfl) m_isinstance (by decide +kernel) (pa_cons (pv 1) (pa_cons (pe_bltn (v := .ty "str") (by rfl) m_str (by decide +kernel) rfl) pa_nil))) (pe_one (pe_cmpR op_in_seq (pv 1) (pe_fld (pv 0) rfl) rfl))))), ?_⟩
    cases v with
    | int i => exact ⟨_, rfl, _, _, _, _, false, rfl, .ty _, .base (.int i), kit_ty (by decide +kernel), false, rfl, q⟩
    | bl b => exact ⟨_, rfl, _, _, _, _, false, rfl, .ty _, .base (.bl b), kit_ty (by decide +kernel), false, rfl, q⟩
    | non => exact ⟨_, rfl, _, _, _, _, false, rfl, .ty _, .base .non, kit_ty (by decide +kernel), false, rfl, q⟩
    | ref a =>
      rcases hany with hp | ⟨a', xs, ea, hl | hl⟩
      · exact hp.elim
      · cases ea
        exact ⟨_, rfl, _, _, _, _, false, rfl, .ty _, .base (.lst hl), kit_ty (by decide +kernel), false, rfl, q⟩
      · cases ea
        exact ⟨_, rfl, _, _, _, _, false, rfl, .ty _, .base (.tup hl), kit_ty (by decide +kernel), false, rfl, q⟩
    | byt z => rcases hany with hp | ⟨a', xs, ea, _⟩ <;> first | exact hp.elim | cases ea
    | flt z => rcases hany with hp | ⟨a', xs, ea, _⟩ <;> first | exact hp.elim | cases ea
    | ty z => rcases hany with hp | ⟨a', xs, ea, _⟩ <;> first | exact hp.elim | cases ea
    | str z =>
      obtain ⟨dx, xr, pt, nt, at', st, et, dP, dF, dS, dB, dT, dQ, hx, B⟩ := hP
      refine ⟨_, rfl, _, _, _, _, true, rfl, .ty _, .base (.str z), kit_ty (by decide +kernel), true, rfl, ?_⟩
      refine iteT ⟨_, rfl, _, rfl, x, CP, dx, _, _, rfl, hx, TP.cl, TP.nN, plan_names .., nt, _, rfl, .inr (SqT.of B.names), rfl, flat_strs _, ?_⟩
      rw [inV_strs]
      exact q
theorem ok_shown {f : Addr} {fd : FuncData} (F : Fun K "shown_of" "Plan.shown_of" s_Plan_shown_of f fd) (TP : PlC K mg CP fP) (C : OwnC P w K mg base CP CR) : FnOk P w K mg base CX0 2 f fd ["self", "name"] (spShown CP CR) := by
  obtain ⟨fC, fdC, OC, hs, hf, hb⟩ := C.ex
  refine F.ok sc_Plan_shown_of (fun vs H Q E h => ?_) (fun cdv A outer s H vs Q E hr h => ?_)
  · obtain ⟨x, len, L, ps, as, ss, es, p, rfl, _⟩ := h
    rfl
  · obtain ⟨x, len, L, ps, as, ss, es, p, rfl, hP, hp, q⟩ := h
    obtain ⟨dx, xr, pt, nt, at', st, et, dP, dF, dS, dB, dT, dQ, hx, B⟩ := id hP
    obtain ⟨ks, hd, hk⟩ := B.kS
    refine ⟨_, (pss_cons (ps_if (pt_cmpR (op_ownNotIn OC hr (Nat.le_refl _) hs hf hb) (pv 1) (pv 0) rfl)
    (pss_one ps_never)
    pss_nil)
    (pss_one (ps_ret (pe_dget (hu_of hr) (pe_fld (pv 0) rfl) (pv 1) (fun _ _ => rfl))))), ?_⟩
    refine ⟨_, rfl, _, rfl, x, dx, _, rfl, hx, x, .str p.nm, len, L, ps, as, ss, es, rfl, hP, .inl trivial, _, rfl, _, rfl, ?_⟩
    show (if (!decide (p.nm ∈ ps.map (·.nm))) = true then _ else _)
    rw [decide_eq_true (List.mem_map.mpr ⟨p, hp, rfl⟩)]
    have dg : DGet H dS (V.str p.nm) (some (.int (shownOf (grainTo ps) p))) := hk p hp ▸ DGet.k (k := Sum.inr p.nm) hd
    exact ⟨_, rfl, x, CP, dx, _, _, rfl, hx, TP.cl, TP.nH, plan_shown .., _, rfl, dS, _, rfl, dg, q⟩
theorem ok_strip_of {f : Addr} {fd : FuncData} (F : Fun K "strip_of" "Plan.strip_of" s_Plan_strip_of f fd) (TP : PlC K mg CP fP) (C : OwnC P w K mg base CP CR) : FnOk P w K mg base CX0 2 f fd ["self", "name"] (spStripOf CP CR) := by
  obtain ⟨fC, fdC, OC, hs, hf, hb⟩ := C.ex
  refine F.ok sc_Plan_strip_of (fun vs H Q E h => ?_) (fun cdv A outer s H vs Q E hr h => ?_)
  · obtain ⟨x, len, L, ps, as, ss, es, p, rfl, _⟩ := h
    rfl
  · obtain ⟨x, len, L, ps, as, ss, es, p, rfl, hP, hp, q⟩ := h
    obtain ⟨dx, xr, pt, nt, at', st, et, dP, dF, dS, dB, dT, dQ, hx, B⟩ := id hP
    obtain ⟨ks, hd, hk⟩ := B.kT
    obtain ⟨a, N, hv, ha, eN, hN⟩ := hk p hp
    refine ⟨_, (pss_cons (ps_if (pt_cmpR (op_ownNotIn OC hr (Nat.le_refl _) hs hf hb) (pv 1) (pv 0) rfl)
    (pss_one ps_never)
    pss_nil)
    (pss_one (ps_ret (pe_dget (hu_of hr) (pe_fld (pv 0) rfl) (pv 1) (fun _ _ => rfl))))), ?_⟩
    refine ⟨_, rfl, _, rfl, x, dx, _, rfl, hx, x, .str p.nm, len, L, ps, as, ss, es, rfl, hP, .inl trivial, _, rfl, _, rfl, ?_⟩
    show (if (!decide (p.nm ∈ ps.map (·.nm))) = true then _ else _)
    rw [decide_eq_true (List.mem_map.mpr ⟨p, hp, rfl⟩)]
    have dg : DGet H dT (V.str p.nm) (some (.ref a)) := hv ▸ DGet.k (k := Sum.inr p.nm) hd
    exact ⟨_, rfl, x, CP, dx, _, _, rfl, hx, TP.cl, TP.nT, plan_strips .., _, rfl, dT, _, rfl, dg, q a N ha eN hN⟩
end
end Sea
namespace Sea
open PySem PySem.Spec PyProof.Rows L2
/-- the method m of the class at C keeps sp, and raises nothing -/
def MCal (P : Program) (w : World) (K : PySem.W.Frag) (mg : Str → Option Value) (base : Heap) (k : Nat) (C : Addr) (m : Str) (sp : Sp) : Prop :=
  ∃ (f : Addr) (fd : FuncData) (ps : List Str), FnOk P w K mg base CX0 k f fd ps sp ∧ Meth K C m f ∧ Binds K fd ps []
section
variable {X : Cx} {sp : Sp} {k j : Nat} {C : Addr} {m : Str} {o e : Expr} {es : List Expr} {ta : TE} {t : TA} {apos pos : Pos}
theorem pe_mc {pl : Sem Bool} (he : PE X o ta) (c : Cls X.K C) (M : MCal X.prog X.w X.K X.mg X.base k C m sp) (hr : Room j X.A) (hk : k ≤ j) (ha : PA X (e :: es) t)
    (hst : starEach (e :: es) X.env = (false, eval e X.env) :: starEach es X.env := by rfl) (hpl : (backTo pos (starEach es X.env)).any (·.1) = false := by rfl)
    (ht : eval (.Call (.Attribute o m apos) (e :: es) [] pos) X.env = (do
      let ov ← eval o X.env
      standAt apos.atName
      let (f, first) ← holding [ov] (getMethod ov m pl)
      callWith pos f first (backTo pos (starEach (e :: es) X.env)) (backToKw pos (keywordEach [] X.env))) := by rfl) :
    PE X (.Call (.Attribute o m apos) (e :: es) [] pos) (tMeth C m sp [] E0 ta t) := by
  obtain ⟨f, fd, ps, F, hm, b⟩ := M
  exact pe_meth he c hm F (hr.mono hk) b .nil pass0 ha hst hpl ht
end
end Sea
namespace Sea
open PySem PySem.Spec PyProof.Rows L2
def addTri (b : Int) (told : List Tri) (t : Tri) : List Tri :=
  match told.getLast? with
  | some l => if t.2.1 = 0 ∧ l.1 = t.1 ∧ l.2.2 = b then told.dropLast ++ [(t.1, l.2.1, b + t.2.2)] else told ++ [(t.1, b + t.2.1, b + t.2.2)]
  | none => told ++ [(t.1, b + t.2.1, b + t.2.2)]
theorem addTri_nil (b : Int) (t : Tri) : addTri b [] t = [(t.1, b + t.2.1, b + t.2.2)] := rfl
theorem addTri_snoc (b : Int) (told : List Tri) (l t : Tri) : addTri b (told ++ [l]) t = if t.2.1 = 0 ∧ l.1 = t.1 ∧ l.2.2 = b then told ++ [(t.1, l.2.1, b + t.2.2)] else told ++ [l] ++ [(t.1, b + t.2.1, b + t.2.2)] := by
  unfold addTri
  rw [List.getLast?_concat, List.dropLast_concat]
/-- row: strips and lengths of its pieces -/
def rowStep (acc : List Tri × Int) (p : List Tri × Int) : List Tri × Int := (p.1.foldl (addTri acc.2) acc.1, acc.2 + p.2)
def rowShow (ps : List (List Tri × Int)) : List Tri × Int := ps.foldl rowStep ([], 0)
theorem rowShow_snoc (ps : List (List Tri × Int)) (p : List Tri × Int) : rowShow (ps ++ [p]) = rowStep (rowShow ps) p := by
  unfold rowShow
  rw [List.foldl_append]
  rfl
theorem foldl_snoc {α β : Type} (f : α → β → α) (a : α) (l : List β) (b : β) : (l ++ [b]).foldl f a = f (l.foldl f a) b := by
  rw [List.foldl_append]
  rfl
abbrev pieceRow (ps : List Piece) (cs : List Cue) (p : Piece) : List Tri × Int := (stripF p (factorOf (grainTo ps) p) cs, shownOf (grainTo ps) p)
theorem ixN_last (n : Nat) : ixN (n + 1) (-1) = some n := by
  unfold ixN
  rw [if_neg (by decide), if_pos (by omega)]
  congr 1
  omega
theorem refsT_app (a b : List (Addr × Tri)) : refsT (a ++ b) = refsT a ++ refsT b := List.map_append
theorem tris_app (a b : List (Addr × Tri)) : tris (a ++ b) = tris a ++ tris b := List.map_append
theorem plan_no_strip (v1 v2 v3 v4 v5 v6 v7 v8 v9 v10 v11 v12 v13 : V) : (planF v1 v2 v3 v4 v5 v6 v7 v8 v9 v10 v11 v12 v13).lookup ("strip_of" : Str) = none := by unfold planF; (repeat first | rw [lookup_putF, if_neg (by decide +kernel)] | rw [lookup_putF, if_pos rfl]); rfl
theorem plan_no_shown (v1 v2 v3 v4 v5 v6 v7 v8 v9 v10 v11 v12 v13 : V) : (planF v1 v2 v3 v4 v5 v6 v7 v8 v9 v10 v11 v12 v13).lookup ("shown_of" : Str) = none := by unfold planF; (repeat first | rw [lookup_putF, if_neg (by decide +kernel)] | rw [lookup_putF, if_pos rfl]); rfl
def spRowShow (CP CR : Addr) : Sp := fun vs H Q _ => ∃ (x ra : Addr) (len : Int) (L : List (Addr × Cue)) (ps : List Piece) (as : List (Str × Str)) (ss es : List Str) (rs : List Piece), vs = [.ref x, .ref ra] ∧ PlanAt H CR CP x len L ps as ss es ∧ L.length ≤ 100 ∧
  H ra = some (.tup ((rs.map (·.nm)).map V.str)) ∧ (∀ p ∈ rs, p ∈ ps) ∧ rs.length ≤ 400 ∧
  ∀ (H' : Hp) (t : Addr) (N : List (Addr × Tri)), Same H H' → H' t = some (.tup (refsT N)) → tris N = (rowShow (rs.map (pieceRow ps (cuesC L)))).1 → (∀ e ∈ N, TAt H' e) → Q (.ref t) H'
section
variable {P : Program} {w : World} {K : PySem.W.Frag} {mg : Str → Option Value} {base : Heap} {CR CP fR fP : Addr}
theorem ok_row_showings {f : Addr} {fd : FuncData} (F : Fun K "row_showings" "row_showings" s_row_showings f fd) (TP : PlC K mg CP fP) (m_len : mg "len" = none) (m_tuple : mg "tuple" = none) (M_strip_of : MCal P w K mg base 2 CP "strip_of" (spStripOf CP CR)) (M_shown_of : MCal P w K mg base 2 CP "shown_of" (spShown CP CR)) :
    FnOk P w K mg base CX0 3 f fd ["plan", "names"] (spRowShow CP CR) := by
  refine F.ok sc_row_showings (fun vs H Q E h => ?_) (fun cdv A outer s H vs Q E hr h => ?_)
  · obtain ⟨x, ra, len, L, ps, as, ss, es, rs, rfl, _⟩ := h
    rfl
  · obtain ⟨x, ra, len, L, ps, as, ss, es, rs, rfl, hP, l100, hra, hrs, r400, q⟩ := h
    refine ⟨_, (pss_cons (ps_set (i := 2) sc_row_showings.nd rfl (Or.inl rfl) (pe_lst pa_nil))
    (pss_cons (ps_set (i := 3) sc_row_showings.nd rfl (Or.inl rfl) (pe_int))
    (pss_cons (ps_for PassesOwn.never rfl (pi_tup (pv 1)) (pg_name (i := 4) sc_row_showings.nd rfl (Or.inl rfl))
    (pss_cons (ps_for PassesOwn.never rfl (pi_tup (pe_mc (pv 0) TP.cl M_strip_of hr (Nat.le_refl _) (pa_cons (pv 4) pa_nil))) (pg_tup rfl (pgs_cons (pg_name (i := 5) sc_row_showings.nd rfl (Or.inl rfl)) (pgs_cons (pg_name (i := 6) sc_row_showings.nd rfl (Or.inl rfl)) (pgs_cons (pg_name (i := 7) sc_row_showings.nd rfl (Or.inl rfl)) pgs_nil))))
    (pss_one (ps_if (PW.pt (pw_and (pt_cmpR op_eq (pv 6) (pe_int) (nomark _)) (pw_and (pt_cmpR op_gt (pe_callB call_len (by rfl) m_len (by decide +kernel) (pa_cons (pv 2) pa_nil)) (pe_int) (nomark _)) (pw_and (pt_cmpR op_eq (pe_ix ix_tup (pe_ix ix_list (pv 2) (pe_un un_neg (pe_int)) (fun _ _ => rfl)) (pe_int) (fun _ _ => rfl)) (pv 5) (nomark _)) (pw_and1 (pt_cmpR op_eq (pe_ix ix_tup (pe_ix ix_list (pv 2) (pe_un un_neg (pe_int)) (fun _ _ => rfl)) (pe_int) (fun _ _ => rfl)) (pv 3) (nomark _)))))))
    (pss_one (ps_asg (pe_tup (pa_cons (pv 5) (pa_cons (pe_ix ix_tup (pe_ix ix_list (pv 2) (pe_un un_neg (pe_int)) (fun _ _ => rfl)) (pe_int) (fun _ _ => rfl)) (pa_cons (pe_op op_add (pv 3) (pv 7)) pa_nil)))) (pg_sub (pv 2) (pe_un un_neg (pe_int)) set_list)))
    (pss_one (ps_expr (pe_bm PySem.F.plainAttrs_list PySem.F.slot_list_append PySem.F.type_list_append mt_append (pv 2) (pa_cons (pe_tup (pa_cons (pv 5) (pa_cons (pe_op op_add (pv 3) (pv 6)) (pa_cons (pe_op op_add (pv 3) (pv 7)) pa_nil)))) pa_nil)))))))
    (pss_one (ps_aug (i := 3) sc_row_showings.nd rfl (Or.inl rfl) (pe_mc (pv 0) TP.cl M_shown_of hr (Nat.le_refl _) (pa_cons (pv 4) pa_nil)) ip_add))))
    (pss_one (ps_ret (pe_callTy call_tuple_of (by rfl) m_tuple (by decide +kernel) (pa_cons (pv 2) pa_nil))))))), ?_⟩
    refine ⟨Nat.zero_le _, fun D hD => ?_⟩
    have sD := same_new (o := .lst []) hD
    refine ⟨_, rfl, ra, rfl, ⟨_, SqT.of (sD _ _ hra)⟩, ?_⟩
    refine for_it walk_tup (fun i σ H' => (∃ k4 k5 k6 k7 : Option V, σ = [some (.ref x), some (.ref ra), some (.ref D), some (.int (rowShow ((rs.take i).map (pieceRow ps (cuesC L)))).2), k4, k5, k6, k7]) ∧ Same H H' ∧ ∃ N : List (Addr × Tri), H' D = some (.lst (refsT N)) ∧ tris N = (rowShow ((rs.take i).map (pieceRow ps (cuesC L)))).1 ∧ (∀ e ∈ N, TAt H' e) ∧ N.length ≤ 100 * i)
      ⟨⟨_, _, _, _, rfl⟩, sD, [], upd_same, rfl, (fun _ h => nomatch h), Nat.zero_le _⟩ (fun i σ H' _ hv => SqT.of (hv.2.1 _ _ hra)) ?_ ?_
    · rintro i y σ Ha Hb hi ⟨⟨k4, k5, k6, k7, rfl⟩, hs, N, hd, hn, hN, lN⟩ ⟨rfl, hy⟩
      have hi' : i < rs.length := by rw [List.length_map, List.length_map] at hi; exact hi
      obtain ⟨p, hp, rfl⟩ : ∃ p, rs[i]? = some p ∧ y = V.str p.nm := by
        refine ⟨rs[i], List.getElem?_eq_getElem hi', ?_⟩
        rw [List.getElem?_map, List.getElem?_map, List.getElem?_eq_getElem hi'] at hy
        exact (Option.some.inj hy).symm
      have hpp := hrs p (List.mem_of_getElem? hp)
      have tk : (rs.take (i + 1)).map (pieceRow ps (cuesC L)) = (rs.take i).map (pieceRow ps (cuesC L)) ++ [pieceRow ps (cuesC L) p] := by
        rw [List.take_add_one, hp, List.map_append]
        rfl
      have hPa := hP.keep hs
      obtain ⟨dx, xr, pt, nt, at', st, et, dP, dF, dS, dB, dT, dQ, hx, B⟩ := id hPa
      refine ⟨_, rfl, x, dx, _, rfl, hx, plan_no_strip .., _, rfl, x, len, L, ps, as, ss, es, p, rfl, hPa, hpp, fun sa S hsa eS hS => ?_⟩
      refine ⟨sa, rfl, ⟨_, SqT.of hsa⟩, ?_⟩
      have lS : S.length ≤ 100 := by
        have h1 : (tris S).length = (stripF p (factorOf (grainTo ps) p) (cuesC L)).length := congrArg List.length eS
        have h2 := strip_len p (factorOf (grainTo ps) p) (cuesC L)
        rw [List.length_map] at h1 h2
        omega
      generalize hb : (rowShow ((rs.take i).map (pieceRow ps (cuesC L)))) = acc at hn ⊢
      refine for_it walk_tup (fun j σ H' => (∃ k5 k6 k7 : Option V, σ = [some (.ref x), some (.ref ra), some (.ref D), some (.int acc.2), some (.str p.nm), k5, k6, k7]) ∧ Same H H' ∧ KT Hb H' ∧ ∃ N : List (Addr × Tri), H' D = some (.lst (refsT N)) ∧ tris N = ((tris S).take j).foldl (addTri acc.2) acc.1 ∧ (∀ e ∈ N, TAt H' e) ∧ N.length ≤ 100 * i + j)
        ⟨⟨_, _, _, rfl⟩, hs, KT.refl _, N, hd, hn, hN, lN⟩ (fun j σ H' _ hv => SqT.of (hv.2.2.1 _ _ hsa)) ?_ ?_
      · rintro j y2 σ2 Hc Hd hj ⟨⟨k5, k6, k7, rfl⟩, hs2, kt2, N2, hd2, hn2, hN2, lN2⟩ ⟨rfl, hy2⟩
        obtain ⟨t, ht, rfl⟩ := ref_at hy2
        have tA := kt2 _ _ (hS t (List.mem_of_getElem? ht))
        have ht2 : (tris S)[j]? = some t.2 := by rw [List.getElem?_map, ht]; rfl
        have hj' : j < 100 := by have := (List.getElem?_eq_some_iff.mp ht).1; omega
        have tk2 : ((tris S).take (j + 1)).foldl (addTri acc.2) acc.1 = addTri acc.2 (tris N2) t.2 := by
          rw [List.take_add_one, ht2]
          show (_ ++ [t.2]).foldl _ _ = _
          rw [foldl_snoc, hn2]
        refine ⟨t.1, _, rfl, SqT.of tA, rfl, _, _, rfl, _, _, rfl, _, _, rfl, rfl, ?_⟩
        let Iv : Hp → Prop := fun H' => Same H H' ∧ KT Hb H' ∧ ∃ N : List (Addr × Tri), H' D = some (.lst (refsT N)) ∧ tris N = ((tris S).take (j + 1)).foldl (addTri acc.2) acc.1 ∧ (∀ e ∈ N, TAt H' e) ∧ N.length ≤ 100 * i + (j + 1)
        have gen : ∀ (T2 : Addr) (tr : Tri) (ys : List V) (N' : List (Addr × Tri)), Hd T2 = none → ys = refsT N' → tris N' = addTri acc.2 (tris N2) t.2 → (∀ d ∈ N', d ∈ N2 ∨ d = (T2, tr)) → N'.length ≤ N2.length + 1 → Iv (upd (upd Hd T2 (.tup (Tri.vs tr))) D (.lst ys)) := fun T2 tr ys N' h2 ey eN hm hl => by
          subst ey
          have sT2 := same_new (o := .tup (Tri.vs tr)) h2
          have ko : KT Hd (upd (upd Hd T2 (.tup (Tri.vs tr))) D (.lst (refsT N'))) := (KT.of_same sT2).over (sT2 _ _ hd2)
          refine ⟨fun b o hb => ?_, kt2.trans ko, N', upd_same, eN.trans tk2.symm, fun d hd' => ?_, by omega⟩
          · have nb : b ≠ D := ne_of_none hb hD
            rw [upd_ne nb]
            exact sT2 _ _ (hs2 _ _ hb)
          · rcases hm d hd' with h | h
            · exact ko _ _ (hN2 d h)
            · rw [h]
              exact ((KT.refl (upd Hd T2 (.tup (Tri.vs tr)))).over (zs := refsT N') (sT2 _ _ hd2)) _ _ upd_same
        have app : addTri acc.2 (tris N2) t.2 = tris N2 ++ [(t.2.1, acc.2 + t.2.2.1, acc.2 + t.2.2.2)] → ∀ T2, Hd T2 = none → Iv (upd (upd Hd T2 (.tup [V.int t.2.1, V.int (acc.2 + t.2.2.1), V.int (acc.2 + t.2.2.2)])) D (.lst (refsT N2 ++ [V.ref T2]))) := fun ea T2 h2 =>
          gen T2 (t.2.1, acc.2 + t.2.2.1, acc.2 + t.2.2.2) _ (N2 ++ [(T2, (t.2.1, acc.2 + t.2.2.1, acc.2 + t.2.2.2))]) h2 (by rw [refsT_app]; rfl) (by rw [ea, tris_app]; rfl) (fun d hd' => by
            rcases List.mem_append.mp hd' with h | h
            · exact .inl h
            · exact .inr (List.mem_singleton.mp h)) (by rw [List.length_append]; exact Nat.le_refl _)
        refine ⟨_, rfl, rfl, _, rfl, ite2 (fun h1 => ?_) (fun h1 => ?_)⟩
        · have h1 : t.2.2.1 = 0 := V.int.inj (of_decide_eq_true h1)
          refine ⟨_, rfl, _, N2.length, rfl, .inl ⟨_, SqL.of hd2, (List.length_map ..).symm⟩, _, _, rfl, rfl, _, rfl, ?_⟩
          rcases List.eq_nil_or_concat N2 with e | ⟨N3, l, e⟩
          · subst e
            exact ⟨_, rfl, .inl ⟨rfl, _, SqL.of hd2⟩, _, rfl, _, rfl, _, rfl, _, _, rfl, rfl, _, rfl, _, rfl, _, _, rfl, rfl, Nat.le_of_lt (small_line (by show 3 ≤ 100000; decide)), fun T2 hT2 => ⟨D, _, _, rfl, rfl, same_new (o := .tup _) hT2 _ _ hd2, small_line (by rw [List.length_map]; omega), ⟨_, _, _, rfl⟩, app (rfl) T2 hT2⟩⟩
          · rw [List.concat_eq_append] at e
            subst e
            have lA := hN2 l (List.mem_append_right _ (List.mem_singleton.mpr rfl))
            have hl : atI (refsT (N3 ++ [l])) (-1) = some (V.ref l.1) := by rw [refsT_app]; exact atI_last _ _
            have eT : tris (N3 ++ [l]) = tris N3 ++ [l.2] := tris_app ..
            rw [decide_eq_true (show (0 : Int) < (((N3 ++ [l]).length : Nat) : Int) by rw [List.length_append, List.length_cons]; omega)]
            refine iteT ⟨_, rfl, _, rfl, D, _, _, _, rfl, rfl, SqL.of hd2, hl, l.1, _, 0, _, rfl, rfl, SqT.of lA, atI_nat (j := 0) rfl, _, rfl, rfl, _, rfl, ite2 (fun h2 => ?_) (fun h2 => ?_)⟩
            · have h2 : l.2.1 = t.2.1 := V.int.inj (of_decide_eq_true h2)
              refine ⟨_, rfl, _, rfl, D, _, _, _, rfl, rfl, SqL.of hd2, hl, l.1, _, 2, _, rfl, rfl, SqT.of lA, atI_nat (j := 2) rfl, _, rfl, rfl, _, rfl, ite2 (fun h3 => ?_) (fun h3 => ?_)⟩
              · have h3 : l.2.2.2 = acc.2 := V.int.inj (of_decide_eq_true h3)
                refine ⟨_, rfl, _, rfl, _, rfl, D, _, _, _, rfl, rfl, SqL.of hd2, hl, l.1, _, 1, _, rfl, rfl, SqT.of lA, atI_nat (j := 1) rfl, _, rfl, _, rfl, _, _, rfl, rfl, Nat.le_of_lt (small_line (by show 3 ≤ 100000; decide)), fun T2 hT2 => ?_⟩
                have hd3 := same_new (o := .tup [V.int t.2.1, V.int l.2.2.1, V.int (acc.2 + t.2.2.2)]) hT2 _ _ hd2
                refine ⟨_, rfl, _, rfl, D, _, _, N3.length, rfl, rfl, hd3, ?_, ⟨_, _, _, rfl⟩, gen T2 (t.2.1, l.2.2.1, acc.2 + t.2.2.2) _ (N3 ++ [(T2, (t.2.1, l.2.2.1, acc.2 + t.2.2.2))]) hT2 ?_ ?_ (fun d hd' => ?_) ?_⟩
                · rw [List.length_map, List.length_append, List.length_cons, List.length_nil]
                  exact ixN_last _
                · rw [refsT_app, refsT_app]
                  show ((List.map _ N3) ++ [V.ref l.1]).set _ _ = _
                  rw [List.set_append_right _ _ (by rw [List.length_map]; exact Nat.le_refl _), List.length_map, Nat.sub_self]
                  rfl
                · rw [tris_app, eT, addTri_snoc, if_pos ⟨h1, h2, h3⟩]
                  rfl
                · rcases List.mem_append.mp hd' with h | h
                  · exact .inl (List.mem_append_left _ h)
                  · exact .inr (List.mem_singleton.mp h)
                · rw [List.length_append, List.length_append]
                  exact Nat.le_succ _
              · exact ⟨_, rfl, .inl ⟨rfl, _, SqL.of hd2⟩, _, rfl, _, rfl, _, rfl, _, _, rfl, rfl, _, rfl, _, rfl, _, _, rfl, rfl, Nat.le_of_lt (small_line (by show 3 ≤ 100000; decide)), fun T2 hT2 => ⟨D, _, _, rfl, rfl, same_new (o := .tup _) hT2 _ _ hd2, small_line (by rw [List.length_map]; omega), ⟨_, _, _, rfl⟩, app (by rw [eT, addTri_snoc, if_neg (fun q => h3 (decide_eq_true (congrArg V.int q.2.2)))]) T2 hT2⟩⟩
            · exact ⟨_, rfl, .inl ⟨rfl, _, SqL.of hd2⟩, _, rfl, _, rfl, _, rfl, _, _, rfl, rfl, _, rfl, _, rfl, _, _, rfl, rfl, Nat.le_of_lt (small_line (by show 3 ≤ 100000; decide)), fun T2 hT2 => ⟨D, _, _, rfl, rfl, same_new (o := .tup _) hT2 _ _ hd2, small_line (by rw [List.length_map]; omega), ⟨_, _, _, rfl⟩, app (by rw [eT, addTri_snoc, if_neg (fun q => h2 (decide_eq_true (congrArg V.int q.2.1)))]) T2 hT2⟩⟩
        · exact ⟨_, rfl, .inl ⟨rfl, _, SqL.of hd2⟩, _, rfl, _, rfl, _, rfl, _, _, rfl, rfl, _, rfl, _, rfl, _, _, rfl, rfl, Nat.le_of_lt (small_line (by show 3 ≤ 100000; decide)), fun T2 hT2 => ⟨D, _, _, rfl, rfl, same_new (o := .tup _) hT2 _ _ hd2, small_line (by rw [List.length_map]; omega), ⟨_, _, _, rfl⟩, app (by
          have n : ¬ t.2.2.1 = 0 := fun q => h1 (decide_eq_true (congrArg V.int q))
          unfold addTri
          split
          · exact if_neg fun q => n q.1
          · rfl) T2 hT2⟩⟩
      · rintro σ2 H2 ⟨⟨k5, k6, k7, rfl⟩, hs2, kt2, N2, hd2, hn2, hN2, lN2⟩
        have lr : (refsT S).length = (tris S).length := by rw [List.length_map, List.length_map]
        rw [lr, List.take_length] at hn2
        have hP2 := hP.keep hs2
        obtain ⟨dx, xr, pt, nt, at', st, et, dP, dF, dS, dB, dT, dQ, hx, B⟩ := id hP2
        refine ⟨_, rfl, _, rfl, x, dx, _, rfl, hx, plan_no_shown .., _, rfl, x, len, L, ps, as, ss, es, p, rfl, hP2, hpp, _, _, rfl, rfl, ⟨some (.str p.nm), k5, k6, k7, ?_⟩, hs2, N2, hd2, ?_, hN2, ?_⟩
        · rw [tk, rowShow_snoc, hb]
          rfl
        · rw [tk, rowShow_snoc, hb, hn2, eS]
          rfl
        · rw [List.length_map] at lN2
          omega
    · rintro σ H' ⟨⟨k4, k5, k6, k7, rfl⟩, hs, N, hd, hn, hN, lN⟩
      rw [show ((rs.map (·.nm)).map V.str).length = rs.length by rw [List.length_map, List.length_map], List.take_length] at hn
      refine ⟨_, rfl, D, _, rfl, .inl ⟨SqL.of hd, fun l hl => ?_⟩⟩
      have sl := same_new (o := .tup (refsT N)) hl
      exact q _ l N (hs.trans sl) upd_same hn fun e he => (hN e he).keep sl
end
end Sea
namespace Sea
open PySem PySem.Spec PyProof.Rows L2
/-- the screen from b to n on which these stretches are shown -/
def fill : Int → List Tri → Int → List (Option Int)
  | b, [], n => List.replicate (n - b).toNat none
  | b, t :: r, n => List.replicate (t.2.1 - b).toNat none ++ (List.replicate (t.2.2 - t.2.1).toNat (some t.1) ++ fill t.2.2 r n)
/-- in order, none empty -/
def WFs : Int → List Tri → Int → Prop
  | b, [], n => b ≤ n
  | b, t :: r, n => b ≤ t.2.1 ∧ t.2.1 < t.2.2 ∧ WFs t.2.2 r n
/-- no two of one cue touch -/
def Apart : List Tri → Prop
  | [] => True
  | [_] => True
  | t :: u :: r => (t.2.2 < u.2.1 ∨ t.1 ≠ u.1) ∧ Apart (u :: r)
def emit (x : Option Int) (u v : Int) : List Tri := match x with | some c => [(c, u, v)] | none => []
/-- the stretches with the same cue -/
def runsFrom : Int → Int → List (Option Int) → List Tri
  | _, _, [] => []
  | i, u, [x] => emit x u (i + 1)
  | i, u, x :: y :: r => if y ≠ x then emit x u (i + 1) ++ runsFrom (i + 1) (i + 1) (y :: r) else runsFrom (i + 1) u (y :: r)
theorem runs_block (x : Option Int) : ∀ (m : Nat) (i u : Int) (r : List (Option Int)), r.head? ≠ some x → runsFrom i u (List.replicate (m + 1) x ++ r) = emit x u (i + (m : Int) + 1) ++ runsFrom (i + (m : Int) + 1) (i + (m : Int) + 1) r
  | 0, i, u, [], _ => by
    show emit x u (i + 1) = emit x u (i + 0 + 1) ++ []
    rw [Int.add_zero, List.append_nil]
  | 0, i, u, y :: r, h => by
    have n : y ≠ x := fun e => h (by rw [e]; rfl)
    show (if y ≠ x then _ else _) = _
    rw [if_pos n]
    show _ = emit x u (i + 0 + 1) ++ runsFrom (i + 0 + 1) (i + 0 + 1) (y :: r)
    rw [Int.add_zero]
  | m + 1, i, u, r, h => by
    show (if x ≠ x then _ else runsFrom (i + 1) u (List.replicate (m + 1) x ++ r)) = _
    rw [if_neg (fun n => n rfl), runs_block x m (i + 1) u r h]
    have e : i + 1 + (m : Int) + 1 = i + ((m + 1 : Nat) : Int) + 1 := by omega
    rw [e]
theorem fill_head : ∀ {v : Int} {r : List Tri} {n c : Int}, WFs v r n → (∀ u ∈ r.head?, v < u.2.1 ∨ c ≠ u.1) → (fill v r n).head? ≠ some (some c)
  | v, [], n, c, _, _ => by
    unfold fill
    cases (n - v).toNat with
    | zero => exact fun e => by cases e
    | succ k => exact fun e => by cases e
  | v, t :: r, n, c, h, ap => by
    unfold fill
    cases e : (t.2.1 - v).toNat with
    | succ k => exact fun e => by cases e
    | zero =>
      have h1 := h.1
      have h2 := h.2.1
      obtain ⟨k, ek⟩ : ∃ k, (t.2.2 - t.2.1).toNat = k + 1 := ⟨(t.2.2 - t.2.1).toNat - 1, by omega⟩
      rw [ek]
      have := ap t rfl
      intro q
      have q : some (some t.1) = some (some c) := q
      have q := Option.some.inj (Option.some.inj q)
      rcases this with h3 | h3
      · omega
      · exact h3 q.symm
theorem runs_fill : ∀ {T : List Tri} {b n : Int}, WFs b T n → Apart T → runsFrom b b (fill b T n) = T
  | [], b, n, h, _ => by
    unfold fill
    cases e : (n - b).toNat with
    | zero => rfl
    | succ k =>
      have := runs_block none k b b [] (fun e => by cases e)
      rw [List.append_nil] at this
      rw [this]
      rfl
  | t :: r, b, n, h, ap => by
    obtain ⟨h1, h2, h3⟩ := h
    have apr : Apart r := by
      cases r with
      | nil => trivial
      | cons u r' => exact ap.2
    have hh : ∀ u ∈ r.head?, t.2.2 < u.2.1 ∨ t.1 ≠ u.1 := by
      cases r with
      | nil => exact fun _ h => nomatch h
      | cons u r' => exact fun w hw => by cases hw; exact ap.1
    have ih := runs_fill h3 apr
    obtain ⟨k, ek⟩ : ∃ k, (t.2.2 - t.2.1).toNat = k + 1 := ⟨(t.2.2 - t.2.1).toNat - 1, by omega⟩
    have body : runsFrom t.2.1 t.2.1 (List.replicate (k + 1) (some t.1) ++ fill t.2.2 r n) = t :: r := by
      rw [runs_block (some t.1) k t.2.1 t.2.1 _ (fill_head h3 hh), show t.2.1 + (k : Int) + 1 = t.2.2 by omega, ih]
      rfl
    unfold fill
    rw [ek]
    cases e : (t.2.1 - b).toNat with
    | zero =>
      have eb : b = t.2.1 := by omega
      rw [eb]
      exact body
    | succ m =>
      rw [runs_block none m b b _ (fun e => by cases e), show b + (m : Int) + 1 = t.2.1 by omega, body]
      rfl
end Sea
namespace Sea
open PySem PySem.Spec PyProof.Rows L2
theorem rep_split {α : Type} (x : α) {a b c : Int} (h1 : a ≤ b) (h2 : b ≤ c) : List.replicate (c - a).toNat x = List.replicate (b - a).toNat x ++ List.replicate (c - b).toNat x := by
  rw [List.replicate_append_replicate]
  congr 1
  omega
theorem fill_more : ∀ {T : List Tri} {a m n : Int}, WFs a T m → m ≤ n → WFs a T n ∧ fill a T n = fill a T m ++ List.replicate (n - m).toNat none
  | [], a, m, n, h, hn => by
    have h : a ≤ m := h
    exact ⟨Int.le_trans h hn, rep_split none h hn⟩
  | t :: r, a, m, n, h, hn => by
    obtain ⟨h1, h2, h3⟩ := h
    obtain ⟨i1, i2⟩ := fill_more h3 hn
    refine ⟨⟨h1, h2, i1⟩, ?_⟩
    show _ ++ (_ ++ fill t.2.2 r n) = (_ ++ (_ ++ fill t.2.2 r m)) ++ _
    rw [i2, List.append_assoc, List.append_assoc]
theorem fill_add {c u w : Int} (hw : u < w) : ∀ {T : List Tri} {a m : Int}, WFs a T m → m ≤ u → WFs a (T ++ [(c, u, w)]) w ∧ fill a (T ++ [(c, u, w)]) w = fill a T m ++ (List.replicate (u - m).toNat none ++ List.replicate (w - u).toNat (some c))
  | [], a, m, h, hu => by
    have h : a ≤ m := h
    refine ⟨⟨Int.le_trans h hu, hw, Int.le_refl _⟩, ?_⟩
    show List.replicate (u - a).toNat none ++ (List.replicate (w - u).toNat (some c) ++ List.replicate (w - w).toNat none) = List.replicate (m - a).toNat none ++ _
    rw [Int.sub_self, show ((0 : Int).toNat) = 0 from rfl, List.replicate_zero, List.append_nil, rep_split none h hu, List.append_assoc]
  | t :: r, a, m, h, hu => by
    obtain ⟨h1, h2, h3⟩ := h
    obtain ⟨i1, i2⟩ := fill_add hw h3 hu
    refine ⟨⟨h1, h2, i1⟩, ?_⟩
    show _ ++ (_ ++ fill t.2.2 (r ++ [(c, u, w)]) w) = (_ ++ (_ ++ fill t.2.2 r m)) ++ _
    rw [i2, List.append_assoc, List.append_assoc]
theorem fill_ext {c s m w : Int} (hw : m < w) : ∀ {T : List Tri} {a : Int}, WFs a (T ++ [(c, s, m)]) m → WFs a (T ++ [(c, s, w)]) w ∧ fill a (T ++ [(c, s, w)]) w = fill a (T ++ [(c, s, m)]) m ++ List.replicate (w - m).toNat (some c)
  | [], a, h => by
    obtain ⟨h1, h2, _⟩ := h
    have h1 : a ≤ s := h1
    have h2 : s < m := h2
    refine ⟨⟨h1, (by show s < w; omega), Int.le_refl _⟩, ?_⟩
    show List.replicate (s - a).toNat none ++ (List.replicate (w - s).toNat (some c) ++ List.replicate (w - w).toNat none) = (List.replicate (s - a).toNat none ++ (List.replicate (m - s).toNat (some c) ++ List.replicate (m - m).toNat none)) ++ _
    rw [Int.sub_self, Int.sub_self, show ((0 : Int).toNat) = 0 from rfl, List.replicate_zero, List.append_nil, List.append_nil, rep_split (some c) (Int.le_of_lt h2) (Int.le_of_lt hw), List.append_assoc]
  | t :: r, a, h => by
    obtain ⟨h1, h2, h3⟩ := h
    obtain ⟨i1, i2⟩ := fill_ext hw h3
    refine ⟨⟨h1, h2, i1⟩, ?_⟩
    show _ ++ (_ ++ fill t.2.2 (r ++ [(c, s, w)]) w) = (_ ++ (_ ++ fill t.2.2 (r ++ [(c, s, m)]) m)) ++ _
    rw [i2, List.append_assoc, List.append_assoc]
theorem apart_snoc {x : Tri} : ∀ {T : List Tri}, Apart T → (∀ l, T.getLast? = some l → l.2.2 < x.2.1 ∨ l.1 ≠ x.1) → Apart (T ++ [x])
  | [], _, _ => trivial
  | [t], _, h => ⟨h t rfl, trivial⟩
  | t :: u :: r, h, hl => ⟨h.1, apart_snoc (T := u :: r) h.2 fun l e => hl l (by rw [List.getLast?_cons_cons]; exact e)⟩
theorem apart_ext {c s m w : Int} : ∀ {T : List Tri}, Apart (T ++ [(c, s, m)]) → Apart (T ++ [(c, s, w)])
  | [], _ => trivial
  | [t], h => ⟨h.1, trivial⟩
  | t :: u :: r, h => ⟨h.1, apart_ext (T := u :: r) h.2⟩
theorem wf_last : ∀ {T : List Tri} {a n : Int}, WFs a T n → a ≤ n ∧ ∀ l, T.getLast? = some l → l.2.2 ≤ n
  | [], a, n, h => ⟨h, fun _ e => nomatch e⟩
  | [t], a, n, h => by
    obtain ⟨h1, h2, h3⟩ := h
    have h3 : t.2.2 ≤ n := h3
    exact ⟨by omega, fun l e => by cases e; exact h3⟩
  | t :: u :: r, a, n, h => by
    obtain ⟨h1, h2, h3⟩ := h
    obtain ⟨i1, i2⟩ := wf_last (T := u :: r) h3
    exact ⟨by omega, fun l e => i2 l (by rw [List.getLast?_cons_cons] at e; exact e)⟩
/-- a strip joined to what is told -/
theorem join_strip {b : Int} : ∀ {S : List Tri} {v n : Int} {T : List Tri}, 0 ≤ v → WFs v S n → Apart S → WFs 0 T (b + v) → Apart T →
    (∀ l, T.getLast? = some l → ∀ t, S.head? = some t → (t.2.1 = 0 ∧ l.1 = t.1 ∧ l.2.2 = b) ∨ l.2.2 < b + t.2.1 ∨ l.1 ≠ t.1) →
    WFs 0 (S.foldl (addTri b) T) (b + n) ∧ Apart (S.foldl (addTri b) T) ∧ fill 0 (S.foldl (addTri b) T) (b + n) = fill 0 T (b + v) ++ fill v S n
  | [], v, n, T, v0, h, _, hT, aT, _ => by
    have h : v ≤ n := h
    obtain ⟨i1, i2⟩ := fill_more hT (show b + v ≤ b + n by omega)
    refine ⟨i1, aT, ?_⟩
    rw [List.foldl_nil, i2]
    show _ = _ ++ List.replicate (n - v).toNat none
    rw [show b + n - (b + v) = n - v by omega]
  | t :: r, v, n, T, v0, h, aS, hT, aT, hj => by
    obtain ⟨h1, h2, h3⟩ := h
    have apr : Apart r := by
      cases r with
      | nil => trivial
      | cons u r' => exact aS.2
    have hh : ∀ u, r.head? = some u → t.2.2 < u.2.1 ∨ t.1 ≠ u.1 := by
      cases r with
      | nil => exact fun _ h => nomatch h
      | cons u r' => exact fun w hw => by cases hw; exact aS.1
    -- one step
    have step : ∃ T', addTri b T t = T' ∧ WFs 0 T' (b + t.2.2) ∧ Apart T' ∧ (∃ s, T'.getLast? = some (t.1, s, b + t.2.2)) ∧ fill 0 T' (b + t.2.2) = fill 0 T (b + v) ++ (List.replicate (t.2.1 - v).toNat none ++ List.replicate (t.2.2 - t.2.1).toNat (some t.1)) := by
      have app : (∀ l, T.getLast? = some l → l.2.2 < b + t.2.1 ∨ l.1 ≠ t.1) → WFs 0 (T ++ [(t.1, b + t.2.1, b + t.2.2)]) (b + t.2.2) ∧ Apart (T ++ [(t.1, b + t.2.1, b + t.2.2)]) ∧ (∃ s, (T ++ [(t.1, b + t.2.1, b + t.2.2)]).getLast? = some (t.1, s, b + t.2.2)) ∧ fill 0 (T ++ [(t.1, b + t.2.1, b + t.2.2)]) (b + t.2.2) = fill 0 T (b + v) ++ (List.replicate (t.2.1 - v).toNat none ++ List.replicate (t.2.2 - t.2.1).toNat (some t.1)) := fun hl => by
        obtain ⟨i1, i2⟩ := fill_add (c := t.1) (show b + t.2.1 < b + t.2.2 by omega) hT (show b + v ≤ b + t.2.1 by omega)
        refine ⟨i1, apart_snoc aT hl, ⟨_, List.getLast?_concat⟩, ?_⟩
        rw [i2, show b + t.2.1 - (b + v) = t.2.1 - v by omega, show b + t.2.2 - (b + t.2.1) = t.2.2 - t.2.1 by omega]
      rcases List.eq_nil_or_concat T with e | ⟨T0, l, e⟩
      · subst e
        exact ⟨_, addTri_nil b t, app fun _ h => nomatch h⟩
      · rw [List.concat_eq_append] at e
        subst e
        have hgl : (T0 ++ [l]).getLast? = some l := List.getLast?_concat
        rw [addTri_snoc]
        by_cases hc : t.2.1 = 0 ∧ l.1 = t.1 ∧ l.2.2 = b
        · obtain ⟨c1, c2, c3⟩ := hc
          have ev : v = 0 := by omega
          subst ev
          rw [if_pos ⟨c1, c2, c3⟩]
          have el : l = (t.1, l.2.1, b) := by rw [← c2, ← c3]
          have hT' : WFs 0 (T0 ++ [(t.1, l.2.1, b)]) b := by rw [← el]; rw [Int.add_zero] at hT; exact hT
          obtain ⟨i1, i2⟩ := fill_ext (show b < b + t.2.2 by omega) hT'
          refine ⟨_, rfl, i1, apart_ext (m := b) (by rw [← el]; exact aT), ⟨_, List.getLast?_concat⟩, ?_⟩
          rw [i2, ← el, Int.add_zero, c1, Int.sub_self, show b + t.2.2 - b = t.2.2 - 0 by omega]
          rfl
        · rw [if_neg hc]
          refine ⟨_, rfl, app fun l' e' => ?_⟩
          rw [hgl] at e'
          cases e'
          rcases hj l hgl t rfl with h | h
          · exact absurd h hc
          · exact h
    obtain ⟨T', eT, w1, w2, ⟨s, w3⟩, w4⟩ := step
    rw [List.foldl_cons, eT]
    obtain ⟨j1, j2, j3⟩ := join_strip (S := r) (v := t.2.2) (n := n) (T := T') (by omega) h3 apr w1 w2 (fun l e u hu => by
      rw [w3] at e
      cases e
      have := (wf_last h3).1
      rcases hh u hu with h | h
      · exact .inr (.inl (by show b + t.2.2 < b + u.2.1; omega))
      · exact .inr (.inr h))
    refine ⟨j1, j2, ?_⟩
    rw [j3, w4]
    show _ = _ ++ (_ ++ (_ ++ fill t.2.2 r n))
    rw [List.append_assoc, List.append_assoc]
/-- whole rows: strips that fill their pieces' screens -/
structure StripOk (p : List Tri × Int) : Prop where
  wf : WFs 0 p.1 p.2
  ap : Apart p.1
theorem row_fill : ∀ (n : Nat) (ps : List (List Tri × Int)), ps.length = n → (∀ p ∈ ps, StripOk p) → WFs 0 (rowShow ps).1 (rowShow ps).2 ∧ Apart (rowShow ps).1 ∧ fill 0 (rowShow ps).1 (rowShow ps).2 = ps.flatMap fun p => fill 0 p.1 p.2 := by
  intro n
  induction n with
  | zero =>
    intro ps hl _
    cases ps with
    | nil => exact ⟨Int.le_refl _, trivial, rfl⟩
    | cons a r => cases hl
  | succ n ih =>
    intro ps hl h
    have hne : ps ≠ [] := by intro e; rw [e] at hl; cases hl
    have e := (List.dropLast_concat_getLast hne).symm
    generalize ps.dropLast = qs at e
    generalize ps.getLast hne = p at e
    subst e
    have lq : qs.length = n := by
      rw [List.length_append, List.length_cons, List.length_nil] at hl
      omega
    obtain ⟨w1, w2, w3⟩ := ih qs lq fun p hp => h p (List.mem_append_left _ hp)
    have hp := h p (List.mem_append_right _ (List.mem_singleton.mpr rfl))
    rw [rowShow_snoc]
    show WFs 0 (p.1.foldl (addTri (rowShow qs).2) (rowShow qs).1) ((rowShow qs).2 + p.2) ∧ Apart (p.1.foldl (addTri (rowShow qs).2) (rowShow qs).1) ∧ fill 0 (p.1.foldl (addTri (rowShow qs).2) (rowShow qs).1) ((rowShow qs).2 + p.2) = _
    have hlast := (wf_last w1).2
    obtain ⟨j1, j2, j3⟩ := join_strip (b := (rowShow qs).2) (S := p.1) (v := 0) (n := p.2) (T := (rowShow qs).1) (Int.le_refl 0) hp.wf hp.ap (by rw [Int.add_zero]; exact w1) w2 (fun l e t ht => by
      have h1 := hlast l e
      have h0 : 0 ≤ t.2.1 := by
        cases hS : p.1 with
        | nil => rw [hS] at ht; cases ht
        | cons u r =>
          rw [hS] at ht
          cases ht
          have := hp.wf
          rw [hS] at this
          exact this.1
      by_cases hlt : l.2.2 < (rowShow qs).2 + t.2.1
      · exact .inr (.inl hlt)
      · by_cases hc : l.1 = t.1
        · exact .inl ⟨by omega, hc, by omega⟩
        · exact .inr (.inr hc))
    refine ⟨j1, j2, ?_⟩
    rw [j3, Int.add_zero, w3, List.flatMap_append]
    simp
/-- the runs of joined screens are the showings -/
theorem runs_row {ps : List (List Tri × Int)} (h : ∀ p ∈ ps, StripOk p) : runsFrom 0 0 (ps.flatMap fun p => fill 0 p.1 p.2) = (rowShow ps).1 := by
  obtain ⟨h1, h2, h3⟩ := row_fill _ ps rfl h
  rw [← h3]
  exact runs_fill h1 h2
end Sea
namespace Sea
open PySem PySem.Spec PyProof.Rows L2
def carryStep (least close : Int) (T : List Tri) (t : Tri) : List Tri :=
  if t.2.2 - t.2.1 < least then T
  else match T.getLast? with
    | none => T ++ [t]
    | some l => if t.2.1 - l.2.2 ≥ close then T ++ [t]
      else if l.1 = t.1 then T.dropLast ++ [(t.1, l.2.1, t.2.2)]
      else T.dropLast ++ [(l.1, l.2.1, t.2.1), t]
def carry (least close : Int) (S : List Tri) : List Tri := S.foldl (carryStep least close) []
def keptB (least : Int) (t : Tri) : Bool := decide (least ≤ t.2.2 - t.2.1)
def carryGo (close : Int) : Tri → List Tri → List Tri
  | l, [] => [l]
  | l, t :: r => if t.2.1 - l.2.2 ≥ close then l :: carryGo close t r
    else if l.1 = t.1 then carryGo close (t.1, l.2.1, t.2.2) r
    else (l.1, l.2.1, t.2.1) :: carryGo close t r
def goneOf (close : Int) (l : Tri) : List Tri → Int
  | [] => l.2.2
  | t :: _ => if t.2.1 - l.2.2 < close then t.2.1 else l.2.2
def hold (close : Int) : List Tri → List Tri
  | [] => []
  | l :: r => (l.1, l.2.1, goneOf close l r) :: hold close r
def carryK (close : Int) : List Tri → List Tri
  | [] => []
  | l :: r => carryGo close l r
theorem step_kept {least close : Int} {F : List Tri} {l t : Tri} (h : ¬ t.2.2 - t.2.1 < least) : carryStep least close (F ++ [l]) t =
    if t.2.1 - l.2.2 ≥ close then F ++ [l] ++ [t] else if l.1 = t.1 then F ++ [(t.1, l.2.1, t.2.2)] else F ++ [(l.1, l.2.1, t.2.1), t] := by
  unfold carryStep
  rw [if_neg h, List.getLast?_concat]
  show (if t.2.1 - l.2.2 ≥ close then _ else if l.1 = t.1 then (F ++ [l]).dropLast ++ _ else (F ++ [l]).dropLast ++ _) = _
  rw [List.dropLast_concat]
theorem fold_go {least close : Int} : ∀ {S F : List Tri} {l : Tri}, S.foldl (carryStep least close) (F ++ [l]) = F ++ carryGo close l (S.filter (keptB least))
  | [], F, l => rfl
  | t :: r, F, l => by
    rw [List.foldl_cons, List.filter_cons]
    by_cases h : t.2.2 - t.2.1 < least
    · have e : keptB least t = false := decide_eq_false (by omega)
      have e2 : carryStep least close (F ++ [l]) t = F ++ [l] := if_pos h
      rw [e, e2, fold_go]
      rfl
    · have e : keptB least t = true := decide_eq_true (by omega)
      rw [e, step_kept h]
      show _ = F ++ carryGo close l (t :: r.filter (keptB least))
      unfold carryGo
      by_cases h1 : t.2.1 - l.2.2 ≥ close
      · rw [if_pos h1, if_pos h1, fold_go, List.append_assoc]
        rfl
      · rw [if_neg h1, if_neg h1]
        by_cases h2 : l.1 = t.1
        · rw [if_pos h2, if_pos h2, fold_go]
        · rw [if_neg h2, if_neg h2, show F ++ [(l.1, l.2.1, t.2.1), t] = (F ++ [(l.1, l.2.1, t.2.1)]) ++ [t] by rw [List.append_assoc]; rfl, fold_go, List.append_assoc]
          rfl
theorem carry_go {least close : Int} : ∀ {S : List Tri}, carry least close S = carryK close (S.filter (keptB least))
  | [] => rfl
  | t :: r => by
    unfold carry
    rw [List.foldl_cons, List.filter_cons]
    by_cases h : t.2.2 - t.2.1 < least
    · have e : keptB least t = false := decide_eq_false (by omega)
      have e2 : carryStep least close [] t = [] := if_pos h
      rw [e, e2]
      exact carry_go (S := r)
    · have e : keptB least t = true := decide_eq_true (by omega)
      have e2 : carryStep least close [] t = [] ++ [t] := if_neg h
      rw [e, e2, fold_go]
      rfl
/-- what is kept is in order, none empty, none of one cue touches the next -/
theorem wfs_filter {p : Tri → Bool} : ∀ {S : List Tri} {a n : Int}, WFs a S n → WFs a (S.filter p) n
  | [], _, _, h => h
  | t :: r, a, n, h => by
    obtain ⟨h1, h2, h3⟩ := h
    rw [List.filter_cons]
    split
    · exact ⟨h1, h2, wfs_filter h3⟩
    · have := wfs_filter (p := p) h3
      cases e : r.filter p with
      | nil =>
        rw [e] at this
        have this : t.2.2 ≤ n := this
        show a ≤ n
        omega
      | cons u r' =>
        rw [e] at this
        exact ⟨by have := this.1; omega, this.2⟩
/-- apart, by what comes behind -/
def ApartL : Tri → List Tri → Prop
  | _, [] => True
  | t, u :: r => (t.2.2 < u.2.1 ∨ t.1 ≠ u.1) ∧ ApartL u r
theorem apart_l : ∀ {t : Tri} {r : List Tri}, Apart (t :: r) ↔ ApartL t r
  | _, [] => Iff.rfl
  | _, u :: r => ⟨fun h => ⟨h.1, apart_l.mp h.2⟩, fun h => ⟨h.1, apart_l.mpr h.2⟩⟩
theorem wfs_le : ∀ {S : List Tri} {a n : Int}, WFs a S n → ∀ u ∈ S, a ≤ u.2.1
  | t :: r, a, n, h, u, hu => by
    obtain ⟨h1, h2, h3⟩ := h
    rcases List.mem_cons.mp hu with e | e
    · rw [e]; exact h1
    · have := wfs_le h3 u e
      omega
theorem apart_filter {p : Tri → Bool} : ∀ {S : List Tri} {t : Tri} {n : Int}, WFs t.2.2 S n → ApartL t S → ApartL t (S.filter p)
  | [], _, _, _, _ => trivial
  | u :: r, t, n, h, ap => by
    obtain ⟨h1, h2, h3⟩ := h
    rw [List.filter_cons]
    split
    · exact ⟨ap.1, apart_filter h3 ap.2⟩
    · cases e : r.filter p with
      | nil => trivial
      | cons v r' =>
        have hv : v ∈ r := (List.mem_filter.mp (by rw [e]; exact List.mem_cons_self : v ∈ r.filter p)).1
        have h4 := wfs_le h3 v hv
        have h5 := apart_filter (p := p) h3 ap.2
        rw [e] at h5
        exact ⟨.inl (by omega), h5.2⟩
theorem apart_filter' {p : Tri → Bool} : ∀ {S : List Tri} {a n : Int}, WFs a S n → Apart S → Apart (S.filter p)
  | [], _, _, _, _ => trivial
  | u :: r, a, n, h, ap => by
    obtain ⟨h1, h2, h3⟩ := h
    rw [List.filter_cons]
    split
    · exact apart_l.mpr (apart_filter h3 (apart_l.mp ap))
    · exact apart_filter' h3 (by
        cases r with
        | nil => trivial
        | cons v r' => exact ap.2)
theorem fill_join {a c s m x n : Int} {R : List Tri} (h1 : s ≤ m) (h2 : m ≤ x) : fill a ((c, s, m) :: (c, m, x) :: R) n = fill a ((c, s, x) :: R) n := by
  show List.replicate (s - a).toNat none ++ (List.replicate (m - s).toNat (some c) ++ (List.replicate (m - m).toNat none ++ (List.replicate (x - m).toNat (some c) ++ fill x R n))) = List.replicate (s - a).toNat none ++ (List.replicate (x - s).toNat (some c) ++ fill x R n)
  rw [Int.sub_self, show ((0 : Int).toNat) = 0 from rfl, List.replicate_zero, List.nil_append, rep_split (some c) h1 h2, List.append_assoc]
theorem go_head {close : Int} : ∀ {r : List Tri} {l : Tri}, ∃ e R, carryGo close l r = (l.1, l.2.1, e) :: R
  | [], l => ⟨l.2.2, [], rfl⟩
  | t :: r, l => by
    unfold carryGo
    by_cases h1 : t.2.1 - l.2.2 ≥ close
    · rw [if_pos h1]
      exact ⟨_, _, rfl⟩
    · rw [if_neg h1]
      by_cases h2 : l.1 = t.1
      · rw [if_pos h2]
        obtain ⟨e, R, h⟩ := go_head (close := close) (r := r) (l := (t.1, l.2.1, t.2.2))
        exact ⟨e, R, by rw [h, h2]⟩
      · rw [if_neg h2]
        exact ⟨_, _, rfl⟩
/-- the stretches brought together, and those that are held, fill the same screen -/
theorem go_fill {close : Int} : ∀ {K : List Tri} {l : Tri} {a n : Int}, a ≤ l.2.1 → l.2.1 < l.2.2 → WFs l.2.2 K n → ApartL l K →
    WFs a (carryGo close l K) n ∧ Apart (carryGo close l K) ∧ fill a (carryGo close l K) n = fill a (hold close (l :: K)) n
  | [], l, a, n, h1, h2, h3, _ => ⟨⟨h1, h2, h3⟩, trivial, rfl⟩
  | t :: r, l, a, n, h1, h2, h3, ap => by
    obtain ⟨k1, k2, k3⟩ := h3
    unfold carryGo
    by_cases c1 : t.2.1 - l.2.2 ≥ close
    · rw [if_pos c1]
      obtain ⟨i1, i2, i3⟩ := go_fill (close := close) (K := r) (l := t) (a := l.2.2) (n := n) k1 k2 k3 ap.2
      refine ⟨⟨h1, h2, i1⟩, ?_, ?_⟩
      · obtain ⟨e, R, h⟩ := go_head (close := close) (r := r) (l := t)
        rw [h] at i2 ⊢
        exact ⟨ap.1, i2⟩
      · have e : goneOf close l (t :: r) = l.2.2 := if_neg (by omega)
        show List.replicate _ _ ++ (List.replicate _ _ ++ fill l.2.2 (carryGo close t r) n) = fill a ((l.1, l.2.1, goneOf close l (t :: r)) :: hold close (t :: r)) n
        rw [e, i3]
        rfl
    · rw [if_neg c1]
      have e : goneOf close l (t :: r) = t.2.1 := if_pos (by omega)
      by_cases c2 : l.1 = t.1
      · rw [if_pos c2]
        have ap' : ApartL (t.1, l.2.1, t.2.2) r := by
          cases r with
          | nil => trivial
          | cons u r' => exact ap.2
        obtain ⟨i1, i2, i3⟩ := go_fill (close := close) (K := r) (l := (t.1, l.2.1, t.2.2)) (a := a) (n := n) h1 (by show l.2.1 < t.2.2; omega) k3 ap'
        refine ⟨i1, i2, ?_⟩
        rw [i3]
        have e3 : goneOf close (t.1, l.2.1, t.2.2) r = goneOf close t r := by cases r <;> rfl
        have le : t.2.1 ≤ goneOf close t r := by
          cases r with
          | nil => exact Int.le_of_lt k2
          | cons u r' =>
            show t.2.1 ≤ (if u.2.1 - t.2.2 < close then u.2.1 else t.2.2)
            have := k3.1
            split <;> omega
        show fill a ((t.1, l.2.1, goneOf close (t.1, l.2.1, t.2.2) r) :: hold close r) n = fill a ((l.1, l.2.1, goneOf close l (t :: r)) :: (t.1, t.2.1, goneOf close t r) :: hold close r) n
        rw [e, e3, c2, fill_join (by omega) le]
      · rw [if_neg c2]
        obtain ⟨i1, i2, i3⟩ := go_fill (close := close) (K := r) (l := t) (a := t.2.1) (n := n) (Int.le_refl _) k2 k3 ap.2
        refine ⟨⟨h1, (by show l.2.1 < t.2.1; omega), i1⟩, ?_, ?_⟩
        · obtain ⟨e', R, h⟩ := go_head (close := close) (r := r) (l := t)
          rw [h] at i2 ⊢
          exact ⟨.inr c2, i2⟩
        · show List.replicate _ _ ++ (List.replicate _ _ ++ fill t.2.1 (carryGo close t r) n) = fill a ((l.1, l.2.1, goneOf close l (t :: r)) :: hold close (t :: r)) n
          rw [e, i3]
          rfl
theorem hold_wf {close : Int} : ∀ {K : List Tri} {a n : Int}, WFs a K n → WFs a (hold close K) n
  | [], _, _, h => h
  | [l], _, _, h => h
  | l :: t :: r, a, n, h => by
    obtain ⟨h1, h2, h3⟩ := h
    have i := hold_wf (close := close) (K := t :: r) h3
    obtain ⟨k1, k2, k3⟩ := h3
    have g : l.2.2 ≤ goneOf close l (t :: r) ∧ goneOf close l (t :: r) ≤ t.2.1 := by
      show l.2.2 ≤ (if t.2.1 - l.2.2 < close then t.2.1 else l.2.2) ∧ (if t.2.1 - l.2.2 < close then t.2.1 else l.2.2) ≤ t.2.1
      split <;> omega
    refine ⟨h1, (by show l.2.1 < goneOf close l (t :: r); omega), ?_⟩
    exact ⟨g.2, i.2⟩
/-- what is carried are the runs of the screen on which what is kept is held -/
theorem carry_runs {least close n : Int} {S : List Tri} (h : WFs 0 S n) (ap : Apart S) : runsFrom 0 0 (fill 0 (hold close (S.filter (keptB least))) n) = carry least close S := by
  rw [carry_go]
  have w := wfs_filter (p := keptB least) h
  have a := apart_filter' (p := keptB least) h ap
  cases e : S.filter (keptB least) with
  | nil =>
    rw [e] at w
    exact runs_fill (T := []) w trivial
  | cons l r =>
    rw [e] at w a
    obtain ⟨h1, h2, h3⟩ := w
    obtain ⟨i1, i2, i3⟩ := go_fill (close := close) h1 h2 h3 (apart_l.mp a)
    rw [← i3]
    exact runs_fill i1 i2
end Sea
namespace Sea
open PySem PySem.Spec PyProof.Rows L2
theorem kb_none {tp cl p : Addr} {ns : List Int} {H H' : Hp} (k : KB tp H H') (T : Tape H' tp cl ns) (h : H' p = none) : H p = none := by
  cases e : H p with
  | none => rfl
  | some o =>
    have := k p o (T.fresh h).1.symm e
    rw [h] at this
    cases this
theorem KB.new {tp cl p : Addr} {ns : List Int} {H H' : Hp} {o : HO} (k : KB tp H H') (T : Tape H' tp cl ns) (h : H' p = none) : KB tp H (upd H' p o) := k.over (kb_none k T h)
def spRarely : Sp := fun vs H Q _ => ∃ (tp cl : Addr) (ns : List Int) (m : Int), vs = [.ref tp, .int m] ∧ Tape H tp cl ns ∧ m < 1073741824 ∧ ∀ H' b, KB tp H H' → Tape H' tp cl ns → Q (.bl b) H'
def FEW : List Str := [Str.ofString "go", Str.ofString "no", Str.ofString "so it is", Str.ofString "ah", Str.ofString "we go on now", Str.ofString "no go"]
abbrev PL1 : Str := Str.ofString "a b c ab ba aa z zz abc abd acb bcd abca zzz y xy yx xyz abcd abcde bbbbb q qq qa aq"
abbrev PL2 : Str := Str.ofString "m mm am ma cab bac"
abbrev PL3 : Str := Str.ofString "dab bad add odd ode one two ten net tent tenth nine nines e ee ed de"
/-- a short name -/
def shortB (z : Str) : Bool := decide (1 ≤ z.length) && (decide (z.length ≤ 5) && (cp z).all fun c => decide (97 ≤ c) && decide (c ≤ 122))
def POOL : List Str := (Txt.words PL1 ++ Txt.words PL2) ++ Txt.words PL3
theorem pool_ok : POOL.all shortB = true ∧ POOL.length = 48 := by decide +kernel
theorem pool_len : (Txt.words PL1).length = 25 ∧ (Txt.words PL2).length = 6 ∧ (Txt.words PL3).length = 17 ∧ PL1.length ≤ 200 ∧ PL2.length ≤ 200 ∧ PL3.length ≤ 200 := by decide +kernel
structure Short (z : Str) : Prop where
  some : 1 ≤ z.length
  most : z.length ≤ 5
  sign : ∀ c ∈ cp z, 97 ≤ c ∧ c ≤ 122
theorem short_of {z : Str} (h : shortB z = true) : Short z := by
  unfold shortB at h
  simp only [Bool.and_eq_true, decide_eq_true_eq, List.all_eq_true] at h
  exact ⟨h.1, h.2.1, h.2.2⟩
theorem pool_short {z : Str} (h : z ∈ POOL) : Short z := short_of (List.all_eq_true.mp pool_ok.1 z h)
theorem erase_map {α β : Type} (f : α → β) : ∀ (l : List α) (k : Nat), (l.map f).eraseIdx k = (l.eraseIdx k).map f
  | [], _ => rfl
  | _ :: _, 0 => rfl
  | a :: r, k + 1 => by
    show f a :: (r.map f).eraseIdx k = f a :: (r.eraseIdx k).map f
    rw [erase_map f r k]
theorem seq_at {d : Int} {n : Nat} (h0 : 0 ≤ d) (h1 : d < (n : Int)) : seqIndex? d n = some d.toNat := by
  unfold seqIndex?
  simp only []
  rw [if_neg (show ¬ d < 0 by omega), if_pos (by rw [decide_eq_true h0, decide_eq_true h1]; rfl)]
section
variable {P : Program} {w : World} {K : PySem.W.Frag} {mg : Str → Option Value} {base : Heap}
theorem ok_rarely {f : Addr} {fd : FuncData} (F : Fun K "_law_rarely" "_law_rarely" s__law_rarely f fd) (c__law_pick : Cal P w K mg base 1 "_law_pick" spPick) : FnOk P w K mg base CX0 2 f fd ["_law_tape_here", "_law_many"] spRarely := by
  refine F.ok sc__law_rarely (fun vs H Q E h => ?_) (fun cdv A outer s H vs Q E hr h => ?_)
  · obtain ⟨tp, cl, ns, m, rfl, _⟩ := h
    rfl
  · obtain ⟨tp, cl, ns, m, rfl, T, hm, q⟩ := h
    refine ⟨_, (pss_one (ps_ret (pe_cmpR op_eq (pe_c c__law_pick hr (by decide) rfl (pa_cons (pv 0) (pa_cons (pv 1) pa_nil))) (pe_op op_sub (pv 1) (pe_int)) (nomark _)))), ?_⟩
    exact ⟨_, rfl, _, rfl, tp, cl, ns, m, rfl, T, hm, fun H1 d k1 T1 _ _ => ⟨_, rfl, _, _, rfl, rfl, rfl, q H1 _ k1 T1⟩⟩
end
end Sea
namespace Sea
open PySem PySem.Spec PyProof.Rows L2
theorem pool_nd : POOL.Nodup := by decide +kernel
theorem nd_erase {α : Type} {l : List α} (h : l.Nodup) (k : Nat) : (l.eraseIdx k).Nodup := h.sublist (List.eraseIdx_sublist _ _)
theorem not_erase {α : Type} {l : List α} (h : l.Nodup) {k : Nat} (hk : k < l.length) : l[k] ∉ l.eraseIdx k := fun e => by
  have e1 : l = l.take k ++ l[k] :: l.drop (k + 1) := by rw [← List.drop_eq_getElem_cons hk, List.take_append_drop]
  rw [List.eraseIdx_eq_take_drop_succ] at e
  have h2 := h
  rw [e1] at h2
  obtain ⟨a1, a2, a3⟩ := List.nodup_append.mp h2
  rcases List.mem_append.mp e with e | e
  · exact absurd rfl (a3 _ e _ List.mem_cons_self)
  · exact (List.nodup_cons.mp a2).1 e
def spNamesN : Sp := fun vs H Q _ => ∃ (tp cl : Addr) (ns : List Int) (m : Int), vs = [.ref tp, .int m] ∧ Tape H tp cl ns ∧ 1 ≤ m ∧ m ≤ 40 ∧
  ∀ (H' : Hp) (p : Addr) (ss : List Str), KB tp H H' → Tape H' tp cl ns → p ≠ tp → H' p = some (.lst (ss.map V.str)) → (ss.length : Int) = m → (∀ z ∈ ss, Short z) → ss.Nodup → Q (.ref p) H'
def spFewIn : Sp := fun vs H Q _ => ∃ (tp cl : Addr) (ns : List Int), vs = [.ref tp] ∧ Tape H tp cl ns ∧ ∀ H' z, KB tp H H' → Tape H' tp cl ns → z ∈ FEW → Q (.str z) H'
section
variable {P : Program} {w : World} {K : PySem.W.Frag} {mg : Str → Option Value} {base : Heap}
theorem ok_few_in {f : Addr} {fd : FuncData} (F : Fun K "_law_few_text" "_law_few_text" s__law_few_text f fd) (m_len : mg "len" = none) (c__law_pick : Cal P w K mg base 1 "_law_pick" spPick) : FnOk P w K mg base CX0 2 f fd ["_law_tape_here"] spFewIn := by
  refine F.ok sc__law_few_text (fun vs H Q E h => ?_) (fun cdv A outer s H vs Q E hr h => ?_)
  · obtain ⟨tp, cl, ns, rfl, _⟩ := h
    rfl
  · obtain ⟨tp, cl, ns, rfl, T, q⟩ := h
    refine ⟨_, (pss_cons (ps_set (i := 1) sc__law_few_text.nd rfl (Or.inl rfl) (pe_lst (pa_cons (pe_str) (pa_cons (pe_str) (pa_cons (pe_str) (pa_cons (pe_str) (pa_cons (pe_str) (pa_cons (pe_str) pa_nil))))))))
    (pss_one (ps_ret (pe_ix ix_list (pv 1) (pe_c c__law_pick hr (by decide) rfl (pa_cons (pv 0) (pa_cons (pe_callB call_len (by rfl) m_len (by decide +kernel) (pa_cons (pv 1) pa_nil)) pa_nil))) (fun _ _ => rfl))))), ?_⟩
    refine ⟨(by show 6 ≤ sizeLine; decide), fun p hp => ?_⟩
    have np := (T.fresh hp).1
    refine ⟨_, rfl, _, rfl, _, rfl, _, 6, rfl, .inl ⟨_, SqL.of upd_same, rfl⟩, tp, cl, ns, _, rfl, T.new hp, by decide, fun H1 d k1 T1 d0 d1 => ?_⟩
    obtain ⟨n, rfl⟩ : ∃ n : Nat, d = (n : Int) := ⟨d.toNat, by omega⟩
    have hn : n < FEW.length := by
      show n < 6
      omega
    have e : (FEW.map V.str)[n]? = some (V.str FEW[n]) := by rw [List.getElem?_map, List.getElem?_eq_getElem hn]; rfl
    exact ⟨p, FEW.map V.str, _, _, rfl, rfl, SqL.of (k1 _ _ np.symm upd_same), atI_nat e, q H1 _ (((KB.refl tp H).over hp).trans k1) T1 (List.getElem_mem hn)⟩
theorem ok_namesN {f : Addr} {fd : FuncData} (F : Fun K "_law_names" "_law_names" s__law_names f fd) (m_range : mg "range" = none) (m_len : mg "len" = none) (c__law_pick : Cal P w K mg base 1 "_law_pick" spPick) :
    FnOk P w K mg base CX0 2 f fd ["_law_tape_here", "_law_many"] spNamesN := by
  refine F.ok sc__law_names (fun vs H Q E h => ?_) (fun cdv A outer s H vs Q E hr h => ?_)
  · obtain ⟨tp, cl, ns, m, rfl, _⟩ := h
    rfl
  · obtain ⟨tp, cl, ns, m, rfl, T, m1, m4, q⟩ := h
    refine ⟨_, (pss_cons (ps_set (i := 2) sc__law_names.nd rfl (Or.inl rfl) (pe_words (pe_str)))
    (pss_cons (ps_set (i := 2) sc__law_names.nd rfl (Or.inl rfl) (pe_op op_cat (pv 2) (pe_words (pe_str))))
    (pss_cons (ps_set (i := 2) sc__law_names.nd rfl (Or.inl rfl) (pe_op op_cat (pv 2) (pe_words (pe_str))))
    (pss_cons (ps_set (i := 3) sc__law_names.nd rfl (Or.inl rfl) (pe_lst pa_nil))
    (pss_cons (ps_for PassesOwn.never rfl (pi_range1 (by rfl) m_range (pa_cons (pv 1) pa_nil)) (pg_name (i := 4) sc__law_names.nd rfl (Or.inl rfl))
    (pss_one (ps_expr (pe_bm PySem.F.plainAttrs_list PySem.F.slot_list_append PySem.F.type_list_append mt_append (pv 3) (pa_cons (pe_bm PySem.F.plainAttrs_list PySem.F.slot_list_pop PySem.F.type_list_pop mt_popAt (pv 2) (pa_cons (pe_c c__law_pick hr (by decide) rfl (pa_cons (pv 0) (pa_cons (pe_callB call_len (by rfl) m_len (by decide +kernel) (pa_cons (pv 2) pa_nil)) pa_nil))) pa_nil)) pa_nil)))))
    (pss_one (ps_ret (pv 3)))))))), ?_⟩
    obtain ⟨w1, w2, w3, w4, w5, w6⟩ := pool_len
    have sl : sizeLine = 16777216 := sizeLine_eq
    refine ⟨⟨_, rfl⟩, PL1, rfl, rfl, by omega, fun p1 hp1 => ?_⟩
    have t1 := T.new (o := .lst ((Txt.words PL1).map V.str)) hp1
    have k1 := (KB.refl tp H).over (o := .lst ((Txt.words PL1).map V.str)) hp1
    refine ⟨_, rfl, ⟨_, rfl⟩, PL2, rfl, rfl, by omega, fun p2 hp2 => ?_⟩
    have s2 := same_new (o := .lst ((Txt.words PL2).map V.str)) hp2
    refine ⟨p1, p2, _, _, rfl, rfl, s2 _ _ upd_same, upd_same, by rw [List.length_map, List.length_map]; omega, fun p3 hp3 => ?_⟩
    have s3 := same_new (o := .lst ((Txt.words PL1).map V.str ++ (Txt.words PL2).map V.str)) hp3
    refine ⟨_, rfl, ⟨_, rfl⟩, PL3, rfl, rfl, by omega, fun p4 hp4 => ?_⟩
    have s4 := same_new (o := .lst ((Txt.words PL3).map V.str)) hp4
    have S4 := (s2.trans s3).trans s4
    have t4 := t1.same S4
    have k4 := k1.trans (.of_same S4)
    have c3 := s4 p3 _ (upd_same (H := upd (upd H p1 (.lst ((Txt.words PL1).map V.str))) p2 (.lst ((Txt.words PL2).map V.str))) (a := p3) (o := .lst ((Txt.words PL1).map V.str ++ (Txt.words PL2).map V.str)))
    have c4 := upd_same (H := upd (upd (upd H p1 (.lst ((Txt.words PL1).map V.str))) p2 (.lst ((Txt.words PL2).map V.str))) p3 (.lst ((Txt.words PL1).map V.str ++ (Txt.words PL2).map V.str))) (a := p4) (o := .lst ((Txt.words PL3).map V.str))
    generalize (upd (upd (upd (upd H p1 (.lst ((Txt.words PL1).map V.str))) p2 (.lst ((Txt.words PL2).map V.str))) p3 (.lst ((Txt.words PL1).map V.str ++ (Txt.words PL2).map V.str))) p4 (.lst ((Txt.words PL3).map V.str))) = H4 at S4 t4 k4 c3 c4 ⊢
    refine ⟨p3, p4, _, _, rfl, rfl, c3, c4, by rw [List.length_append, List.length_map, List.length_map, List.length_map]; omega, fun pl hpl => ?_⟩
    have ep : (Txt.words PL1).map V.str ++ (Txt.words PL2).map V.str ++ (Txt.words PL3).map V.str = POOL.map V.str := by
      unfold POOL
      rw [List.map_append, List.map_append]
    rw [ep]
    have t5 := t4.new (o := .lst (POOL.map V.str)) hpl
    have hpl5 := upd_same (H := H4) (a := pl) (o := .lst (POOL.map V.str))
    have npl : tp ≠ pl := (t4.fresh hpl).1
    have gone : H pl = none := by
      cases e : H pl with
      | none => rfl
      | some o =>
        have := k4 pl o npl.symm e
        rw [hpl] at this
        cases this
    have k5 := k4.over (o := .lst (POOL.map V.str)) gone
    generalize (upd H4 pl (.lst (POOL.map V.str))) = H5 at t5 k5 hpl5 ⊢
    refine ⟨Nat.zero_le _, fun D hD => ?_⟩
    have s6 := same_new (o := .lst []) hD
    have nD : tp ≠ D := (t5.fresh hD).1
    have nDl : pl ≠ D := ne_of_none hpl5 hD
    have goneD : H D = none := by
      cases e : H D with
      | none => rfl
      | some o =>
        have := k5 D o nD.symm e
        rw [hD] at this
        cases this
    refine ⟨_, rfl, _, rfl, by omega, by omega, ?_⟩
    refine for_it (walk_range (lo := 0) (n := m.toNat)) (fun i σ H' => ∃ (pool ss : List Str) (k4 : Option V), σ = [some (.ref tp), some (.int m), some (.ref pl), some (.ref D), k4] ∧ KB tp H H' ∧ Tape H' tp cl ns ∧
      H' pl = some (.lst (pool.map V.str)) ∧ H' D = some (.lst (ss.map V.str)) ∧ pool.length + i = 48 ∧ ss.length = i ∧ (∀ z ∈ pool, Short z) ∧ (∀ z ∈ ss, Short z) ∧ pool.Nodup ∧ ss.Nodup ∧ ∀ z ∈ ss, z ∉ pool)
      ⟨POOL, [], none, rfl, k5.over goneD, t5.new hD, s6 _ _ hpl5, upd_same, pool_ok.2, rfl, fun z hz => pool_short hz, (fun _ h => nomatch h), pool_nd, List.nodup_nil, (fun _ h => nomatch h)⟩ (fun _ _ _ _ _ => trivial) ?_ ?_
    · rintro i x σ Ha Hb hi ⟨pool, ss, k4, rfl, ka, Ta, hpa, hda, lp, lss, hpo, hss, n1, n2, n3⟩ ⟨rfl, rfl⟩
      have hi4 : i < 40 := by omega
      refine ⟨_, rfl, .inl ⟨rfl, _, SqL.of hda⟩, _, rfl, .inl ⟨rfl, _, SqL.of hpa⟩, _, rfl, _, rfl, _, pool.length, rfl, .inl ⟨_, SqL.of hpa, (List.length_map ..).symm⟩, tp, cl, ns, _, rfl, Ta, by omega, fun H1 d k1 T1 d0 d1 => ?_⟩
      have dl : d < (pool.length : Int) := by omega
      have dn : d.toNat < pool.length := by omega
      have hp1 := k1 pl _ npl.symm hpa
      have hd1 := k1 D _ nD.symm hda
      refine ⟨pl, _, d, d.toNat, .str pool[d.toNat], rfl, rfl, hp1, by omega, by omega, by rw [List.length_map]; exact seq_at d0 dl, by rw [List.getElem?_map, List.getElem?_eq_getElem dn]; rfl, ?_⟩
      have hd2 : (upd H1 pl (.lst ((pool.map V.str).eraseIdx d.toNat))) D = some (.lst (ss.map V.str)) := by
        rw [upd_ne nDl.symm]
        exact hd1
      refine ⟨D, _, _, rfl, rfl, hd2, (by rw [List.length_map]; exact small_line (by omega)), ?_⟩
      refine ⟨pool.eraseIdx d.toNat, ss ++ [pool[d.toNat]], _, rfl, ?_, (T1.other npl fun e => ?_).other nD fun e => ?_, ?_, ?_, ?_, ?_, fun z hz => hpo z (List.mem_of_mem_eraseIdx hz), fun z hz => ?_, nd_erase n1 _, ?_, ?_⟩
      · exact ((ka.trans k1).over gone).over goneD
      · have := T1.cells
        rw [e, hp1] at this
        have e2 := HO.lst.inj (Option.some.inj this)
        cases pool with
        | nil => simp only [List.length_nil] at dn; omega
        | cons z r =>
          cases ns with
          | nil => cases e2
          | cons n r2 => cases (List.cons.inj e2).1
      · have c1 := T1.cells
        have c2 : (upd H1 pl (.lst ((pool.map V.str).eraseIdx d.toNat))) cl = some (.lst (ns.map V.int)) → True := fun _ => trivial
        have c0 := t5.cells
        rw [e, hD] at c0
        cases c0
      · rw [upd_ne nDl, upd_same]
        exact congrArg some (congrArg HO.lst (erase_map V.str pool d.toNat))
      · rw [upd_same, List.map_append]
        rfl
      · rw [List.length_eraseIdx_of_lt dn]
        omega
      · rw [List.length_append, lss]
        rfl
      · rcases List.mem_append.mp hz with h | h
        · exact hss z h
        · rw [List.mem_singleton.mp h]
          exact hpo _ (List.getElem_mem dn)
      · refine List.nodup_append.mpr ⟨n2, List.nodup_cons.mpr ⟨List.not_mem_nil, List.nodup_nil⟩, fun a ha b hb => ?_⟩
        rw [List.mem_singleton.mp hb]
        exact fun e => n3 a ha (by rw [e]; exact List.getElem_mem dn)
      · intro z hz
        rcases List.mem_append.mp hz with h | h
        · exact fun e => n3 z h (List.mem_of_mem_eraseIdx e)
        · rw [List.mem_singleton.mp h]
          exact not_erase n1 dn
    · rintro σ H' ⟨pool, ss, k4, rfl, ka, Ta, hpa, hda, lp, lss, hpo, hss, n1, n2, n3⟩
      exact ⟨_, rfl, q H' D ss ka Ta nD.symm hda (by omega) hss n2⟩
end
end Sea
namespace Sea
open PySem PySem.Spec PyProof.Rows L2
def chainC (len : Int) : Int → List Cue → Prop
  | _, [] => True
  | lo, c :: r => GoodC lo len c ∧ chainC len c.e r
def endC : Int → List Cue → Int
  | lo, [] => lo
  | _, c :: r => endC c.e r
theorem chain_snoc (len : Int) : ∀ (lo : Int) (cs : List Cue) (c : Cue), chainC len lo cs → GoodC (endC lo cs) len c → chainC len lo (cs ++ [c])
  | _, [], c, _, g => ⟨g, trivial⟩
  | _, d :: r, c, h, g => ⟨h.1, chain_snoc len d.e r c h.2 g⟩
theorem endC_snoc : ∀ (lo : Int) (cs : List Cue) (c : Cue), endC lo (cs ++ [c]) = c.e
  | _, [], _ => rfl
  | _, d :: r, c => endC_snoc d.e r c
theorem short_name {z : Str} (h : Short z) : NameW (cp z) := ⟨by rw [cp_len]; exact h.some, by have := h.most; rw [cp_len]; omega, h.sign⟩
theorem KB.at {tp cl : Addr} {ns : List Int} {H H' : Hp} {e : Addr × Cue} (k : KB tp H H') (T : Tape H tp cl ns) (h : At H e) : At H' e := k.kt T _ _ h
theorem few_good {z : Str} (hz : z ∈ FEW) : Good (cp z) := by
  simp only [FEW, List.mem_cons, List.not_mem_nil, or_false] at hz
  rcases hz with h | h | h | h | h | h <;> subst h <;> exact ⟨by decide +kernel, by decide +kernel, by decide +kernel, by decide +kernel, by decide +kernel, by decide +kernel⟩
def spCues : Sp := fun vs H Q _ => ∃ (tp cl sp : Addr) (ns : List Int) (len most : Int) (zs : List Str) (few : Bool), vs = [.ref tp, .int len, .int most, .ref sp, .bl few] ∧ Tape H tp cl ns ∧ len ≤ 2000 ∧ 0 ≤ most ∧ most ≤ 40 ∧ H sp = some (.lst (zs.map V.str)) ∧ sp ≠ tp ∧ 1 ≤ zs.length ∧ zs.length ≤ 40 ∧ (∀ z ∈ zs, Short z) ∧
  ∀ (H' : Hp) (p : Addr) (L : List (Addr × Cue)), KB tp H H' → Tape H' tp cl ns → p ≠ tp → H' p = some (.lst (refsC L)) → (∀ e ∈ L, At H' e) → chainC len 0 (cuesC L) → (L.length : Int) ≤ most → Q (.ref p) H'
section
variable {P : Program} {w : World} {K : PySem.W.Frag} {mg : Str → Option Value} {base : Heap}
theorem ok_cues {f : Addr} {fd : FuncData} (F : Fun K "_law_cues" "_law_cues" s__law_cues f fd) (m_range : mg "range" = none) (m_max : mg "max" = none) (m_len : mg "len" = none) (c__law_pick : Cal P w K mg base 1 "_law_pick" spPick) (c__law_some : Cal P w K mg base 2 "_law_some" spSome) (c__law_few_text : Cal P w K mg base 2 "_law_few_text" spFewIn) (c__law_text : Cal P w K mg base 3 "_law_text" spText) :
    FnOk P w K mg base CX0 4 f fd ["_law_tape_here", "_law_length", "_law_most", "_law_speakers", "_law_few"] spCues := by
  refine F.ok sc__law_cues (fun vs H Q E h => ?_) (fun cdv A outer s H vs Q E hr h => ?_)
  · obtain ⟨tp, cl, sp, ns, len, most, zs, few, rfl, _⟩ := h
    rfl
  · obtain ⟨tp, cl, sp, ns, len, most, zs, few, rfl, T, len2, mo0, mo40, hsp, nsp, z1, z40, hzs, q⟩ := h
    refine ⟨_, (pss_cons (ps_set (i := 5) sc__law_cues.nd rfl (Or.inl rfl) (pe_lst pa_nil))
    (pss_cons (ps_set (i := 6) sc__law_cues.nd rfl (Or.inl rfl) (pe_c c__law_pick hr (by decide) rfl (pa_cons (pv 0) (pa_cons (pe_int) pa_nil))))
    (pss_cons (ps_for PassesOwn.never rfl (pi_range1 (by rfl) m_range (pa_cons (pe_callB (call_max2 rfl) (by rfl) m_max (by decide +kernel) (pa_cons (pe_c c__law_pick hr (by decide) rfl (pa_cons (pv 0) (pa_cons (pe_op op_add (pv 2) (pe_int)) pa_nil))) (pa_cons (pe_c c__law_pick hr (by decide) rfl (pa_cons (pv 0) (pa_cons (pe_op op_add (pv 2) (pe_int)) pa_nil))) pa_nil))) pa_nil)) (pg_name (i := 7) sc__law_cues.nd rfl (Or.inl rfl))
    (pss_cons (ps_set (i := 8) sc__law_cues.nd rfl (Or.inl rfl) (pe_op op_add (pv 6) (pe_c c__law_some hr (by decide) rfl (pa_cons (pv 0) (pa_cons (pe_int) (pa_cons (pe_int) pa_nil))))))
    (pss_one (ps_if (pt_cmpR op_le (pv 8) (pv 1) (nomark _))
    (pss_cons (ps_set (i := 9) sc__law_cues.nd rfl (Or.inl rfl) (pe_ifExp (pt_val (pv 4)) (pe_c c__law_few_text hr (by decide) rfl (pa_cons (pv 0) pa_nil)) (pe_c c__law_text hr (by decide) rfl (pa_cons (pv 0) (pa_cons (pe_int) pa_nil)))))
    (pss_cons (ps_expr (pe_bm PySem.F.plainAttrs_list PySem.F.slot_list_append PySem.F.type_list_append mt_append (pv 5) (pa_cons (pe_tup (pa_cons (pv 6) (pa_cons (pv 8) (pa_cons (pe_ix ix_list (pv 3) (pe_c c__law_pick hr (by decide) rfl (pa_cons (pv 0) (pa_cons (pe_callB call_len (by rfl) m_len (by decide +kernel) (pa_cons (pv 3) pa_nil)) pa_nil))) (fun _ _ => rfl)) (pa_cons (pv 9) pa_nil))))) pa_nil)))
    (pss_one (ps_set (i := 6) sc__law_cues.nd rfl (Or.inl rfl) (pe_op op_add (pv 8) (pe_op op_mul (pe_c c__law_pick hr (by decide) rfl (pa_cons (pv 0) (pa_cons (pe_int) pa_nil))) (pe_c c__law_pick hr (by decide) rfl (pa_cons (pv 0) (pa_cons (pe_int) pa_nil)))))))))
    pss_nil))))
    (pss_one (ps_ret (pv 5)))))), ?_⟩
    refine ⟨Nat.zero_le _, fun D hD => ?_⟩
    have nD := (T.fresh hD).1
    refine ⟨_, rfl, tp, cl, ns, 3, rfl, T.new hD, by decide, fun H1 a k1 T1 a0 a1 => ?_⟩
    refine ⟨_, rfl, _, rfl, _, _, rfl, rfl, tp, cl, ns, _, rfl, T1, by omega, fun H2 b k2 T2 b0 b1 => ?_⟩
    refine ⟨_, rfl, _, rfl, _, _, rfl, rfl, tp, cl, ns, _, rfl, T2, by omega, fun H3 c k3 T3 c0 c1 => ?_⟩
    have hm : ∃ j : Int, (if c > b then c else b) = j ∧ j ≤ most := by
      by_cases h : c > b
      · exact ⟨c, if_pos h, by omega⟩
      · exact ⟨b, if_neg h, by omega⟩
    obtain ⟨j, ej, jm⟩ := hm
    refine ⟨_, _, rfl, j, by rw [ej], ?_⟩
    have j62 : -2 ^ 62 ≤ j ∧ j < 2 ^ 62 := by
      constructor
      · by_cases h : c > b
        · rw [if_pos h] at ej; omega
        · rw [if_neg h] at ej; omega
      · omega
    refine ⟨j62.1, j62.2, ?_⟩
    have kd0 : KB tp H (upd H D (.lst [])) := (KB.refl tp H).over hD
    have K3 := ((kd0.trans k1).trans k2).trans k3
    have hd3 : H3 D = some (.lst []) := k3 _ _ nD.symm (k2 _ _ nD.symm (k1 _ _ nD.symm upd_same))
    refine for_it (walk_range (lo := 0) (n := j.toNat)) (fun i σ H' => (∃ (k7 k8 k9 : Option V) (a' : Int) (L : List (Addr × Cue)), σ = [some (.ref tp), some (.int len), some (.int most), some (.ref sp), some (.bl few), some (.ref D), some (.int a'), k7, k8, k9] ∧ 0 ≤ a' ∧ endC 0 (cuesC L) ≤ a' ∧ H' D = some (.lst (refsC L)) ∧ (∀ e ∈ L, At H' e) ∧ chainC len 0 (cuesC L) ∧ L.length ≤ i) ∧ KB tp H H' ∧ Tape H' tp cl ns)
      ⟨⟨none, none, none, a, [], rfl, a0, a0, hd3, (fun _ h => nomatch h), trivial, Nat.le_refl _⟩, K3, T3⟩ (fun _ _ _ _ _ => trivial) ?_ ?_
    · rintro i x σ Ha Hb hi ⟨⟨k7, k8, k9, a', L, rfl, a0', ea', hda, hat, hch, hl⟩, ka, Ta⟩ ⟨rfl, rfl⟩
      refine ⟨_, rfl, _, rfl, tp, cl, ns, 1, 5, rfl, Ta, by decide, by decide, fun H4 d k4 T4 d1 d5 => ?_⟩
      refine ⟨_, _, rfl, rfl, _, rfl, _, rfl, _, _, rfl, rfl, _, rfl, ite2 (fun hle => ?_) (fun hle => ?_)⟩
      · have hle : a' + d ≤ len := of_decide_eq_true hle
        cases few with
        | false =>
          refine ⟨_, rfl, _, rfl, _, rfl, tp, cl, ns, 4, rfl, T4, by decide, by decide, fun H5 z k5 T5 gz => ?_⟩
          have hd5 := k5 _ _ nD.symm (k4 _ _ nD.symm hda)
          have hsp5 := k5 _ _ nsp (k4 _ _ nsp (ka _ _ nsp hsp))
          refine ⟨_, rfl, .inl ⟨rfl, _, SqL.of hd5⟩, _, rfl, _, rfl, _, rfl, _, rfl, _, rfl, _, zs.length, rfl, .inl ⟨_, SqL.of hsp5, (List.length_map ..).symm⟩, tp, cl, ns, _, rfl, T5, by omega, fun H6 e k6 T6 e0 e1 => ?_⟩
          obtain ⟨n, rfl⟩ : ∃ n : Nat, e = (n : Int) := ⟨e.toNat, by omega⟩
          have hn : n < zs.length := by omega
          have en : (zs.map V.str)[n]? = some (V.str zs[n]) := by rw [List.getElem?_map, List.getElem?_eq_getElem hn]; rfl
          refine ⟨sp, _, _, _, rfl, rfl, SqL.of (k6 _ _ nsp hsp5), atI_nat en, _, rfl, Nat.le_of_lt (small_line (by show 4 ≤ 100000; decide)), fun T2 hT2 => ?_⟩
          have hd6 := k6 _ _ nD.symm hd5
          have sT := same_new (o := .tup [V.int a', V.int (a' + d), V.str zs[n], V.str z]) hT2
          have hd7 := sT _ _ hd6
          refine ⟨D, _, _, rfl, rfl, hd7, small_line (by rw [List.length_map]; omega), ?_⟩
          have t7 := (T6.new (o := .tup [V.int a', V.int (a' + d), V.str zs[n], V.str z]) hT2).other (o := .lst (refsC L ++ [V.ref T2])) nD (T.fresh hD).2
          have K6 := ((ka.trans k4).trans k5).trans k6
          have K7 := (K6.over (o := .tup [V.int a', V.int (a' + d), V.str zs[n], V.str z]) (kb_none K6 T6 hT2)).over (o := .lst (refsC L ++ [V.ref T2])) hD
          have ko : KT (upd H6 T2 (.tup [V.int a', V.int (a' + d), V.str zs[n], V.str z])) (upd (upd H6 T2 (.tup [V.int a', V.int (a' + d), V.str zs[n], V.str z])) D (.lst (refsC L ++ [V.ref T2]))) := (KT.refl _).over hd7
          have tT : upd (upd H6 T2 (.tup [V.int a', V.int (a' + d), V.str zs[n], V.str z])) D (.lst (refsC L ++ [V.ref T2])) T2 = some (.tup [V.int a', V.int (a' + d), V.str zs[n], V.str z]) := ko _ _ upd_same
          have tL : ∀ e ∈ L, At (upd (upd H6 T2 (.tup [V.int a', V.int (a' + d), V.str zs[n], V.str z])) D (.lst (refsC L ++ [V.ref T2]))) e := fun e he => ko _ _ (((k6.at T5 (k5.at T4 (k4.at Ta (hat e he))))).keep sT)
          have tD : upd (upd H6 T2 (.tup [V.int a', V.int (a' + d), V.str zs[n], V.str z])) D (.lst (refsC L ++ [V.ref T2])) D = some (.lst (refsC (L ++ [(T2, (⟨a', a' + d, zs[n], z⟩ : Cue))]))) := by
            rw [upd_same, refs_app]
            rfl
          generalize upd (upd H6 T2 (.tup [V.int a', V.int (a' + d), V.str zs[n], V.str z])) D (.lst (refsC L ++ [V.ref T2])) = H7 at t7 K7 tT tL tD ⊢
          refine ⟨_, rfl, _, rfl, tp, cl, ns, 2, rfl, t7, by decide, fun H8 u k8 T8 u0 u1 => ?_⟩
          refine ⟨_, rfl, tp, cl, ns, 5, rfl, T8, by decide, fun H9 v k9 T9 v0 v1 => ?_⟩
          have uv : 0 ≤ u * v := Int.mul_nonneg u0 v0
          refine ⟨_, _, rfl, rfl, .inl ⟨by omega, by omega⟩, _, _, rfl, rfl, ⟨_, _, _, a' + d + u * v, L ++ [(T2, (⟨a', a' + d, zs[n], z⟩ : Cue))], rfl, by omega, ?_, k9 _ _ nD.symm (k8 _ _ nD.symm tD), fun e he => ?_, ?_, ?_⟩, (K7.trans k8).trans k9, T9⟩
          · rw [cues_app]
            show endC 0 (cuesC L ++ [_]) ≤ _
            rw [endC_snoc]
            show a' + d ≤ _
            omega
          · refine k9.at T8 (k8.at t7 ?_)
            rcases List.mem_append.mp he with h | h
            · exact tL e h
            · rw [List.mem_singleton.mp h]
              exact tT
          · rw [cues_app]
            exact chain_snoc len 0 (cuesC L) ⟨a', a' + d, zs[n], z⟩ hch ⟨short_name (hzs _ (List.getElem_mem hn)), gz, ea', (by show a' < a' + d; omega), hle⟩
          · rw [List.length_append, List.length_cons, List.length_nil]
            omega
        | true =>
          refine ⟨_, rfl, _, rfl, iteT ⟨_, rfl, tp, cl, ns, rfl, T4, fun H5 z k5 T5 hz => ?_⟩⟩
          have gz : Good (cp z) := few_good hz
          have hd5 := k5 _ _ nD.symm (k4 _ _ nD.symm hda)
          have hsp5 := k5 _ _ nsp (k4 _ _ nsp (ka _ _ nsp hsp))
          refine ⟨_, rfl, .inl ⟨rfl, _, SqL.of hd5⟩, _, rfl, _, rfl, _, rfl, _, rfl, _, rfl, _, zs.length, rfl, .inl ⟨_, SqL.of hsp5, (List.length_map ..).symm⟩, tp, cl, ns, _, rfl, T5, by omega, fun H6 e k6 T6 e0 e1 => ?_⟩
          obtain ⟨n, rfl⟩ : ∃ n : Nat, e = (n : Int) := ⟨e.toNat, by omega⟩
          have hn : n < zs.length := by omega
          have en : (zs.map V.str)[n]? = some (V.str zs[n]) := by rw [List.getElem?_map, List.getElem?_eq_getElem hn]; rfl
          refine ⟨sp, _, _, _, rfl, rfl, SqL.of (k6 _ _ nsp hsp5), atI_nat en, _, rfl, Nat.le_of_lt (small_line (by show 4 ≤ 100000; decide)), fun T2 hT2 => ?_⟩
          have hd6 := k6 _ _ nD.symm hd5
          have sT := same_new (o := .tup [V.int a', V.int (a' + d), V.str zs[n], V.str z]) hT2
          have hd7 := sT _ _ hd6
          refine ⟨D, _, _, rfl, rfl, hd7, small_line (by rw [List.length_map]; omega), ?_⟩
          have t7 := (T6.new (o := .tup [V.int a', V.int (a' + d), V.str zs[n], V.str z]) hT2).other (o := .lst (refsC L ++ [V.ref T2])) nD (T.fresh hD).2
          have K6 := ((ka.trans k4).trans k5).trans k6
          have K7 := (K6.over (o := .tup [V.int a', V.int (a' + d), V.str zs[n], V.str z]) (kb_none K6 T6 hT2)).over (o := .lst (refsC L ++ [V.ref T2])) hD
          have ko : KT (upd H6 T2 (.tup [V.int a', V.int (a' + d), V.str zs[n], V.str z])) (upd (upd H6 T2 (.tup [V.int a', V.int (a' + d), V.str zs[n], V.str z])) D (.lst (refsC L ++ [V.ref T2]))) := (KT.refl _).over hd7
          have tT : upd (upd H6 T2 (.tup [V.int a', V.int (a' + d), V.str zs[n], V.str z])) D (.lst (refsC L ++ [V.ref T2])) T2 = some (.tup [V.int a', V.int (a' + d), V.str zs[n], V.str z]) := ko _ _ upd_same
          have tL : ∀ e ∈ L, At (upd (upd H6 T2 (.tup [V.int a', V.int (a' + d), V.str zs[n], V.str z])) D (.lst (refsC L ++ [V.ref T2]))) e := fun e he => ko _ _ (((k6.at T5 (k5.at T4 (k4.at Ta (hat e he))))).keep sT)
          have tD : upd (upd H6 T2 (.tup [V.int a', V.int (a' + d), V.str zs[n], V.str z])) D (.lst (refsC L ++ [V.ref T2])) D = some (.lst (refsC (L ++ [(T2, (⟨a', a' + d, zs[n], z⟩ : Cue))]))) := by
            rw [upd_same, refs_app]
            rfl
          generalize upd (upd H6 T2 (.tup [V.int a', V.int (a' + d), V.str zs[n], V.str z])) D (.lst (refsC L ++ [V.ref T2])) = H7 at t7 K7 tT tL tD ⊢
          refine ⟨_, rfl, _, rfl, tp, cl, ns, 2, rfl, t7, by decide, fun H8 u k8 T8 u0 u1 => ?_⟩
          refine ⟨_, rfl, tp, cl, ns, 5, rfl, T8, by decide, fun H9 v k9 T9 v0 v1 => ?_⟩
          have uv : 0 ≤ u * v := Int.mul_nonneg u0 v0
          refine ⟨_, _, rfl, rfl, .inl ⟨by omega, by omega⟩, _, _, rfl, rfl, ⟨_, _, _, a' + d + u * v, L ++ [(T2, (⟨a', a' + d, zs[n], z⟩ : Cue))], rfl, by omega, ?_, k9 _ _ nD.symm (k8 _ _ nD.symm tD), fun e he => ?_, ?_, ?_⟩, (K7.trans k8).trans k9, T9⟩
          · rw [cues_app]
            show endC 0 (cuesC L ++ [_]) ≤ _
            rw [endC_snoc]
            show a' + d ≤ _
            omega
          · refine k9.at T8 (k8.at t7 ?_)
            rcases List.mem_append.mp he with h | h
            · exact tL e h
            · rw [List.mem_singleton.mp h]
              exact tT
          · rw [cues_app]
            exact chain_snoc len 0 (cuesC L) ⟨a', a' + d, zs[n], z⟩ hch ⟨short_name (hzs _ (List.getElem_mem hn)), gz, ea', (by show a' < a' + d; omega), hle⟩
          · rw [List.length_append, List.length_cons, List.length_nil]
            omega
      · have hat4 : ∀ e ∈ L, At H4 e := fun e he => k4.at Ta (hat e he)
        exact ⟨⟨_, _, _, a', L, rfl, a0', ea', k4 _ _ nD.symm hda, hat4, hch, by omega⟩, ka.trans k4, T4⟩
    · rintro σ H' ⟨⟨k7, k8, k9, a', L, rfl, a0', ea', hda, hat, hch, hl⟩, ka, Ta⟩
      exact ⟨_, rfl, q H' D L ka Ta nD.symm hda hat hch (by omega)⟩
end
end Sea
namespace Sea
open PySem PySem.Spec PyProof.Rows L2
structure RateOk (r : Int × Int) : Prop where
  u1 : 1 ≤ r.1
  u6 : r.1 ≤ 6
  d1 : 1 ≤ r.2
  d6 : r.2 ≤ 6
  g : Nat.gcd r.1.natAbs r.2.natAbs ≤ 1
theorem KB.p {tp cl : Addr} {ns : List Int} {H H' : Hp} {e : Addr × Piece} (k : KB tp H H') (T : Tape H tp cl ns) (h : PAt H e) : PAt H' e := k.kt T _ _ h
theorem KB.a {tp cl : Addr} {ns : List Int} {H H' : Hp} {e : Addr × (Str × Str)} (k : KB tp H H') (T : Tape H tp cl ns) (h : AAt H e) : AAt H' e := k.kt T _ _ h
theorem refsP_app (a b : List (Addr × Piece)) : refsP (a ++ b) = refsP a ++ refsP b := List.map_append
theorem pcs_app (a b : List (Addr × Piece)) : pcs (a ++ b) = pcs a ++ pcs b := List.map_append
def spPiecesL : Sp := fun vs H Q _ => ∃ (tp cl na : Addr) (ns : List Int) (len : Int) (zs : List Str), vs = [.ref tp, .int len, .ref na] ∧ Tape H tp cl ns ∧ 1 ≤ len ∧ len ≤ 2000 ∧ H na = some (.lst (zs.map V.str)) ∧ na ≠ tp ∧ zs.length ≤ 12 ∧ (∀ z ∈ zs, Short z) ∧
  ∀ (H' : Hp) (p : Addr) (M : List (Addr × Piece)), KB tp H H' → Tape H' tp cl ns → p ≠ tp → H' p = some (.lst (refsP M)) → (∀ e ∈ M, PAt H' e) → (pcs M).map (·.nm) = zs → (∀ p ∈ pcs M, GoodP len p ∧ p.e - p.s ≤ 9) → Q (.ref p) H'
section
variable {P : Program} {w : World} {K : PySem.W.Frag} {mg : Str → Option Value} {base : Heap}
theorem ok_piecesL {f : Addr} {fd : FuncData} (F : Fun K "_law_pieces" "_law_pieces" s__law_pieces f fd) (m_min : mg "min" = none) (c__law_pick : Cal P w K mg base 1 "_law_pick" spPick) (c__law_some : Cal P w K mg base 2 "_law_some" spSome) (c__law_rarely : Cal P w K mg base 2 "_law_rarely" spRarely) :
    FnOk P w K mg base CX0 3 f fd ["_law_tape_here", "_law_length", "_law_names_here"] spPiecesL := by
  refine F.ok sc__law_pieces (fun vs H Q E h => ?_) (fun cdv A outer s H vs Q E hr h => ?_)
  · obtain ⟨tp, cl, na, ns, len, zs, rfl, _⟩ := h
    rfl
  · obtain ⟨tp, cl, na, ns, len, zs, rfl, T, len1, len2, hna, nna, z12, hzs, q⟩ := h
    refine ⟨_, (pss_cons (ps_set (i := 3) sc__law_pieces.nd rfl (Or.inl rfl) (pe_lst (pa_cons (pe_tup (pa_cons (pe_int) (pa_cons (pe_int) pa_nil))) (pa_cons (pe_tup (pa_cons (pe_int) (pa_cons (pe_int) pa_nil))) (pa_cons (pe_tup (pa_cons (pe_int) (pa_cons (pe_int) pa_nil))) (pa_cons (pe_tup (pa_cons (pe_int) (pa_cons (pe_int) pa_nil))) (pa_cons (pe_tup (pa_cons (pe_int) (pa_cons (pe_int) pa_nil))) (pa_cons (pe_tup (pa_cons (pe_int) (pa_cons (pe_int) pa_nil))) pa_nil))))))))
    (pss_cons (ps_set (i := 4) sc__law_pieces.nd rfl (Or.inl rfl) (pe_lst pa_nil))
    (pss_cons (ps_for PassesOwn.never rfl (pi_list (pv 2)) (pg_name (i := 5) sc__law_pieces.nd rfl (Or.inl rfl))
    (pss_cons (ps_set (i := 6) sc__law_pieces.nd rfl (Or.inl rfl) (pe_c c__law_pick hr (by decide) rfl (pa_cons (pv 0) (pa_cons (pv 1) pa_nil))))
    (C8.pss_cut (ps_if (PW.pt (pw_and (pt_truth (pv 4) (by intro _; rfl)) (pw_and (pt_cmpR op_lt (pe_ix ix_tup (pe_ix ix_list (pv 4) (pe_un un_neg (pe_int)) (fun _ _ => rfl)) (pe_int) (fun _ _ => rfl)) (pv 1) (nomark _)) (pw_and1 (pt_not (pt_val (pe_c c__law_rarely hr (by decide) rfl (pa_cons (pv 0) (pa_cons (pe_int) pa_nil)))))))))
    (pss_one (ps_set (i := 6) sc__law_pieces.nd rfl (Or.inl rfl) (pe_ix ix_tup (pe_ix ix_list (pv 4) (pe_un un_neg (pe_int)) (fun _ _ => rfl)) (pe_int) (fun _ _ => rfl))))
    pss_nil)
    (pss_cons (ps_set (i := 7) sc__law_pieces.nd rfl (Or.inl rfl) (pe_op op_add (pe_op op_add (pv 6) (pe_int)) (pe_c c__law_pick hr (by decide) rfl (pa_cons (pv 0) (pa_cons (pe_callB (call_min2 rfl) (by rfl) m_min (by decide +kernel) (pa_cons (pe_op op_sub (pv 1) (pv 6)) (pa_cons (pe_int) pa_nil))) pa_nil)))))
    (pss_cons (ps_set (i := 8) sc__law_pieces.nd rfl (Or.inl rfl) (pe_ix ix_list (pv 3) (pe_c c__law_pick hr (by decide) rfl (pa_cons (pv 0) (pa_cons (pe_c c__law_some hr (by decide) rfl (pa_cons (pv 0) (pa_cons (pe_int) (pa_cons (pe_int) pa_nil)))) pa_nil))) (fun _ _ => rfl)))
    (C8.pss_cut (ps_set (i := 9) sc__law_pieces.nd rfl (Or.inl rfl) (pe_ifExp (pt_val (pe_c c__law_rarely hr (by decide) rfl (pa_cons (pv 0) (pa_cons (pe_int) pa_nil)))) (pe_str) (pe_str)))
    (pss_one (ps_expr (pe_bm PySem.F.plainAttrs_list PySem.F.slot_list_append PySem.F.type_list_append mt_append (pv 4) (pa_cons (pe_tup (pa_cons (pv 5) (pa_cons (pv 6) (pa_cons (pv 7) (pa_cons (pe_ix ix_tup (pv 8) (pe_int) (fun _ _ => rfl)) (pa_cons (pe_ix ix_tup (pv 8) (pe_int) (fun _ _ => rfl)) (pa_cons (pv 9) pa_nil))))))) pa_nil))))))))))
    (pss_one (ps_ret (pv 4)))))), ?_⟩
    have l2 : (2 : Nat) ≤ sizeLine := Nat.le_of_lt (small_line (by decide))
    refine ⟨l2, fun t1 g1 => ⟨l2, fun t2 g2 => ⟨l2, fun t3 g3 => ⟨l2, fun t4 g4 => ⟨l2, fun t5 g5 => ⟨l2, fun t6 g6 => ⟨Nat.le_of_lt (small_line (by show 6 ≤ 100000; decide)), fun rt gr => ?_⟩⟩⟩⟩⟩⟩⟩
    have n1 := same_new (o := .tup [V.int 1, V.int 1]) g1
    have n2 := same_new (o := .tup [V.int 1, V.int 2]) g2
    have n3 := same_new (o := .tup [V.int 2, V.int 1]) g3
    have n4 := same_new (o := .tup [V.int 3, V.int 2]) g4
    have n5 := same_new (o := .tup [V.int 1, V.int 3]) g5
    have n6 := same_new (o := .tup [V.int 2, V.int 3]) g6
    have nr := same_new (o := .lst [V.ref t1, V.ref t2, V.ref t3, V.ref t4, V.ref t5, V.ref t6]) gr
    have v1 := nr _ _ (n6 _ _ (n5 _ _ (n4 _ _ (n3 _ _ (n2 _ _ upd_same)))))
    have v2 := nr _ _ (n6 _ _ (n5 _ _ (n4 _ _ (n3 _ _ upd_same))))
    have v3 := nr _ _ (n6 _ _ (n5 _ _ (n4 _ _ upd_same)))
    have v4 := nr _ _ (n6 _ _ (n5 _ _ upd_same))
    have v5 := nr _ _ (n6 _ _ upd_same)
    have v6 := nr _ _ upd_same
    have vr := upd_same (H := (upd (upd (upd (upd (upd (upd H t1 (.tup [V.int 1, V.int 1])) t2 (.tup [V.int 1, V.int 2])) t3 (.tup [V.int 2, V.int 1])) t4 (.tup [V.int 3, V.int 2])) t5 (.tup [V.int 1, V.int 3])) t6 (.tup [V.int 2, V.int 3]))) (a := rt) (o := .lst [V.ref t1, V.ref t2, V.ref t3, V.ref t4, V.ref t5, V.ref t6])
    have S := ((((((n1.trans n2).trans n3).trans n4).trans n5).trans n6).trans nr)
    generalize (upd (upd (upd (upd (upd (upd (upd H t1 (.tup [V.int 1, V.int 1])) t2 (.tup [V.int 1, V.int 2])) t3 (.tup [V.int 2, V.int 1])) t4 (.tup [V.int 3, V.int 2])) t5 (.tup [V.int 1, V.int 3])) t6 (.tup [V.int 2, V.int 3])) rt (.lst [V.ref t1, V.ref t2, V.ref t3, V.ref t4, V.ref t5, V.ref t6])) = Hr at v1 v2 v3 v4 v5 v6 vr S ⊢
    have rates : ∀ k < 6, ∃ (a : Addr) (r : Int × Int), [V.ref t1, V.ref t2, V.ref t3, V.ref t4, V.ref t5, V.ref t6][k]? = some (V.ref a) ∧ Hr a = some (.tup [.int r.1, .int r.2]) ∧ RateOk r := fun k hk => by
      have : k = 0 ∨ k = 1 ∨ k = 2 ∨ k = 3 ∨ k = 4 ∨ k = 5 := by omega
      rcases this with e | e | e | e | e | e <;> subst e
      · exact ⟨t1, (1, 1), rfl, v1, ⟨by decide, by decide, by decide, by decide, by decide⟩⟩
      · exact ⟨t2, (1, 2), rfl, v2, ⟨by decide, by decide, by decide, by decide, by decide⟩⟩
      · exact ⟨t3, (2, 1), rfl, v3, ⟨by decide, by decide, by decide, by decide, by decide⟩⟩
      · exact ⟨t4, (3, 2), rfl, v4, ⟨by decide, by decide, by decide, by decide, by decide⟩⟩
      · exact ⟨t5, (1, 3), rfl, v5, ⟨by decide, by decide, by decide, by decide, by decide⟩⟩
      · exact ⟨t6, (2, 3), rfl, v6, ⟨by decide, by decide, by decide, by decide, by decide⟩⟩
    have Tr := T.same S
    have kr : KB tp H Hr := .of_same S
    refine ⟨Nat.zero_le _, fun D hD => ?_⟩
    have nD := (Tr.fresh hD).1
    have goneD := kb_none kr Tr hD
    have sD := same_new (o := .lst []) hD
    refine ⟨_, rfl, na, rfl, ⟨_, SqL.of (sD _ _ (S _ _ hna))⟩, ?_⟩
    have nrt : rt ≠ tp := fun e => by
      obtain ⟨i, r, z, c, h', _⟩ := Tr.ex
      rw [← e, vr] at h'
      cases h'
    refine for_it walk_list (fun i σ H' => (∃ (k5 k6 k7 k8 k9 : Option V) (M : List (Addr × Piece)), σ = [some (.ref tp), some (.int len), some (.ref na), some (.ref rt), some (.ref D), k5, k6, k7, k8, k9] ∧ H' D = some (.lst (refsP M)) ∧ (∀ e ∈ M, PAt H' e) ∧ (pcs M).map (·.nm) = zs.take i ∧ ∀ p ∈ pcs M, GoodP len p ∧ p.e - p.s ≤ 9) ∧ KB tp H H' ∧ KB tp Hr H' ∧ Tape H' tp cl ns)
      ⟨⟨none, none, none, none, none, [], rfl, upd_same, (fun _ h => nomatch h), rfl, (fun _ h => nomatch h)⟩, kr.over goneD, (KB.refl tp Hr).over hD, Tr.new hD⟩ (fun i σ H' _ hv => SqL.of (hv.2.2.1 _ _ nna (S _ _ hna))) ?_ ?_
    · rintro i x σ Ha Hb hi ⟨⟨k5, k6, k7, k8, k9, M, rfl, hda, hat, hnm, hgd⟩, ka, kd, Ta⟩ ⟨rfl, hy⟩
      obtain ⟨z, hz, rfl⟩ : ∃ z, zs[i]? = some z ∧ x = V.str z := by
        rw [List.getElem?_map] at hy
        cases q : zs[i]? with
        | none => rw [q] at hy; cases hy
        | some z => rw [q] at hy; exact ⟨z, rfl, (Option.some.inj hy).symm⟩
      have hzm := List.mem_of_getElem? hz
      have hi12 : i < 12 := by have := (List.getElem?_eq_some_iff.mp hz).1; omega
      have lM : M.length ≤ i := by
        have := congrArg List.length hnm
        rw [List.length_map, List.length_map, List.length_take] at this
        omega
      refine ⟨_, rfl, _, rfl, tp, cl, ns, len, rfl, Ta, by omega, fun H1 b k1 T1 b0 b1 => ?_⟩
      have hd1 := k1 _ _ nD.symm hda
      refine ⟨fun σ' H' => ∃ (b : Int) (k7 k8 k9 : Option V), σ' = [some (.ref tp), some (.int len), some (.ref na), some (.ref rt), some (.ref D), some (.str z), some (.int b), k7, k8, k9] ∧ KB tp Hb H' ∧ Tape H' tp cl ns ∧ 0 ≤ b ∧ b < len, ?_, ?_⟩
      · rcases List.eq_nil_or_concat M with e | ⟨M', d, e⟩
        · subst e
          refine ⟨_, rfl, _, .inl ⟨_, SqL.of hd1, rfl⟩, ?_⟩
          exact ⟨b, _, _, _, rfl, k1, T1, b0, by omega⟩
        · rw [List.concat_eq_append] at e
          subst e
          have dA := k1.p Ta (hat d (List.mem_append_right _ (List.mem_singleton.mpr rfl)))
          have dG := (hgd d.2 (List.mem_map.mpr ⟨d, List.mem_append_right _ (List.mem_singleton.mpr rfl), rfl⟩)).1
          have hl : atI (refsP (M' ++ [d])) (-1) = some (V.ref d.1) := by rw [refsP_app]; exact atI_last _ _
          refine ⟨_, rfl, _, .inl ⟨_, SqL.of hd1, rfl⟩, ?_⟩
          have ne : (!(refsP (M' ++ [d])).isEmpty) = true := by
            rw [refsP_app]
            cases refsP M' <;> rfl
          rw [ne]
          refine iteT ⟨_, rfl, _, rfl, D, _, _, _, rfl, rfl, SqL.of hd1, hl, d.1, _, 2, _, rfl, rfl, SqT.of dA, atI_nat (j := 2) rfl, _, rfl, _, _, rfl, rfl, _, rfl, ite2 (fun hlt => ?_) (fun hlt => ?_)⟩
          · have hlt : d.2.e < len := of_decide_eq_true hlt
            refine ⟨_, rfl, tp, cl, ns, 3, rfl, T1, by decide, fun H2 c k2 T2 => ⟨_, rfl, ?_⟩⟩
            have hd2 := k2 _ _ nD.symm hd1
            have dA2 := k2.p T1 dA
            cases c with
            | true => exact ⟨b, _, _, _, rfl, k1.trans k2, T2, b0, by omega⟩
            | false =>
              have := dG.s0
              have := dG.lt
              exact ⟨_, rfl, _, rfl, D, _, _, _, rfl, rfl, SqL.of hd2, hl, d.1, _, 2, _, rfl, rfl, SqT.of dA2, atI_nat (j := 2) rfl, d.2.e, _, _, _, rfl, k1.trans k2, T2, by omega, hlt⟩
          · exact ⟨b, _, _, _, rfl, k1, T1, b0, by omega⟩
      rintro σ' H2 ⟨b, k7, k8, k9, rfl, k2, T2, b0, b1⟩
      refine ⟨_, rfl, _, _, rfl, rfl, _, rfl, _, rfl, _, rfl, _, _, rfl, rfl, _, _, rfl, ?_⟩
      have hm : ∃ m : Int, (if 9 < len - b then 9 else len - b) = m ∧ 1 ≤ m ∧ m ≤ 9 ∧ b + m ≤ len := by
        by_cases h : 9 < len - b
        · exact ⟨9, if_pos h, by decide, by decide, by omega⟩
        · exact ⟨len - b, if_neg h, by omega, by omega, by omega⟩
      obtain ⟨m, em, m1, m9, bm⟩ := hm
      refine ⟨tp, cl, ns, m, by rw [em]; rfl, T2, by omega, fun H3 g k3 T3 g0 g1 => ?_⟩
      refine ⟨_, _, rfl, rfl, _, rfl, _, rfl, _, rfl, tp, cl, ns, 1, 6, rfl, T3, by decide, by decide, fun H4 e k4 T4 e1 e6 => ?_⟩
      refine ⟨tp, cl, ns, e, rfl, T4, by omega, fun H5 u k5 T5 u0 u1 => ?_⟩
      obtain ⟨n, rfl⟩ : ∃ n : Nat, u = (n : Int) := ⟨u.toNat, by omega⟩
      obtain ⟨a, r, ha, hra, rok⟩ := rates n (by omega)
      have K5 := (((k2.trans k3).trans k4).trans k5)
      have krt : ∀ {H' : Hp}, KB tp Hb H' → H' rt = some (.lst [V.ref t1, V.ref t2, V.ref t3, V.ref t4, V.ref t5, V.ref t6]) := fun k => k _ _ nrt (kd _ _ nrt vr)
      have kra : ∀ {H' : Hp}, KB tp Hb H' → H' a = some (.tup [.int r.1, .int r.2]) := fun k => k.kt Ta _ _ (kd.kt Tr _ _ hra)
      refine ⟨rt, _, _, _, rfl, rfl, SqL.of (krt K5), atI_nat ha, ?_⟩
      refine ⟨fun σ' H' => ∃ (on : Bool), σ' = [some (.ref tp), some (.int len), some (.ref na), some (.ref rt), some (.ref D), some (.str z), some (.int b), some (.int (b + 1 + g)), some (.ref a), some (.str (wayS on))] ∧ KB tp Hb H' ∧ Tape H' tp cl ns, ?_, ?_⟩
      · refine ⟨_, rfl, tp, cl, ns, 5, rfl, T5, by decide, fun H6 c k6 T6 => ⟨_, rfl, ?_⟩⟩
        cases c with
        | true => exact ⟨false, rfl, K5.trans k6, T6⟩
        | false => exact ⟨true, rfl, K5.trans k6, T6⟩
      rintro σ' H6 ⟨on, rfl, K6, T6⟩
      have hd6 := K6 _ _ nD.symm hda
      refine ⟨_, rfl, .inl ⟨rfl, _, SqL.of hd6⟩, _, rfl, _, rfl, _, rfl, _, rfl, a, _, 0, _, rfl, rfl, SqT.of (kra K6), atI_nat (j := 0) rfl, _, rfl, a, _, 1, _, rfl, rfl, SqT.of (kra K6), atI_nat (j := 1) rfl, _, rfl, Nat.le_of_lt (small_line (by show 6 ≤ 100000; decide)), fun T hT => ?_⟩
      let pc : Piece := ⟨z, b, b + 1 + g, r.1, r.2, on⟩
      have sT := same_new (o := .tup pc.vs) hT
      have hd7 := sT _ _ hd6
      refine ⟨D, _, _, rfl, rfl, hd7, small_line (by rw [List.length_map]; omega), ⟨_, _, _, _, _, M ++ [(T, pc)], rfl, ?_, fun e he => ?_, ?_, fun p hp => ?_⟩, ?_, ?_, ?_⟩
      · rw [upd_same, refsP_app]
        rfl
      · have ko : KT (upd H6 T (.tup pc.vs)) (upd (upd H6 T (.tup pc.vs)) D (.lst (refsP M ++ [V.ref T]))) := (KT.refl _).over hd7
        rcases List.mem_append.mp he with h | h
        · exact ko _ _ ((K6.p Ta (hat e h)).keep sT)
        · rw [List.mem_singleton.mp h]
          exact ko _ _ upd_same
      · rw [pcs_app, List.map_append, hnm, List.take_add_one, hz]
        rfl
      · rw [pcs_app] at hp
        rcases List.mem_append.mp hp with h | h
        · exact hgd p h
        · rw [List.mem_singleton.mp h]
          exact ⟨⟨short_name (hzs z hzm), b0, (by show b < b + 1 + g; omega), (by show b + 1 + g ≤ len; omega), rok.u1, rok.u6, rok.d1, rok.d6, rok.g⟩, (by show b + 1 + g - b ≤ 9; omega)⟩
      · have K7 := ka.trans K6
        exact (K7.over (kb_none K7 T6 hT)).over goneD
      · have K7 := kd.trans K6
        exact (K7.over (kb_none K7 T6 hT)).over hD
      · exact (T6.new hT).other nD (Tr.fresh hD).2
    · rintro σ H' ⟨⟨k5, k6, k7, k8, k9, M, rfl, hda, hat, hnm, hgd⟩, ka, kd, Ta⟩
      rw [List.length_map, List.take_length] at hnm
      exact ⟨_, rfl, q H' D M ka Ta nD.symm hda hat hnm hgd⟩
end
end Sea
namespace Sea
open PySem PySem.Spec PyProof.Rows L2
def stepsOf (zs : List Str) : List (Str × Str) := zs.zip (zs.drop 1)
theorem refsA_app (a b : List (Addr × (Str × Str))) : refsA (a ++ b) = refsA a ++ refsA b := List.map_append
theorem prs_app (a b : List (Addr × (Str × Str))) : prs (a ++ b) = prs a ++ prs b := List.map_append
theorem steps_nd {zs : List Str} (h : zs.Nodup) : (stepsOf zs).Nodup := by
  have e : (stepsOf zs).map Prod.snd = zs.drop 1 := List.map_snd_zip (by rw [List.length_drop]; omega)
  have n : ((stepsOf zs).map Prod.snd).Nodup := by rw [e]; exact h.sublist (List.drop_sublist _ _)
  exact List.Pairwise.of_map Prod.snd (fun a b hab e => hab (by rw [e])) n
theorem steps_in {zs : List Str} {a : Str × Str} (h : a ∈ stepsOf zs) : a.1 ∈ zs ∧ a.2 ∈ zs := by
  have := List.of_mem_zip (a := a.1) (b := a.2) h
  exact ⟨this.1, List.mem_of_mem_drop this.2⟩
theorem steps_len (zs : List Str) : (stepsOf zs).length = zs.length - 1 := by
  unfold stepsOf
  rw [List.length_zip, List.length_drop]
  omega
theorem steps_at {zs : List Str} {i : Nat} (h : i + 1 < zs.length) : (stepsOf zs)[i]? = some (zs[i], zs[i + 1]) := by
  unfold stepsOf
  rw [List.getElem?_eq_getElem (by rw [List.length_zip, List.length_drop]; omega), List.getElem_zip]
  simp only [List.getElem_drop]
  congr 2
  congr 1
  omega
theorem asc_short {z : Str} (h : Short z) : AscS z := nameS (short_name h)
def spArrowsL : Sp := fun vs H Q _ => ∃ (tp cl na : Addr) (ns : List Int) (zs : List Str), vs = [.ref tp, .ref na] ∧ Tape H tp cl ns ∧ H na = some (.lst (zs.map V.str)) ∧ na ≠ tp ∧ 1 ≤ zs.length ∧ zs.length ≤ 12 ∧ (∀ z ∈ zs, Short z) ∧ zs.Nodup ∧
  ∀ (H' : Hp) (p : Addr) (A : List (Addr × (Str × Str))), KB tp H H' → Tape H' tp cl ns → p ≠ tp → H' p = some (.lst (refsA A)) → (∀ e ∈ A, AAt H' e ∧ e.2.1 ∈ zs ∧ e.2.2 ∈ zs) → (prs A).Nodup → A.length ≤ 100 → (∀ a ∈ stepsOf zs, a ∈ prs A) → Q (.ref p) H'
section
variable {P : Program} {w : World} {K : PySem.W.Frag} {mg : Str → Option Value} {base : Heap}
theorem ok_arrowsL {f : Addr} {fd : FuncData} (F : Fun K "_law_arrows" "_law_arrows" s__law_arrows f fd) (m_range : mg "range" = none) (m_len : mg "len" = none) (c__law_pick : Cal P w K mg base 1 "_law_pick" spPick) :
    FnOk P w K mg base CX0 2 f fd ["_law_tape_here", "_law_names_here"] spArrowsL := by
  refine F.ok sc__law_arrows (fun vs H Q E h => ?_) (fun cdv A outer s H vs Q E hr h => ?_)
  · obtain ⟨tp, cl, na, ns, zs, rfl, _⟩ := h
    rfl
  · obtain ⟨tp, cl, na, ns, zs, rfl, T, hna, nna, z1, z12, hzs, nd, q⟩ := h
    refine ⟨_, (pss_cons (ps_setLc (i := 3) (own := [("_law_k", 2)]) rfl sc__law_arrows.nd rfl rfl (sw_true rfl rfl rfl (by decide +kernel)) (pi_range1 (by rfl) m_range (pa_cons (pe_op op_sub (pe_callB call_len (by rfl) m_len (by decide +kernel) (pa_cons (pv 1) pa_nil)) (pe_int)) pa_nil)) (blkOk_by (N := N__law_arrows) (sc := defScope s__law_arrows) (by decide +kernel)) (fun _ _ _ _ _ => (pg_name (i := 2) sc__law_arrows.nd rfl (Or.inl rfl))) (fun _ _ _ _ _ => pts_nil) (fun _ _ _ _ _ => by exact (pe_tup (pa_cons (pe_ix (show IxR _ (rIxL K) from ix_list) (pv 1) (pv 2) (fun _ _ => rfl)) (pa_cons (pe_ix (show IxR _ (rIxL K) from ix_list) (pv 1) (pe_op op_add (pv 2) (pe_int)) (fun _ _ => rfl)) pa_nil)))))
    (pss_cons (ps_for PassesOwn.never rfl (pi_range1 (by rfl) m_range (pa_cons (pe_c c__law_pick hr (by decide) rfl (pa_cons (pv 0) (pa_cons (pe_op op_add (pe_callB call_len (by rfl) m_len (by decide +kernel) (pa_cons (pv 1) pa_nil)) (pe_int)) pa_nil))) pa_nil)) (pg_name (i := 2) sc__law_arrows.nd rfl (Or.inl rfl))
    (pss_cons (ps_set (i := 4) sc__law_arrows.nd rfl (Or.inl rfl) (pe_tup (pa_cons (pe_ix ix_list (pv 1) (pe_c c__law_pick hr (by decide) rfl (pa_cons (pv 0) (pa_cons (pe_callB call_len (by rfl) m_len (by decide +kernel) (pa_cons (pv 1) pa_nil)) pa_nil))) (fun _ _ => rfl)) (pa_cons (pe_ix ix_list (pv 1) (pe_c c__law_pick hr (by decide) rfl (pa_cons (pv 0) (pa_cons (pe_callB call_len (by rfl) m_len (by decide +kernel) (pa_cons (pv 1) pa_nil)) pa_nil))) (fun _ _ => rfl)) pa_nil))))
    (pss_one (ps_if (pt_cmpR (op_notInD (hu65 hr)) (pv 4) (pv 3) rfl)
    (pss_one (ps_expr (pe_bm PySem.F.plainAttrs_list PySem.F.slot_list_append PySem.F.type_list_append mt_append (pv 3) (pa_cons (pv 4) pa_nil))))
    pss_nil))))
    (pss_one (ps_ret (pv 3))))), ?_⟩
    refine ⟨_, rfl, _, zs.length, rfl, .inl ⟨_, SqL.of hna, (List.length_map ..).symm⟩, _, _, rfl, rfl, _, rfl, by omega, by omega, fun D hD => ?_⟩
    have nD := (T.fresh hD).1
    have nDa : na ≠ D := ne_of_none hna hD
    refine lc_it (walk_range (lo := 0) (n := ((zs.length : Int) - 1).toNat)) (fun i H' => Same H H' ∧ ∃ A : List (Addr × (Str × Str)), H' D = some (.lst (refsA A)) ∧ prs A = (stepsOf zs).take i ∧ ∀ e ∈ A, AAt H' e) ⟨same_new hD, [], upd_same, rfl, fun _ h => nomatch h⟩ (fun _ _ _ _ => trivial) ?_ ?_
    · rintro i x Ha Hb hi ⟨hs, A, hd, hn, hA⟩ ⟨rfl, rfl⟩
      have hi1 : i + 1 < zs.length := by omega
      have lA : A.length ≤ i := by
        have := congrArg List.length hn
        rw [List.length_map, List.length_take] at this
        omega
      have g1 : (zs.map V.str)[i]? = some (V.str zs[i]) := by rw [List.getElem?_map, List.getElem?_eq_getElem (by omega)]; rfl
      have g2 : (zs.map V.str)[i + 1]? = some (V.str zs[i + 1]) := by rw [List.getElem?_map, List.getElem?_eq_getElem hi1]; rfl
      refine ⟨rfl, _, rfl, _, rfl, na, _, ((i : Nat) : Int), _, rfl, congrArg V.int (Int.zero_add _), SqL.of (hs _ _ hna), atI_nat g1, _, rfl, _, rfl, _, _, rfl, rfl, na, _, (((i + 1 : Nat)) : Int), _, rfl, congrArg V.int (show (0 : Int) + ((i : Nat) : Int) + 1 = (((i + 1 : Nat)) : Int) by omega), SqL.of (hs _ _ hna), atI_nat g2, Nat.le_of_lt (small_line (by show 2 ≤ 100000; decide)), fun T1 hT => ?_⟩
      have sT := same_new (o := .tup [.str zs[i], .str zs[i + 1]]) hT
      have hd1 := sT _ _ hd
      refine ⟨_, hd1, small_line (by rw [List.length_map]; omega), same_over (hs.trans sT) hD, A ++ [(T1, (zs[i], zs[i + 1]))], ?_, ?_, fun e he => ?_⟩
      · rw [upd_same, refsA_app]
        rfl
      · rw [prs_app, hn, List.take_add_one, steps_at hi1]
        rfl
      · have ko : KT (upd Hb T1 (.tup [.str zs[i], .str zs[i + 1]])) (upd (upd Hb T1 (.tup [.str zs[i], .str zs[i + 1]])) D (.lst (refsA A ++ [V.ref T1]))) := (KT.refl _).over hd1
        rcases List.mem_append.mp he with h | h
        · exact ko _ _ ((hA e h).keep sT)
        · rw [List.mem_singleton.mp h]
          exact ko _ _ upd_same
    rintro H1 ⟨s1, A0, hd1, hn0, hA0⟩
    have T1 := T.same s1
    rw [List.take_of_length_le (by rw [steps_len]; omega)] at hn0
    refine ⟨_, rfl, _, rfl, _, zs.length, rfl, .inl ⟨_, SqL.of (s1 _ _ hna), (List.length_map ..).symm⟩, _, _, rfl, rfl, tp, cl, ns, _, rfl, T1, by omega, fun H2 m k2 T2 m0 m1 => ?_⟩
    have hd2 := k2 _ _ nD.symm hd1
    have K2 : KB tp H H2 := (KB.of_same s1).trans k2
    refine ⟨_, rfl, by omega, by omega, ?_⟩
    refine for_it (walk_range (lo := 0) (n := m.toNat)) (fun i σ H' => (∃ (k2 k4 : Option V) (A : List (Addr × (Str × Str))), σ = [some (.ref tp), some (.ref na), k2, some (.ref D), k4] ∧ H' D = some (.lst (refsA A)) ∧ (∀ e ∈ A, AAt H' e ∧ e.2.1 ∈ zs ∧ e.2.2 ∈ zs) ∧ (prs A).Nodup ∧ A.length ≤ 11 + i ∧ ∀ a ∈ stepsOf zs, a ∈ prs A) ∧ KB tp H H' ∧ Tape H' tp cl ns)
      ⟨⟨none, none, A0, rfl, hd2, fun e he => ⟨k2.a T1 (hA0 e he), steps_in (by rw [← hn0]; exact List.mem_map.mpr ⟨e, he, rfl⟩)⟩, by rw [hn0]; exact steps_nd nd, ?_, fun a ha => by rw [hn0]; exact ha⟩, K2, T2⟩ (fun _ _ _ _ _ => trivial) ?_ ?_
    · have := congrArg List.length hn0
      rw [List.length_map, steps_len] at this
      omega
    · rintro i x σ Ha Hb hi ⟨⟨k2', k4', A, rfl, hda, hA, ndA, lA, hst⟩, ka, Ta⟩ ⟨rfl, rfl⟩
      have hna' := ka _ _ nna hna
      refine ⟨_, rfl, _, rfl, _, rfl, _, zs.length, rfl, .inl ⟨_, SqL.of hna', (List.length_map ..).symm⟩, tp, cl, ns, _, rfl, Ta, by omega, fun H3 a k3 T3 a0 a1 => ?_⟩
      obtain ⟨j, rfl⟩ : ∃ j : Nat, a = (j : Int) := ⟨a.toNat, by omega⟩
      have hj : j < zs.length := by omega
      have gj : (zs.map V.str)[j]? = some (V.str zs[j]) := by rw [List.getElem?_map, List.getElem?_eq_getElem hj]; rfl
      have hna3 := k3 _ _ nna hna'
      refine ⟨na, _, _, _, rfl, rfl, SqL.of hna3, atI_nat gj, _, rfl, _, rfl, _, rfl, _, zs.length, rfl, .inl ⟨_, SqL.of hna3, (List.length_map ..).symm⟩, tp, cl, ns, _, rfl, T3, by omega, fun H4 b k4 T4 b0 b1 => ?_⟩
      obtain ⟨k, rfl⟩ : ∃ k : Nat, b = (k : Int) := ⟨b.toNat, by omega⟩
      have hk : k < zs.length := by omega
      have gk : (zs.map V.str)[k]? = some (V.str zs[k]) := by rw [List.getElem?_map, List.getElem?_eq_getElem hk]; rfl
      refine ⟨na, _, _, _, rfl, rfl, SqL.of (k4 _ _ nna hna3), atI_nat gk, Nat.le_of_lt (small_line (by show 2 ≤ 100000; decide)), fun T' hT => ?_⟩
      have sT := same_new (o := .tup [.str zs[j], .str zs[k]]) hT
      have hd4 := k4 _ _ nD.symm (k3 _ _ nD.symm hda)
      have hd5 := sT _ _ hd4
      have hA5 : ∀ e ∈ A, AAt (upd H4 T' (.tup [.str zs[j], .str zs[k]])) e := fun e he => (k4.a T3 (k3.a Ta (hA e he).1)).keep sT
      have K4 := (ka.trans k3).trans k4
      have K5 := K4.over (o := .tup [.str zs[j], .str zs[k]]) (kb_none K4 T4 hT)
      have mj := List.getElem_mem hj
      have mk := List.getElem_mem hk
      refine ⟨_, rfl, _, rfl, arP (zs[j], zs[k]), (prs A).map arP, .tup (SqT.of upd_same) (.cons (.str _) (.cons (.str _) .nil)), .lst (SqL.of hd5) (dp_arrows hA5), arP_shaped (asc_short (hzs _ mj)) (asc_short (hzs _ mk)), arPs_shaped (fun a h => by
        obtain ⟨e, he, rfl⟩ := List.mem_map.mp h
        exact ⟨asc_short (hzs _ (hA e he).2.1), asc_short (hzs _ (hA e he).2.2)⟩), _, rfl, ?_⟩
      rw [arP_any]
      by_cases hin : (zs[j], zs[k]) ∈ prs A
      · rw [decide_eq_true hin]
        exact ⟨⟨_, _, A, rfl, hd5, fun e he => ⟨hA5 e he, (hA e he).2⟩, ndA, by omega, hst⟩, K5, T4.new hT⟩
      · rw [decide_eq_false hin]
        refine ⟨_, rfl, .inl ⟨rfl, _, SqL.of hd5⟩, _, rfl, D, _, _, rfl, rfl, hd5, small_line (by rw [List.length_map]; omega), ⟨_, _, A ++ [(T', (zs[j], zs[k]))], rfl, ?_, fun e he => ?_, ?_, ?_, fun a ha => ?_⟩, K5.over hD, (T4.new hT).other nD (T.fresh hD).2⟩
        · rw [upd_same, refsA_app]
          rfl
        · have ko : KT (upd H4 T' (.tup [.str zs[j], .str zs[k]])) (upd (upd H4 T' (.tup [.str zs[j], .str zs[k]])) D (.lst (refsA A ++ [V.ref T']))) := (KT.refl _).over hd5
          rcases List.mem_append.mp he with h | h
          · exact ⟨ko _ _ (hA5 e h), (hA e h).2⟩
          · rw [List.mem_singleton.mp h]
            exact ⟨ko _ _ upd_same, mj, mk⟩
        · rw [prs_app]
          refine List.nodup_append.mpr ⟨ndA, List.nodup_cons.mpr ⟨List.not_mem_nil, List.nodup_nil⟩, fun a ha b hb => ?_⟩
          rw [List.mem_singleton.mp hb]
          exact fun e => hin (by rw [e] at ha; exact ha)
        · rw [List.length_append, List.length_cons, List.length_nil]
          omega
        · rw [prs_app]
          exact List.mem_append_left _ (hst a ha)
    · rintro σ H' ⟨⟨k2', k4', A, rfl, hda, hA, ndA, lA, hst⟩, ka, Ta⟩
      exact ⟨_, rfl, q H' D A ka Ta nD.symm hda hA ndA (by omega) hst⟩
end
end Sea
namespace Sea
open PySem PySem.Spec PyProof.Rows L2
def spOthers : Sp := fun vs H Q _ => ∃ (tp cl na : Addr) (ns : List Int) (zs : List Str) (z : Str), vs = [.ref tp, .ref na, .str z] ∧ Tape H tp cl ns ∧ H na = some (.lst (zs.map V.str)) ∧ na ≠ tp ∧ zs.length ≤ 12 ∧ zs.Nodup ∧ z ∈ zs ∧
  ∀ (H' : Hp) (p : Addr) (ss : List Str), KB tp H H' → Tape H' tp cl ns → p ≠ tp → H' p = some (.lst (ss.map V.str)) → Chosen zs ss → z ∈ ss → Q (.ref p) H'
/-- the same things, turned -/
def turnL {α : Type} (k : Nat) (xs : List α) : List α := xs.drop k ++ xs.take k
theorem turn_perm {α : Type} (k : Nat) (xs : List α) : (turnL k xs).Perm xs := by
  unfold turnL
  refine List.perm_append_comm.trans ?_
  rw [List.take_append_drop]
theorem turn_map {α β : Type} (f : α → β) (k : Nat) (xs : List α) : (turnL k xs).map f = turnL k (xs.map f) := by
  unfold turnL
  rw [List.map_append, List.map_drop, List.map_take]
theorem cut_from (k : Nat) (xs : List V) : cutV xs (some ((k : Nat) : Int)) none = xs.drop k := by
  unfold cutV
  rw [HT.sIx_nat, HT.sIx_none]
  by_cases h : k ≤ xs.length
  · rw [Nat.min_eq_left h, List.take_of_length_le (by rw [List.length_drop]; exact Nat.le_refl _)]
  · rw [Nat.min_eq_right (by omega), Nat.sub_self, List.take_zero, List.drop_eq_nil_of_le (by omega)]
theorem cut_to (k : Nat) (xs : List V) : cutV xs none (some ((k : Nat) : Int)) = xs.take k := by
  unfold cutV
  rw [HT.sIx_nat, HT.sIx_none, List.drop_zero, Nat.sub_zero]
  by_cases h : k ≤ xs.length
  · rw [Nat.min_eq_left h]
  · rw [Nat.min_eq_right (by omega), List.take_length, List.take_of_length_le (by omega)]
def spTurned : Sp := fun vs H Q _ => ∃ (tp cl a : Addr) (ns : List Int) (xs : List V), vs = [.ref tp, .ref a] ∧ Tape H tp cl ns ∧ H a = some (.lst xs) ∧ a ≠ tp ∧ xs.length ≤ 1000 ∧
  ∀ (H' : Hp) (p : Addr) (k : Nat), KB tp H H' → Tape H' tp cl ns → p ≠ tp → H' p = some (.lst (turnL k xs)) → Q (.ref p) H'
section
variable {P : Program} {w : World} {K : PySem.W.Frag} {mg : Str → Option Value} {base : Heap}
theorem ok_others {f : Addr} {fd : FuncData} (F : Fun K "_law_others" "_law_others" s__law_others f fd) (c__law_rarely : Cal P w K mg base 2 "_law_rarely" spRarely) :
    FnOk P w K mg base CX0 3 f fd ["_law_tape_here", "_law_names_here", "_law_chosen"] spOthers := by
  refine F.ok sc__law_others (fun vs H Q E h => ?_) (fun cdv A outer s H vs Q E hr h => ?_)
  · obtain ⟨tp, cl, na, ns, zs, z, rfl, _⟩ := h
    rfl
  · obtain ⟨tp, cl, na, ns, zs, z, rfl, T, hna, nna, z12, nd, hz, q⟩ := h
    refine ⟨_, (pss_cons (ps_set (i := 3) sc__law_others.nd rfl (Or.inl rfl) (pe_lst (pa_cons (pv 2) pa_nil)))
    (pss_cons (ps_for PassesOwn.never rfl (pi_list (pv 1)) (pg_name (i := 4) sc__law_others.nd rfl (Or.inl rfl))
    (pss_one (ps_if (PW.pt (pw_and (pt_cmpR op_ne (pv 4) (pv 2) (nomark _)) (pw_and1 (pt_val (pe_c c__law_rarely hr (by decide) rfl (pa_cons (pv 0) (pa_cons (pe_int) pa_nil)))))))
    (pss_one (ps_expr (pe_bm PySem.F.plainAttrs_list PySem.F.slot_list_append PySem.F.type_list_append mt_append (pv 3) (pa_cons (pv 4) pa_nil))))
    pss_nil)))
    (pss_one (ps_ret (pv 3))))), ?_⟩
    refine ⟨_, rfl, Nat.le_of_lt (small_line (by show 1 ≤ 100000; decide)), fun D hD => ?_⟩
    have nD := (T.fresh hD).1
    have sD := same_new (o := .lst [V.str z]) hD
    refine ⟨_, rfl, na, rfl, ⟨_, SqL.of (sD _ _ hna)⟩, ?_⟩
    refine for_it walk_list (fun i σ H' => (∃ (k4 : Option V) (ss : List Str), σ = [some (.ref tp), some (.ref na), some (.str z), some (.ref D), k4] ∧ H' D = some (.lst (ss.map V.str)) ∧ ss.Nodup ∧ z ∈ ss ∧ (∀ y ∈ ss, y = z ∨ y ∈ zs.take i) ∧ ss.length ≤ 1 + i) ∧ KB tp H H' ∧ Tape H' tp cl ns)
      ⟨⟨none, [z], rfl, upd_same, List.nodup_cons.mpr ⟨List.not_mem_nil, List.nodup_nil⟩, List.mem_singleton.mpr rfl, fun y hy => .inl (List.mem_singleton.mp hy), Nat.le_refl _⟩, (KB.refl tp H).over hD, T.new hD⟩ (fun i σ H' _ hv => SqL.of (hv.2.1 _ _ nna hna)) ?_ ?_
    · rintro i x σ Ha Hb hi ⟨⟨k4, ss, rfl, hda, ndS, mz, sub, ls⟩, ka, Ta⟩ ⟨rfl, hy⟩
      obtain ⟨y, hy', rfl⟩ : ∃ y, zs[i]? = some y ∧ x = V.str y := by
        rw [List.getElem?_map] at hy
        cases q : zs[i]? with
        | none => rw [q] at hy; cases hy
        | some z => rw [q] at hy; exact ⟨z, rfl, (Option.some.inj hy).symm⟩
      have tk : zs.take (i + 1) = zs.take i ++ [y] := by rw [List.take_add_one, hy']; rfl
      have more : ∀ x ∈ ss, x = z ∨ x ∈ zs.take (i + 1) := fun x hx => (sub x hx).imp id fun h => by rw [tk]; exact List.mem_append_left _ h
      have hi12 : i < zs.length := (List.getElem?_eq_some_iff.mp hy').1
      refine ⟨_, rfl, _, rfl, rfl, _, rfl, ?_⟩
      by_cases e : y = z
      · subst e
        rw [show (!decide (V.str y = V.str y)) = false by rw [decide_eq_true rfl]; rfl]
        exact ⟨⟨_, ss, rfl, hda, ndS, mz, more, by omega⟩, ka, Ta⟩
      · rw [show (!decide (V.str y = V.str z)) = true by rw [decide_eq_false fun q => e (V.str.inj q)]; rfl]
        refine iteT ⟨_, rfl, tp, cl, ns, 4, rfl, Ta, by decide, fun H1 b k1 T1 => ⟨_, rfl, ?_⟩⟩
        have hd1 := k1 _ _ nD.symm hda
        cases b with
        | false => exact ⟨⟨_, ss, rfl, hd1, ndS, mz, more, by omega⟩, ka.trans k1, T1⟩
        | true =>
          have nin : y ∉ ss := fun h => by
            rcases sub y h with h | h
            · exact e h
            · have nd2 : (zs.take (i + 1)).Nodup := nd.sublist (List.take_sublist _ _)
              rw [tk] at nd2
              exact absurd rfl ((List.nodup_append.mp nd2).2.2 _ h _ (List.mem_singleton.mpr rfl))
          refine ⟨_, rfl, .inl ⟨rfl, _, SqL.of hd1⟩, _, rfl, D, _, _, rfl, rfl, hd1, small_line (by rw [List.length_map]; omega), ⟨_, ss ++ [y], rfl, ?_, ?_, List.mem_append_left _ mz, fun x hx => ?_, ?_⟩, (ka.trans k1).over hD, T1.other nD (T.fresh hD).2⟩
          · rw [upd_same, List.map_append]
            rfl
          · refine List.nodup_append.mpr ⟨ndS, List.nodup_cons.mpr ⟨List.not_mem_nil, List.nodup_nil⟩, fun a ha b hb => ?_⟩
            rw [List.mem_singleton.mp hb]
            exact fun q => nin (by rw [q] at ha; exact ha)
          · rcases List.mem_append.mp hx with h | h
            · exact more x h
            · rw [List.mem_singleton.mp h, tk]
              exact .inr (List.mem_append_right _ (List.mem_singleton.mpr rfl))
          · rw [List.length_append, List.length_cons, List.length_nil]
            omega
    · rintro σ H' ⟨⟨k4, ss, rfl, hda, ndS, mz, sub, ls⟩, ka, Ta⟩
      refine ⟨_, rfl, q H' D ss ka Ta nD.symm hda ⟨List.length_pos_of_mem mz, ?_, ndS, fun y hy => ?_⟩ mz⟩
      · rw [List.length_map] at ls
        omega
      · rcases sub y hy with h | h
        · rw [h]; exact hz
        · exact List.mem_of_mem_take h
theorem ok_turned {f : Addr} {fd : FuncData} (F : Fun K "_law_turned" "_law_turned" s__law_turned f fd) (m_len : mg "len" = none) (c__law_pick : Cal P w K mg base 1 "_law_pick" spPick) :
    FnOk P w K mg base CX0 2 f fd ["_law_tape_here", "_law_things"] spTurned := by
  refine F.ok sc__law_turned (fun vs H Q E h => ?_) (fun cdv A outer s H vs Q E hr h => ?_)
  · obtain ⟨tp, cl, a, ns, xs, rfl, _⟩ := h
    rfl
  · obtain ⟨tp, cl, a, ns, xs, rfl, T, ha, na, lx, q⟩ := h
    refine ⟨_, (pss_cons (ps_set (i := 2) sc__law_turned.nd rfl (Or.inl rfl) (pe_c c__law_pick hr (by decide) rfl (pa_cons (pv 0) (pa_cons (pe_callB call_len (by rfl) m_len (by decide +kernel) (pa_cons (pv 1) pa_nil)) pa_nil))))
    (pss_one (ps_ret (pe_op op_cat (pe_slice sl_list (pv 1) (po_some (pv 2)) po_none) (pe_slice sl_list (pv 1) po_none (po_some (pv 2))))))), ?_⟩
    refine ⟨_, rfl, _, rfl, _, xs.length, rfl, .inl ⟨_, SqL.of ha, rfl⟩, tp, cl, ns, _, rfl, T, by omega, fun H1 d k1 T1 d0 d1 => ?_⟩
    obtain ⟨k, rfl⟩ : ∃ k : Nat, d = (k : Int) := ⟨d.toNat, by omega⟩
    have ha1 := k1 _ _ na ha
    refine ⟨_, rfl, _, rfl, _, rfl, a, _, rfl, SqL.of ha1, fun p hp => ?_⟩
    have s1 := same_new (o := .lst (cutV xs (some ((k : Nat) : Int)) none)) hp
    refine ⟨_, rfl, _, rfl, _, rfl, a, _, rfl, SqL.of (s1 _ _ ha1), fun p2 hp2 => ?_⟩
    have s2 := same_new (o := .lst (cutV xs none (some ((k : Nat) : Int)))) hp2
    have v1 := s2 _ _ (upd_same (H := H1) (a := p) (o := .lst (cutV xs (some ((k : Nat) : Int)) none)))
    have v2 := upd_same (H := upd H1 p (.lst (cutV xs (some ((k : Nat) : Int)) none))) (a := p2) (o := .lst (cutV xs none (some ((k : Nat) : Int))))
    have T2 := T1.same (s1.trans s2)
    have K2 := k1.trans (.of_same (s1.trans s2))
    generalize upd (upd H1 p (.lst (cutV xs (some ((k : Nat) : Int)) none))) p2 (.lst (cutV xs none (some ((k : Nat) : Int)))) = H2 at v1 v2 T2 K2 ⊢
    rw [cut_from] at v1
    rw [cut_to] at v2
    have sl : sizeLine = 16777216 := sizeLine_eq
    refine ⟨p, p2, _, _, rfl, rfl, v1, v2, by rw [List.length_drop, List.length_take]; omega, fun p3 hp3 => ?_⟩
    exact q _ p3 k (K2.new T2 hp3) (T2.new hp3) (T2.fresh hp3).1.symm upd_same
end
end Sea
namespace Sea
open PySem PySem.Spec PyProof.Rows L2
theorem rest_kb {x : Addr} {H H' : Hp} (k : KB x H H') : Same (rest x H) (rest x H') := fun a o h => by
  unfold rest at h ⊢
  split at h
  · cases h
  · rename_i n
    rw [if_neg n]
    exact k _ _ n h
theorem rest_ne {x p : Addr} {H : Hp} (n : p ≠ x) : rest x H p = H p := by
  unfold rest
  rw [if_neg n]
theorem tape_rest {H : Hp} {tp cl : Addr} {ns : List Int} (T : Tape H tp cl ns) : KT H (rest tp H) := fun a xs h => by
  rw [rest_ne]
  · exact h
  · intro e
    obtain ⟨i, r, z, c, h', _⟩ := T.ex
    rw [e, h'] at h
    cases h
/-- what a drawn world holds, where it stands -/
structure WorldB (R : Hp) (wa ca pa aa sa ea : Addr) (len : Int) (L : List (Addr × Cue)) (M : List (Addr × Piece)) (A : List (Addr × (Str × Str))) (ss es : List Str) : Prop where
  w : R wa = some (.lst [.int len, .ref ca, .ref pa, .ref aa, .ref sa, .ref ea])
  c : R ca = some (.lst (refsC L))
  cs : ∀ e ∈ L, At R e
  p : R pa = some (.lst (refsP M))
  ps : ∀ e ∈ M, PAt R e
  a : R aa = some (.lst (refsA A))
  as : ∀ e ∈ A, AAt R e
  s : R sa = some (.lst (ss.map V.str))
  e : R ea = some (.lst (es.map V.str))
theorem WorldB.keep {R R' : Hp} {wa ca pa aa sa ea : Addr} {len : Int} {L : List (Addr × Cue)} {M : List (Addr × Piece)} {A : List (Addr × (Str × Str))} {ss es : List Str} (h : WorldB R wa ca pa aa sa ea len L M A ss es) (k : Same R R') : WorldB R' wa ca pa aa sa ea len L M A ss es :=
  ⟨k _ _ h.w, k _ _ h.c, fun e he => (h.cs e he).keep k, k _ _ h.p, fun e he => (h.ps e he).keep k, k _ _ h.a, fun e he => (h.as e he).keep k, k _ _ h.s, k _ _ h.e⟩
def WorldAt (R : Hp) (wa : Addr) (len : Int) (L : List (Addr × Cue)) (M : List (Addr × Piece)) (A : List (Addr × (Str × Str))) (ss es : List Str) : Prop := ∃ ca pa aa sa ea, WorldB R wa ca pa aa sa ea len L M A ss es
theorem WorldAt.keep {R R' : Hp} {wa : Addr} {len : Int} {L : List (Addr × Cue)} {M : List (Addr × Piece)} {A : List (Addr × (Str × Str))} {ss es : List Str} (h : WorldAt R wa len L M A ss es) (k : Same R R') : WorldAt R' wa len L M A ss es :=
  let ⟨ca, pa, aa, sa, ea, h⟩ := h; ⟨ca, pa, aa, sa, ea, h.keep k⟩
/-- .. and what is so of it -/
structure GoodW (mostC mostP len : Int) (cs : List Cue) (ps : List Piece) (as : List (Str × Str)) (ss es : List Str) : Prop where
  l1 : 1 ≤ len
  l30 : len ≤ 30
  ch : chainC len 0 cs
  cm : (cs.length : Int) ≤ mostC
  pg : ∀ p ∈ ps, GoodP len p ∧ p.e - p.s ≤ 9
  p1 : 1 ≤ ps.length
  pm : (ps.length : Int) ≤ mostP
  nd : (ps.map (·.nm)).Nodup
  sh : ∀ z ∈ ps.map (·.nm), Short z
  an : as.Nodup
  ai : ∀ a ∈ as, a.1 ∈ ps.map (·.nm) ∧ a.2 ∈ ps.map (·.nm)
  al : as.length ≤ 100
  st : Chosen (ps.map (·.nm)) ss
  en : Chosen (ps.map (·.nm)) es
  both : ∀ z ∈ ps.map (·.nm), Both as ss es z
theorem led_mono {as as' : List (Str × Str)} {ss ss' : List Str} (h1 : ∀ a ∈ as, a ∈ as') (h2 : ∀ z ∈ ss, z ∈ ss') {z : Str} (h : Led as ss z) : Led as' ss' z := by
  induction h with
  | «at» h => exact .at (h2 _ h)
  | on _ h ih => exact .on ih (h1 _ h)
theorem led_steps {zs : List Str} {ss : List Str} (h0 : ∀ h : 0 < zs.length, zs[0] ∈ ss) : ∀ (j : Nat) (hj : j < zs.length), Led (stepsOf zs) ss zs[j]
  | 0, hj => .at (h0 hj)
  | j + 1, hj => .on (a := (zs[j], zs[j + 1])) (led_steps h0 j (by omega)) (List.mem_of_getElem? (steps_at hj))
theorem led_back {zs : List Str} {es : List Str} (h0 : ∀ h : zs.length - 1 < zs.length, zs[zs.length - 1] ∈ es) : ∀ (n j : Nat) (hj : j < zs.length), j + n = zs.length - 1 → Led (rvA (stepsOf zs)) es zs[j]
  | 0, j, hj, e => by
    have e' : j = zs.length - 1 := by omega
    subst e'
    exact .at (h0 hj)
  | n + 1, j, hj, e => by
    have hj1 : j + 1 < zs.length := by omega
    have hm : (zs[j + 1], zs[j]) ∈ rvA (stepsOf zs) := List.mem_map.mpr ⟨_, List.mem_of_getElem? (steps_at hj1), rfl⟩
    exact .on (a := (zs[j + 1], zs[j])) (led_back h0 n (j + 1) hj1 (by omega)) hm
theorem both_of {zs : List Str} {as : List (Str × Str)} {ss es : List Str} (h1 : ∀ a ∈ stepsOf zs, a ∈ as) (h0 : ∀ h : 0 < zs.length, zs[0] ∈ ss) (h2 : ∀ h : zs.length - 1 < zs.length, zs[zs.length - 1] ∈ es) : ∀ z ∈ zs, Both as ss es z := fun z hz => by
  obtain ⟨j, hj⟩ := List.getElem?_of_mem hz
  obtain ⟨hl, rfl⟩ := List.getElem?_eq_some_iff.mp hj
  refine ⟨led_mono h1 (fun _ h => h) (led_steps h0 j hl), led_mono (fun a ha => ?_) (fun _ h => h) (led_back h2 (zs.length - 1 - j) j hl (by omega))⟩
  obtain ⟨b, hb, rfl⟩ := List.mem_map.mp ha
  exact List.mem_map.mpr ⟨b, h1 b hb, rfl⟩
theorem Chosen.perm {zs zs' ss ss' : List Str} (h : Chosen zs ss) (p : zs'.Perm zs) (q : ss'.Perm ss) : Chosen zs' ss' :=
  ⟨by rw [q.length_eq]; exact h.some, by rw [q.length_eq]; exact h.most, q.nodup_iff.mpr h.nd, fun z hz => p.mem_iff.mpr (h.sub z (q.mem_iff.mp hz))⟩
theorem atI_end {α : Type} {xs : List α} (h : xs.length - 1 < xs.length) : atI xs (-1) = some xs[xs.length - 1] := by
  rcases List.eq_nil_or_concat xs with e | ⟨ys, d, e⟩
  · subst e
    exact absurd h (Nat.lt_irrefl 0)
  · rw [List.concat_eq_append] at e
    subst e
    rw [atI_last]
    simp
def spWorld : Sp := fun vs H Q _ => ∃ (tp cl : Addr) (ns : List Int) (mostC mostP : Int) (few : Bool), vs = [.ref tp, .int mostC, .int mostP, .bl few] ∧ Tape H tp cl ns ∧ 0 ≤ mostC ∧ mostC ≤ 40 ∧ 1 ≤ mostP ∧ mostP ≤ 12 ∧
  ∀ (H' : Hp) (wa : Addr) (len : Int) (L : List (Addr × Cue)) (M : List (Addr × Piece)) (A : List (Addr × (Str × Str))) (ss es : List Str), KB tp H H' → Tape H' tp cl ns → WorldAt (rest tp H') wa len L M A ss es → GoodW mostC mostP len (cuesC L) (pcs M) (prs A) ss es → Q (.ref wa) H'
section
variable {P : Program} {w : World} {K : PySem.W.Frag} {mg : Str → Option Value} {base : Heap}
theorem ok_world {f : Addr} {fd : FuncData} (F : Fun K "_law_world" "_law_world" s__law_world f fd) (m_int : mg "int" = none) (m_max : mg "max" = none) (c__law_pick : Cal P w K mg base 1 "_law_pick" spPick) (c__law_some : Cal P w K mg base 2 "_law_some" spSome) (c__law_rarely : Cal P w K mg base 2 "_law_rarely" spRarely)
    (c__law_names : Cal P w K mg base 2 "_law_names" spNamesN) (c__law_cues : Cal P w K mg base 4 "_law_cues" spCues) (c__law_pieces : Cal P w K mg base 3 "_law_pieces" spPiecesL) (c__law_arrows : Cal P w K mg base 2 "_law_arrows" spArrowsL) (c__law_others : Cal P w K mg base 3 "_law_others" spOthers) (c__law_turned : Cal P w K mg base 2 "_law_turned" spTurned) :
    FnOk P w K mg base CX0 5 f fd ["_law_tape_here", "_law_most_cues", "_law_most_pieces", "_law_few"] spWorld := by
  refine F.ok sc__law_world (fun vs H Q E h => ?_) (fun cdv A outer s H vs Q E hr h => ?_)
  · obtain ⟨tp, cl, ns, mostC, mostP, few, rfl, _⟩ := h
    rfl
  · obtain ⟨tp, cl, ns, mostC, mostP, few, rfl, T, c0, c40, p1, p12, q⟩ := h
    refine ⟨_, (pss_cons (ps_set (i := 4) sc__law_world.nd rfl (Or.inl rfl) (pe_op op_sub (pe_c c__law_some hr (by decide) rfl (pa_cons (pv 0) (pa_cons (pe_int) (pa_cons (pe_int) pa_nil)))) (pe_op op_mul (pe_int) (pe_callTy call_int1 (by rfl) m_int (by decide +kernel) (pa_cons (pe_c c__law_rarely hr (by decide) rfl (pa_cons (pv 0) (pa_cons (pe_int) pa_nil))) pa_nil)))))
    (pss_cons (ps_set (i := 5) sc__law_world.nd rfl (Or.inl rfl) (pe_c c__law_names hr (by decide) rfl (pa_cons (pv 0) (pa_cons (pe_c c__law_some hr (by decide) rfl (pa_cons (pv 0) (pa_cons (pe_int) (pa_cons (pe_int) pa_nil)))) pa_nil))))
    (pss_cons (ps_set (i := 6) sc__law_world.nd rfl (Or.inl rfl) (pe_c c__law_cues hr (by decide) rfl (pa_cons (pv 0) (pa_cons (pv 4) (pa_cons (pv 1) (pa_cons (pv 5) (pa_cons (pv 3) pa_nil)))))))
    (pss_cons (ps_set (i := 7) sc__law_world.nd rfl (Or.inl rfl) (pe_c c__law_names hr (by decide) rfl (pa_cons (pv 0) (pa_cons (pe_op op_add (pe_int) (pe_callB (call_max2 rfl) (by rfl) m_max (by decide +kernel) (pa_cons (pe_c c__law_pick hr (by decide) rfl (pa_cons (pv 0) (pa_cons (pv 2) pa_nil))) (pa_cons (pe_c c__law_pick hr (by decide) rfl (pa_cons (pv 0) (pa_cons (pv 2) pa_nil))) pa_nil)))) pa_nil))))
    (pss_cons (ps_set (i := 8) sc__law_world.nd rfl (Or.inl rfl) (pe_c c__law_turned hr (by decide) rfl (pa_cons (pv 0) (pa_cons (pe_c c__law_pieces hr (by decide) rfl (pa_cons (pv 0) (pa_cons (pv 4) (pa_cons (pv 7) pa_nil)))) pa_nil))))
    (pss_cons (ps_set (i := 9) sc__law_world.nd rfl (Or.inl rfl) (pe_c c__law_turned hr (by decide) rfl (pa_cons (pv 0) (pa_cons (pe_c c__law_arrows hr (by decide) rfl (pa_cons (pv 0) (pa_cons (pv 7) pa_nil))) pa_nil))))
    (pss_cons (ps_set (i := 10) sc__law_world.nd rfl (Or.inl rfl) (pe_c c__law_turned hr (by decide) rfl (pa_cons (pv 0) (pa_cons (pe_c c__law_others hr (by decide) rfl (pa_cons (pv 0) (pa_cons (pv 7) (pa_cons (pe_ix ix_list (pv 7) (pe_int) (fun _ _ => rfl)) pa_nil)))) pa_nil))))
    (pss_cons (ps_set (i := 11) sc__law_world.nd rfl (Or.inl rfl) (pe_c c__law_turned hr (by decide) rfl (pa_cons (pv 0) (pa_cons (pe_c c__law_others hr (by decide) rfl (pa_cons (pv 0) (pa_cons (pv 7) (pa_cons (pe_ix ix_list (pv 7) (pe_un un_neg (pe_int)) (fun _ _ => rfl)) pa_nil)))) pa_nil))))
    (pss_one (ps_ret (pe_lst (pa_cons (pv 4) (pa_cons (pv 6) (pa_cons (pv 8) (pa_cons (pv 9) (pa_cons (pv 10) (pa_cons (pv 11) pa_nil))))))))))))))))), ?_⟩
    refine ⟨_, rfl, tp, cl, ns, 6, 30, rfl, T, by decide, by decide, fun H1 l k1 T1 l6 l30 => ?_⟩
    refine ⟨_, rfl, tp, cl, ns, 12, rfl, T1, by decide, fun H2 b k2 T2 => .inr ⟨b, rfl, _, _, rfl, rfl, ?_, _, _, rfl, rfl, ?_⟩⟩
    · exact .inl ⟨by decide, by decide⟩
    obtain ⟨len, el, len1, len30⟩ : ∃ len : Int, l - 5 * (if b = true then 1 else 0) = len ∧ 1 ≤ len ∧ len ≤ 30 := by
      cases b with
      | true => exact ⟨l - 5, by simp, by omega, by omega⟩
      | false => exact ⟨l, by simp, by omega, by omega⟩
    show gName 4 (V.int (l - 5 * (if b = true then 1 else 0))) _ _ _
    rw [el]
    refine ⟨_, rfl, _, rfl, tp, cl, ns, 1, 3, rfl, T2, by decide, by decide, fun H3 m k3 T3 m1 m3 => ?_⟩
    refine ⟨tp, cl, ns, m, rfl, T3, m1, by omega, fun H4 sp zs k4 T4 nsp hsp lz hz ndz => ?_⟩
    refine ⟨_, rfl, _, rfl, _, rfl, _, rfl, _, rfl, tp, cl, sp, ns, len, mostC, zs, few, rfl, T4, by omega, c0, c40, hsp, nsp, by omega, by omega, hz, fun H5 ca L k5 T5 nca hca hL hch lL => ?_⟩
    refine ⟨_, rfl, _, rfl, _, rfl, tp, cl, ns, mostP, rfl, T5, by omega, fun H6 a k6 T6 a0 a1 => ?_⟩
    refine ⟨_, rfl, _, rfl, tp, cl, ns, mostP, rfl, T6, by omega, fun H7 c k7 T7 b0 b1 => ?_⟩
    obtain ⟨mm, em, mm0, mm1⟩ : ∃ mm : Int, (if c > a then c else a) = mm ∧ 0 ≤ mm ∧ mm + 1 ≤ mostP := by
      by_cases h : c > a
      · exact ⟨c, if_pos h, by omega, by omega⟩
      · exact ⟨a, if_neg h, by omega, by omega⟩
    refine ⟨_, _, rfl, _, _, rfl, rfl, tp, cl, ns, 1 + mm, by rw [em]; rfl, T7, by omega, by omega, fun H8 na ys k8 T8 nna hna ly hy ndy => ?_⟩
    have ly12 : ys.length ≤ 12 := by omega
    have ly1 : 1 ≤ ys.length := by omega
    refine ⟨_, rfl, _, rfl, _, rfl, _, rfl, tp, cl, na, ns, len, ys, rfl, T8, len1, by omega, hna, nna, ly12, hy, fun H9 pa0 M0 k9 T9 npa hpa0 hM0 nmM gM => ?_⟩
    have lM0 : M0.length = ys.length := by
      have := congrArg List.length nmM
      rw [List.length_map, List.length_map] at this
      exact this
    refine ⟨tp, cl, pa0, ns, refsP M0, rfl, T9, hpa0, npa, by rw [List.length_map]; omega, fun H10 pa kp k10 T10 npa' hpa => ?_⟩
    have hna10 := k10 _ _ nna (k9 _ _ nna hna)
    refine ⟨_, rfl, _, rfl, _, rfl, tp, cl, na, ns, ys, rfl, T10, hna10, nna, ly1, ly12, hy, ndy, fun H11 aa0 A0 k11 T11 naa haa0 hA0 ndA lA stA => ?_⟩
    refine ⟨tp, cl, aa0, ns, refsA A0, rfl, T11, haa0, naa, by rw [List.length_map]; omega, fun H12 aa ka k12 T12 naa' haa => ?_⟩
    have hna12 := k12 _ _ nna (k11 _ _ nna hna10)
    have g0 : (ys.map V.str)[0]? = some (V.str (ys[0]'(by omega))) := by rw [List.getElem?_map, List.getElem?_eq_getElem (by omega)]; rfl
    refine ⟨_, rfl, _, rfl, _, rfl, _, rfl, na, _, 0, _, rfl, rfl, SqL.of hna12, atI_nat (j := 0) g0, tp, cl, na, ns, ys, _, rfl, T12, hna12, nna, ly12, ndy, List.getElem_mem _, fun H13 sa0 ss0 k13 T13 nsa hsa0 cs0 ms0 => ?_⟩
    refine ⟨tp, cl, sa0, ns, ss0.map V.str, rfl, T13, hsa0, nsa, by rw [List.length_map]; exact cs0.most, fun H14 sa ks k14 T14 nsa' hsa => ?_⟩
    have hna14 := k14 _ _ nna (k13 _ _ nna hna12)
    have hl : ys.length - 1 < ys.length := by omega
    have g1 : atI (ys.map V.str) (-1) = some (V.str ys[ys.length - 1]) := by
      rw [atI_end (by rw [List.length_map]; exact hl)]
      simp
    refine ⟨_, rfl, _, rfl, _, rfl, _, rfl, _, rfl, na, _, _, _, rfl, rfl, SqL.of hna14, g1, tp, cl, na, ns, ys, _, rfl, T14, hna14, nna, ly12, ndy, List.getElem_mem hl, fun H15 ea0 es0 k15 T15 nea hea0 ce0 me0 => ?_⟩
    refine ⟨tp, cl, ea0, ns, es0.map V.str, rfl, T15, hea0, nea, by rw [List.length_map]; exact ce0.most, fun H16 ea ke k16 T16 nea' hea => ?_⟩
    refine ⟨_, rfl, _, rfl, _, rfl, _, rfl, _, rfl, _, rfl, Nat.le_of_lt (small_line (by show 6 ≤ 100000; decide)), fun wa hwa => ?_⟩
    have e16 : KB tp H16 (upd H16 wa (.lst [.int len, .ref ca, .ref pa, .ref aa, .ref sa, .ref ea])) := .of_same (same_new hwa)
    have nwa := (T16.fresh hwa).1
    have e14 := k15.trans (k16.trans e16)
    have e12 := k13.trans (k14.trans e14)
    have e11 := k12.trans e12
    have e10 := k11.trans e11
    have e9 := k10.trans e10
    have e5 := k6.trans (k7.trans (k8.trans (k9.trans e9)))
    have e0 := k1.trans (k2.trans (k3.trans (k4.trans (k5.trans e5))))
    have T17 := T16.new (o := .lst [.int len, .ref ca, .ref pa, .ref aa, .ref sa, .ref ea]) hwa
    have at17 := upd_same (H := H16) (a := wa) (o := .lst [.int len, .ref ca, .ref pa, .ref aa, .ref sa, .ref ea])
    generalize upd H16 wa (.lst [.int len, .ref ca, .ref pa, .ref aa, .ref sa, .ref ea]) = H17 at e16 e14 e12 e11 e10 e9 e5 e0 T17 at17 ⊢
    have R := tape_rest T17
    have pnm : (pcs (turnL kp M0)).map (·.nm) = turnL kp ys := by
      rw [show pcs (turnL kp M0) = turnL kp (pcs M0) from turn_map _ _ _, turn_map, nmM]
    have perm : ((pcs (turnL kp M0)).map (·.nm)).Perm ys := by rw [pnm]; exact turn_perm _ _
    have aperm : (prs (turnL ka A0)).Perm (prs A0) := by
      rw [show prs (turnL ka A0) = turnL ka (prs A0) from turn_map _ _ _]
      exact turn_perm _ _
    have sperm : (turnL ks ss0).Perm ss0 := turn_perm _ _
    have eperm : (turnL ke es0).Perm es0 := turn_perm _ _
    have mM : ∀ {e : Addr × Piece}, e ∈ turnL kp M0 → e ∈ M0 := fun h => (turn_perm kp M0).mem_iff.mp h
    have mA : ∀ {e : Addr × (Str × Str)}, e ∈ turnL ka A0 → e ∈ A0 := fun h => (turn_perm ka A0).mem_iff.mp h
    refine q H17 wa len L (turnL kp M0) (turnL ka A0) (turnL ks ss0) (turnL ke es0) e0 T17 ⟨ca, pa, aa, sa, ea, ?_⟩ ?_
    · exact {
        w := by rw [rest_ne nwa.symm]; exact at17
        c := by rw [rest_ne nca]; exact e5 _ _ nca hca
        cs := fun e he => R _ _ (e5.kt T5 _ _ (hL e he))
        p := by
          rw [rest_ne npa', show refsP (turnL kp M0) = turnL kp (refsP M0) from turn_map _ _ _]
          exact e10 _ _ npa' hpa
        ps := fun e he => R _ _ (e9.kt T9 _ _ (hM0 e (mM he)))
        a := by
          rw [rest_ne naa', show refsA (turnL ka A0) = turnL ka (refsA A0) from turn_map _ _ _]
          exact e12 _ _ naa' haa
        as := fun e he => R _ _ (e11.kt T11 _ _ (hA0 e (mA he)).1)
        s := by
          rw [rest_ne nsa', turn_map]
          exact e14 _ _ nsa' hsa
        e := by
          rw [rest_ne nea', turn_map]
          exact e16 _ _ nea' hea }
    · have pm : (pcs (turnL kp M0)).length = ys.length := by
        have := perm.length_eq
        rw [List.length_map] at this
        exact this
      exact {
        l1 := len1
        l30 := len30
        ch := hch
        cm := by rw [List.length_map]; exact lL
        pg := fun p hp => by
          obtain ⟨e, he, rfl⟩ := List.mem_map.mp hp
          exact gM e.2 (List.mem_map.mpr ⟨e, mM he, rfl⟩)
        p1 := by omega
        pm := by omega
        nd := perm.nodup_iff.mpr ndy
        sh := fun z hz => hy z (perm.mem_iff.mp hz)
        an := aperm.nodup_iff.mpr ndA
        ai := fun a ha => by
          obtain ⟨e, he, rfl⟩ := List.mem_map.mp ha
          obtain ⟨_, h1, h2⟩ := hA0 e (mA he)
          exact ⟨perm.mem_iff.mpr h1, perm.mem_iff.mpr h2⟩
        al := by rw [aperm.length_eq, List.length_map]; exact lA
        st := cs0.perm perm sperm
        en := ce0.perm perm eperm
        both := fun z hz => both_of (zs := ys) (fun a ha => aperm.mem_iff.mpr (stA a ha)) (fun _ => sperm.mem_iff.mpr ms0) (fun _ => eperm.mem_iff.mpr me0) z (perm.mem_iff.mp hz) }
end
end Sea
namespace Sea
open PySem PySem.Spec PyProof.Rows L2
theorem rem_nat (a b : Nat) (hb : b ≠ 0) : (a : Int) - (Int.fdiv (a : Int) (b : Int)) * (b : Int) = ((a % b : Nat) : Int) := by
  rw [Int.fdiv_eq_ediv_of_nonneg _ (by omega)]
  have e := Int.emod_add_mul_ediv (a : Int) (b : Int)
  rw [Int.mul_comm] at e
  have e2 : ((a % b : Nat) : Int) = (a : Int) % (b : Int) := rfl
  omega
def spGcd : Sp := fun vs H Q _ => ∃ (a b : Nat), vs = [.int (a : Nat), .int (b : Nat)] ∧ a ≤ 1000000 ∧ b ≤ 1000000 ∧ ∀ H', Same H H' → Q (.int ((Nat.gcd a b : Nat) : Int)) H'
theorem strip_snoc_on {p : Piece} (ho : p.on = true) (k : Int) (cs : List Cue) (c : Cue) : stripF p k (cs ++ [c]) = stripF p k cs ++ (tri p k (c, cs.length)).toList := by
  unfold stripF
  rw [if_pos ho, if_pos ho, triUp_snoc]
theorem strip_snoc_back {p : Piece} (ho : p.on = false) (k : Int) (cs : List Cue) (c : Cue) : stripF p k (cs ++ [c]) = (tri p k (c, cs.length)).toList ++ stripF p k cs := by
  have n : ¬ p.on = true := by rw [ho]; exact Bool.false_ne_true
  unfold stripF
  rw [if_neg n, if_neg n, triUp_snoc, List.reverse_append]
  cases tri p k (c, cs.length) <;> rfl
def spStripL : Sp := fun vs H Q _ => ∃ (ca pa : Addr) (k : Int) (L : List (Addr × Cue)) (p : Piece), vs = [.ref ca, .ref pa, .int k] ∧ 0 ≤ k ∧ k ≤ 1000 ∧ H ca = some (.lst (refsC L)) ∧ (∀ e ∈ L, At H e) ∧ L.length ≤ 100 ∧ H pa = some (.tup p.vs) ∧
  ∀ (H' : Hp) (t : Addr) (N : List (Addr × Tri)), Same H H' → H' t = some (.lst (refsT N)) → tris N = stripF p k (cuesC L) → (∀ e ∈ N, TAt H' e) → Q (.ref t) H'
section
variable {P : Program} {w : World} {K : PySem.W.Frag} {mg : Str → Option Value} {base : Heap}
theorem ok_gcd {f : Addr} {fd : FuncData} (F : Fun K "_law_gcd" "_law_gcd" s__law_gcd f fd) : FnOk P w K mg base CX0 1 f fd ["_law_one", "_law_other"] spGcd := by
  refine F.ok sc__law_gcd (fun vs H Q E h => ?_) (fun cdv A outer s H vs Q E hr h => ?_)
  · obtain ⟨a, b, rfl, _⟩ := h
    rfl
  · obtain ⟨a, b, rfl, ha, hb, q⟩ := h
    refine ⟨_, (pss_cons (ps_while PassesOwn.never (pt_truth (pv 1) (by intro _; rfl))
    (pss_one (ps_par (i := 0) (j := 1) rfl sc__law_gcd.nd rfl rfl (by decide) rfl rfl (pa_cons (pv 1) (pa_cons (pe_op op_sub (pv 0) (pe_op op_mul (pe_op op_fdivN (pv 0) (pv 1)) (pv 1))) pa_nil)) (by rfl))))
    (pss_one (ps_ret (pv 0)))), ?_⟩
    refine ⟨fun m σ H' => ∃ a' b' : Nat, m = b' ∧ σ = [some (.int (a' : Nat)), some (.int (b' : Nat))] ∧ a' ≤ 1000000 ∧ b' ≤ 1000000 ∧ Nat.gcd a' b' = Nat.gcd a b ∧ Same H H', ⟨b, a, b, rfl, rfl, ha, hb, rfl, Same.refl H⟩, ?_⟩
    rintro m σ H1 ⟨a', b', rfl, rfl, ha', hb', g, s1⟩
    refine ⟨_, rfl, _, rfl, ?_⟩
    by_cases hz : m = 0
    · subst hz
      refine ⟨_, rfl, ?_⟩
      rw [Nat.gcd_zero_right] at g
      rw [g]
      exact q H1 s1
    · have ne : (((m : Nat) : Int) != 0) = true := by simp; omega
      rw [ne]
      refine iteT ⟨fun σ' H' => ∃ a'' b'' : Nat, b'' < m ∧ σ' = [some (.int (a'' : Nat)), some (.int (b'' : Nat))] ∧ a'' ≤ 1000000 ∧ b'' ≤ 1000000 ∧ Nat.gcd a'' b'' = Nat.gcd a b ∧ Same H H', fun σ' H' ⟨a2, b2, h1, h2, h3, h4, h5, h6⟩ => ⟨b2, h1, a2, b2, rfl, h2, h3, h4, h5, h6⟩, ?_⟩
      refine ⟨_, rfl, _, rfl, _, rfl, _, rfl, _, _, rfl, rfl, ⟨by omega, by omega⟩, _, rfl, _, _, rfl, rfl, .inr ⟨by omega, by omega⟩, _, _, rfl, rfl, _, _, rfl, ?_⟩
      have lt : a' % m < m := Nat.mod_lt _ (by omega)
      have er := rem_nat a' m hz
      refine ⟨m, a' % m, lt, ?_, hb', by omega, by rw [← g, Nat.gcd_comm a' m, Nat.gcd_rec m a', Nat.gcd_comm], s1⟩
      show [some (V.int ((m : Nat) : Int)), some (V.int ((a' : Int) - (Int.fdiv (a' : Int) (m : Int)) * (m : Int)))] = _
      rw [er]
theorem ok_stripL {f : Addr} {fd : FuncData} (F : Fun K "_law_strip" "_law_strip" s__law_strip f fd) (m_range : mg "range" = none) (m_len : mg "len" = none) (m_max : mg "max" = none) (m_min : mg "min" = none) : FnOk P w K mg base CX0 1 f fd ["_law_cues_here", "_law_piece", "_law_factor"] spStripL := by
  refine F.ok sc__law_strip (fun vs H Q E h => ?_) (fun cdv A outer s H vs Q E hr h => ?_)
  · obtain ⟨ca, pa, k, L, p, rfl, _⟩ := h
    rfl
  · obtain ⟨ca, pa, k, L, p, rfl, k0, k1, hca, hat, l100, hpa, q⟩ := h
    refine ⟨_, (pss_cons (ps_set (i := 3) sc__law_strip.nd rfl (Or.inl rfl) (pe_lst pa_nil))
    (pss_cons (ps_for PassesOwn.never rfl (pi_range1 (by rfl) m_range (pa_cons (pe_callB call_len (by rfl) m_len (by decide +kernel) (pa_cons (pv 0) pa_nil)) pa_nil)) (pg_name (i := 4) sc__law_strip.nd rfl (Or.inl rfl))
    (pss_cons (ps_set (i := 5) sc__law_strip.nd rfl (Or.inl rfl) (pe_callB (call_max2 rfl) (by rfl) m_max (by decide +kernel) (pa_cons (pe_ix ix_tup (pe_ix ix_list (pv 0) (pv 4) (fun _ _ => rfl)) (pe_int) (fun _ _ => rfl)) (pa_cons (pe_ix ix_tup (pv 1) (pe_int) (fun _ _ => rfl)) pa_nil))))
    (pss_cons (ps_set (i := 6) sc__law_strip.nd rfl (Or.inl rfl) (pe_callB (call_min2 rfl) (by rfl) m_min (by decide +kernel) (pa_cons (pe_ix ix_tup (pe_ix ix_list (pv 0) (pv 4) (fun _ _ => rfl)) (pe_int) (fun _ _ => rfl)) (pa_cons (pe_ix ix_tup (pv 1) (pe_int) (fun _ _ => rfl)) pa_nil))))
    (pss_one (ps_if (PW.pt (pw_and (pt_cmpR op_lt (pv 5) (pv 6) (nomark _)) (pw_and1 (pt_cmpR op_eq (pe_ix ix_tup (pv 1) (pe_int) (fun _ _ => rfl)) (pe_str) (nomark _)))))
    (pss_one (ps_expr (pe_bm PySem.F.plainAttrs_list PySem.F.slot_list_append PySem.F.type_list_append mt_append (pv 3) (pa_cons (pe_tup (pa_cons (pv 4) (pa_cons (pe_op op_mul (pe_op op_sub (pv 5) (pe_ix ix_tup (pv 1) (pe_int) (fun _ _ => rfl))) (pv 2)) (pa_cons (pe_op op_mul (pe_op op_sub (pv 6) (pe_ix ix_tup (pv 1) (pe_int) (fun _ _ => rfl))) (pv 2)) pa_nil)))) pa_nil))))
    (pss_one (ps_if (pt_cmpR op_lt (pv 5) (pv 6) (nomark _))
    (pss_one (ps_expr (pe_bm PySem.F.plainAttrs_list PySem.F.slot_list_insert PySem.F.type_list_insert mt_insert (pv 3) (pa_cons (pe_int) (pa_cons (pe_tup (pa_cons (pv 4) (pa_cons (pe_op op_mul (pe_op op_sub (pe_ix ix_tup (pv 1) (pe_int) (fun _ _ => rfl)) (pv 6)) (pv 2)) (pa_cons (pe_op op_mul (pe_op op_sub (pe_ix ix_tup (pv 1) (pe_int) (fun _ _ => rfl)) (pv 5)) (pv 2)) pa_nil)))) pa_nil)))))
    pss_nil)))))))
    (pss_one (ps_ret (pv 3))))), ?_⟩
    refine ⟨Nat.zero_le _, fun D hD => ?_⟩
    have sD := same_new (o := .lst []) hD
    have ck : ∀ i : Int, CMul i k := fun i => .inr ⟨by omega, by omega⟩
    refine ⟨_, rfl, _, L.length, rfl, .inl ⟨_, SqL.of (sD _ _ hca), (List.length_map ..).symm⟩, _, rfl, by omega, by omega, ?_⟩
    refine for_it (walk_range (lo := 0) (n := ((L.length : Nat) : Int).toNat)) (fun i σ H' => (∃ k4 k5 k6 : Option V, σ = [some (.ref ca), some (.ref pa), some (.int k), some (.ref D), k4, k5, k6]) ∧ Same H H' ∧ ∃ N : List (Addr × Tri), H' D = some (.lst (refsT N)) ∧ tris N = stripF p k ((cuesC L).take i) ∧ ∀ e ∈ N, TAt H' e)
      ⟨⟨_, _, _, rfl⟩, sD, [], upd_same, (by unfold stripF; split <;> rfl), fun _ h => nomatch h⟩ (fun _ _ _ _ _ => trivial) ?_ ?_
    · rintro i x σ Ha Hb hi ⟨⟨k4, k5, k6, rfl⟩, hs, N, hd, hn, hN⟩ ⟨rfl, rfl⟩
      have hi' : i < L.length := by omega
      obtain ⟨e, he⟩ : ∃ e, L[i]? = some e := ⟨L[i], List.getElem?_eq_getElem hi'⟩
      have hA := hs _ _ (hat e (List.mem_of_getElem? he))
      have hL := hs _ _ hca
      have hP := hs _ _ hpa
      have hr : (refsC L)[i]? = some (V.ref e.1) := by rw [List.getElem?_map, he]; rfl
      have hp : (cuesC L)[i]? = some e.2 := by rw [List.getElem?_map, he]; rfl
      have ei : V.int (0 + ((i : Nat) : Int)) = V.int ((i : Nat) : Int) := congrArg V.int (Int.zero_add _)
      have tk : (cuesC L).take (i + 1) = (cuesC L).take i ++ [e.2] := by rw [List.take_add_one, hp]; rfl
      have ltk : ((cuesC L).take i).length = i := by rw [List.length_take, List.length_map, Nat.min_eq_left (Nat.le_of_lt hi')]
      have lN : N.length ≤ i := by
        have h1 := congrArg List.length hn
        have h2 := strip_len p k ((cuesC L).take i)
        rw [ltk] at h2
        rw [List.length_map] at h1
        omega
      have elo : (if p.s > e.2.s then p.s else e.2.s) = lowOf p e.2 := by
        unfold lowOf
        by_cases h : p.s > e.2.s
        · rw [if_pos h, if_neg (by omega)]
        · rw [if_neg h]
          by_cases h2 : e.2.s > p.s
          · rw [if_pos h2]
          · rw [if_neg h2]; omega
      have ehi : (if p.e < e.2.e then p.e else e.2.e) = highOf p e.2 := by
        unfold highOf
        by_cases h : p.e < e.2.e
        · rw [if_pos h, if_neg (by omega)]
        · rw [if_neg h]
          by_cases h2 : e.2.e < p.e
          · rw [if_pos h2]
          · rw [if_neg h2]; omega
      refine ⟨_, rfl, _, rfl, ca, _, ((i : Nat) : Int), _, rfl, ei, SqL.of hL, atI_nat hr, e.1, _, 0, _, rfl, rfl, SqT.of hA, atI_nat (j := 0) rfl, _, rfl, pa, _, 1, _, rfl, rfl, SqT.of hP, atI_nat (j := 1) rfl, _, _, rfl, ?_⟩
      refine ⟨_, rfl, _, rfl, ca, _, ((i : Nat) : Int), _, rfl, ei, SqL.of hL, atI_nat hr, e.1, _, 1, _, rfl, rfl, SqT.of hA, atI_nat (j := 1) rfl, _, rfl, pa, _, 2, _, rfl, rfl, SqT.of hP, atI_nat (j := 2) rfl, _, _, rfl, ?_⟩
      rw [elo, ehi]
      let Iv : Hp → Prop := fun H' => Same H H' ∧ ∃ N : List (Addr × Tri), H' D = some (.lst (refsT N)) ∧ tris N = stripF p k ((cuesC L).take (i + 1)) ∧ ∀ e ∈ N, TAt H' e
      refine ⟨_, rfl, _, rfl, _, _, rfl, rfl, _, rfl, ?_⟩
      have hst : (tri p k (e.2, i)) = if lowOf p e.2 < highOf p e.2 then some (triOf p k i e.2) else none := rfl
      by_cases hlt : lowOf p e.2 < highOf p e.2
      · rw [decide_eq_true hlt]
        rw [if_pos hlt] at hst
        refine iteT ⟨_, rfl, pa, _, 5, _, rfl, rfl, SqT.of hP, atI_nat (j := 5) rfl, rfl, _, rfl, ?_⟩
        rw [wayS_eq]
        have gen : ∀ (T2 : Addr) (ws ys : List V) (N' : List (Addr × Tri)), Hb T2 = none → ws = Tri.vs (triOf p k i e.2) → ys = refsT N' → tris N' = stripF p k ((cuesC L).take (i + 1)) → (∀ d ∈ N', d ∈ N ∨ d = (T2, triOf p k i e.2)) → Iv (upd (upd Hb T2 (.tup ws)) D (.lst ys)) := fun T2 ws ys N' h2 ew ey eN hm => by
          subst ew ey
          have sT2 := same_new (o := .tup (Tri.vs (triOf p k i e.2))) h2
          have ko : KT _ (upd (upd Hb T2 (.tup (Tri.vs (triOf p k i e.2)))) D (.lst (refsT N'))) := (KT.refl _).over (sT2 _ _ hd)
          refine ⟨fun b o hb => ?_, N', upd_same, eN, fun d hd' => ?_⟩
          · have nb : b ≠ D := ne_of_none hb hD
            rw [upd_ne nb]
            exact sT2 _ _ (hs _ _ hb)
          · rcases hm d hd' with h | h
            · exact ((hN d h).keep sT2).kt ko
            · rw [h]
              exact ko _ _ upd_same
        cases ho : p.on with
        | true =>
          have eo : triOf p k i e.2 = ((i : Int), (lowOf p e.2 - p.s) * k, (highOf p e.2 - p.s) * k) := if_pos ho
          refine iteT ⟨_, rfl, .inl ⟨rfl, _, SqL.of hd⟩, _, rfl, _, rfl, _, rfl, pa, _, 1, _, rfl, rfl, SqT.of hP, atI_nat (j := 1) rfl, _, _, rfl, rfl, _, rfl, _, _, rfl, rfl, ck _, _, rfl, _, rfl, pa, _, 1, _, rfl, rfl, SqT.of hP, atI_nat (j := 1) rfl, _, _, rfl, rfl, _, rfl, _, _, rfl, rfl, ck _, Nat.le_of_lt (small_line (by show 3 ≤ 100000; decide)), fun T2 h2 => ?_⟩
          refine ⟨D, _, _, rfl, rfl, same_new (o := .tup _) h2 _ _ hd, small_line (by rw [List.length_map]; omega), ⟨_, _, _, rfl⟩, gen T2 _ _ (N ++ [(T2, triOf p k i e.2)]) h2 ?_ ?_ ?_ fun d hd' => ?_⟩
          · rw [eo]
            exact congrArg (fun z => [V.int z, V.int ((lowOf p e.2 - p.s) * k), V.int ((highOf p e.2 - p.s) * k)]) (Int.zero_add _)
          · show _ = List.map _ (N ++ [_])
            rw [List.map_append]
            rfl
          · show List.map _ (N ++ [_]) = _
            rw [List.map_append, tk, strip_snoc_on ho, ltk, hst]
            show tris N ++ _ = _
            rw [hn]
            rfl
          · rcases List.mem_append.mp hd' with h | h
            · exact .inl h
            · exact .inr (List.mem_singleton.mp h)
        | false =>
          have eo : triOf p k i e.2 = ((i : Int), (p.e - highOf p e.2) * k, (p.e - lowOf p e.2) * k) := if_neg (by rw [ho]; exact Bool.false_ne_true)
          refine ⟨_, rfl, _, rfl, _, _, rfl, rfl, _, rfl, ?_⟩
          rw [decide_eq_true hlt]
          refine iteT ⟨_, rfl, .inl ⟨rfl, _, SqL.of hd⟩, _, rfl, _, rfl, pa, _, 2, _, rfl, rfl, SqT.of hP, atI_nat (j := 2) rfl, _, rfl, _, _, rfl, rfl, _, rfl, _, _, rfl, rfl, ck _, _, rfl, pa, _, 2, _, rfl, rfl, SqT.of hP, atI_nat (j := 2) rfl, _, rfl, _, _, rfl, rfl, _, rfl, _, _, rfl, rfl, ck _, Nat.le_of_lt (small_line (by show 3 ≤ 100000; decide)), fun T2 h2 => ?_⟩
          refine ⟨D, _, _, _, rfl, rfl, same_new (o := .tup _) h2 _ _ hd, small_line (by rw [List.length_map]; omega), by decide, by decide, ⟨_, _, _, rfl⟩, gen T2 _ _ ((T2, triOf p k i e.2) :: N) h2 ?_ ?_ ?_ fun d hd' => ?_⟩
          · rw [eo]
            exact congrArg (fun z => [V.int z, V.int ((p.e - highOf p e.2) * k), V.int ((p.e - lowOf p e.2) * k)]) (Int.zero_add _)
          · rfl
          · rw [tk, strip_snoc_back ho, ltk, hst, ← hn]
            rfl
          · rcases List.mem_cons.mp hd' with h | h
            · exact .inr h
            · exact .inl h
      · rw [decide_eq_false hlt]
        rw [if_neg hlt] at hst
        refine ⟨_, rfl, _, rfl, _, _, rfl, rfl, _, rfl, ?_⟩
        rw [decide_eq_false hlt]
        refine ⟨⟨_, _, _, rfl⟩, hs, N, hd, ?_, hN⟩
        rw [hn, tk]
        cases ho : p.on with
        | true => rw [strip_snoc_on ho, ltk, hst]; exact (List.append_nil _).symm
        | false => rw [strip_snoc_back ho, ltk, hst]; rfl
    · rintro σ H' ⟨⟨k4, k5, k6, rfl⟩, hs, N, hd, hn, hN⟩
      rw [show ((L.length : Nat) : Int).toNat = (cuesC L).length by rw [List.length_map]; omega, List.take_length] at hn
      exact ⟨_, rfl, q H' D N hs hd hn hN⟩
end
end Sea
namespace Sea
open PySem PySem.Spec PyProof.Rows L2
/-- all but dicts stay -/
def KD (H H' : Hp) : Prop := ∀ a o, (∀ ks, o ≠ .dK ks) → H a = some o → H' a = some o
theorem KD.of_same {H H' : Hp} (s : Same H H') : KD H H' := fun a o _ h => s a o h
theorem KD.trans {H H1 H2 : Hp} (a : KD H H1) (b : KD H1 H2) : KD H H2 := fun x o n h => b x o n (a x o n h)
theorem KD.put {H : Hp} {d : Addr} {ks ks' : List (Key × V)} (h : H d = some (.dK ks)) : KD H (upd H d (.dK ks')) := fun a o n e => by
  rw [upd_ne (fun z => by rw [z, h] at e; exact n ks (Option.some.inj e).symm)]
  exact e
/-- a dict by the names, so far -/
def DI (G : Hp → Str → V → Prop) (ns : List Str) (i : Nat) (H : Hp) (d : Addr) : Prop := ∃ ks, H d = some (.dK ks) ∧ ks.length ≤ i ∧ ∀ y ∈ ns.take i, ∃ v, valV ks (Sum.inr y) = some v ∧ G H y v
theorem DI.same {G : Hp → Str → V → Prop} (GK : ∀ H H' y v, KD H H' → G H y v → G H' y v) {ns : List Str} {i : Nat} {H H' : Hp} {d : Addr} (h : DI G ns i H d) (s : Same H H') : DI G ns i H' d :=
  let ⟨ks, h1, h2, h3⟩ := h; ⟨ks, s _ _ h1, h2, fun y hy => let ⟨v, h4, h5⟩ := h3 y hy; ⟨v, h4, GK _ _ _ _ (.of_same s) h5⟩⟩
theorem DI.other {G : Hp → Str → V → Prop} (GK : ∀ H H' y v, KD H H' → G H y v → G H' y v) {ns : List Str} {i : Nat} {H : Hp} {d d' : Addr} {ks ks' : List (Key × V)} (h : DI G ns i H d) (hd : H d' = some (.dK ks)) (ne : d ≠ d') : DI G ns i (upd H d' (.dK ks')) d :=
  let ⟨k, h1, h2, h3⟩ := h; ⟨k, by rw [upd_ne ne]; exact h1, h2, fun y hy => let ⟨v, h4, h5⟩ := h3 y hy; ⟨v, h4, GK _ _ _ _ (.put hd) h5⟩⟩
theorem DI.put {G : Hp → Str → V → Prop} (GK : ∀ H H' y v, KD H H' → G H y v → G H' y v) {ns : List Str} {i : Nat} {H : Hp} {d : Addr} {z : Str} {v : V} (h : DI G ns i H d) (hz : ns[i]? = some z) (hv : G H z v) : ∃ ks, H d = some (.dK ks) ∧ ks.length ≤ i ∧ DI G ns (i + 1) (upd H d (.dK (putK ks (Sum.inr z) v))) d := by
  obtain ⟨ks, h1, h2, h3⟩ := h
  have ko : KD H (upd H d (.dK (putK ks (Sum.inr z) v))) := .put h1
  refine ⟨ks, h1, h2, _, upd_same, ?_, ?_⟩
  · have := length_putK ks (Sum.inr z : Key) v
    omega
  · exact dict_step (G := G (upd H d (.dK (putK ks (Sum.inr z) v)))) (fun y hy => let ⟨v', h4, h5⟩ := h3 y hy; ⟨v', h4, GK _ _ _ _ ko h5⟩) hz (GK _ _ _ _ ko hv)
def GBl (as : List (Str × Str)) : Hp → Str → V → Prop := fun H y v => ∃ (a : Addr) (ys : List Str), v = .ref a ∧ H a = some (.lst (ys.map V.str)) ∧ ys.Perm (rightsOf as y) ∧ sortedS ys = true
def GTl (ps : List Piece) (f : Piece → List Tri) : Hp → Str → V → Prop := fun H y v => ∃ p ∈ ps, p.nm = y ∧ ∃ (a : Addr) (N : List (Addr × Tri)), v = .ref a ∧ H a = some (.lst (refsT N)) ∧ tris N = f p ∧ ∀ e ∈ N, TAt H e
def GDl (ps : List Piece) (f : Piece → List Duo) : Hp → Str → V → Prop := fun H y v => ∃ p ∈ ps, p.nm = y ∧ ∃ (a : Addr) (N : List (Addr × Duo)), v = .ref a ∧ H a = some (.lst (refsD N)) ∧ duos N = f p ∧ ∀ e ∈ N, DAt H e
theorem GI.kd {ps : List Piece} {f : Piece → Int} : ∀ H H' y v, KD H H' → GI ps f H y v → GI ps f H' y v := fun _ _ _ _ _ h => h
theorem GBl.kd {as : List (Str × Str)} : ∀ H H' y v, KD H H' → GBl as H y v → GBl as H' y v := fun _ _ _ _ k ⟨a, ys, e, h, r⟩ => ⟨a, ys, e, k _ _ (fun _ e => by cases e) h, r⟩
theorem GTl.kd {ps : List Piece} {f : Piece → List Tri} : ∀ H H' y v, KD H H' → GTl ps f H y v → GTl ps f H' y v := fun _ _ _ _ k ⟨p, h, e, a, N, e1, e2, e3, e4⟩ => ⟨p, h, e, a, N, e1, k _ _ (fun _ e => by cases e) e2, e3, fun d hd => k _ _ (fun _ e => by cases e) (e4 d hd)⟩
theorem GDl.kd {ps : List Piece} {f : Piece → List Duo} : ∀ H H' y v, KD H H' → GDl ps f H y v → GDl ps f H' y v := fun _ _ _ _ k ⟨p, h, e, a, N, e1, e2, e3, e4⟩ => ⟨p, h, e, a, N, e1, k _ _ (fun _ e => by cases e) e2, e3, fun d hd => k _ _ (fun _ e => by cases e) (e4 d hd)⟩
abbrev fT (ps : List Piece) (cs : List Cue) : Piece → List Tri := fun p => stripF p (factorOf (grainTo ps) p) cs
abbrev fD (ps : List Piece) (cs : List Cue) : Piece → List Duo := fun p => sendsF p cs (stripF p (factorOf (grainTo ps) p) cs)
/-- the law's model at ma -/
structure ModelB (R : Hp) (ma d1 d2 d3 d4 : Addr) (cs : List Cue) (ps : List Piece) (as : List (Str × Str)) : Prop where
  m : R ma = some (.lst [.int (grainTo ps), .ref d1, .ref d2, .ref d3, .ref d4])
  sh : DI (GI ps (shownOf (grainTo ps))) (ps.map (·.nm)) ps.length R d1
  st : DI (GTl ps (fT ps cs)) (ps.map (·.nm)) ps.length R d2
  se : DI (GDl ps (fD ps cs)) (ps.map (·.nm)) ps.length R d3
  be : DI (GBl as) (ps.map (·.nm)) ps.length R d4
def ModelAt (R : Hp) (ma : Addr) (cs : List Cue) (ps : List Piece) (as : List (Str × Str)) : Prop := ∃ d1 d2 d3 d4, ModelB R ma d1 d2 d3 d4 cs ps as
theorem ModelAt.keep {R R' : Hp} {ma : Addr} {cs : List Cue} {ps : List Piece} {as : List (Str × Str)} (h : ModelAt R ma cs ps as) (s : Same R R') : ModelAt R' ma cs ps as :=
  let ⟨d1, d2, d3, d4, h⟩ := h; ⟨d1, d2, d3, d4, s _ _ h.m, h.sh.same GI.kd s, h.st.same GTl.kd s, h.se.same GDl.kd s, h.be.same GBl.kd s⟩
/-- the model while it is made -/
structure Bd (H1 : Hp) (ma d1 d2 d3 d4 : Addr) (cs : List Cue) (ps : List Piece) (as : List (Str × Str)) (a b c d : Nat) (H' : Hp) : Prop where
  s : Same H1 H'
  n1 : H1 d1 = none
  n2 : H1 d2 = none
  n3 : H1 d3 = none
  n4 : H1 d4 = none
  e12 : d1 ≠ d2
  e13 : d1 ≠ d3
  e14 : d1 ≠ d4
  e23 : d2 ≠ d3
  e24 : d2 ≠ d4
  e34 : d3 ≠ d4
  m : H' ma = some (.lst [.int (grainTo ps), .ref d1, .ref d2, .ref d3, .ref d4])
  x1 : DI (GI ps (shownOf (grainTo ps))) (ps.map (·.nm)) a H' d1
  x2 : DI (GTl ps (fT ps cs)) (ps.map (·.nm)) b H' d2
  x3 : DI (GDl ps (fD ps cs)) (ps.map (·.nm)) c H' d3
  x4 : DI (GBl as) (ps.map (·.nm)) d H' d4
theorem Bd.same {H1 : Hp} {ma d1 d2 d3 d4 : Addr} {cs : List Cue} {ps : List Piece} {as : List (Str × Str)} {a b c d : Nat} {H' : Hp} {H2 : Hp} (h : Bd H1 ma d1 d2 d3 d4 cs ps as a b c d H') (k : Same H' H2) : Bd H1 ma d1 d2 d3 d4 cs ps as a b c d H2 :=
  { h with s := h.s.trans k, m := k _ _ h.m, x1 := h.x1.same GI.kd k, x2 := h.x2.same GTl.kd k, x3 := h.x3.same GDl.kd k, x4 := h.x4.same GBl.kd k }
theorem Bd.put1 {H1 : Hp} {ma d1 d2 d3 d4 : Addr} {cs : List Cue} {ps : List Piece} {as : List (Str × Str)} {a b c d : Nat} {H' : Hp} {z : Str} {v : V} (h : Bd H1 ma d1 d2 d3 d4 cs ps as a b c d H') (hz : (ps.map (·.nm))[a]? = some z) (hv : (GI ps (shownOf (grainTo ps))) H' z v) :
    ∃ ks, H' d1 = some (.dK ks) ∧ ks.length ≤ a ∧ Bd H1 ma d1 d2 d3 d4 cs ps as (a + 1) b c d (upd H' d1 (.dK (putK ks (Sum.inr z) v))) := by
  obtain ⟨ks, h1, h2, h3⟩ := h.x1.put GI.kd hz hv
  refine ⟨ks, h1, h2, { h with s := fun b o hb => ?_, m := ?_, x1 := h3, x2 := h.x2.other GTl.kd h1 h.e12.symm, x3 := h.x3.other GDl.kd h1 h.e13.symm, x4 := h.x4.other GBl.kd h1 h.e14.symm }⟩
  · rw [upd_ne (ne_of_none hb h.n1)]
    exact h.s _ _ hb
  · exact KD.put h1 _ _ (fun _ e => by cases e) h.m
theorem Bd.put2 {H1 : Hp} {ma d1 d2 d3 d4 : Addr} {cs : List Cue} {ps : List Piece} {as : List (Str × Str)} {a b c d : Nat} {H' : Hp} {z : Str} {v : V} (h : Bd H1 ma d1 d2 d3 d4 cs ps as a b c d H') (hz : (ps.map (·.nm))[b]? = some z) (hv : (GTl ps (fT ps cs)) H' z v) :
    ∃ ks, H' d2 = some (.dK ks) ∧ ks.length ≤ b ∧ Bd H1 ma d1 d2 d3 d4 cs ps as a (b + 1) c d (upd H' d2 (.dK (putK ks (Sum.inr z) v))) := by
  obtain ⟨ks, h1, h2, h3⟩ := h.x2.put GTl.kd hz hv
  refine ⟨ks, h1, h2, { h with s := fun b o hb => ?_, m := ?_, x1 := h.x1.other GI.kd h1 h.e12, x2 := h3, x3 := h.x3.other GDl.kd h1 h.e23.symm, x4 := h.x4.other GBl.kd h1 h.e24.symm }⟩
  · rw [upd_ne (ne_of_none hb h.n2)]
    exact h.s _ _ hb
  · exact KD.put h1 _ _ (fun _ e => by cases e) h.m
theorem Bd.put3 {H1 : Hp} {ma d1 d2 d3 d4 : Addr} {cs : List Cue} {ps : List Piece} {as : List (Str × Str)} {a b c d : Nat} {H' : Hp} {z : Str} {v : V} (h : Bd H1 ma d1 d2 d3 d4 cs ps as a b c d H') (hz : (ps.map (·.nm))[c]? = some z) (hv : (GDl ps (fD ps cs)) H' z v) :
    ∃ ks, H' d3 = some (.dK ks) ∧ ks.length ≤ c ∧ Bd H1 ma d1 d2 d3 d4 cs ps as a b (c + 1) d (upd H' d3 (.dK (putK ks (Sum.inr z) v))) := by
  obtain ⟨ks, h1, h2, h3⟩ := h.x3.put GDl.kd hz hv
  refine ⟨ks, h1, h2, { h with s := fun b o hb => ?_, m := ?_, x1 := h.x1.other GI.kd h1 h.e13, x2 := h.x2.other GTl.kd h1 h.e23, x3 := h3, x4 := h.x4.other GBl.kd h1 h.e34.symm }⟩
  · rw [upd_ne (ne_of_none hb h.n3)]
    exact h.s _ _ hb
  · exact KD.put h1 _ _ (fun _ e => by cases e) h.m
theorem Bd.put4 {H1 : Hp} {ma d1 d2 d3 d4 : Addr} {cs : List Cue} {ps : List Piece} {as : List (Str × Str)} {a b c d : Nat} {H' : Hp} {z : Str} {v : V} (h : Bd H1 ma d1 d2 d3 d4 cs ps as a b c d H') (hz : (ps.map (·.nm))[d]? = some z) (hv : (GBl as) H' z v) :
    ∃ ks, H' d4 = some (.dK ks) ∧ ks.length ≤ d ∧ Bd H1 ma d1 d2 d3 d4 cs ps as a b c (d + 1) (upd H' d4 (.dK (putK ks (Sum.inr z) v))) := by
  obtain ⟨ks, h1, h2, h3⟩ := h.x4.put GBl.kd hz hv
  refine ⟨ks, h1, h2, { h with s := fun b o hb => ?_, m := ?_, x1 := h.x1.other GI.kd h1 h.e14, x2 := h.x2.other GTl.kd h1 h.e24, x3 := h.x3.other GDl.kd h1 h.e34, x4 := h3 }⟩
  · rw [upd_ne (ne_of_none hb h.n4)]
    exact h.s _ _ hb
  · exact KD.put h1 _ _ (fun _ e => by cases e) h.m
theorem lcm_fdiv {a b : Int} (ha : 0 ≤ a) (hb : 0 ≤ b) : Int.fdiv (a * b) ((Nat.gcd a.natAbs b.natAbs : Nat) : Int) = ((Nat.lcm a.natAbs b.natAbs : Nat) : Int) := by
  obtain ⟨m, rfl⟩ := Int.eq_ofNat_of_zero_le ha
  obtain ⟨n, rfl⟩ := Int.eq_ofNat_of_zero_le hb
  rw [Int.fdiv_eq_ediv_of_nonneg _ (by omega)]
  rfl
def spModel : Sp := fun vs H Q _ => ∃ (wa : Addr) (mc mp len : Int) (L : List (Addr × Cue)) (M : List (Addr × Piece)) (A : List (Addr × (Str × Str))) (ss es : List Str), vs = [.ref wa] ∧ WorldAt H wa len L M A ss es ∧ GoodW mc mp len (cuesC L) (pcs M) (prs A) ss es ∧ mc ≤ 40 ∧ mp ≤ 12 ∧
  ∀ (H' : Hp) (ma : Addr), Same H H' → ModelAt H' ma (cuesC L) (pcs M) (prs A) → Q (.ref ma) H'
section
variable {P : Program} {w : World} {K : PySem.W.Frag} {mg : Str → Option Value} {base : Heap}
theorem ok_model {f : Addr} {fd : FuncData} (F : Fun K "_law_model" "_law_model" s__law_model f fd) (m_sorted : mg "sorted" = none) (c__law_gcd : Cal P w K mg base 1 "_law_gcd" spGcd) (c__law_strip : Cal P w K mg base 1 "_law_strip" spStripL) :
    FnOk P w K mg base CX0 2 f fd ["_law_world_here"] spModel := by
  refine F.ok sc__law_model (fun vs H Q E h => ?_) (fun cdv A outer s H vs Q E hr h => ?_)
  · obtain ⟨wa, mc, mp, len, L, M, A, ss, es, rfl, _⟩ := h
    rfl
  · obtain ⟨wa, mc, mp, len, L, M, As, ss, es, rfl, ⟨ca, pa, aa, sa, ea, W⟩, g, mc40, mp12, q⟩ := h
    refine ⟨_, (pss_cons (ps_asg (pe_tup (pa_cons (pe_ix ix_list (pv 0) (pe_int) (fun _ _ => rfl)) (pa_cons (pe_ix ix_list (pv 0) (pe_int) (fun _ _ => rfl)) pa_nil))) (pg_tup rfl (pgs_cons (pg_name (i := 1) sc__law_model.nd rfl (Or.inr rfl)) (pgs_cons (pg_name (i := 2) sc__law_model.nd rfl (Or.inl rfl)) pgs_nil))))
    (pss_cons (ps_set (i := 3) sc__law_model.nd rfl (Or.inl rfl) (pe_int))
    (pss_cons (ps_for PassesOwn.never rfl (pi_list (pv 2)) (pg_name (i := 4) sc__law_model.nd rfl (Or.inr rfl))
    (pss_one (ps_set (i := 3) sc__law_model.nd rfl (Or.inl rfl) (pe_op op_fdivN (pe_op op_mul (pv 3) (pe_ix ix_tup (pv 4) (pe_int) (fun _ _ => rfl))) (pe_c c__law_gcd hr (by decide) rfl (pa_cons (pv 3) (pa_cons (pe_ix ix_tup (pv 4) (pe_int) (fun _ _ => rfl)) pa_nil)))))))
    (pss_cons (ps_set (i := 5) sc__law_model.nd rfl (Or.inl rfl) (pe_lst (pa_cons (pv 3) (pa_cons (pe_dnewK) (pa_cons (pe_dnewK) (pa_cons (pe_dnewK) (pa_cons (pe_dnewK) pa_nil)))))))
    (pss_cons (ps_for PassesOwn.never rfl (pi_list (pv 2)) (pg_name (i := 4) sc__law_model.nd rfl (Or.inr rfl))
    (pss_cons (ps_set (i := 6) sc__law_model.nd rfl (Or.inl rfl) (pe_op op_fdivN (pe_op op_mul (pe_ix ix_tup (pv 4) (pe_int) (fun _ _ => rfl)) (pv 3)) (pe_ix ix_tup (pv 4) (pe_int) (fun _ _ => rfl))))
    (pss_cons (ps_set (i := 7) sc__law_model.nd rfl (Or.inl rfl) (pe_c c__law_strip hr (by decide) rfl (pa_cons (pv 1) (pa_cons (pv 4) (pa_cons (pv 6) pa_nil)))))
    (pss_cons (ps_dput (hu_of hr) (pe_ix ix_list (pv 5) (pe_int) (fun _ _ => rfl)) (pe_ix ix_tup (pv 4) (pe_int) (fun _ _ => rfl)) (pe_op op_mul (pe_op op_sub (pe_ix ix_tup (pv 4) (pe_int) (fun _ _ => rfl)) (pe_ix ix_tup (pv 4) (pe_int) (fun _ _ => rfl))) (pv 6)) rfl)
    (pss_cons (ps_dput (hu_of hr) (pe_ix ix_list (pv 5) (pe_int) (fun _ _ => rfl)) (pe_ix ix_tup (pv 4) (pe_int) (fun _ _ => rfl)) (pv 7) rfl)
    (C8.pss_cut (ps_if (pt_cmpR op_eq (pe_ix ix_tup (pv 4) (pe_int) (fun _ _ => rfl)) (pe_str) (nomark _))
    (pss_one (ps_dput (hu_of hr) (pe_ix ix_list (pv 5) (pe_int) (fun _ _ => rfl)) (pe_ix ix_tup (pv 4) (pe_int) (fun _ _ => rfl)) (pe_lc (own := [("_law_one", 8)]) rfl sc__law_model.nd (pi_list (pv 7)) (blkOk_by (N := N__law_model) (sc := defScope s__law_model) (by decide +kernel)) (fun _ _ _ _ _ => (pg_name (i := 8) sc__law_model.nd rfl (Or.inl rfl))) (fun _ _ _ _ _ => by exact pts_one (pt_cmpR op_ge (pe_ix (show IxR _ (rIxT K) from ix_tup) (pe_ix (show IxR _ (rIxL K) from ix_list) (pv 1) (pe_ix (show IxR _ (rIxT K) from ix_tup) (pv 8) (pe_int) (fun _ _ => rfl)) (fun _ _ => rfl)) (pe_int) (fun _ _ => rfl)) (pe_ix (show IxR _ (rIxT K) from ix_tup) (pv 4) (pe_int) (fun _ _ => rfl)) (nomark _))) (fun _ _ _ _ _ => by exact (pe_tup (pa_cons (pe_ix (show IxR _ (rIxT K) from ix_tup) (pv 8) (pe_int) (fun _ _ => rfl)) (pa_cons (pe_ix (show IxR _ (rIxT K) from ix_tup) (pv 8) (pe_int) (fun _ _ => rfl)) pa_nil))))) rfl))
    (pss_one (ps_dput (hu_of hr) (pe_ix ix_list (pv 5) (pe_int) (fun _ _ => rfl)) (pe_ix ix_tup (pv 4) (pe_int) (fun _ _ => rfl)) (pe_lc (own := [("_law_one", 8)]) rfl sc__law_model.nd (pi_list (pv 7)) (blkOk_by (N := N__law_model) (sc := defScope s__law_model) (by decide +kernel)) (fun _ _ _ _ _ => (pg_name (i := 8) sc__law_model.nd rfl (Or.inl rfl))) (fun _ _ _ _ _ => by exact pts_one (pt_cmpR op_le (pe_ix (show IxR _ (rIxT K) from ix_tup) (pe_ix (show IxR _ (rIxL K) from ix_list) (pv 1) (pe_ix (show IxR _ (rIxT K) from ix_tup) (pv 8) (pe_int) (fun _ _ => rfl)) (fun _ _ => rfl)) (pe_int) (fun _ _ => rfl)) (pe_ix (show IxR _ (rIxT K) from ix_tup) (pv 4) (pe_int) (fun _ _ => rfl)) (nomark _))) (fun _ _ _ _ _ => by exact (pe_tup (pa_cons (pe_ix (show IxR _ (rIxT K) from ix_tup) (pv 8) (pe_int) (fun _ _ => rfl)) (pa_cons (pe_ix (show IxR _ (rIxT K) from ix_tup) (pv 8) (pe_int) (fun _ _ => rfl)) pa_nil))))) rfl)))
    (pss_one (ps_dput (hu_of hr) (pe_ix ix_list (pv 5) (pe_int) (fun _ _ => rfl)) (pe_ix ix_tup (pv 4) (pe_int) (fun _ _ => rfl)) (pe_callB cr_sortedS (by rfl) m_sorted (by decide +kernel) (pa_cons (pe_lc (own := [("_law_arrow", 9)]) rfl sc__law_model.nd (pi_list (pe_ix ix_list (pv 0) (pe_int) (fun _ _ => rfl))) (blkOk_by (N := N__law_model) (sc := defScope s__law_model) (by decide +kernel)) (fun _ _ _ _ _ => (pg_name (i := 9) sc__law_model.nd rfl (Or.inl rfl))) (fun _ _ _ _ _ => by exact pts_one (pt_cmpR op_eq (pe_ix (show IxR _ (rIxT K) from ix_tup) (pv 9) (pe_int) (fun _ _ => rfl)) (pe_ix (show IxR _ (rIxT K) from ix_tup) (pv 4) (pe_int) (fun _ _ => rfl)) (nomark _))) (fun _ _ _ _ _ => by exact (pe_ix (show IxR _ (rIxT K) from ix_tup) (pv 9) (pe_int) (fun _ _ => rfl)))) pa_nil)) rfl))))))))
    (pss_one (ps_ret (pv 5)))))))), ?_⟩
    have hw := W.w
    refine ⟨_, rfl, wa, _, 1, _, rfl, rfl, SqL.of hw, atI_nat (j := 1) rfl, _, rfl, wa, _, 2, _, rfl, rfl, SqL.of hw, atI_nat (j := 2) rfl, Nat.le_of_lt (small_line (by show 2 ≤ 100000; decide)), fun T hT => ?_⟩
    have s1 := same_new (o := .tup [V.ref ca, V.ref pa]) hT
    refine ⟨T, _, rfl, SqT.of upd_same, rfl, _, _, rfl, _, _, rfl, rfl, ?_⟩
    generalize upd H T (.tup [V.ref ca, V.ref pa]) = H1 at s1 ⊢
    have W1 := W.keep s1
    have dnb : ∀ p ∈ pcs M, 1 ≤ p.dn ∧ p.dn ≤ 6 := fun p hp => ⟨(g.pg p hp).1.d1, (g.pg p hp).1.d6⟩
    have lM : (pcs M).length ≤ 12 := by have := g.pm; omega
    have lL : L.length ≤ 40 := by have := g.cm; rw [List.length_map] at this; omega
    refine ⟨_, rfl, pa, rfl, ⟨_, SqL.of W1.p⟩, ?_⟩
    refine for_it walk_list (fun i σ H' => (∃ k4 : Option V, σ = [some (.ref wa), some (.ref ca), some (.ref pa), some (.int (grainTo ((pcs M).take i))), k4, none, none, none, none, none]) ∧ Same H1 H') ⟨⟨none, rfl⟩, Same.refl _⟩ (fun i σ H' _ hv => SqL.of (hv.2 _ _ W1.p)) ?_ ?_
    · rintro i x σ Ha Hb hi ⟨⟨k4, rfl⟩, hs⟩ ⟨rfl, hy⟩
      obtain ⟨e, he, rfl⟩ := ref_at hy
      have eA := hs _ _ (W1.ps e (List.mem_of_getElem? he))
      have he2 : (pcs M)[i]? = some e.2 := by rw [List.getElem?_map, he]; rfl
      have tk : (pcs M).take (i + 1) = (pcs M).take i ++ [e.2] := by rw [List.take_add_one, he2]; rfl
      have gb := grain_le (ps := (pcs M).take i) fun p hp => dnb p (List.mem_of_mem_take hp)
      have db := dnb e.2 (List.mem_of_getElem? he2)
      generalize hgr : grainTo ((pcs M).take i) = gr at gb ⊢
      have ev : [V.int gr, V.int e.2.dn] = [V.int ((gr.natAbs : Nat) : Int), V.int ((e.2.dn.natAbs : Nat) : Int)] := by
        rw [show ((gr.natAbs : Nat) : Int) = gr by omega, show ((e.2.dn.natAbs : Nat) : Int) = e.2.dn by omega]
      have gpos : 0 < Nat.gcd gr.natAbs e.2.dn.natAbs := Nat.gcd_pos_of_pos_left _ (by omega)
      have gle : Nat.gcd gr.natAbs e.2.dn.natAbs ≤ gr.natAbs := Nat.gcd_le_left _ (by omega)
      refine ⟨_, rfl, _, rfl, e.1, _, 4, _, rfl, rfl, SqT.of eA, atI_nat (j := 4) rfl, _, _, rfl, rfl, .inl ⟨by omega, by omega⟩, _, rfl, _, rfl, e.1, _, 4, _, rfl, rfl, SqT.of eA, atI_nat (j := 4) rfl, gr.natAbs, e.2.dn.natAbs, ev, by omega, by omega, fun H2 s2 => ⟨_, _, rfl, rfl, ⟨by omega, by omega⟩, ⟨some (.ref e.1), ?_⟩, hs.trans s2⟩⟩
      rw [tk, grain_snoc, hgr]
      show [_, _, _, some (V.int (Int.fdiv (gr * e.2.dn) _)), _, _, _, _, _, _] = _
      rw [lcm_fdiv (by omega) (by omega)]
    rintro σ H2 ⟨⟨k4, rfl⟩, s2⟩
    have lr : (refsP M).length = (pcs M).length := by rw [List.length_map, List.length_map]
    rw [lr, List.take_length]
    have gb := grain_le dnb
    refine ⟨_, rfl, fun d1 h1 d2 h2 d3 h3 d4 h4 => ⟨Nat.le_of_lt (small_line (by show 5 ≤ 100000; decide)), fun ma hma => ?_⟩⟩
    have q1 := same_new (o := .dK []) h1
    have q2 := same_new (o := .dK []) h2
    have q3 := same_new (o := .dK []) h3
    have q4 := same_new (o := .dK []) h4
    have q5 := same_new (o := .lst [V.int (grainTo (pcs M)), V.ref d1, V.ref d2, V.ref d3, V.ref d4]) hma
    have m2 := same_none q1 h2
    have m3' := same_none q2 h3
    have m3 := same_none q1 m3'
    have m4'' := same_none q3 h4
    have m4' := same_none q2 m4''
    have m4 := same_none q1 m4'
    have v1 : upd H2 d1 (.dK []) d1 = some (.dK []) := upd_same
    have v2 : upd (upd H2 d1 (.dK [])) d2 (.dK []) d2 = some (.dK []) := upd_same
    have v3 : upd (upd (upd H2 d1 (.dK [])) d2 (.dK [])) d3 (.dK []) d3 = some (.dK []) := upd_same
    have v4 : upd (upd (upd (upd H2 d1 (.dK [])) d2 (.dK [])) d3 (.dK [])) d4 (.dK []) d4 = some (.dK []) := upd_same
    have B0 : Bd H2 ma d1 d2 d3 d4 (cuesC L) (pcs M) (prs As) 0 0 0 0 (upd (upd (upd (upd (upd H2 d1 (.dK [])) d2 (.dK [])) d3 (.dK [])) d4 (.dK [])) ma (.lst [V.int (grainTo (pcs M)), V.ref d1, V.ref d2, V.ref d3, V.ref d4])) :=
      { s := (((q1.trans q2).trans q3).trans q4).trans q5, n1 := h1, n2 := m2, n3 := m3, n4 := m4,
        e12 := ne_of_none v1 h2, e13 := ne_of_none (q2 _ _ v1) h3, e14 := ne_of_none (q3 _ _ (q2 _ _ v1)) h4, e23 := ne_of_none v2 h3, e24 := ne_of_none (q3 _ _ v2) h4, e34 := ne_of_none v3 h4,
        m := upd_same,
        x1 := ⟨[], q5 _ _ (q4 _ _ (q3 _ _ (q2 _ _ v1))), Nat.le_refl _, fun _ h => nomatch h⟩, x2 := ⟨[], q5 _ _ (q4 _ _ (q3 _ _ v2)), Nat.le_refl _, fun _ h => nomatch h⟩,
        x3 := ⟨[], q5 _ _ (q4 _ _ v3), Nat.le_refl _, fun _ h => nomatch h⟩, x4 := ⟨[], q5 _ _ v4, Nat.le_refl _, fun _ h => nomatch h⟩ }
    generalize upd (upd (upd (upd (upd H2 d1 (.dK [])) d2 (.dK [])) d3 (.dK [])) d4 (.dK [])) ma (.lst [V.int (grainTo (pcs M)), V.ref d1, V.ref d2, V.ref d3, V.ref d4]) = H3 at B0 ⊢
    have W2 := W1.keep s2
    have fb : ∀ p ∈ pcs M, 0 ≤ factorOf (grainTo (pcs M)) p ∧ factorOf (grainTo (pcs M)) p ≤ 360 := fun p hp => factor_le gb.1 gb.2 (g.pg p hp).1.u1 (g.pg p hp).1.u6 (g.pg p hp).1.d1
    refine ⟨_, rfl, pa, rfl, ⟨_, SqL.of (B0.s _ _ W2.p)⟩, ?_⟩
    refine for_it walk_list (fun i σ H' => (∃ k4 k6 k7 : Option V, σ = [some (.ref wa), some (.ref ca), some (.ref pa), some (.int (grainTo (pcs M))), k4, some (.ref ma), k6, k7, none, none]) ∧ Bd H2 ma d1 d2 d3 d4 (cuesC L) (pcs M) (prs As) i i i i H') ⟨⟨_, _, _, rfl⟩, B0⟩ (fun i σ H' _ hv => SqL.of (hv.2.s _ _ W2.p)) ?_ ?_
    · rintro i x σ Ha Hb hi ⟨⟨k4, k6, k7, rfl⟩, B⟩ ⟨rfl, hy⟩
      obtain ⟨e, he, rfl⟩ := ref_at hy
      have e2 := W2.ps e (List.mem_of_getElem? he)
      have he2 : (pcs M)[i]? = some e.2 := by rw [List.getElem?_map, he]; rfl
      have hm := List.mem_of_getElem? he2
      have hz : ((pcs M).map (·.nm))[i]? = some e.2.nm := by rw [List.getElem?_map, he2]; rfl
      have hi12 : i < 12 := by have := (List.getElem?_eq_some_iff.mp he2).1; omega
      have sm : ∀ {n : Nat}, n ≤ i → n < sizeLine := fun h => small_line (by omega)
      have db := dnb e.2 hm
      have f0 := fb e.2 hm
      have eA := B.s _ _ e2
      refine ⟨_, rfl, e.1, _, 3, _, rfl, rfl, SqT.of eA, atI_nat (j := 3) rfl, _, rfl, _, _, rfl, rfl, .inr ⟨by omega, by omega⟩, _, rfl, e.1, _, 4, _, rfl, rfl, SqT.of eA, atI_nat (j := 4) rfl, _, _, rfl, rfl, ⟨by omega, by omega⟩, ?_⟩
      refine ⟨_, rfl, _, rfl, _, rfl, ca, e.1, factorOf (grainTo (pcs M)) e.2, L, e.2, rfl, f0.1, by omega, B.s _ _ W2.c, fun d hd => B.s _ _ (W2.cs d hd), by omega, eA, fun H4 sl N s4 hsl eN hN => ?_⟩
      have B4 := B.same s4
      have eA4 := B4.s _ _ e2
      obtain ⟨ks1, hk1, lk1, B5⟩ := B4.put1 (v := .int (shownOf (grainTo (pcs M)) e.2)) hz ⟨e.2, hm, rfl, rfl⟩
      refine ⟨_, rfl, e.1, _, 2, _, rfl, rfl, SqT.of eA4, atI_nat (j := 2) rfl, _, rfl, e.1, _, 1, _, rfl, rfl, SqT.of eA4, atI_nat (j := 1) rfl, _, _, rfl, rfl, _, rfl, _, _, rfl, rfl, .inr ⟨(by show -(2 ^ 64) < factorOf _ _; omega), (by show factorOf _ _ < 2 ^ 64; omega)⟩, _, rfl, ma, _, 1, _, rfl, rfl, SqL.of B4.m, atI_nat (j := 1) rfl, _, rfl, e.1, _, 0, _, rfl, rfl, SqT.of eA4, atI_nat (j := 0) rfl, d1, _, rfl, DPut.k (k := Sum.inr e.2.nm) (v := .int (shownOf (grainTo (pcs M)) e.2)) hk1 (sm lk1), ?_⟩
      have hsl5 := KD.put (ks' := putK ks1 (Sum.inr e.2.nm) (.int (shownOf (grainTo (pcs M)) e.2))) hk1 _ _ (fun _ e => by cases e) hsl
      have hN5 : ∀ d ∈ N, TAt (upd H4 d1 (.dK (putK ks1 (Sum.inr e.2.nm) (.int (shownOf (grainTo (pcs M)) e.2))))) d := fun d hd => KD.put hk1 _ _ (fun _ e => by cases e) (hN d hd)
      generalize upd H4 d1 (.dK (putK ks1 (Sum.inr e.2.nm) (.int (shownOf (grainTo (pcs M)) e.2)))) = H5 at B5 hsl5 hN5 ⊢
      have eA5 := B5.s _ _ e2
      obtain ⟨ks2, hk2, lk2, B6⟩ := B5.put2 (v := .ref sl) hz ⟨e.2, hm, rfl, sl, N, rfl, hsl5, eN, hN5⟩
      refine ⟨_, rfl, _, rfl, ma, _, 2, _, rfl, rfl, SqL.of B5.m, atI_nat (j := 2) rfl, _, rfl, e.1, _, 0, _, rfl, rfl, SqT.of eA5, atI_nat (j := 0) rfl, d2, _, rfl, DPut.k (k := Sum.inr e.2.nm) hk2 (sm lk2), ?_⟩
      have hsl6 := KD.put (ks' := putK ks2 (Sum.inr e.2.nm) (.ref sl)) hk2 _ _ (fun _ e => by cases e) hsl5
      have hN6 : ∀ d ∈ N, TAt (upd H5 d2 (.dK (putK ks2 (Sum.inr e.2.nm) (.ref sl)))) d := fun d hd => KD.put hk2 _ _ (fun _ e => by cases e) (hN5 d hd)
      generalize upd H5 d2 (.dK (putK ks2 (Sum.inr e.2.nm) (.ref sl))) = H6 at B6 hsl6 hN6 ⊢
      have eA6 := B6.s _ _ e2
      refine ⟨fun σ' H' => (∃ k6 k7 : Option V, σ' = [some (.ref wa), some (.ref ca), some (.ref pa), some (.int (grainTo (pcs M))), some (.ref e.1), some (.ref ma), k6, k7, none, none]) ∧ Bd H2 ma d1 d2 d3 d4 (cuesC L) (pcs M) (prs As) (i + 1) (i + 1) (i + 1) i H', ?_, ?_⟩
      · refine ⟨_, rfl, e.1, _, 5, _, rfl, rfl, SqT.of eA6, atI_nat (j := 5) rfl, rfl, _, rfl, ?_⟩
        rw [wayS_eq]
        cases ho : e.2.on with
        | true =>
          refine iteT ⟨_, rfl, sl, rfl, ⟨_, SqL.of hsl6⟩, fun D hD => ?_⟩
          refine lc_it walk_list (fun j H' => Same H6 H' ∧ ∃ Ds : List (Addr × Duo), H' D = some (.lst (refsD Ds)) ∧ duos Ds = sendsF e.2 (cuesC L) ((tris N).take j) ∧ ∀ d ∈ Ds, DAt H' d) ⟨same_new hD, [], upd_same, rfl, fun _ h => nomatch h⟩ (fun j H' _ hv => SqL.of (hv.1 _ _ hsl6)) ?_ ?_
          · rintro j y2 Hc Hd hj ⟨hs2, Ds, hd2, hn2, hD2⟩ ⟨rfl, hy2⟩
            obtain ⟨t, ht, rfl⟩ := ref_at hy2
            have tA := hs2 _ _ (hN6 t (List.mem_of_getElem? ht))
            have ht2 : (tris N)[j]? = some t.2 := by rw [List.getElem?_map, ht]; rfl
            obtain ⟨n, c, e1, ec⟩ := (show Nums (cuesC L) (tris N) by rw [eN]; exact nums_strip _ _ _) t.2 (List.mem_of_getElem? ht2)
            obtain ⟨d, hd1, rfl⟩ : ∃ d, L[n]? = some d ∧ c = d.2 := by
              rw [List.getElem?_map] at ec
              cases q : L[n]? with
              | none => rw [q] at ec; cases ec
              | some d => rw [q] at ec; exact ⟨d, rfl, (Option.some.inj ec).symm⟩
            have hj1 : (refsC L)[n]? = some (V.ref d.1) := by rw [List.getElem?_map, hd1]; rfl
            have dA := hs2 _ _ (B6.s _ _ (W2.cs d (List.mem_of_getElem? hd1)))
            have eA' := hs2 _ _ eA6
            have cA' := hs2 _ _ (B6.s _ _ W2.c)
            have eb : sendB e.2 (cuesC L) t.2 = edgeB e.2 d.2 := by
              unfold sendB
              rw [e1, Int.toNat_natCast, ec]
            have tk : sendsF e.2 (cuesC L) ((tris N).take (j + 1)) = sendsF e.2 (cuesC L) ((tris N).take j) ++ if edgeB e.2 d.2 = true then [(t.2.1, t.2.2.1)] else [] := by
              rw [List.take_add_one, ht2]
              show sendsF e.2 _ (_ ++ [t.2]) = _
              rw [sendsF_snoc, eb]
            have lDs : Ds.length ≤ 1000 := by
              have h1 := congrArg List.length hn2
              have h2 := sendsF_len e.2 (cuesC L) ((tris N).take j)
              have h3 := strip_len e.2 (factorOf (grainTo (pcs M)) e.2) (cuesC L)
              have h4 : (tris N).length = (stripF e.2 (factorOf (grainTo (pcs M)) e.2) (cuesC L)).length := congrArg List.length eN
              rw [List.length_take] at h2
              rw [List.length_map] at h1 h3
              omega
            have eg : edgeB e.2 d.2 = decide (d.2.s ≥ e.2.s) := by
              unfold edgeB
              rw [if_pos ho]
            refine ⟨rfl, _, rfl, _, rfl, t.1, _, 0, _, rfl, rfl, SqT.of tA, atI_nat (j := 0) rfl, ca, _, _, _, rfl, rfl, SqL.of cA', (by rw [e1]; exact atI_nat hj1), d.1, _, 0, _, rfl, rfl, SqT.of dA, atI_nat (j := 0) rfl, _, rfl, e.1, _, 1, _, rfl, rfl, SqT.of eA', atI_nat (j := 1) rfl, _, _, rfl, rfl, _, rfl, ite2 (fun h => ?_) (fun h => ?_)⟩
            · have hb : edgeB e.2 d.2 = true := eg.trans h
              refine ⟨_, rfl, t.1, _, 0, _, rfl, rfl, SqT.of tA, atI_nat (j := 0) rfl, _, rfl, t.1, _, 1, _, rfl, rfl, SqT.of tA, atI_nat (j := 1) rfl, Nat.le_of_lt (small_line (by show 2 ≤ 100000; decide)), fun T2 hT2 => ?_⟩
              have sT2 := same_new (o := .tup [.int t.2.1, .int t.2.2.1]) hT2
              have hd3 := sT2 _ _ hd2
              refine ⟨_, hd3, small_line (by rw [List.length_map]; omega), same_over (hs2.trans sT2) hD, Ds ++ [(T2, (t.2.1, t.2.2.1))], ?_, ?_, fun d' hd' => ?_⟩
              · rw [upd_same]
                show _ = some (HO.lst (List.map _ (Ds ++ [_])))
                rw [List.map_append]
                rfl
              · show List.map _ (Ds ++ [_]) = _
                rw [List.map_append, tk, hb, ← hn2]
                rfl
              · have ko : KT (upd Hd T2 (.tup [.int t.2.1, .int t.2.2.1])) (upd (upd Hd T2 (.tup [.int t.2.1, .int t.2.2.1])) D (.lst (refsD Ds ++ [V.ref T2]))) := (KT.refl _).over hd3
                rcases List.mem_append.mp hd' with h | h
                · exact ko _ _ ((hD2 d' h).keep sT2)
                · rw [List.mem_singleton.mp h]
                  exact ko _ _ upd_same
            · have hb : edgeB e.2 d.2 = false := eg.trans (Bool.eq_false_iff.mpr h)
              refine ⟨hs2, Ds, hd2, ?_, hD2⟩
              rw [tk, hb, hn2]
              exact (List.append_nil _).symm
          rintro Hd ⟨sd, Ds, hdl, hnl, hDl⟩
          rw [List.take_of_length_le (by rw [List.length_map, List.length_map]; exact Nat.le_refl _)] at hnl
          have B7 := B6.same sd
          obtain ⟨ks3, hk3, lk3, B8⟩ := B7.put3 (v := .ref D) hz ⟨e.2, hm, rfl, D, Ds, rfl, hdl, by rw [hnl, eN], hDl⟩
          exact ⟨_, rfl, ma, _, 3, _, rfl, rfl, SqL.of B7.m, atI_nat (j := 3) rfl, _, rfl, e.1, _, 0, _, rfl, rfl, SqT.of (sd _ _ eA6), atI_nat (j := 0) rfl, d3, _, rfl, DPut.k (k := Sum.inr e.2.nm) (v := .ref D) hk3 (sm lk3), ⟨_, _, rfl⟩, B8⟩
        | false =>
          refine ⟨_, rfl, sl, rfl, ⟨_, SqL.of hsl6⟩, fun D hD => ?_⟩
          refine lc_it walk_list (fun j H' => Same H6 H' ∧ ∃ Ds : List (Addr × Duo), H' D = some (.lst (refsD Ds)) ∧ duos Ds = sendsF e.2 (cuesC L) ((tris N).take j) ∧ ∀ d ∈ Ds, DAt H' d) ⟨same_new hD, [], upd_same, rfl, fun _ h => nomatch h⟩ (fun j H' _ hv => SqL.of (hv.1 _ _ hsl6)) ?_ ?_
          · rintro j y2 Hc Hd hj ⟨hs2, Ds, hd2, hn2, hD2⟩ ⟨rfl, hy2⟩
            obtain ⟨t, ht, rfl⟩ := ref_at hy2
            have tA := hs2 _ _ (hN6 t (List.mem_of_getElem? ht))
            have ht2 : (tris N)[j]? = some t.2 := by rw [List.getElem?_map, ht]; rfl
            obtain ⟨n, c, e1, ec⟩ := (show Nums (cuesC L) (tris N) by rw [eN]; exact nums_strip _ _ _) t.2 (List.mem_of_getElem? ht2)
            obtain ⟨d, hd1, rfl⟩ : ∃ d, L[n]? = some d ∧ c = d.2 := by
              rw [List.getElem?_map] at ec
              cases q : L[n]? with
              | none => rw [q] at ec; cases ec
              | some d => rw [q] at ec; exact ⟨d, rfl, (Option.some.inj ec).symm⟩
            have hj1 : (refsC L)[n]? = some (V.ref d.1) := by rw [List.getElem?_map, hd1]; rfl
            have dA := hs2 _ _ (B6.s _ _ (W2.cs d (List.mem_of_getElem? hd1)))
            have eA' := hs2 _ _ eA6
            have cA' := hs2 _ _ (B6.s _ _ W2.c)
            have eb : sendB e.2 (cuesC L) t.2 = edgeB e.2 d.2 := by
              unfold sendB
              rw [e1, Int.toNat_natCast, ec]
            have tk : sendsF e.2 (cuesC L) ((tris N).take (j + 1)) = sendsF e.2 (cuesC L) ((tris N).take j) ++ if edgeB e.2 d.2 = true then [(t.2.1, t.2.2.1)] else [] := by
              rw [List.take_add_one, ht2]
              show sendsF e.2 _ (_ ++ [t.2]) = _
              rw [sendsF_snoc, eb]
            have lDs : Ds.length ≤ 1000 := by
              have h1 := congrArg List.length hn2
              have h2 := sendsF_len e.2 (cuesC L) ((tris N).take j)
              have h3 := strip_len e.2 (factorOf (grainTo (pcs M)) e.2) (cuesC L)
              have h4 : (tris N).length = (stripF e.2 (factorOf (grainTo (pcs M)) e.2) (cuesC L)).length := congrArg List.length eN
              rw [List.length_take] at h2
              rw [List.length_map] at h1 h3
              omega
            have eg : edgeB e.2 d.2 = decide (d.2.e ≤ e.2.e) := by
              unfold edgeB
              rw [if_neg (by rw [ho]; exact Bool.false_ne_true)]
            refine ⟨rfl, _, rfl, _, rfl, t.1, _, 0, _, rfl, rfl, SqT.of tA, atI_nat (j := 0) rfl, ca, _, _, _, rfl, rfl, SqL.of cA', (by rw [e1]; exact atI_nat hj1), d.1, _, 1, _, rfl, rfl, SqT.of dA, atI_nat (j := 1) rfl, _, rfl, e.1, _, 2, _, rfl, rfl, SqT.of eA', atI_nat (j := 2) rfl, _, _, rfl, rfl, _, rfl, ite2 (fun h => ?_) (fun h => ?_)⟩
            · have hb : edgeB e.2 d.2 = true := eg.trans h
              refine ⟨_, rfl, t.1, _, 0, _, rfl, rfl, SqT.of tA, atI_nat (j := 0) rfl, _, rfl, t.1, _, 1, _, rfl, rfl, SqT.of tA, atI_nat (j := 1) rfl, Nat.le_of_lt (small_line (by show 2 ≤ 100000; decide)), fun T2 hT2 => ?_⟩
              have sT2 := same_new (o := .tup [.int t.2.1, .int t.2.2.1]) hT2
              have hd3 := sT2 _ _ hd2
              refine ⟨_, hd3, small_line (by rw [List.length_map]; omega), same_over (hs2.trans sT2) hD, Ds ++ [(T2, (t.2.1, t.2.2.1))], ?_, ?_, fun d' hd' => ?_⟩
              · rw [upd_same]
                show _ = some (HO.lst (List.map _ (Ds ++ [_])))
                rw [List.map_append]
                rfl
              · show List.map _ (Ds ++ [_]) = _
                rw [List.map_append, tk, hb, ← hn2]
                rfl
              · have ko : KT (upd Hd T2 (.tup [.int t.2.1, .int t.2.2.1])) (upd (upd Hd T2 (.tup [.int t.2.1, .int t.2.2.1])) D (.lst (refsD Ds ++ [V.ref T2]))) := (KT.refl _).over hd3
                rcases List.mem_append.mp hd' with h | h
                · exact ko _ _ ((hD2 d' h).keep sT2)
                · rw [List.mem_singleton.mp h]
                  exact ko _ _ upd_same
            · have hb : edgeB e.2 d.2 = false := eg.trans (Bool.eq_false_iff.mpr h)
              refine ⟨hs2, Ds, hd2, ?_, hD2⟩
              rw [tk, hb, hn2]
              exact (List.append_nil _).symm
          rintro Hd ⟨sd, Ds, hdl, hnl, hDl⟩
          rw [List.take_of_length_le (by rw [List.length_map, List.length_map]; exact Nat.le_refl _)] at hnl
          have B7 := B6.same sd
          obtain ⟨ks3, hk3, lk3, B8⟩ := B7.put3 (v := .ref D) hz ⟨e.2, hm, rfl, D, Ds, rfl, hdl, by rw [hnl, eN], hDl⟩
          exact ⟨_, rfl, ma, _, 3, _, rfl, rfl, SqL.of B7.m, atI_nat (j := 3) rfl, _, rfl, e.1, _, 0, _, rfl, rfl, SqT.of (sd _ _ eA6), atI_nat (j := 0) rfl, d3, _, rfl, DPut.k (k := Sum.inr e.2.nm) (v := .ref D) hk3 (sm lk3), ⟨_, _, rfl⟩, B8⟩
      rintro σ' H7 ⟨⟨k6, k7, rfl⟩, B7⟩
      refine ⟨_, rfl, wa, _, 3, _, rfl, rfl, SqL.of (B7.s _ _ W2.w), atI_nat (j := 3) rfl, aa, rfl, ⟨_, SqL.of (B7.s _ _ W2.a)⟩, fun D hD => ?_⟩
      refine lc_it walk_list (fun j H' => Same H7 H' ∧ H' D = some (.lst ((rightsOf ((prs As).take j) e.2.nm).map V.str))) ⟨same_new hD, upd_same⟩ (fun j H' _ hv => SqL.of (hv.1 _ _ (B7.s _ _ W2.a))) ?_ ?_
      · rintro j y2 Hc Hd hj ⟨hs2, hd2⟩ ⟨rfl, hy2⟩
        obtain ⟨a, ha, rfl⟩ := ref_at hy2
        have aA := hs2 _ _ (B7.s _ _ (W2.as a (List.mem_of_getElem? ha)))
        have eA' := hs2 _ _ (B7.s _ _ e2)
        have ha2 : (prs As)[j]? = some a.2 := by rw [List.getElem?_map, ha]; rfl
        have tk : rightsOf ((prs As).take (j + 1)) e.2.nm = rightsOf ((prs As).take j) e.2.nm ++ if a.2.1 = e.2.nm then [a.2.2] else [] := by
          rw [List.take_add_one, ha2]
          exact rights_snoc _ _ _
        have lrt : (rightsOf ((prs As).take j) e.2.nm).length ≤ 1000 := by
          have al := g.al
          unfold rightsOf
          rw [List.length_map]
          refine Nat.le_trans (List.length_filter_le _ _) ?_
          rw [List.length_take]
          omega
        refine ⟨rfl, _, rfl, a.1, _, 0, _, rfl, rfl, SqT.of aA, atI_nat (j := 0) rfl, _, rfl, e.1, _, 0, _, rfl, rfl, SqT.of eA', atI_nat (j := 0) rfl, rfl, _, rfl, ite2 (fun h => ?_) (fun h => ?_)⟩
        · have h' : a.2.1 = e.2.nm := V.str.inj (of_decide_eq_true h)
          refine ⟨_, rfl, a.1, _, 1, _, rfl, rfl, SqT.of aA, atI_nat (j := 1) rfl, _, hd2, small_line (by rw [List.length_map]; omega), same_over hs2 hD, ?_⟩
          rw [upd_same, tk, if_pos h', List.map_append]
          rfl
        · have h' : ¬ a.2.1 = e.2.nm := fun q => h (decide_eq_true (congrArg V.str q))
          refine ⟨hs2, ?_⟩
          rw [tk, if_neg h', List.append_nil]
          exact hd2
      rintro Hd ⟨sd, hdl⟩
      rw [List.take_of_length_le (by rw [List.length_map, List.length_map]; exact Nat.le_refl _)] at hdl
      have l64 : (rightsOf (prs As) e.2.nm).length < 64 := by
        have := rights_few g.an (ns := (pcs M).map (·.nm)) (fun a ha => (g.ai a ha).2) e.2.nm
        rw [List.length_map] at this
        omega
      refine ⟨D, _, rfl, SqL.of hdl, l64, fun ys p hperm hsort hp => ?_⟩
      have s8 := sd.trans (same_new (o := .lst (ys.map V.str)) hp)
      have B8 := B7.same s8
      have hp8 := upd_same (H := Hd) (a := p) (o := .lst (ys.map V.str))
      generalize upd Hd p (.lst (ys.map V.str)) = H8 at s8 B8 hp8 ⊢
      obtain ⟨ks4, hk4, lk4, B9⟩ := B8.put4 (v := .ref p) hz ⟨p, ys, rfl, hp8, hperm, hsort⟩
      exact ⟨_, rfl, ma, _, 4, _, rfl, rfl, SqL.of B8.m, atI_nat (j := 4) rfl, _, rfl, e.1, _, 0, _, rfl, rfl, SqT.of (B8.s _ _ e2), atI_nat (j := 0) rfl, d4, _, rfl, DPut.k (k := Sum.inr e.2.nm) (v := .ref p) hk4 (sm lk4), ⟨_, _, _, rfl⟩, B9⟩
    · rintro σ H' ⟨⟨k4, k6, k7, rfl⟩, B⟩
      rw [lr] at B
      exact ⟨_, rfl, q H' ma ((s1.trans s2).trans B.s) ⟨d1, d2, d3, d4, B.m, B.x1, B.x2, B.x3, B.x4⟩⟩
end
end Sea
namespace Sea
open PySem PySem.Spec PyProof.Rows L2
/-- what becomes of a row that is handed: bad k with the number told, good t -/
def rowUp (H : Hp) (ns : List Str) (v : V) (bad : Int → Hp → Prop) (good : List V → Addr → Hp → Prop) : Prop :=
  (Plain v ∧ ∀ H', Same H H' → bad (-1) H') ∨
  ∃ a xs, v = .ref a ∧ (H a = some (.tup xs) ∨ H a = some (.lst xs)) ∧ (∀ y ∈ xs, AnyV H y) ∧
    (xs.length < 1 ∨ 400 < xs.length → ∀ H', Same H H' → bad (-1) H') ∧
    (∀ (k : Nat) (y : V), 1 ≤ xs.length → xs.length ≤ 400 → xs[k]? = some y → (∀ z ∈ xs.take k, hasV ns z = true) → hasV ns y = false → ∀ H', Same H H' → bad (k : Nat) H') ∧
    (1 ≤ xs.length → xs.length ≤ 400 → (∀ z ∈ xs, hasV ns z = true) → ∀ H' t, Same H H' → H' t = some (.tup xs) → good xs t H')
def spRowJ (CP CR CB : Addr) : Sp := fun vs H Q E => ∃ (x : Addr) (v : V) (len : Int) (L : List (Addr × Cue)) (ps : List Piece) (as : List (Str × Str)) (ss es : List Str), vs = [.ref x, v] ∧ PlanAt H CR CP x len L ps as ss es ∧
  rowUp H (ps.map (·.nm)) v (fun k H' => ∀ q, H' q = none → E (.ref CB) (some q) (upd H' q (.xd [(("number" : Str), .int k)]))) (fun _ t H' => Q (.ref t) H')
theorem hasV_names {ns : List Str} : ∀ {xs : List V}, (∀ z ∈ xs, hasV ns z = true) → ∃ zs : List Str, xs = zs.map V.str ∧ ∀ z ∈ zs, z ∈ ns
  | [], _ => ⟨[], rfl, fun _ h => nomatch h⟩
  | x :: r, h => by
    obtain ⟨zs, e, hz⟩ := hasV_names (xs := r) fun z hz => h z (List.mem_cons_of_mem _ hz)
    have hx := h x List.mem_cons_self
    cases x with
    | str z => exact ⟨z :: zs, by rw [e]; rfl, fun y hy => (List.mem_cons.mp hy).elim (fun e => e ▸ of_decide_eq_true hx) (hz y)⟩
    | _ => cases hx
theorem names_pieces {ps : List Piece} : ∀ {zs : List Str}, (∀ z ∈ zs, z ∈ ps.map (·.nm)) → ∃ rs : List Piece, zs = rs.map (·.nm) ∧ ∀ p ∈ rs, p ∈ ps
  | [], _ => ⟨[], rfl, fun _ h => nomatch h⟩
  | z :: r, h => by
    obtain ⟨rs, e, hr⟩ := names_pieces (ps := ps) (zs := r) fun y hy => h y (List.mem_cons_of_mem _ hy)
    obtain ⟨p, hp, ep⟩ := List.mem_map.mp (h z List.mem_cons_self)
    exact ⟨p :: rs, by rw [e, ← ep]; rfl, fun y hy => (List.mem_cons.mp hy).elim (fun e => e ▸ hp) (hr y)⟩
section
variable {P : Program} {w : World} {K : PySem.W.Frag} {mg : Str → Option Value} {base : Heap} {CR CP CB fR fP : Addr}
theorem ok_judged_row {f : Addr} {fd : FuncData} (F : Fun K "judged_row" "judged_row" s_judged_row f fd) (m_enumerate : mg "enumerate" = none) (m_len : mg "len" = none) {t : Tok} (g_MOST_NAMES : mg "MOST_NAMES" = some (.int 400 t)) (xB : XI P w K mg base "BadRow" "number" CB)
    (c_items_of : Cal P w K mg base 1 "items_of" (spItemsA K)) (C : OwnC P w K mg base CP CR) : FnOk P w K mg base (L2.CX P w) 3 f fd ["plan", "row"] (spRowJ CP CR CB) := by
  obtain ⟨fIB, fdB, XB, FB, bB⟩ := xB.ex
  obtain ⟨fC, fdC, OC, hs', hf', hb'⟩ := C.ex
  refine F.okX sc_judged_row (fun vs H Q E h => ?_) (fun cdv A outer s H vs Q E hr h => ?_)
  · obtain ⟨x, v, len, L, ps, as, ss, es, rfl, _⟩ := h
    rfl
  · obtain ⟨x, v, len, L, ps, as, ss, es, rfl, hP, h⟩ := h
    refine ⟨_, (pss_cons (ps_set (i := 2) sc_judged_row.nd rfl (Or.inl rfl) (pe_c c_items_of hr (by decide) rfl (pa_cons (pv 1) pa_nil)))
    (pss_cons (ps_if (PW.pt (pw_or (pt_cmpR op_isN (pv 2) (pe_non) (nomark _)) (pw_or1 (pt_not (pt_chain op_le op_le (pe_int) (pe_callB call_len (by rfl) m_len (by decide +kernel) (pa_cons (pv 2) pa_nil)) (pe_glob (v := .int 400) rfl g_MOST_NAMES ⟨_, rfl⟩))))))
    (pss_one (ps_raise rfl (takes_of rfl rfl rfl rfl) (pmk_oex XB.ox XB.iC XB.tI FB (hr.mono (by decide)) bB .nil pass0 rfl XB.gC (pa_cons (pe_un un_neg (pe_int)) pa_nil))))
    pss_nil)
    (pss_cons (ps_for (passes_of rfl) rfl (pi_enT (by rfl) m_enumerate (pa_cons (pv 2) pa_nil)) (pg_tup rfl (pgs_cons (pg_name (i := 3) sc_judged_row.nd rfl (Or.inl rfl)) (pgs_cons (pg_name (i := 4) sc_judged_row.nd rfl (Or.inl rfl)) pgs_nil)))
    (pss_one (ps_if (pt_cmpR (op_ownNotIn OC hr (by decide) hs' hf' hb') (pv 4) (pv 0) rfl)
    (pss_one (ps_raise rfl (takes_of rfl rfl rfl rfl) (pmk_oex XB.ox XB.iC XB.tI FB (hr.mono (by decide)) bB .nil pass0 rfl XB.gC (pa_cons (pv 3) pa_nil))))
    pss_nil)))
    (pss_one (ps_ret (pv 2)))))), ?_⟩
    rcases h with ⟨hp, hbad⟩ | ⟨a, xs, rfl, ha, hany, hlen, hbad, hgood⟩
    · exact ⟨_, rfl, v, rfl, .inl ⟨hp, fun H1 s1 => ⟨_, rfl, rfl, _, rfl, 1, rfl, mk_fin XB.ox XB.no fun q hq => hbad H1 s1 q hq⟩⟩⟩
    refine ⟨_, rfl, .ref a, rfl, .inr (.inr ⟨a, xs, rfl, ha, fun H1 it s1 h1 => ?_⟩)⟩
    refine ⟨_, rfl, rfl, _, rfl, _, rfl, _, xs.length, rfl, .inr ⟨_, SqT.of h1, rfl⟩, _, _, rfl, rfl, _, rfl, ite2 (fun l1 => ?_) (fun l1 => ?_)⟩
    rotate_left
    · have l1 : ¬ (1 : Int) ≤ (xs.length : Nat) := fun q => l1 (decide_eq_true q)
      exact ⟨_, rfl, 1, rfl, mk_fin XB.ox XB.no fun q hq => hlen (.inl (by omega)) H1 s1 q hq⟩
    have l1 : (1 : Int) ≤ (xs.length : Nat) := of_decide_eq_true l1
    refine ⟨_, _, rfl, rfl, _, rfl, ?_⟩
    by_cases l4 : ((xs.length : Nat) : Int) ≤ 400
    rotate_left
    · rw [decide_eq_false l4]
      exact ⟨1, rfl, mk_fin XB.ox XB.no fun q hq => hlen (.inr (by omega)) H1 s1 q hq⟩
    rw [decide_eq_true l4]
    refine ⟨_, rfl, it, _, rfl, SqT.of h1, ?_⟩
    refine for_it walk_enT (fun i σ H' => (∃ k3 k4 : Option V, σ = [some (.ref x), some (.ref a), some (.ref it), k3, k4]) ∧ Same H1 H' ∧ ∀ z ∈ xs.take i, hasV (ps.map (·.nm)) z = true) ⟨⟨_, _, rfl⟩, Same.refl _, fun _ h => nomatch h⟩ (fun i σ H' _ hv => SqT.of (hv.2.1 _ _ h1)) ?_ ?_
    · rintro i y σ Ha Hb hi ⟨⟨k3, k4, rfl⟩, hs, hz⟩ ⟨T, v, rfl, hT, hv, rfl⟩
      have sT := same_new (o := .tup [.int (i : Nat), v]) hT
      have S := (s1.trans hs).trans sT
      have hPa := hP.keep S
      have hvm := List.mem_of_getElem? hv
      obtain ⟨dx, xr, pt, nt, at', st, et, dP, dF, dS, dB, dT, dQ, hx, B⟩ := id hPa
      have hA : AnyV (upd Ha T (.tup [.int (i : Nat), v])) v := by
        rcases hany v hvm with h | ⟨a', ys, e, h | h⟩
        · exact .inl h
        · exact .inr ⟨a', ys, e, .inl (S _ _ h)⟩
        · exact .inr ⟨a', ys, e, .inr (S _ _ h)⟩
      refine ⟨T, _, rfl, SqT.of upd_same, rfl, _, _, rfl, _, _, rfl, rfl, ?_⟩
      refine ⟨_, rfl, _, rfl, x, dx, _, rfl, hx, x, v, len, L, ps, as, ss, es, rfl, hPa, hA, _, rfl, _, rfl, ?_⟩
      show (if (!hasV (ps.map (·.nm)) v) = true then _ else _)
      cases e : hasV (ps.map (·.nm)) v with
      | false => exact ⟨_, rfl, mk_fin XB.ox XB.no fun q hq => hbad i v (by omega) (by omega) hv hz e _ S q hq⟩
      | true =>
        refine ⟨⟨_, _, rfl⟩, hs.trans sT, fun z hz' => ?_⟩
        rw [List.take_add_one, hv] at hz'
        rcases List.mem_append.mp hz' with h | h
        · exact hz z h
        · rw [List.mem_singleton.mp h]
          exact e
    · rintro σ H' ⟨⟨k3, k4, rfl⟩, hs, hz⟩
      rw [List.take_length] at hz
      exact ⟨_, rfl, hgood (by omega) (by omega) hz H' it (s1.trans hs) (hs _ _ h1)⟩
end
end Sea
namespace Sea
open PySem PySem.Spec PyProof.Rows L2
theorem chain_judge {len : Int} : ∀ {cs : List Cue} {lo : Int}, chainC len lo cs → judgeD len lo (cs.map cuP) = none
  | [], _, _ => rfl
  | c :: r, lo, h => by
    have e : cueD (cuP c) = some c := rfl
    show (if okD lo len (cuP c) = true then (judgeD len (endD (cuP c)) (r.map cuP)).map (· + 1) else some 0) = none
    have ee : endD (cuP c) = c.e := by unfold endD; rw [e]
    rw [if_pos (okD_of e h.1), ee, chain_judge h.2]
    rfl
theorem chain_good {len : Int} : ∀ {cs : List Cue} {lo : Int}, 0 ≤ lo → chainC len lo cs → ∀ c ∈ cs, GoodC 0 len c
  | [], _, _, _ => fun _ h => nomatch h
  | c :: r, lo, l0, h => fun d hd => by
    have g := h.1
    rcases List.mem_cons.mp hd with e | e
    · rw [e]
      exact ⟨g.nm, g.tx, Int.le_trans l0 g.lo, g.lt, g.hi⟩
    · have := g.lo
      have := g.lt
      exact chain_good (by omega) h.2 d e
theorem cue_th {H : Hp} {e : Addr × Cue} {len : Int} (h : At H e) (g : GoodC 0 len e.2) (hl : len ≤ 2000) : Th true [5, 1] H (.ref e.1) (cuP e.2) := by
  have a := g.lo
  have b := g.lt
  have c := g.hi
  have big : ∀ i : Int, 0 ≤ i → i ≤ 2000 → i.natAbs < 10 ^ 40 := fun i h1 h2 => Nat.lt_of_le_of_lt (by omega : i.natAbs ≤ 2000) (by decide)
  refine .inr ⟨e.1, e.2.vs, [.int e.2.s, .int e.2.e, .str e.2.nm, .str e.2.tx], rfl, (by show 4 ≤ 5; decide), ?_, .inl ⟨rfl, h⟩⟩
  refine .cons (.inl ⟨rfl, big _ (by omega) (by omega)⟩) (.cons (.inl ⟨rfl, big _ (by omega) (by omega)⟩) (.cons (.inl ⟨rfl, ?_, fun k hk => ?_⟩) (.cons (.inl ⟨rfl, ?_, g.tx.sign⟩) .nil)))
  · have := g.nm.most
    rw [cp_len] at this
    omega
  · have := g.nm.sign k hk
    omega
  · have := g.tx.most
    rw [cp_len] at this
    omega
theorem cues_paired {H : Hp} {len : Int} (hl : len ≤ 2000) : ∀ {L : List (Addr × Cue)}, (∀ e ∈ L, At H e) → (∀ c ∈ cuesC L, GoodC 0 len c) → Paired (Th true [5, 1] H) (refsC L) ((cuesC L).map cuP)
  | [], _, _ => .nil
  | e :: r, h, g => .cons (cue_th (h e List.mem_cons_self) (g e.2 (List.mem_cons_self ..)) hl) (cues_paired hl (fun d hd => h d (List.mem_cons_of_mem _ hd)) fun c hc => g c (List.mem_cons_of_mem _ hc))
/-- Reel(length, cues) of a drawn world -/
theorem reel_world {K : PySem.W.Frag} {CR CB CM CLn : Addr} {H1 : Hp} {len : Int} {ca : Addr} {L : List (Addr × Cue)} {Qr : Addr → Hp → Prop} {E : XK} (h1 : 1 ≤ len) (h2 : len ≤ 2000) (hc : H1 ca = some (.lst (refsC L))) (hat : ∀ e ∈ L, At H1 e) (hch : chainC len 0 (cuesC L)) (h40 : L.length ≤ 40)
    (good : ∀ H2 x L', Same H1 H2 → ReelAt H2 CR x len L' → cuesC L' = cuesC L → Qr x H2) :
    ∀ x dx, H1 x = none → H1 dx = none → dx ≠ x → spReelA K CR CB CM CLn (.ref x :: ([V.int len, .ref ca] ++ [])) (upd (upd H1 dx (.own x)) x (.ins CR dx [])) (fun v H2 => v = .non ∧ Qr x H2) E := by
  refine reel_good (cd := .list ((cuesC L).map cuP)) (cs := cuesC L) h1 h2 (.inl ?_) ?_ (chain_judge hch) (by rw [List.length_map]; exact h40) fun H2 x L' s hR e _ => good H2 x L' s hR e
  · exact .inr ⟨ca, refsC L, (cuesC L).map cuP, rfl, by rw [List.length_map, List.length_map]; omega, cues_paired h2 hat (chain_good (Int.le_refl 0) hch), .inr ⟨rfl, rfl, hc⟩⟩
  · show PyData.tuple (tupDs _) = _
    rw [tupDs_cues]
    rfl
/-- Plan(reel, ..) of a drawn world -/
theorem plan_world {CR CP : Addr} {H1 : Hp} {mc mp len : Int} {xr wa ca pa aa sa ea : Addr} {L L' : List (Addr × Cue)} {M : List (Addr × Piece)} {A : List (Addr × (Str × Str))} {ss es : List Str} {Qr : Addr → Hp → Prop} {E : XK}
    (W : WorldB H1 wa ca pa aa sa ea len L M A ss es) (g : GoodW mc mp len (cuesC L) (pcs M) (prs A) ss es) (m40 : mc ≤ 40) (m12 : mp ≤ 12) (hR : ReelAt H1 CR xr len L') (eL : cuesC L' = cuesC L)
    (good : ∀ H2 x, Same H1 H2 → PlanAt H2 CR CP x len L' (pcs M) (prs A) ss es → Qr x H2) :
    ∀ x dx, H1 x = none → H1 dx = none → dx ≠ x → spPlan CR CP (.ref x :: ([.ref xr, .ref pa, .ref aa, .ref sa, .ref ea] ++ [])) (upd (upd H1 dx (.own x)) x (.ins CP dx [])) (fun v H2 => v = .non ∧ Qr x H2) E := by
  intro x dx hx hdx ne
  have s1 := same_new (o := .own x) hdx
  have hx1 : upd H1 dx (.own x) x = none := by rw [upd_ne (Ne.symm ne)]; exact hx
  have s2 := same_new (o := .ins CP dx []) hx1
  have S := s1.trans s2
  have SR : Same H1 (rest x (upd (upd H1 dx (.own x)) x (.ins CP dx []))) := same_rest hx S
  have W' := W.keep SR
  have lL : L'.length ≤ 40 := by
    have h1 := congrArg List.length eL
    have h2 := g.cm
    rw [List.length_map, List.length_map] at h1
    rw [List.length_map] at h2
    omega
  have lM : M.length ≤ 12 := by
    have := g.pm
    rw [List.length_map] at this
    omega
  have l1 : 1 ≤ M.length := by
    have := g.p1
    rw [List.length_map] at this
    exact this
  have lA : A.length ≤ 1000 := by
    have := g.al
    rw [List.length_map] at this
    omega
  refine ⟨x, dx, xr, pa, aa, sa, ea, len, L', M, A, ss, es, rfl, upd_same, hR.keep SR, by omega, .inr W'.p, fun e he => ⟨W'.ps e he, (g.pg e.2 (List.mem_map.mpr ⟨e, he, rfl⟩)).1⟩, ⟨l1, lM⟩, g.nd, .inr W'.a, fun e he => ⟨W'.as e he, g.ai e.2 (List.mem_map.mpr ⟨e, he, rfl⟩)⟩, g.an, lA, .inr W'.s, g.st, .inr W'.e, g.en, g.both, fun H' k hP => ⟨rfl, good H' x (fun a o h => ?_) hP⟩⟩
  exact k _ _ (fun e => by rw [e, hx] at h; cases h) (S _ _ h)
end Sea
namespace Sea
open PySem PySem.Spec PyProof.Rows L2
def mir (N : Int) (t : Tri) : Tri := (t.1, N - t.2.2, N - t.2.1)
/-- turned round -/
theorem fill_mir (N : Int) : ∀ {T : List Tri} {b n : Int}, WFs b T n → WFs (N - n) ((T.map (mir N)).reverse) (N - b) ∧ fill (N - n) ((T.map (mir N)).reverse) (N - b) = (fill b T n).reverse
  | [], b, n, h => by
    have h : b ≤ n := h
    refine ⟨(by show N - n ≤ N - b; omega), ?_⟩
    show List.replicate _ none = (List.replicate _ none).reverse
    rw [List.reverse_replicate, show N - b - (N - n) = n - b by omega]
  | t :: r, b, n, h => by
    obtain ⟨h1, h2, h3⟩ := h
    obtain ⟨i1, i2⟩ := fill_mir N h3
    obtain ⟨j1, j2⟩ := fill_add (c := t.1) (show N - t.2.2 < N - t.2.1 by omega) i1 (Int.le_refl _)
    obtain ⟨k1, k2⟩ := fill_more j1 (show N - t.2.1 ≤ N - b by omega)
    rw [List.map_cons, List.reverse_cons]
    refine ⟨k1, ?_⟩
    show fill (N - n) ((r.map (mir N)).reverse ++ [(t.1, N - t.2.2, N - t.2.1)]) (N - b) = _
    rw [k2, j2, i2]
    show _ = (List.replicate _ none ++ (List.replicate _ (some t.1) ++ fill t.2.2 r n)).reverse
    rw [List.reverse_append, List.reverse_append, List.reverse_replicate, List.reverse_replicate, Int.sub_self, show ((0 : Int).toNat) = 0 from rfl, List.replicate_zero, List.nil_append,
      show N - t.2.1 - (N - t.2.2) = t.2.2 - t.2.1 by omega, show N - b - (N - t.2.1) = t.2.1 - b by omega]
/-- which cue is on at a tick: the last one -/
def onF (t : Int) : Nat → List Cue → Option Int
  | _, [] => none
  | i, c :: r => match onF t (i + 1) r with
    | some k => some k
    | none => if c.s ≤ t ∧ t < c.e then some (i : Int) else none
theorem onF_none {len t : Int} : ∀ {cs : List Cue} {lo : Int} {i : Nat}, chainC len lo cs → t < lo → onF t i cs = none
  | [], _, _, _, _ => rfl
  | c :: r, lo, i, h, hl => by
    have g1 := h.1.lo
    have g2 := h.1.lt
    unfold onF
    rw [onF_none h.2 (show t < c.e by omega)]
    exact if_neg (by omega)
/-- ticks from a on, so many, each k grains -/
def ticks (f : Int → Option Int) (k : Nat) : Int → Nat → List (Option Int)
  | _, 0 => []
  | a, n + 1 => List.replicate k (f a) ++ ticks f k (a + 1) n
theorem ticks_split (f : Int → Option Int) (k : Nat) : ∀ (m n : Nat) (a : Int), ticks f k a (m + n) = ticks f k a m ++ ticks f k (a + (m : Int)) n
  | 0, n, a => by
    rw [Nat.zero_add]
    show _ = [] ++ ticks f k (a + 0) n
    rw [Int.add_zero, List.nil_append]
  | m + 1, n, a => by
    rw [show m + 1 + n = (m + n) + 1 by omega]
    show List.replicate k (f a) ++ ticks f k (a + 1) (m + n) = (List.replicate k (f a) ++ ticks f k (a + 1) m) ++ _
    rw [ticks_split f k m n (a + 1), List.append_assoc, show a + 1 + (m : Int) = a + ((m + 1 : Nat) : Int) by omega]
theorem ticks_const {f : Int → Option Int} {x : Option Int} (k : Nat) : ∀ (n : Nat) (a : Int), (∀ t, a ≤ t → t < a + (n : Int) → f t = x) → ticks f k a n = List.replicate (n * k) x
  | 0, a, _ => by rw [Nat.zero_mul]; rfl
  | n + 1, a, h => by
    show List.replicate k (f a) ++ ticks f k (a + 1) n = _
    rw [h a (Int.le_refl a) (by omega), ticks_const k n (a + 1) fun t h1 h2 => h t (by omega) (by omega), List.replicate_append_replicate, show k + n * k = (n + 1) * k by rw [Nat.succ_mul, Nat.add_comm]]
theorem ticks_eq {f g : Int → Option Int} (k : Nat) : ∀ (n : Nat) (a : Int), (∀ t, a ≤ t → t < a + (n : Int) → f t = g t) → ticks f k a n = ticks g k a n
  | 0, a, _ => rfl
  | n + 1, a, h => by
    show List.replicate k (f a) ++ ticks f k (a + 1) n = List.replicate k (g a) ++ ticks g k (a + 1) n
    rw [h a (Int.le_refl a) (by omega), ticks_eq k n (a + 1) fun t h1 h2 => h t (by omega) (by omega)]
/-- strips run on, numbered from i -/
def triFrom (s e : Int) (k : Int) (i : Nat) : List Cue → List Tri
  | [] => []
  | c :: r => if (if c.s > s then c.s else s) < (if c.e < e then c.e else e) then ((i : Int), ((if c.s > s then c.s else s) - s) * k, ((if c.e < e then c.e else e) - s) * k) :: triFrom s e k (i + 1) r else triFrom s e k (i + 1) r
theorem tri_none {len s e k : Int} : ∀ {cs : List Cue} {lo : Int} {i : Nat}, chainC len lo cs → e ≤ lo → triFrom s e k i cs = []
  | [], _, _, _, _ => rfl
  | c :: r, lo, i, h, hl => by
    have g1 := h.1.lo
    have g2 := h.1.lt
    unfold triFrom
    rw [if_neg (by
      have : e ≤ c.s := by omega
      by_cases h1 : c.s > s
      · rw [if_pos h1]
        by_cases h2 : c.e < e
        · omega
        · rw [if_neg h2]; omega
      · rw [if_neg h1]
        by_cases h2 : c.e < e
        · omega
        · rw [if_neg h2]; omega)]
    exact tri_none h.2 (by omega)
theorem toNat_mul {x : Int} (k : Nat) (h : 0 ≤ x) : (x * (k : Int)).toNat = x.toNat * k := by
  obtain ⟨m, rfl⟩ := Int.eq_ofNat_of_zero_le h
  show ((((m * k : Nat)) : Int)).toNat = (m : Int).toNat * k
  rw [Int.toNat_natCast, Int.toNat_natCast]
theorem sub_sub_mul (x y s k : Int) : (x - s) * k - (y - s) * k = (x - y) * k := by
  rw [← Int.sub_mul]
  congr 1
  omega
theorem fill_nil {s e a : Int} {k : Nat} (h2 : a ≤ e) {f : Int → Option Int} (h : ∀ t, a ≤ t → t < e → f t = none) : fill ((a - s) * k) [] ((e - s) * k) = ticks f k a (e - a).toNat := by
  rw [ticks_const (x := none) k _ a fun t h3 h4 => h t h3 (by omega)]
  show List.replicate _ none = _
  rw [sub_sub_mul, toNat_mul k (by omega)]
theorem fill_tri {len s e : Int} {k : Nat} (hk : 1 ≤ k) : ∀ {cs : List Cue} {lo a : Int} {i : Nat}, chainC len lo cs → s ≤ a → a ≤ e → (a ≤ lo ∨ a = s) →
    WFs ((a - s) * k) (triFrom s e k i cs) ((e - s) * k) ∧ fill ((a - s) * k) (triFrom s e k i cs) ((e - s) * k) = ticks (fun t => onF t i cs) k a (e - a).toNat
  | [], lo, a, i, _, h1, h2, _ => ⟨Int.mul_le_mul_of_nonneg_right (by omega) (by omega), fill_nil h2 fun _ _ _ => rfl⟩
  | c :: r, lo, a, i, h, h1, h2, h3 => by
    have g1 := h.1.lo
    have g2 := h.1.lt
    obtain ⟨low, hlow, l1⟩ : ∃ low, (if c.s > s then c.s else s) = low ∧ ((c.s > s ∧ low = c.s) ∨ (c.s ≤ s ∧ low = s)) := by
      by_cases q : c.s > s
      · exact ⟨c.s, if_pos q, .inl ⟨q, rfl⟩⟩
      · exact ⟨s, if_neg q, .inr ⟨by omega, rfl⟩⟩
    obtain ⟨high, hhigh, l2⟩ : ∃ high, (if c.e < e then c.e else e) = high ∧ ((c.e < e ∧ high = c.e) ∨ (e ≤ c.e ∧ high = e)) := by
      by_cases q : c.e < e
      · exact ⟨c.e, if_pos q, .inl ⟨q, rfl⟩⟩
      · exact ⟨e, if_neg q, .inr ⟨by omega, rfl⟩⟩
    unfold triFrom
    rw [hlow, hhigh]
    -- c is not on
    have off : ∀ t, ¬ (c.s ≤ t ∧ t < c.e) → onF t i (c :: r) = onF t (i + 1) r := fun t n => by
      conv => lhs; unfold onF
      rw [if_neg n]
      cases onF t (i + 1) r <;> rfl
    by_cases hlt : low < high
    · rw [if_pos hlt]
      obtain ⟨i1, i2⟩ := fill_tri (s := s) (e := e) hk (i := i + 1) (a := high) h.2 (by omega) (by omega) (.inl (by omega))
      have kp : (0 : Int) < (k : Int) := by omega
      refine ⟨⟨Int.mul_le_mul_of_nonneg_right (by omega) (by omega), Int.mul_lt_mul_of_pos_right (by omega) kp, i1⟩, ?_⟩
      show List.replicate ((low - s) * (k : Int) - (a - s) * (k : Int)).toNat none ++ (List.replicate ((high - s) * (k : Int) - (low - s) * (k : Int)).toNat (some (i : Int)) ++ fill ((high - s) * (k : Int)) (triFrom s e k (i + 1) r) ((e - s) * (k : Int))) = _
      rw [i2, sub_sub_mul, sub_sub_mul, toNat_mul k (show 0 ≤ low - a by omega), toNat_mul k (show 0 ≤ high - low by omega),
        show (e - a).toNat = (low - a).toNat + ((high - low).toNat + (e - high).toNat) by omega, ticks_split, ticks_split]
      have ea : a + ((low - a).toNat : Int) = low := by omega
      have eh : low + ((high - low).toNat : Int) = high := by omega
      rw [ea, eh]
      congr 1
      · refine (ticks_const k _ a fun t t1 t2 => ?_).symm
        show onF t i (c :: r) = none
        rw [off t (by omega)]
        exact onF_none h.2 (by omega)
      · congr 1
        · refine (ticks_const k _ low fun t t1 t2 => ?_).symm
          show onF t i (c :: r) = some (i : Int)
          unfold onF
          rw [onF_none h.2 (by omega)]
          exact if_pos (by omega)
        · refine ticks_eq k _ high fun t t1 t2 => ?_
          exact (off t (by omega)).symm
    · rw [if_neg hlt]
      by_cases hce : e ≤ c.s
      · rw [tri_none h.2 (by omega)]
        exact ⟨Int.mul_le_mul_of_nonneg_right (by omega) (by omega), fill_nil h2 fun t t1 t2 => (off t (by omega)).trans (onF_none h.2 (by omega))⟩
      · obtain ⟨i1, i2⟩ := fill_tri (s := s) (e := e) hk (i := i + 1) (a := a) h.2 h1 h2 (by omega)
        refine ⟨i1, i2.trans (ticks_eq k _ a fun t t1 t2 => ?_)⟩
        exact (off t (by omega)).symm
end Sea
namespace Sea
open PySem PySem.Spec PyProof.Rows L2
theorem apart_nd : ∀ {T : List Tri}, (T.map (·.1)).Nodup → Apart T
  | [], _ => trivial
  | [_], _ => trivial
  | t :: u :: r, h => by
    have h' := List.nodup_cons.mp h
    exact ⟨.inr fun e => h'.1 (by show t.1 ∈ _; rw [e]; exact List.mem_cons_self), apart_nd (T := u :: r) h'.2⟩
abbrev LowV (s : Int) (c : Cue) : Int := if c.s > s then c.s else s
abbrev HighV (e : Int) (c : Cue) : Int := if c.e < e then c.e else e
theorem from_pos {s e k : Int} {i : Nat} {c : Cue} {r : List Cue} (h : LowV s c < HighV e c) : triFrom s e k i (c :: r) = ((i : Int), (LowV s c - s) * k, (HighV e c - s) * k) :: triFrom s e k (i + 1) r := if_pos h
theorem from_neg {s e k : Int} {i : Nat} {c : Cue} {r : List Cue} (h : ¬ LowV s c < HighV e c) : triFrom s e k i (c :: r) = triFrom s e k (i + 1) r := if_neg h
theorem from_ge {s e k : Int} : ∀ {cs : List Cue} {i : Nat}, ∀ x ∈ (triFrom s e k i cs).map (·.1), (i : Int) ≤ x
  | [], _ => fun _ h => nomatch h
  | c :: r, i => fun x hx => by
    by_cases q : LowV s c < HighV e c
    · rw [from_pos q, List.map_cons] at hx
      rcases List.mem_cons.mp hx with h | h
      · rw [h]; exact Int.le_refl _
      · have := from_ge (cs := r) (i := i + 1) x h
        omega
    · rw [from_neg q] at hx
      have := from_ge (cs := r) (i := i + 1) x hx
      omega
theorem from_nd {s e k : Int} : ∀ {cs : List Cue} {i : Nat}, ((triFrom s e k i cs).map (·.1)).Nodup
  | [], _ => List.nodup_nil
  | c :: r, i => by
    by_cases q : LowV s c < HighV e c
    · rw [from_pos q, List.map_cons]
      refine List.nodup_cons.mpr ⟨fun h => ?_, from_nd⟩
      have h2 := from_ge (cs := r) (i := i + 1) _ h
      have h2 : ((i + 1 : Nat) : Int) ≤ (i : Int) := h2
      omega
    · rw [from_neg q]
      exact from_nd
theorem up_on {p : Piece} (ho : p.on = true) (k : Int) : ∀ (cs : List Cue) (i : Nat), (cs.zipIdx i).filterMap (tri p k) = triFrom p.s p.e k i cs
  | [], _ => rfl
  | c :: r, i => by
    rw [List.zipIdx_cons, List.filterMap_cons, up_on ho k r (i + 1)]
    by_cases h : lowOf p c < highOf p c
    · have e1 : tri p k (c, i) = some (triOf p k i c) := if_pos h
      have e2 : triOf p k i c = ((i : Int), (lowOf p c - p.s) * k, (highOf p c - p.s) * k) := if_pos ho
      rw [from_pos h, e1, e2]
      rfl
    · have e1 : tri p k (c, i) = none := if_neg h
      rw [from_neg h, e1]
theorem up_back {p : Piece} (ho : p.on = false) (k : Int) : ∀ (cs : List Cue) (i : Nat), (cs.zipIdx i).filterMap (tri p k) = (triFrom p.s p.e k i cs).map (mir ((p.e - p.s) * k))
  | [], _ => rfl
  | c :: r, i => by
    rw [List.zipIdx_cons, List.filterMap_cons, up_back ho k r (i + 1)]
    by_cases h : lowOf p c < highOf p c
    · have e0 : tri p k (c, i) = some (triOf p k i c) := if_pos h
      have e3 : triOf p k i c = ((i : Int), (p.e - highOf p c) * k, (p.e - lowOf p c) * k) := if_neg (by rw [ho]; exact Bool.false_ne_true)
      have e1 : (p.e - highOf p c) * k = (p.e - p.s) * k - (highOf p c - p.s) * k := by rw [← Int.sub_mul]; congr 1; omega
      have e2 : (p.e - lowOf p c) * k = (p.e - p.s) * k - (lowOf p c - p.s) * k := by rw [← Int.sub_mul]; congr 1; omega
      rw [from_pos h, e0, e3, e1, e2, List.map_cons]
      rfl
    · have e1 : tri p k (c, i) = none := if_neg h
      rw [from_neg h, e1]
/-- the screen of a piece, grain by grain -/
def screenF (p : Piece) (k : Int) (cs : List Cue) : List (Option Int) :=
  let up := ticks (fun t => onF t 0 cs) k.toNat p.s (p.e - p.s).toNat
  if p.on = true then up else up.reverse
theorem strip_ok {len : Int} {p : Piece} {k : Int} {cs : List Cue} (hp : p.s < p.e) (hc : chainC len 0 cs) (hs : 0 ≤ p.s) (hk : 1 ≤ k) :
    StripOk (stripF p k cs, (p.e - p.s) * k) ∧ fill 0 (stripF p k cs) ((p.e - p.s) * k) = screenF p k cs := by
  obtain ⟨K, rfl⟩ := Int.eq_ofNat_of_zero_le (show 0 ≤ k by omega)
  obtain ⟨w1, w2⟩ := fill_tri (s := p.s) (e := p.e) (k := K) (by omega) (i := 0) (a := p.s) hc (Int.le_refl _) (Int.le_of_lt hp) (.inr rfl)
  rw [Int.sub_self, Int.zero_mul] at w1 w2
  have nd := from_nd (s := p.s) (e := p.e) (k := (K : Int)) (cs := cs) (i := 0)
  unfold stripF screenF triUp
  cases ho : p.on with
  | true =>
    rw [if_pos rfl, if_pos rfl, up_on ho]
    exact ⟨⟨w1, apart_nd nd⟩, w2⟩
  | false =>
    rw [if_neg Bool.false_ne_true, if_neg Bool.false_ne_true, up_back ho]
    obtain ⟨m1, m2⟩ := fill_mir ((p.e - p.s) * (K : Int)) w1
    rw [Int.sub_self, Int.sub_zero] at m1 m2
    refine ⟨⟨m1, apart_nd ?_⟩, by rw [m2, w2]; rfl⟩
    rw [List.map_reverse, List.map_map]
    exact (List.reverse_perm _).nodup_iff.mpr nd
theorem dn_dvd : ∀ (n : Nat) (ps : List Piece), ps.length = n → ∀ p ∈ ps, p.dn.natAbs ∣ (grainTo ps).natAbs := by
  intro n
  induction n with
  | zero =>
    intro ps hl p hp
    cases ps with
    | nil => cases hp
    | cons a r => cases hl
  | succ n ih =>
    intro ps hl p hp
    have hne : ps ≠ [] := by intro e; rw [e] at hl; cases hl
    have e := (List.dropLast_concat_getLast hne).symm
    generalize ps.dropLast = qs at e
    generalize ps.getLast hne = q at e
    subst e
    have lq : qs.length = n := by
      rw [List.length_append, List.length_cons, List.length_nil] at hl
      omega
    rw [grain_snoc, Int.natAbs_natCast]
    rcases List.mem_append.mp hp with h | h
    · exact Nat.dvd_trans (ih qs lq p h) (Nat.dvd_lcm_left _ _)
    · rw [List.mem_singleton.mp h]
      exact Nat.dvd_lcm_right _ _
theorem factor_pos {ps : List Piece} {p : Piece} (h : ∀ q ∈ ps, 1 ≤ q.dn ∧ q.dn ≤ 6) (hp : p ∈ ps) (hu : 1 ≤ p.up) : 1 ≤ factorOf (grainTo ps) p := by
  obtain ⟨g1, _⟩ := grain_le h
  obtain ⟨d1, _⟩ := h p hp
  have dv := dn_dvd _ ps rfl p hp
  have le : p.dn ≤ grainTo ps := by
    have := Nat.le_of_dvd (by omega) dv
    omega
  unfold factorOf
  rw [Int.fdiv_eq_ediv_of_nonneg _ (by omega)]
  have h1 : grainTo ps ≤ p.up * grainTo ps := by
    have := Int.mul_le_mul_of_nonneg_right hu (show 0 ≤ grainTo ps by omega)
    rw [Int.one_mul] at this
    exact this
  exact (Int.le_ediv_iff_mul_le (by omega)).mpr (by omega)
/-- the runs of the screens of a row are its showings -/
theorem row_runs {len : Int} {ps rs : List Piece} {cs : List Cue} (hc : chainC len 0 cs) (hg : ∀ p ∈ ps, GoodP len p) (hr : ∀ p ∈ rs, p ∈ ps) :
    runsFrom 0 0 (rs.flatMap fun p => screenF p (factorOf (grainTo ps) p) cs) = (rowShow (rs.map (pieceRow ps cs))).1 := by
  have ok : ∀ p ∈ rs, StripOk (pieceRow ps cs p) ∧ fill 0 (pieceRow ps cs p).1 (pieceRow ps cs p).2 = screenF p (factorOf (grainTo ps) p) cs := fun p hp =>
    have g := hg p (hr p hp)
    strip_ok g.lt hc g.s0 (factor_pos (fun q hq => ⟨(hg q hq).d1, (hg q hq).d6⟩) (hr p hp) g.u1)
  have := runs_row (ps := rs.map (pieceRow ps cs)) fun q hq => by
    obtain ⟨p, hp, rfl⟩ := List.mem_map.mp hq
    exact (ok p hp).1
  rw [← this]
  congr 1
  clear this
  induction rs with
  | nil => rfl
  | cons p r ih =>
    rw [List.flatMap_cons, List.map_cons, List.flatMap_cons, (ok p List.mem_cons_self).2, ih (fun q hq => hr q (List.mem_cons_of_mem _ hq)) fun q hq => ok q (List.mem_cons_of_mem _ hq)]
end Sea
namespace Sea
open PySem PySem.Spec PyProof.Rows L2
def scV : Option Int → V
  | some c => .int c
  | none => .non
theorem scV_sc (x y : Option Int) : scal (scV x) (scV y) = true := by cases x <;> cases y <;> rfl
theorem scV_eq (x y : Option Int) : decide (scV x = scV y) = decide (x = y) := by
  cases x with
  | none => cases y with
    | none => rfl
    | some d => exact (decide_eq_false fun h => by cases h).trans (decide_eq_false fun h => by cases h).symm
  | some c => cases y with
    | none => exact (decide_eq_false fun h => by cases h).trans (decide_eq_false fun h => by cases h).symm
    | some d =>
      by_cases h : c = d
      · subst h
        exact (decide_eq_true rfl).trans (decide_eq_true rfl).symm
      · exact (decide_eq_false fun q => h (V.int.inj q)).trans (decide_eq_false fun q => h (Option.some.inj q)).symm
def spRuns : Sp := fun vs H Q _ => ∃ (a : Addr) (xs : List (Option Int)), vs = [.ref a] ∧ H a = some (.lst (xs.map scV)) ∧ xs.length ≤ 99999 ∧
  ∀ (H' : Hp) (t : Addr) (N : List (Addr × Tri)), Same H H' → H' t = some (.lst (refsT N)) → tris N = runsFrom 0 0 xs → (∀ e ∈ N, TAt H' e) → Q (.ref t) H'
section
variable {P : Program} {w : World} {K : PySem.W.Frag} {mg : Str → Option Value} {base : Heap}
theorem ok_runs {f : Addr} {fd : FuncData} (F : Fun K "_law_runs" "_law_runs" s__law_runs f fd) (m_range : mg "range" = none) (m_len : mg "len" = none) : FnOk P w K mg base CX0 1 f fd ["_law_screen_here"] spRuns := by
  refine F.ok sc__law_runs (fun vs H Q E h => ?_) (fun cdv A outer s H vs Q E hr h => ?_)
  · obtain ⟨a, xs, rfl, _⟩ := h
    rfl
  · obtain ⟨a, xs, rfl, ha, lx, q⟩ := h
    refine ⟨_, (pss_cons (ps_set (i := 1) sc__law_runs.nd rfl (Or.inl rfl) (pe_lst pa_nil))
    (pss_cons (ps_set (i := 2) sc__law_runs.nd rfl (Or.inl rfl) (pe_int))
    (pss_cons (ps_for PassesOwn.never rfl (pi_range1 (by rfl) m_range (pa_cons (pe_callB call_len (by rfl) m_len (by decide +kernel) (pa_cons (pv 0) pa_nil)) pa_nil)) (pg_name (i := 3) sc__law_runs.nd rfl (Or.inl rfl))
    (pss_one (ps_if (PW.pt (pw_or (pt_cmpR op_eq (pe_op op_add (pv 3) (pe_int)) (pe_callB call_len (by rfl) m_len (by decide +kernel) (pa_cons (pv 0) pa_nil)) (nomark _)) (pw_or1 (pt_cmpR op_ne (pe_ix ix_list (pv 0) (pe_op op_add (pv 3) (pe_int)) (fun _ _ => rfl)) (pe_ix ix_list (pv 0) (pv 3) (fun _ _ => rfl)) (nomark _)))))
    (C8.pss_cut (ps_if (pt_cmpR op_notN (pe_ix ix_list (pv 0) (pv 3) (fun _ _ => rfl)) (pe_non) (nomark _))
    (pss_one (ps_expr (pe_bm PySem.F.plainAttrs_list PySem.F.slot_list_append PySem.F.type_list_append mt_append (pv 1) (pa_cons (pe_tup (pa_cons (pe_ix ix_list (pv 0) (pv 3) (fun _ _ => rfl)) (pa_cons (pv 2) (pa_cons (pe_op op_add (pv 3) (pe_int)) pa_nil)))) pa_nil))))
    pss_nil)
    (pss_one (ps_set (i := 2) sc__law_runs.nd rfl (Or.inl rfl) (pe_op op_add (pv 3) (pe_int)))))
    pss_nil)))
    (pss_one (ps_ret (pv 1)))))), ?_⟩
    refine ⟨Nat.zero_le _, fun D hD => ?_⟩
    have sD := same_new (o := .lst []) hD
    refine ⟨_, rfl, _, xs.length, rfl, .inl ⟨_, SqL.of (sD _ _ ha), (List.length_map ..).symm⟩, _, rfl, by omega, by omega, ?_⟩
    refine for_it (walk_range (lo := 0) (n := ((xs.length : Nat) : Int).toNat)) (fun i σ H' => ∃ (k3 : Option V) (u : Int) (N : List (Addr × Tri)), σ = [some (.ref a), some (.ref D), some (.int u), k3] ∧ Same H H' ∧ H' D = some (.lst (refsT N)) ∧ tris N ++ runsFrom (i : Int) u (xs.drop i) = runsFrom 0 0 xs ∧ (∀ e ∈ N, TAt H' e) ∧ N.length ≤ i)
      ⟨none, 0, [], rfl, sD, upd_same, rfl, (fun _ h => nomatch h), Nat.le_refl _⟩ (fun _ _ _ _ _ => trivial) ?_ ?_
    · rintro i y σ Ha Hb hi ⟨k3, u, N, rfl, hs, hd, hn, hN, lN⟩ ⟨rfl, rfl⟩
      have hi' : i < xs.length := by omega
      have hx : xs[i]? = some xs[i] := List.getElem?_eq_getElem hi'
      have hxv : (xs.map scV)[i]? = some (scV xs[i]) := by rw [List.getElem?_map, hx]; rfl
      have ed : xs.drop i = xs[i] :: xs.drop (i + 1) := List.drop_eq_getElem_cons hi'
      have hA := hs _ _ ha
      have ei : V.int (0 + ((i : Nat) : Int)) = V.int ((i : Nat) : Int) := congrArg V.int (Int.zero_add _)
      have ej : V.int (0 + ((i : Nat) : Int) + 1) = V.int (((i + 1 : Nat)) : Int) := congrArg V.int (by omega)
      refine ⟨_, rfl, _, _, rfl, rfl, _, rfl, _, xs.length, rfl, .inl ⟨_, SqL.of hA, (List.length_map ..).symm⟩, rfl, _, rfl, ?_⟩
      by_cases hend : i + 1 = xs.length
      · rw [show decide (V.int (0 + ((i : Nat) : Int) + 1) = V.int ((xs.length : Nat) : Int)) = true from decide_eq_true (congrArg V.int (by omega))]
        refine iteT ?_
        have er : runsFrom (i : Int) u (xs.drop i) = emit xs[i] u ((i : Int) + 1) ++ runsFrom ((i + 1 : Nat) : Int) ((i + 1 : Nat) : Int) (xs.drop (i + 1)) := by
          rw [ed, List.drop_eq_nil_of_le (by omega)]
          exact (List.append_nil _).symm
        refine ⟨fun σ' H' => ∃ (N' : List (Addr × Tri)), σ' = [some (.ref a), some (.ref D), some (.int u), some (.int (0 + ((i : Nat) : Int)))] ∧ Same H H' ∧ H' D = some (.lst (refsT N')) ∧ tris N' = tris N ++ emit xs[i] u ((i : Int) + 1) ∧ (∀ e ∈ N', TAt H' e) ∧ N'.length ≤ i + 1, ?_, ?_⟩
        · refine ⟨_, rfl, _, rfl, a, _, ((i : Nat) : Int), _, rfl, ei, SqL.of hA, atI_nat hxv, ?_⟩
          cases hxi : xs[i] with
          | none =>
            refine ⟨rfl, _, rfl, N, rfl, hs, hd, (List.append_nil _).symm, hN, by omega⟩
          | some c =>
            refine ⟨rfl, _, rfl, _, rfl, .inl ⟨rfl, _, SqL.of hd⟩, _, rfl, _, rfl, a, _, ((i : Nat) : Int), _, rfl, ei, SqL.of hA, atI_nat hxv, _, rfl, _, rfl, _, _, rfl, rfl, Nat.le_of_lt (small_line (by show 3 ≤ 100000; decide)), fun T2 hT2 => ?_⟩
            rw [hxi]
            have sT2 := same_new (o := .tup [V.int c, V.int u, V.int (0 + ((i : Nat) : Int) + 1)]) hT2
            have hd2 := sT2 _ _ hd
            refine ⟨D, _, _, rfl, rfl, hd2, small_line (by rw [List.length_map]; omega), N ++ [(T2, (c, u, (i : Int) + 1))], rfl, fun b o hb => ?_, ?_, ?_, fun d hd' => ?_, by rw [List.length_append, List.length_cons, List.length_nil]; omega⟩
            · have nb : b ≠ D := ne_of_none hb hD
              rw [upd_ne nb]
              exact sT2 _ _ (hs _ _ hb)
            · rw [upd_same, refsT_app]
              rfl
            · rw [tris_app]
              rfl
            · have ko : KT (upd Hb T2 (.tup [V.int c, V.int u, V.int (0 + ((i : Nat) : Int) + 1)])) (upd (upd Hb T2 (.tup [V.int c, V.int u, V.int (0 + ((i : Nat) : Int) + 1)])) D (.lst (refsT N ++ [V.ref T2]))) := (KT.refl _).over hd2
              rcases List.mem_append.mp hd' with h | h
              · exact ko _ _ ((hN d h).keep sT2)
              · rw [List.mem_singleton.mp h]
                have e0 : [V.int c, V.int u, V.int (0 + ((i : Nat) : Int) + 1)] = [V.int c, V.int u, V.int ((i : Int) + 1)] := by rw [Int.zero_add]
                exact (ko _ _ (upd_same (H := Hb) (a := T2) (o := .tup [V.int c, V.int u, V.int (0 + ((i : Nat) : Int) + 1)]))).trans (congrArg (fun z => some (HO.tup z)) e0)
        rintro σ' H' ⟨N', rfl, hs', hd', eN, hN', lN'⟩
        refine ⟨_, rfl, _, _, rfl, rfl, some (.int (0 + ((i : Nat) : Int))), ((i + 1 : Nat) : Int), N', ?_, hs', hd', ?_, hN', lN'⟩
        · show [some (V.ref a), some (V.ref D), some (V.int (0 + ((i : Nat) : Int) + 1)), some (V.int (0 + ((i : Nat) : Int)))] = _
          rw [ej]
        · rw [eN, List.append_assoc, ← er]
          exact hn
      · rw [show decide (V.int (0 + ((i : Nat) : Int) + 1) = V.int ((xs.length : Nat) : Int)) = false from decide_eq_false fun h => hend (by have := V.int.inj h; omega)]
        have hi2 : i + 1 < xs.length := by omega
        have hyv : (xs.map scV)[i + 1]? = some (scV xs[i + 1]) := by rw [List.getElem?_map, List.getElem?_eq_getElem hi2]; rfl
        have ed2 : xs.drop (i + 1) = xs[i + 1] :: xs.drop (i + 1 + 1) := List.drop_eq_getElem_cons hi2
        refine ⟨_, rfl, _, rfl, _, _, rfl, rfl, a, _, ((i + 1 : Nat) : Int), _, rfl, ej, SqL.of hA, atI_nat hyv, _, rfl, _, rfl, a, _, ((i : Nat) : Int), _, rfl, ei, SqL.of hA, atI_nat hxv, scV_sc _ _, _, rfl, ?_⟩
        rw [scV_eq]
        by_cases hne : xs[i + 1] = xs[i]
        · rw [decide_eq_true hne]
          refine ⟨_, u, N, rfl, hs, hd, ?_, hN, by omega⟩
          rw [← hn, ed, ed2]
          show _ = tris N ++ (if xs[i + 1] ≠ xs[i] then _ else runsFrom ((i : Int) + 1) u (xs[i + 1] :: xs.drop (i + 1 + 1)))
          rw [if_neg (fun q => q hne)]
          rfl
        · rw [decide_eq_false hne]
          refine iteT ?_
          have er : runsFrom (i : Int) u (xs.drop i) = emit xs[i] u ((i : Int) + 1) ++ runsFrom ((i + 1 : Nat) : Int) ((i + 1 : Nat) : Int) (xs.drop (i + 1)) := by
            rw [ed, ed2]
            show (if xs[i + 1] ≠ xs[i] then emit xs[i] u ((i : Int) + 1) ++ runsFrom ((i : Int) + 1) ((i : Int) + 1) (xs[i + 1] :: xs.drop (i + 1 + 1)) else _) = _
            rw [if_pos hne]
            rfl
          refine ⟨fun σ' H' => ∃ (N' : List (Addr × Tri)), σ' = [some (.ref a), some (.ref D), some (.int u), some (.int (0 + ((i : Nat) : Int)))] ∧ Same H H' ∧ H' D = some (.lst (refsT N')) ∧ tris N' = tris N ++ emit xs[i] u ((i : Int) + 1) ∧ (∀ e ∈ N', TAt H' e) ∧ N'.length ≤ i + 1, ?_, ?_⟩
          · refine ⟨_, rfl, _, rfl, a, _, ((i : Nat) : Int), _, rfl, ei, SqL.of hA, atI_nat hxv, ?_⟩
            cases hxi : xs[i] with
            | none =>
              refine ⟨rfl, _, rfl, N, rfl, hs, hd, (List.append_nil _).symm, hN, by omega⟩
            | some c =>
              refine ⟨rfl, _, rfl, _, rfl, .inl ⟨rfl, _, SqL.of hd⟩, _, rfl, _, rfl, a, _, ((i : Nat) : Int), _, rfl, ei, SqL.of hA, atI_nat hxv, _, rfl, _, rfl, _, _, rfl, rfl, Nat.le_of_lt (small_line (by show 3 ≤ 100000; decide)), fun T2 hT2 => ?_⟩
              rw [hxi]
              have sT2 := same_new (o := .tup [V.int c, V.int u, V.int (0 + ((i : Nat) : Int) + 1)]) hT2
              have hd2 := sT2 _ _ hd
              refine ⟨D, _, _, rfl, rfl, hd2, small_line (by rw [List.length_map]; omega), N ++ [(T2, (c, u, (i : Int) + 1))], rfl, fun b o hb => ?_, ?_, ?_, fun d hd' => ?_, by rw [List.length_append, List.length_cons, List.length_nil]; omega⟩
              · have nb : b ≠ D := ne_of_none hb hD
                rw [upd_ne nb]
                exact sT2 _ _ (hs _ _ hb)
              · rw [upd_same, refsT_app]
                rfl
              · rw [tris_app]
                rfl
              · have ko : KT (upd Hb T2 (.tup [V.int c, V.int u, V.int (0 + ((i : Nat) : Int) + 1)])) (upd (upd Hb T2 (.tup [V.int c, V.int u, V.int (0 + ((i : Nat) : Int) + 1)])) D (.lst (refsT N ++ [V.ref T2]))) := (KT.refl _).over hd2
                rcases List.mem_append.mp hd' with h | h
                · exact ko _ _ ((hN d h).keep sT2)
                · rw [List.mem_singleton.mp h]
                  have e0 : [V.int c, V.int u, V.int (0 + ((i : Nat) : Int) + 1)] = [V.int c, V.int u, V.int ((i : Int) + 1)] := by rw [Int.zero_add]
                  exact (ko _ _ (upd_same (H := Hb) (a := T2) (o := .tup [V.int c, V.int u, V.int (0 + ((i : Nat) : Int) + 1)]))).trans (congrArg (fun z => some (HO.tup z)) e0)
          rintro σ' H' ⟨N', rfl, hs', hd', eN, hN', lN'⟩
          refine ⟨_, rfl, _, _, rfl, rfl, some (.int (0 + ((i : Nat) : Int))), ((i + 1 : Nat) : Int), N', ?_, hs', hd', ?_, hN', lN'⟩
          · show [some (V.ref a), some (V.ref D), some (V.int (0 + ((i : Nat) : Int) + 1)), some (V.int (0 + ((i : Nat) : Int)))] = _
            rw [ej]
          · rw [eN, List.append_assoc, ← er]
            exact hn
    · rintro σ H' ⟨k3, u, N, rfl, hs, hd, hn, hN, lN⟩
      rw [show ((xs.length : Nat) : Int).toNat = xs.length by omega, List.drop_length] at hn
      exact ⟨_, rfl, q H' D N hs hd (by rw [← hn]; exact (List.append_nil _).symm) hN⟩
end
end Sea
namespace Sea
open PySem PySem.Spec PyProof.Rows L2
theorem fill_length : ∀ {T : List Tri} {a n : Int}, WFs a T n → (fill a T n).length = (n - a).toNat
  | [], a, n, h => List.length_replicate
  | t :: r, a, n, h => by
    obtain ⟨h1, h2, h3⟩ := h
    have h4 := (wf_last h3).1
    show (List.replicate _ _ ++ (List.replicate _ _ ++ fill t.2.2 r n)).length = _
    rw [List.length_append, List.length_append, List.length_replicate, List.length_replicate, fill_length h3]
    omega
theorem wfs_take : ∀ {T : List Tri} {k : Nat} {t : Tri} {a n : Int}, WFs a T n → T[k]? = some t → WFs a (T.take k) t.2.1
  | u :: r, 0, t, a, n, h, e => by
    cases e
    exact h.1
  | u :: r, k + 1, t, a, n, h, e => ⟨h.1, h.2.1, wfs_take (k := k) h.2.2 e⟩
theorem wfs_in : ∀ {T : List Tri} {a n : Int}, WFs a T n → ∀ t ∈ T, a ≤ t.2.1 ∧ t.2.1 < t.2.2 ∧ t.2.2 ≤ n
  | u :: r, a, n, h, t, ht => by
    obtain ⟨h1, h2, h3⟩ := h
    have h4 := (wf_last h3).1
    rcases List.mem_cons.mp ht with e | e
    · rw [e]; exact ⟨h1, h2, h4⟩
    · have := wfs_in h3 t e
      omega
/-- from b on so many places are exchanged -/
def over (xs : List (Option Int)) (b j : Nat) (c : Option Int) : List (Option Int) := xs.take b ++ (List.replicate j c ++ xs.drop (b + j))
theorem over_len {xs : List (Option Int)} {b j : Nat} {c : Option Int} (h : b + j ≤ xs.length) : (over xs b j c).length = xs.length := by
  unfold over
  rw [List.length_append, List.length_append, List.length_take, List.length_replicate, List.length_drop]
  omega
theorem over_zero {xs : List (Option Int)} {b : Nat} {c : Option Int} : over xs b 0 c = xs := by
  unfold over
  rw [List.replicate_zero, List.nil_append, Nat.add_zero, List.take_append_drop]
theorem over_set {xs : List (Option Int)} {b j : Nat} {c : Option Int} (h : b + j < xs.length) : (over xs b j c).set (b + j) c = over xs b (j + 1) c := by
  unfold over
  have h1 : (xs.take b).length = b := by rw [List.length_take]; omega
  rw [List.set_append_right (b + j) c (by rw [h1]; omega), h1, Nat.add_sub_cancel_left, List.set_append_right j c (by rw [List.length_replicate]; exact Nat.le_refl _), List.length_replicate, Nat.sub_self]
  congr 1
  rw [List.drop_eq_getElem_cons h, List.set_cons_zero, List.replicate_succ', List.append_assoc]
  rfl
theorem fill_over {T : List Tri} {m c b g N : Int} (h : WFs 0 T m) (h1 : m ≤ b) (h2 : b < g) (h3 : g ≤ N) : over (fill 0 T N) b.toNat (g - b).toNat (some c) = fill 0 (T ++ [(c, b, g)]) N := by
  have hm := (wf_last h).1
  obtain ⟨w1, e1⟩ := fill_more h h1
  obtain ⟨w2, e2⟩ := fill_more w1 (show b ≤ N by omega)
  obtain ⟨w3, e3⟩ := fill_add (c := c) h2 w1 (Int.le_refl b)
  obtain ⟨w4, e4⟩ := fill_more w3 h3
  rw [e4, e3, e2, Int.sub_self, show ((0 : Int).toNat) = 0 from rfl, List.replicate_zero, List.nil_append]
  have l1 : (fill 0 T b).length = b.toNat := by rw [fill_length w1]; omega
  unfold over
  rw [List.take_append_of_le_length (by omega), List.take_of_length_le (by omega), List.append_assoc]
  congr 2
  rw [List.drop_append, List.drop_eq_nil_of_le (by omega), List.nil_append, List.drop_replicate, l1]
  congr 1
  omega
theorem hold_length {close : Int} : ∀ {K : List Tri}, (hold close K).length = K.length
  | [] => rfl
  | l :: r => by
    show (hold close r).length + 1 = r.length + 1
    rw [hold_length]
theorem hold_get {close : Int} : ∀ {K : List Tri} {k : Nat} {t : Tri}, K[k]? = some t → (hold close K)[k]? = some (t.1, t.2.1, goneOf close t (K.drop (k + 1)))
  | l :: r, 0, t, h => by
    cases h
    rfl
  | l :: r, k + 1, t, h => hold_get (K := r) h
end Sea
namespace Sea
open PySem PySem.Spec PyProof.Rows L2
theorem onF_snoc {t : Int} (c : Cue) : ∀ (cs : List Cue) (i : Nat), onF t i (cs ++ [c]) = if c.s ≤ t ∧ t < c.e then some ((i + cs.length : Nat) : Int) else onF t i cs
  | [], i => by
    show (match onF t (i + 1) [] with | some k => some k | none => if c.s ≤ t ∧ t < c.e then some (i : Int) else none) = _
    rfl
  | d :: r, i => by
    show (match onF t (i + 1) (r ++ [c]) with | some k => some k | none => if d.s ≤ t ∧ t < d.e then some (i : Int) else none) = _
    rw [onF_snoc c r (i + 1)]
    by_cases h : c.s ≤ t ∧ t < c.e
    · rw [if_pos h, if_pos h, List.length_cons, show i + 1 + r.length = i + (r.length + 1) by omega]
    · rw [if_neg h, if_neg h]
      rfl
theorem ticks_snoc (f : Int → Option Int) (k n : Nat) (a : Int) : ticks f k a (n + 1) = ticks f k a n ++ List.replicate k (f (a + (n : Int))) := by
  rw [ticks_split f k n 1 a]
  congr 1
  exact List.append_nil _
theorem ticks_len (f : Int → Option Int) (k : Nat) : ∀ (n : Nat) (a : Int), (ticks f k a n).length = n * k
  | 0, a => by rw [Nat.zero_mul]; rfl
  | n + 1, a => by
    show (List.replicate k (f a) ++ ticks f k (a + 1) n).length = _
    rw [List.length_append, List.length_replicate, ticks_len f k n (a + 1), Nat.succ_mul, Nat.add_comm]
theorem rep_flat {α : Type} (x : α) : ∀ k : Nat, (List.replicate k [x]).flatten = List.replicate k x
  | 0 => rfl
  | k + 1 => by
    show x :: (List.replicate k [x]).flatten = x :: List.replicate k x
    rw [rep_flat x k]
def spScreen : Sp := fun vs H Q _ => ∃ (wa : Addr) (mc mp len : Int) (L : List (Addr × Cue)) (M : List (Addr × Piece)) (A : List (Addr × (Str × Str))) (ss es : List Str) (p : Piece), vs = [.ref wa, .int (grainTo (pcs M)), .str p.nm] ∧ WorldAt H wa len L M A ss es ∧ GoodW mc mp len (cuesC L) (pcs M) (prs A) ss es ∧ mc ≤ 40 ∧ mp ≤ 12 ∧ p ∈ pcs M ∧
  ∀ (H' : Hp) (t : Addr), Same H H' → H' t = some (.lst ((screenF p (factorOf (grainTo (pcs M)) p) (cuesC L)).map scV)) → (screenF p (factorOf (grainTo (pcs M)) p) (cuesC L)).length ≤ 3240 → Q (.ref t) H'
section
variable {P : Program} {w : World} {K : PySem.W.Frag} {mg : Str → Option Value} {base : Heap}
theorem ok_screen {f : Addr} {fd : FuncData} (F : Fun K "_law_screen" "_law_screen" s__law_screen f fd) (m_range : mg "range" = none) (m_len : mg "len" = none) : FnOk P w K mg base CX0 1 f fd ["_law_world_here", "_law_grain", "_law_name"] spScreen := by
  refine F.ok sc__law_screen (fun vs H Q E h => ?_) (fun cdv A outer s H vs Q E hr h => ?_)
  · obtain ⟨wa, mc, mp, len, L, M, As, ss, es, p, rfl, _⟩ := h
    rfl
  · obtain ⟨wa, mc, mp, len, L, M, As, ss, es, p, rfl, ⟨ca, pa, aa, sa, ea, W⟩, g, mc40, mp12, hp, q⟩ := h
    refine ⟨_, (pss_cons (ps_set (i := 3) sc__law_screen.nd rfl (Or.inl rfl) (pe_ix ix_list (pv 0) (pe_int) (fun _ _ => rfl)))
    (pss_cons (ps_set (i := 4) sc__law_screen.nd rfl (Or.inl rfl) (pe_ix ix_list (pe_lc (own := [("_law_one", 9)]) rfl sc__law_screen.nd (pi_list (pe_ix ix_list (pv 0) (pe_int) (fun _ _ => rfl))) (blkOk_by (N := N__law_screen) (sc := defScope s__law_screen) (by decide +kernel)) (fun _ _ _ _ _ => (pg_name (i := 9) sc__law_screen.nd rfl (Or.inl rfl))) (fun _ _ _ _ _ => by exact pts_one (pt_cmpR op_eq (pe_ix (show IxR _ (rIxT K) from ix_tup) (pv 9) (pe_int) (fun _ _ => rfl)) (pv 2) (nomark _))) (fun _ _ _ _ _ => (pv 9))) (pe_int) (fun _ _ => rfl)))
    (pss_cons (ps_set (i := 5) sc__law_screen.nd rfl (Or.inl rfl) (pe_lst pa_nil))
    (pss_cons (ps_for PassesOwn.never rfl (pi_range2 (by rfl) m_range (pa_cons (pe_ix ix_tup (pv 4) (pe_int) (fun _ _ => rfl)) (pa_cons (pe_ix ix_tup (pv 4) (pe_int) (fun _ _ => rfl)) pa_nil))) (pg_name (i := 6) sc__law_screen.nd rfl (Or.inl rfl))
    (pss_cons (ps_set (i := 7) sc__law_screen.nd rfl (Or.inl rfl) (pe_non))
    (C8.pss_cut (ps_for PassesOwn.never rfl (pi_range1 (by rfl) m_range (pa_cons (pe_callB call_len (by rfl) m_len (by decide +kernel) (pa_cons (pv 3) pa_nil)) pa_nil)) (pg_name (i := 8) sc__law_screen.nd rfl (Or.inl rfl))
    (pss_one (ps_if (pt_chain op_le op_lt (pe_ix ix_tup (pe_ix ix_list (pv 3) (pv 8) (fun _ _ => rfl)) (pe_int) (fun _ _ => rfl)) (pv 6) (pe_ix ix_tup (pe_ix ix_list (pv 3) (pv 8) (fun _ _ => rfl)) (pe_int) (fun _ _ => rfl)))
    (pss_one (ps_set (i := 7) sc__law_screen.nd rfl (Or.inl rfl) (pv 8)))
    pss_nil)))
    (pss_one (ps_set (i := 5) sc__law_screen.nd rfl (Or.inl rfl) (pe_op op_cat (pv 5) (pe_op op_rep (pe_lst (pa_cons (pv 7) pa_nil)) (pe_op op_fdivN (pe_op op_mul (pe_ix ix_tup (pv 4) (pe_int) (fun _ _ => rfl)) (pv 1)) (pe_ix ix_tup (pv 4) (pe_int) (fun _ _ => rfl))))))))))
    (pss_cons (ps_if (pt_cmpR op_eq (pe_ix ix_tup (pv 4) (pe_int) (fun _ _ => rfl)) (pe_str) (nomark _))
    (pss_one (ps_expr (pe_bm0 PySem.F.plainAttrs_list PySem.F.slot_list_reverse PySem.F.type_list_reverse mt_reverse (pv 5))))
    pss_nil)
    (pss_one (ps_ret (pv 5)))))))), ?_⟩
    have hw := W.w
    refine ⟨_, rfl, wa, _, 1, _, rfl, rfl, SqL.of hw, atI_nat (j := 1) rfl, ?_⟩
    refine ⟨_, rfl, wa, _, 2, _, rfl, rfl, SqL.of hw, atI_nat (j := 2) rfl, pa, rfl, ⟨_, SqL.of W.p⟩, fun D hD => ?_⟩
    have lL : L.length ≤ 40 := by have := g.cm; rw [List.length_map] at this; omega
    have lM : M.length ≤ 12 := by have := g.pm; rw [List.length_map] at this; omega
    refine lc_it walk_list (fun i H' => Same H H' ∧ ∃ F : List (Addr × Piece), H' D = some (.lst (refsP F)) ∧ pcs F = ((pcs M).take i).filter (fun y => decide (y.nm = p.nm)) ∧ ∀ e ∈ F, PAt H' e) ⟨same_new hD, [], upd_same, rfl, fun _ h => nomatch h⟩ (fun i H' _ hv => SqL.of (hv.1 _ _ W.p)) ?_ ?_
    · rintro i y Ha Hb hi ⟨hs, F1, hd, hn, hF⟩ ⟨rfl, hy⟩
      obtain ⟨e, he, rfl⟩ := ref_at hy
      have eA := hs _ _ (W.ps e (List.mem_of_getElem? he))
      have he2 : (pcs M)[i]? = some e.2 := by rw [List.getElem?_map, he]; rfl
      have tk : ((pcs M).take (i + 1)).filter (fun y => decide (y.nm = p.nm)) = ((pcs M).take i).filter (fun y => decide (y.nm = p.nm)) ++ if e.2.nm = p.nm then [e.2] else [] := by
        rw [List.take_add_one, he2, List.filter_append]
        congr 1
        show List.filter _ [e.2] = _
        rw [List.filter_cons, List.filter_nil]
        by_cases h : e.2.nm = p.nm
        · rw [decide_eq_true h, if_pos h]; rfl
        · rw [decide_eq_false h, if_neg h]; rfl
      have lF : F1.length ≤ 12 := by
        have h1 := congrArg List.length hn
        have h2 := List.length_filter_le (fun y : Piece => decide (y.nm = p.nm)) ((pcs M).take i)
        rw [List.length_take, List.length_map] at h2
        rw [List.length_map] at h1
        omega
      refine ⟨rfl, _, rfl, e.1, _, 0, _, rfl, rfl, SqT.of eA, atI_nat (j := 0) rfl, _, rfl, rfl, _, rfl, ite2 (fun h => ?_) (fun h => ?_)⟩
      · have h' : e.2.nm = p.nm := V.str.inj (of_decide_eq_true h)
        refine ⟨_, rfl, _, hd, small_line (by rw [List.length_map]; omega), same_over hs hD, F1 ++ [e], ?_, ?_, fun d hd' => ?_⟩
        · rw [upd_same, refsP_app]
          rfl
        · rw [pcs_app, tk, if_pos h', hn]
          rfl
        · have ko : KT Hb (upd Hb D (.lst (refsP F1 ++ [V.ref e.1]))) := (KT.refl _).over hd
          rcases List.mem_append.mp hd' with h | h
          · exact ko _ _ (hF d h)
          · rw [List.mem_singleton.mp h]
            exact ko _ _ eA
      · have h' : ¬ e.2.nm = p.nm := fun q => h (decide_eq_true (congrArg V.str q))
        refine ⟨hs, F1, hd, ?_, hF⟩
        rw [tk, if_neg h', List.append_nil]
        exact hn
    rintro H1 ⟨s1, F1, hd1, hn1, hF1⟩
    rw [show (refsP M).length = (pcs M).length by rw [List.length_map, List.length_map], List.take_length] at hn1
    obtain ⟨e, F2, eF⟩ : ∃ e F2, F1 = e :: F2 := by
      cases F1 with
      | nil =>
        have : p ∈ (pcs M).filter (fun y => decide (y.nm = p.nm)) := List.mem_filter.mpr ⟨hp, decide_eq_true rfl⟩
        rw [← hn1] at this
        cases this
      | cons e r => exact ⟨e, r, rfl⟩
    subst eF
    have ep : e.2 = p := by
      have : e.2 ∈ (pcs M).filter (fun y => decide (y.nm = p.nm)) := by rw [← hn1]; exact List.mem_cons_self
      obtain ⟨h1, h2⟩ := List.mem_filter.mp this
      exact by_name g.nd hp h1 (of_decide_eq_true h2)
    have eA := hF1 e List.mem_cons_self
    have eA : H1 e.1 = some (.tup p.vs) := by rw [← ep]; exact eA
    have W1 := W.keep s1
    have gp := (g.pg p hp).1
    have g9 := (g.pg p hp).2
    refine ⟨D, _, 0, _, rfl, rfl, SqL.of hd1, atI_nat (j := 0) rfl, ?_⟩
    refine ⟨Nat.zero_le _, fun T0 hT0 => ?_⟩
    have s2 := same_new (o := .lst []) hT0
    have eA2 := s2 _ _ eA
    have dnb : ∀ p ∈ pcs M, 1 ≤ p.dn ∧ p.dn ≤ 6 := fun p hp => ⟨(g.pg p hp).1.d1, (g.pg p hp).1.d6⟩
    have gb := grain_le dnb
    have f1 := factor_pos dnb hp gp.u1
    have f2 := (factor_le gb.1 gb.2 gp.u1 gp.u6 gp.d1).2
    have l30 := g.l30
    have hel := gp.el
    have h0s := gp.s0
    have hse := gp.lt
    generalize hK : factorOf (grainTo (pcs M)) p = K at f1 f2 q
    obtain ⟨k, rfl⟩ := Int.eq_ofNat_of_zero_le (show 0 ≤ K by omega)
    have hKf : (p.up * grainTo (pcs M)).fdiv p.dn = (k : Int) := hK
    have lK : ∀ n : Nat, n ≤ 9 → n * k ≤ 3240 := fun n h => by
      have := Nat.mul_le_mul h (show k ≤ 360 by omega)
      omega
    refine ⟨_, rfl, e.1, _, 1, _, rfl, rfl, SqT.of eA2, atI_nat (j := 1) rfl, _, rfl, e.1, _, 2, _, rfl, rfl, SqT.of eA2, atI_nat (j := 2) rfl, _, _, rfl, ⟨by omega, by omega, by omega, by omega⟩, ?_⟩
    refine for_it (walk_range (lo := p.s) (n := (p.e - p.s).toNat)) (fun i σ H' => ∃ (k6 k7 k8 : Option V) (t : Addr), σ = [some (.ref wa), some (.int (grainTo (pcs M))), some (.str p.nm), some (.ref ca), some (.ref e.1), some (.ref t), k6, k7, k8, none] ∧ H1 t = none ∧ Same H1 H' ∧ H' t = some (.lst ((ticks (fun t => onF t 0 (cuesC L)) k p.s i).map scV)))
      ⟨none, none, none, T0, rfl, hT0, s2, upd_same⟩ (fun _ _ _ _ _ => trivial) ?_ ?_
    · rintro i y σ Ha Hb hi ⟨k6, k7, k8, t, rfl, nt, hs, ht⟩ ⟨rfl, rfl⟩
      have W2 := W1.keep hs
      refine ⟨fun σ' H' => ∃ k8 : Option V, σ' = [some (.ref wa), some (.int (grainTo (pcs M))), some (.str p.nm), some (.ref ca), some (.ref e.1), some (.ref t), some (.int (p.s + ((i : Nat) : Int))), some (scV (onF (p.s + ((i : Nat) : Int)) 0 (cuesC L))), k8, none] ∧ Hb = H', ?_, ?_⟩
      · refine ⟨_, rfl, _, L.length, rfl, .inl ⟨_, SqL.of W2.c, (List.length_map ..).symm⟩, _, rfl, by omega, by omega, ?_⟩
        refine for_it (walk_range (lo := 0) (n := ((L.length : Nat) : Int).toNat)) (fun j σ H' => ∃ k8 : Option V, σ = [some (.ref wa), some (.int (grainTo (pcs M))), some (.str p.nm), some (.ref ca), some (.ref e.1), some (.ref t), some (.int (p.s + ((i : Nat) : Int))), some (scV (onF (p.s + ((i : Nat) : Int)) 0 ((cuesC L).take j))), k8, none] ∧ Hb = H')
          ⟨_, rfl, rfl⟩ (fun _ _ _ _ _ => trivial) ?_ ?_
        · rintro j z σ2 Hc Hd hj ⟨k8, rfl, rfl⟩ ⟨rfl, rfl⟩
          have hj' : j < L.length := by omega
          obtain ⟨d, hd⟩ : ∃ d, L[j]? = some d := ⟨L[j], List.getElem?_eq_getElem hj'⟩
          have dA := W2.cs d (List.mem_of_getElem? hd)
          have hr : (refsC L)[j]? = some (V.ref d.1) := by rw [List.getElem?_map, hd]; rfl
          have hc : (cuesC L)[j]? = some d.2 := by rw [List.getElem?_map, hd]; rfl
          have ej : V.int (0 + ((j : Nat) : Int)) = V.int ((j : Nat) : Int) := congrArg V.int (Int.zero_add _)
          have tk : onF (p.s + ((i : Nat) : Int)) 0 ((cuesC L).take (j + 1)) = if d.2.s ≤ p.s + ((i : Nat) : Int) ∧ p.s + ((i : Nat) : Int) < d.2.e then some ((j : Nat) : Int) else onF (p.s + ((i : Nat) : Int)) 0 ((cuesC L).take j) := by
            rw [List.take_add_one, hc]
            show onF _ 0 (_ ++ [d.2]) = _
            rw [onF_snoc, List.length_take, List.length_map, Nat.min_eq_left (Nat.le_of_lt hj'), Nat.zero_add]
          refine ⟨_, rfl, _, rfl, ca, _, ((j : Nat) : Int), _, rfl, ej, SqL.of W2.c, atI_nat hr, d.1, _, 0, _, rfl, rfl, SqT.of dA, atI_nat (j := 0) rfl, _, rfl, _, _, rfl, rfl, _, rfl, ite2 (fun h1 => ?_) (fun h1 => ?_)⟩
          · have h1 : d.2.s ≤ p.s + ((i : Nat) : Int) := of_decide_eq_true h1
            refine ⟨_, rfl, _, rfl, ca, _, ((j : Nat) : Int), _, rfl, ej, SqL.of W2.c, atI_nat hr, d.1, _, 1, _, rfl, rfl, SqT.of dA, atI_nat (j := 1) rfl, _, _, rfl, rfl, _, rfl, ite2 (fun h2 => ?_) (fun h2 => ?_)⟩
            · have h2 : p.s + ((i : Nat) : Int) < d.2.e := of_decide_eq_true h2
              refine ⟨_, rfl, some (.int ((j : Nat) : Int)), ?_, rfl⟩
              rw [tk, if_pos ⟨h1, h2⟩]
              show [some (.ref wa), some (.int (grainTo (pcs M))), some (.str p.nm), some (.ref ca), some (.ref e.1), some (.ref t), some (.int (p.s + ((i : Nat) : Int))), some (V.int (0 + ((j : Nat) : Int))), some (V.int (0 + ((j : Nat) : Int))), none] = _
              rw [ej]
              rfl
            · refine ⟨some (.int (0 + ((j : Nat) : Int))), ?_, rfl⟩
              rw [tk, if_neg fun q => h2 (decide_eq_true q.2)]
              rfl
          · refine ⟨_, rfl, some (.int (0 + ((j : Nat) : Int))), ?_, rfl⟩
            rw [tk, if_neg fun q => h1 (decide_eq_true q.1)]
            rfl
        · rintro σ2 H2 ⟨k8, rfl, rfl⟩
          rw [show ((L.length : Nat) : Int).toNat = (cuesC L).length by rw [List.length_map]; omega, List.take_length]
          exact ⟨_, rfl, rfl⟩
      rintro σ' H2 ⟨k8, rfl, rfl⟩
      have eA3 := hs _ _ eA
      have hlen : (ticks (fun t => onF t 0 (cuesC L)) k p.s i).length ≤ 3240 := by rw [ticks_len]; exact lK i (by omega)
      refine ⟨_, rfl, _, rfl, Nat.le_of_lt (small_line (by show 1 ≤ 100000; decide)), fun t1 h1 => ?_⟩
      have q1 := same_new (o := .lst [scV (onF (p.s + ((i : Nat) : Int)) 0 (cuesC L))]) h1
      refine ⟨_, rfl, e.1, _, 3, _, rfl, rfl, SqT.of (q1 _ _ eA3), atI_nat (j := 3) rfl, _, rfl, _, _, rfl, rfl, .inr ⟨by omega, by omega⟩, _, rfl, e.1, _, 4, _, rfl, rfl, SqT.of (q1 _ _ eA3), atI_nat (j := 4) rfl, _, _, rfl, rfl, ⟨by have := gp.d1; omega, by have := gp.d1; have := gp.d6; omega⟩, t1, (k : Int), _, rfl, congrArg V.int hKf, upd_same, by omega, by omega, ?_, fun t2 h2 => ?_⟩
      · have sl : sizeLine = 16777216 := sizeLine_eq
        show 1 * (k : Int).toNat ≤ _
        omega
      have q2 := same_new (o := .lst (List.replicate (k : Int).toNat [scV (onF (p.s + ((i : Nat) : Int)) 0 (cuesC L))]).flatten) h2
      have sl : sizeLine = 16777216 := sizeLine_eq
      refine ⟨t, t2, _, _, rfl, rfl, q2 _ _ (q1 _ _ ht), upd_same, ?_, fun t3 h3 => ⟨_, _, _, t3, rfl, same_none ((hs.trans q1).trans q2) h3, ((hs.trans q1).trans q2).trans (same_new h3), ?_⟩⟩
      · rw [Int.toNat_natCast, rep_flat, List.length_replicate, List.length_map]
        omega
      · rw [upd_same, Int.toNat_natCast, rep_flat, ticks_snoc, List.map_append, List.map_replicate]
    rintro σ H2 ⟨k6, k7, k8, t, rfl, nt, hs, ht⟩
    have eA3 := hs _ _ eA
    have hlen : (screenF p (k : Int) (cuesC L)).length ≤ 3240 := by
      unfold screenF
      rw [Int.toNat_natCast]
      have : (ticks (fun t => onF t 0 (cuesC L)) k p.s (p.e - p.s).toNat).length ≤ 3240 := by rw [ticks_len]; exact lK _ (by omega)
      cases p.on with
      | true => exact this
      | false => rw [if_neg Bool.false_ne_true, List.length_reverse]; exact this
    refine ⟨_, rfl, e.1, _, 5, _, rfl, rfl, SqT.of eA3, atI_nat (j := 5) rfl, rfl, _, rfl, ?_⟩
    cases ho : p.on with
    | true =>
      rw [show decide (V.str (wayS true) = V.str (Str.ofString "back")) = false by decide +kernel]
      refine ⟨_, rfl, q H2 t (s1.trans hs) ?_ hlen⟩
      unfold screenF
      rw [if_pos ho, Int.toNat_natCast]
      exact ht
    | false =>
      rw [show decide (V.str (wayS false) = V.str (Str.ofString "back")) = true by decide +kernel]
      refine iteT ⟨_, rfl, .inl ⟨rfl, _, SqL.of ht⟩, t, _, rfl, rfl, ht, _, rfl, q _ t ?_ ?_ hlen⟩
      · intro b o hb
        have h1 := s1 _ _ hb
        have nb : b ≠ t := ne_of_none h1 nt
        rw [upd_ne nb]
        exact hs _ _ h1
      · rw [upd_same]
        unfold screenF
        rw [if_neg (by rw [ho]; exact Bool.false_ne_true), Int.toNat_natCast, List.map_reverse]
end
end Sea
namespace Sea
open PySem PySem.Spec PyProof.Rows L2
def spFilled : Sp := fun vs H Q _ => ∃ (a : Addr) (xs : List (Option Int)) (S : List Tri) (n short near : Int), vs = [.ref a, .int short, .int near] ∧ H a = some (.lst (xs.map scV)) ∧ xs.length ≤ 99999 ∧ runsFrom 0 0 xs = S ∧ WFs 0 S n ∧ (xs.length : Int) = n ∧
  ∀ (H' : Hp) (t : Addr), Same H H' → H' t = some (.lst ((fill 0 (hold near (S.filter (keptB short))) n).map scV)) → Q (.ref t) H'
theorem kb_put {D : Addr} {H H' : Hp} {o : HO} (k : KB D H H') : KB D H (upd H' D o) := fun b x n h => by
  rw [upd_ne n]
  exact k b x n h
theorem fill_none (n : Nat) : fill 0 [] (n : Int) = List.replicate n none := by
  show List.replicate ((n : Int) - 0).toNat none = _
  congr 1
theorem wfs_count : ∀ {S : List Tri} {a n : Int}, WFs a S n → (S.length : Int) ≤ n - a
  | [], a, n, h => by
    have h : a ≤ n := h
    show (0 : Int) ≤ _
    omega
  | t :: r, a, n, h => by
    obtain ⟨h1, h2, h3⟩ := h
    have := wfs_count h3
    rw [List.length_cons]
    omega
section
variable {P : Program} {w : World} {K : PySem.W.Frag} {mg : Str → Option Value} {base : Heap}
theorem ok_filled {f : Addr} {fd : FuncData} (F : Fun K "_law_filled" "_law_filled" s__law_filled f fd) (m_range : mg "range" = none) (m_len : mg "len" = none) (c__law_runs : Cal P w K mg base 1 "_law_runs" spRuns) :
    FnOk P w K mg base CX0 2 f fd ["_law_screen_here", "_law_shorter", "_law_near"] spFilled := by
  refine F.ok sc__law_filled (fun vs H Q E h => ?_) (fun cdv A outer s H vs Q E hr h => ?_)
  · obtain ⟨a, xs, S, n, short, near, rfl, _⟩ := h
    rfl
  · obtain ⟨a, xs, S, n, short, near, rfl, ha, lx, eS, wS, ln, q⟩ := h
    refine ⟨_, (pss_cons (ps_setLc (i := 3) (own := [("_law_one", 8)]) rfl sc__law_filled.nd rfl rfl (sw_true rfl rfl rfl (by decide +kernel)) (pi_list (pe_c c__law_runs hr (by decide) rfl (pa_cons (pv 0) pa_nil))) (blkOk_by (N := N__law_filled) (sc := defScope s__law_filled) (by decide +kernel)) (fun _ _ _ _ _ => (pg_name (i := 8) sc__law_filled.nd rfl (Or.inl rfl))) (fun _ _ _ _ _ => by exact pts_one (pt_cmpR op_ge (pe_op op_sub (pe_ix (show IxR _ (rIxT K) from ix_tup) (pv 8) (pe_int) (fun _ _ => rfl)) (pe_ix (show IxR _ (rIxT K) from ix_tup) (pv 8) (pe_int) (fun _ _ => rfl))) (pv 1) (nomark _))) (fun _ _ _ _ _ => by exact (pv 8)))
    (pss_cons (ps_set (i := 4) sc__law_filled.nd rfl (Or.inl rfl) (pe_op op_rep (pe_lst (pa_cons (pe_non) pa_nil)) (pe_callB call_len (by rfl) m_len (by decide +kernel) (pa_cons (pv 0) pa_nil))))
    (pss_cons (ps_for PassesOwn.never rfl (pi_range1 (by rfl) m_range (pa_cons (pe_callB call_len (by rfl) m_len (by decide +kernel) (pa_cons (pv 3) pa_nil)) pa_nil)) (pg_name (i := 5) sc__law_filled.nd rfl (Or.inl rfl))
    (pss_cons (ps_set (i := 6) sc__law_filled.nd rfl (Or.inl rfl) (pe_ix ix_tup (pe_ix ix_list (pv 3) (pv 5) (fun _ _ => rfl)) (pe_int) (fun _ _ => rfl)))
    (C8.pss_cut (ps_if (PW.pt (pw_and (pt_cmpR op_lt (pe_op op_add (pv 5) (pe_int)) (pe_callB call_len (by rfl) m_len (by decide +kernel) (pa_cons (pv 3) pa_nil)) (nomark _)) (pw_and1 (pt_cmpR op_lt (pe_op op_sub (pe_ix ix_tup (pe_ix ix_list (pv 3) (pe_op op_add (pv 5) (pe_int)) (fun _ _ => rfl)) (pe_int) (fun _ _ => rfl)) (pv 6)) (pv 2) (nomark _)))))
    (pss_one (ps_set (i := 6) sc__law_filled.nd rfl (Or.inl rfl) (pe_ix ix_tup (pe_ix ix_list (pv 3) (pe_op op_add (pv 5) (pe_int)) (fun _ _ => rfl)) (pe_int) (fun _ _ => rfl))))
    pss_nil)
    (pss_one (ps_for PassesOwn.never rfl (pi_range2 (by rfl) m_range (pa_cons (pe_ix ix_tup (pe_ix ix_list (pv 3) (pv 5) (fun _ _ => rfl)) (pe_int) (fun _ _ => rfl)) (pa_cons (pv 6) pa_nil))) (pg_name (i := 7) sc__law_filled.nd rfl (Or.inl rfl))
    (pss_one (ps_asg (pe_ix ix_tup (pe_ix ix_list (pv 3) (pv 5) (fun _ _ => rfl)) (pe_int) (fun _ _ => rfl)) (pg_sub (pv 4) (pv 7) set_list))))))))
    (pss_one (ps_ret (pv 4)))))), ?_⟩
    have sl : sizeLine = 16777216 := sizeLine_eq
    refine ⟨_, rfl, a, xs, rfl, ha, lx, fun H1 t N s1 ht en hN => ⟨t, rfl, ⟨_, SqL.of ht⟩, fun D hD => ?_⟩⟩
    rw [eS] at en
    have lN : N.length ≤ 99999 := by
      have h1 := wfs_count wS
      have h2 := congrArg List.length en
      rw [List.length_map] at h2
      omega
    refine lc_it walk_list (fun i H' => Same H1 H' ∧ ∃ F : List (Addr × Tri), H' D = some (.lst (refsT F)) ∧ tris F = ((tris N).take i).filter (keptB short) ∧ (∀ e ∈ F, TAt H' e) ∧ F.length ≤ i) ⟨same_new hD, [], upd_same, rfl, (fun _ h => nomatch h), Nat.le_refl _⟩ (fun i H' _ hv => SqL.of (hv.1 _ _ ht)) ?_ ?_
    · rintro i y Ha Hb hi ⟨hs, F1, hd, hn, hF, lF⟩ ⟨rfl, hy⟩
      obtain ⟨e, he, rfl⟩ := ref_at hy
      have hi : i < N.length := by rw [List.length_map] at hi; exact hi
      have eA := hs _ _ (hN e (List.mem_of_getElem? he))
      have he2 : (tris N)[i]? = some e.2 := by rw [List.getElem?_map, he]; rfl
      have tk : ((tris N).take (i + 1)).filter (keptB short) = ((tris N).take i).filter (keptB short) ++ [e.2].filter (keptB short) := by
        rw [List.take_add_one, he2, List.filter_append]
        rfl
      refine ⟨rfl, _, rfl, e.1, _, 2, _, rfl, rfl, SqT.of eA, atI_nat (j := 2) rfl, _, rfl, e.1, _, 1, _, rfl, rfl, SqT.of eA, atI_nat (j := 1) rfl, _, _, rfl, rfl, _, rfl, _, _, rfl, rfl, _, rfl, ite2 (fun h => ?_) (fun h => ?_)⟩
      · have kp : keptB short e.2 = true := decide_eq_true (of_decide_eq_true h)
        refine ⟨_, rfl, _, hd, small_line (by rw [List.length_map]; omega), same_over hs hD, F1 ++ [e], ?_, ?_, fun d hd' => ?_, by rw [List.length_append]; exact Nat.succ_le_succ lF⟩
        · rw [upd_same, refsT_app]
          rfl
        · rw [tk, tris_app, hn, List.filter_cons, if_pos kp]
          rfl
        · have ko : KT Hb (upd Hb D (.lst (refsT F1 ++ [V.ref e.1]))) := (KT.refl _).over hd
          rcases List.mem_append.mp hd' with h | h
          · exact ko _ _ (hF d h)
          · rw [List.mem_singleton.mp h]
            exact ko _ _ eA
      · have kp : ¬ keptB short e.2 = true := fun z => h (decide_eq_true (of_decide_eq_true z))
        refine ⟨hs, F1, hd, ?_, hF, by omega⟩
        rw [tk, hn, List.filter_cons, if_neg kp, List.filter_nil, List.append_nil]
    rintro H2 ⟨s2, N2, hd2, en2, hN2, lN2⟩
    have S2 := s1.trans s2
    have e0 : (refsT N).length = N.length := List.length_map _
    have e1 : (tris N).length = N.length := List.length_map _
    rw [e0] at en2 lN2
    rw [List.take_of_length_le (by omega), en] at en2
    generalize eK : S.filter (keptB short) = Ks at en2 q
    have wK : WFs 0 Ks n := by rw [← eK]; exact wfs_filter wS
    have wH : WFs 0 (hold near Ks) n := hold_wf wK
    have lK : Ks.length = N2.length := by rw [← en2, List.length_map]
    -- the new screen
    refine ⟨(by show 1 ≤ sizeLine; omega), fun p1 hp1 => ?_⟩
    have sp1 := same_new (o := .lst [V.non]) hp1
    refine ⟨_, rfl, _, xs.length, rfl, .inl ⟨_, SqL.of (sp1 _ _ (S2 _ _ ha)), (List.length_map ..).symm⟩, p1, _, _, rfl, rfl, upd_same, by omega, by omega, (by show 1 * ((xs.length : Nat) : Int).toNat ≤ _; omega), fun p2 hp2 => ?_⟩
    rw [Int.toNat_natCast, rep_flat]
    have sp2 := same_new (o := .lst (List.replicate xs.length V.non)) hp2
    have S3 := (S2.trans sp1).trans sp2
    have goneP : H p2 = none := by
      cases e : H p2 with
      | none => rfl
      | some o => rw [(S2.trans sp1) _ _ e] at hp2; cases hp2
    have nDp : D ≠ p2 := ne_of_none (sp1 _ _ hd2) hp2
    have hD3 := sp2 _ _ (sp1 _ _ hd2)
    have hN3 : ∀ e ∈ N2, TAt (upd (upd H2 p1 (.lst [V.non])) p2 (.lst (List.replicate xs.length V.non))) e := fun e he => ((hN2 e he).keep sp1).keep sp2
    have h3 : upd (upd H2 p1 (.lst [V.non])) p2 (.lst (List.replicate xs.length V.non)) p2 = some (.lst ((fill 0 [] n).map scV)) := by
      rw [upd_same, ← ln, fill_none, List.map_replicate]
      rfl
    generalize upd (upd H2 p1 (.lst [V.non])) p2 (.lst (List.replicate xs.length V.non)) = H3 at S3 hD3 hN3 h3 ⊢
    refine ⟨_, rfl, _, N2.length, rfl, .inl ⟨_, SqL.of hD3, (List.length_map ..).symm⟩, _, rfl, by omega, by omega, ?_⟩
    refine for_it (walk_range (lo := 0) (n := ((N2.length : Nat) : Int).toNat)) (fun i σ H' => ∃ (k5 k6 k7 : Option V), σ = [some (.ref a), some (.int short), some (.int near), some (.ref D), some (.ref p2), k5, k6, k7, none] ∧ KB p2 H3 H' ∧ H' p2 = some (.lst ((fill 0 ((hold near Ks).take i) n).map scV)))
      ⟨none, none, none, rfl, fun _ _ _ h => h, h3⟩ (fun _ _ _ _ _ => trivial) ?_ ?_
    · rintro i y σ Ha Hb hi ⟨k5, k6, k7, rfl, ka, ha2⟩ ⟨rfl, rfl⟩
      have hi : i < N2.length := by omega
      have hDa := ka _ _ nDp hD3
      obtain ⟨e, he⟩ : ∃ e, N2[i]? = some e := ⟨_, List.getElem?_eq_getElem hi⟩
      have hre : (refsT N2)[i]? = some (V.ref e.1) := by rw [List.getElem?_map, he]; rfl
      have eT : ∀ {H' : Hp}, KB p2 H3 H' → ∀ d ∈ N2, TAt H' d := fun k d hd => k _ _ (fun z => by have := hN3 d hd; unfold TAt at this; rw [z, h3] at this; cases this) (hN3 d hd)
      have eA := eT ka e (List.mem_of_getElem? he)
      have hK : Ks[i]? = some e.2 := by rw [← en2, List.getElem?_map, he]; rfl
      have ei : V.int (0 + ((i : Nat) : Int)) = V.int ((i : Nat) : Int) := congrArg V.int (Int.zero_add _)
      refine ⟨_, rfl, _, rfl, D, _, ((i : Nat) : Int), _, rfl, ei, SqL.of hDa, atI_nat hre, e.1, _, 2, _, rfl, rfl, SqT.of eA, atI_nat (j := 2) rfl, ?_⟩
      refine ⟨fun σ' H' => σ' = [some (.ref a), some (.int short), some (.int near), some (.ref D), some (.ref p2), some (.int (0 + ((i : Nat) : Int))), some (.int (goneOf near e.2 (Ks.drop (i + 1)))), k7, none] ∧ H' = Hb, ?_, ?_⟩
      · refine ⟨_, rfl, _, _, rfl, rfl, _, rfl, _, N2.length, rfl, .inl ⟨_, SqL.of hDa, (List.length_map ..).symm⟩, _, _, rfl, rfl, _, rfl, ?_⟩
        by_cases hend : i + 1 < N2.length
        · obtain ⟨e', he'⟩ : ∃ e', N2[i + 1]? = some e' := ⟨_, List.getElem?_eq_getElem hend⟩
          have hre' : (refsT N2)[i + 1]? = some (V.ref e'.1) := by rw [List.getElem?_map, he']; rfl
          have eA' := eT ka e' (List.mem_of_getElem? he')
          have hK' : Ks[i + 1]? = some e'.2 := by rw [← en2, List.getElem?_map, he']; rfl
          have dr : Ks.drop (i + 1) = e'.2 :: Ks.drop (i + 2) := by
            have h1 : i + 1 < Ks.length := by omega
            rw [List.drop_eq_getElem_cons h1]
            congr 1
            rw [List.getElem?_eq_getElem h1] at hK'
            exact Option.some.inj hK'
          have ej : V.int (0 + ((i : Nat) : Int) + 1) = V.int (((i + 1 : Nat)) : Int) := congrArg V.int (by omega)
          rw [decide_eq_true (show (0 : Int) + ((i : Nat) : Int) + 1 < (N2.length : Nat) by omega)]
          refine iteT ⟨_, rfl, _, rfl, _, _, rfl, rfl, D, _, ((i + 1 : Nat) : Int), _, rfl, ej, SqL.of hDa, atI_nat hre', e'.1, _, 1, _, rfl, rfl, SqT.of eA', atI_nat (j := 1) rfl, _, rfl, _, _, rfl, rfl, _, rfl, _, _, rfl, rfl, _, rfl, ?_⟩
          have eg : goneOf near e.2 (Ks.drop (i + 1)) = if e'.2.2.1 - e.2.2.2 < near then e'.2.2.1 else e.2.2.2 := by rw [dr]; rfl
          by_cases hn : e'.2.2.1 - e.2.2.2 < near
          · rw [decide_eq_true hn]
            refine ⟨_, rfl, _, rfl, _, _, rfl, rfl, D, _, ((i + 1 : Nat) : Int), _, rfl, ej, SqL.of hDa, atI_nat hre', e'.1, _, 1, _, rfl, rfl, SqT.of eA', atI_nat (j := 1) rfl, ?_⟩
            rw [eg, if_pos hn]
            exact ⟨rfl, rfl⟩
          · rw [decide_eq_false hn]
            rw [eg, if_neg hn]
            exact ⟨rfl, rfl⟩
        · rw [decide_eq_false (show ¬ (0 : Int) + ((i : Nat) : Int) + 1 < (N2.length : Nat) by omega)]
          have dr : Ks.drop (i + 1) = [] := List.drop_eq_nil_of_le (by omega)
          rw [dr]
          exact ⟨rfl, rfl⟩
      rintro σ' H' ⟨rfl, rfl⟩
      obtain ⟨b1, b2, b3⟩ := wfs_in wH _ (List.mem_of_getElem? (hold_get (close := near) hK))
      have b1 : 0 ≤ e.2.2.1 := b1
      have b2 : e.2.2.1 < goneOf near e.2 (Ks.drop (i + 1)) := b2
      have b3 : goneOf near e.2 (Ks.drop (i + 1)) ≤ n := b3
      have wT := wfs_take wH (hold_get (close := near) hK)
      have tk : (hold near Ks).take (i + 1) = (hold near Ks).take i ++ [(e.2.1, e.2.2.1, goneOf near e.2 (Ks.drop (i + 1)))] := by
        rw [List.take_add_one, hold_get (close := near) hK]
        rfl
      have fo := fill_over (c := e.2.1) wT (Int.le_refl _) b2 b3
      rw [← tk] at fo
      generalize hg : goneOf near e.2 (Ks.drop (i + 1)) = g at b2 b3 fo tk ⊢
      have lf : (fill 0 ((hold near Ks).take i) n).length = n.toNat := by
        obtain ⟨w2, _⟩ := fill_more wT (show e.2.2.1 ≤ n by omega)
        rw [fill_length w2]
        omega
      generalize fill 0 ((hold near Ks).take i) n = ys at fo lf ha2
      refine ⟨_, rfl, _, rfl, D, _, ((i : Nat) : Int), _, rfl, ei, SqL.of hDa, atI_nat hre, e.1, _, 1, _, rfl, rfl, SqT.of eA, atI_nat (j := 1) rfl, _, rfl, ?_⟩
      refine ⟨_, _, rfl, ⟨by omega, by omega, by omega, by omega⟩, ?_⟩
      refine for_it (walk_range (lo := e.2.2.1) (n := (g - e.2.2.1).toNat)) (fun j σ H' => ∃ (k7 : Option V), σ = [some (.ref a), some (.int short), some (.int near), some (.ref D), some (.ref p2), some (.int (0 + ((i : Nat) : Int))), some (.int g), k7, none] ∧ KB p2 H3 H' ∧ H' p2 = some (.lst ((over ys e.2.2.1.toNat j (some e.2.1)).map scV)))
        ⟨k7, rfl, ka, by rw [over_zero]; exact ha2⟩ (fun _ _ _ _ _ => trivial) ?_ ?_
      · rintro j y σ Hc Hd hj ⟨k7', rfl, kc, hc⟩ ⟨rfl, rfl⟩
        have hDc := kc _ _ nDp hD3
        have eAc := eT kc e (List.mem_of_getElem? he)
        have lo : (over ys e.2.2.1.toNat j (some e.2.1)).length = ys.length := over_len (by omega)
        refine ⟨_, rfl, _, rfl, D, _, ((i : Nat) : Int), _, rfl, ei, SqL.of hDc, atI_nat hre, e.1, _, 0, _, rfl, rfl, SqT.of eAc, atI_nat (j := 0) rfl, _, rfl, _, rfl, p2, _, _, e.2.2.1.toNat + j, rfl, rfl, hc, ?_, _, rfl, kb_put kc, ?_⟩
        · rw [List.length_map, lo]
          show (if (0 : Int) ≤ e.2.2.1 + (j : Int) then (if e.2.2.1 + (j : Int) < (ys.length : Nat) then some (e.2.2.1 + (j : Int)).toNat else none) else _) = _
          rw [if_pos (by omega), if_pos (by omega)]
          congr 1
          omega
        · rw [upd_same, ← over_set (by omega), List.map_set]
          rfl
      · rintro σ Hc ⟨k7', rfl, kc, hc⟩
        refine ⟨_, _, _, rfl, kc, ?_⟩
        rw [hc, fo]
    rintro σ H4 ⟨k5, k6, k7, rfl, k4, h4⟩
    rw [List.take_of_length_le (by rw [hold_length]; omega)] at h4
    refine ⟨_, rfl, q H4 p2 (fun b o h => ?_) h4⟩
    exact k4 _ _ (ne_of_none h goneP) (S3 _ _ h)
end
end Sea
namespace Sea
open PySem PySem.Spec PyProof.Rows L2
/-- a row that is refused with a number -/
def BadV (ns : List Str) (H : Hp) (v : V) (k : Int) : Prop :=
  (Plain v ∧ k = -1) ∨ ∃ a xs, v = .ref a ∧ (H a = some (.tup xs) ∨ H a = some (.lst xs)) ∧ (∀ y ∈ xs, AnyV H y) ∧
    ((k = -1 ∧ (xs.length < 1 ∨ 400 < xs.length)) ∨ ∃ (n : Nat) (y : V), k = (n : Int) ∧ 1 ≤ xs.length ∧ xs.length ≤ 400 ∧ xs[n]? = some y ∧ (∀ z ∈ xs.take n, hasV ns z = true) ∧ hasV ns y = false)
theorem anyV_keep {H H' : Hp} {y : V} (h : AnyV H y) (s : Same H H') : AnyV H' y := by
  rcases h with h | ⟨a', ys, e, h | h⟩
  · exact .inl h
  · exact .inr ⟨a', ys, e, .inl (s _ _ h)⟩
  · exact .inr ⟨a', ys, e, .inr (s _ _ h)⟩
theorem BadV.keep {ns : List Str} {H H' : Hp} {v : V} {k : Int} (h : BadV ns H v k) (s : Same H H') : BadV ns H' v k := by
  rcases h with h | ⟨a, xs, e, ha, hy, r⟩
  · exact .inl h
  · exact .inr ⟨a, xs, e, ha.imp (s _ _) (s _ _), fun y h => anyV_keep (hy y h) s, r⟩
theorem mem_take_lt {xs : List V} {i n : Nat} {y : V} (h : xs[i]? = some y) (l : i < n) : y ∈ xs.take n := by
  have : (xs.take n)[i]? = some y := by rw [List.getElem?_take_of_lt l]; exact h
  exact List.mem_of_getElem? this
theorem BadV.rowUp {ns : List Str} {H : Hp} {v : V} {k : Int} {bad : Int → Hp → Prop} {good : List V → Addr → Hp → Prop} (h : BadV ns H v k) (b : ∀ H', Same H H' → bad k H') : rowUp H ns v bad good := by
  rcases h with ⟨hp, rfl⟩ | ⟨a, xs, e, ha, hy, ⟨rfl, l⟩ | ⟨n, y, rfl, l1, l2, hn, hz, hb⟩⟩
  · exact .inl ⟨hp, b⟩
  · exact .inr ⟨a, xs, e, ha, hy, fun _ => b, fun _ _ l1 l2 => absurd l (by omega), fun l1 l2 => absurd l (by omega)⟩
  · refine .inr ⟨a, xs, e, ha, hy, fun l => absurd l (by omega), fun k' y' _ _ hk' hz' hb' => ?_, fun _ _ hall => ?_⟩
    · have : k' = n := by
        by_cases l : k' < n
        · rw [hz y' (mem_take_lt hk' l)] at hb'
          cases hb'
        · by_cases l' : n < k'
          · rw [hz' y (mem_take_lt hn l')] at hb
            cases hb
          · omega
      rw [this]
      exact b
    · rw [hall y (List.mem_of_getElem? hn)] at hb
      cases hb
theorem plain_strs {zs : List Str} {y : V} (h : y ∈ zs.map V.str) : Plain y := by
  obtain ⟨n, _, rfl⟩ := List.mem_map.mp h
  trivial
theorem cut_front (n : Nat) (xs : List V) {d : Int} (e : d = (n : Int)) : cutV xs none (some d) = xs.take n := by
  subst e
  unfold cutV
  rw [HT.sIx_nat]
  show (xs.drop (HT.sIx xs.length 0 none)).take (min n xs.length - HT.sIx xs.length 0 none) = _
  rw [show HT.sIx xs.length 0 none = 0 from rfl, List.drop_zero, Nat.sub_zero]
  by_cases h : n ≤ xs.length
  · rw [Nat.min_eq_left h]
  · rw [Nat.min_eq_right (by omega), List.take_length, List.take_of_length_le (by omega)]
theorem cut_back (n : Nat) (xs : List V) {d : Int} (e : d = (n : Int)) : cutV xs (some d) none = xs.drop n := by
  subst e
  unfold cutV
  rw [HT.sIx_nat]
  show (xs.drop (min n xs.length)).take (HT.sIx xs.length xs.length none - min n xs.length) = _
  rw [show HT.sIx xs.length xs.length none = xs.length from rfl]
  by_cases h : n ≤ xs.length
  · rw [Nat.min_eq_left h, List.take_of_length_le (by rw [List.length_drop]; exact Nat.le_refl _)]
  · rw [Nat.min_eq_right (by omega), Nat.sub_self, List.take_zero, List.drop_eq_nil_of_le (by omega)]
theorem repf_len (n : Nat) (xs : List V) : (List.replicate n xs).flatten.length = n * xs.length := by
  induction n with
  | zero => simp
  | succ n ih => rw [List.replicate_succ, List.flatten_cons, List.length_append, ih, Nat.succ_mul]; omega
theorem flat_mem {n : Nat} {xs : List V} {y : V} (h : y ∈ (List.replicate n xs).flatten) : y ∈ xs := by
  obtain ⟨l, hl, hy⟩ := List.mem_flatten.mp h
  rw [(List.mem_replicate.mp hl).2] at hy
  exact hy
theorem odd_nowhere {all : List Str} (h : ∀ z ∈ all, Short z) : hasV all (.str (Str.ofString "nowhere")) = false := by
  refine decide_eq_false fun hm => ?_
  have := (h _ hm).most
  exact absurd this (by decide +kernel)
end Sea
namespace Sea
open PySem PySem.Spec PyProof.Rows L2
/-- lambda p: (p[i], p[j]) -/
abbrev lamPs (p : Str) (pp : Pos) : Arguments := { posonlyargs := [], args := [{ arg := p, annotation := none, pos := pp }], vararg := none, kwonlyargs := [], kw_defaults := [], kwarg := none, defaults := [] }
abbrev lamB (p : Str) (i j : Int) (p1 p2 q1 q2 r1 r2 r3 : Pos) : Expr := .Tuple [.Subscript (.Name p p1) (.Constant (.int i) 0 q1) r1, .Subscript (.Name p p2) (.Constant (.int j) 0 q2) r2] 0 r3
abbrev lamSc (p : Str) : Scope := { kind := .function, names := [(p, .local)], isGenerator := false, isCoroutine := false, more := [] }
section
variable {prog : Program} {w : World} {A : Around} {s : Shared} {f c' t : Addr} {pm ctv : Value} {qual p : Str} {pp p1 p2 q1 q2 r1 r2 r3 : Pos} {i j : Nat} {items : Array Value} {x y : Value} {dx dy : PyData}
theorem lam_pair (hroom : A.depth < recursionLimit) (of : s.heap.get? f = some (PySem.W.kla_obj "<lambda>" qual (lamPs p pp) (lamB p i j p1 p2 q1 q2 r1 r2 r3) (lamSc p) [] pm c' ctv))
    (cr : s.heap.CodeRec (.ref c') qual) (lim : s.heap.NoLimit) (hb : ∀ v, bindArgs (PySem.W.kla_fn "<lambda>" qual (lamPs p pp) (lamB p i j p1 p2 q1 q2 r1 r2 r3) (lamSc p) [] pm (.ref c') ctv) ⟨[v], []⟩ = pure [(p, v)])
    (hd : (p == ("__debug__" : Str)) = false) (hl : (lamSc p).names.lookup p = some .local) (ht : IsTup s.heap t items) (hi : items[i]? = some x) (hj : items[j]? = some y) (i40 : i < 40) (j40 : j < 40) (rx : ∀ h : Heap, Reads h x dx []) (ry : ∀ h : Heap, Reads h y dy []) :
    wpAny (model prog w) A (call (.ref f) [.ref t]) (PySem.W.KeyPure (.tuple [dx, dy]) s) (fun _ _ => False) s := by
  have sl : sizeLine = 16777216 := sizeLine_eq
  refine wpAny_call ?_
  refine PySem.W.kla_callFunE hroom of rfl rfl rfl rfl cr ?_
  rw [hb]
  refine wpAny_pure (wpAny_newFunctionEnv (fun z hz => ?_) (fun z hz => ?_) (fun h₁ hns hsb => ⟨lim.fresh _ hsb, ?_⟩) rfl)
  · rw [List.mem_singleton.mp hz]
    intro h
    cases h
  · rw [List.mem_singleton.mp hz]
    exact hl
  have kp : ∀ b o, s.heap.get? b = some o → h₁.get? b = some o := fun b o e => hsb.extBut b o (Nat.ne_of_lt (Heap.lt_size e)) (Heap.get?_push_of_some _ e)
  have nsl : h₁.Ns s.heap.objs.size fun z => [(p, Value.ref t)].reverse.lookup z := hns
  have hv : [(p, Value.ref t)].reverse.lookup p = some (.ref t) := by
    show (match p == p with | true => some (Value.ref t) | false => none) = _
    rw [beq_self_eq_true]
  have kT : ∀ {h : Heap}, (∀ b o, h₁.get? b = some o → h.get? b = some o) → IsTup h t items := fun k => ht.keeps fun b o e => k b o (kp b o e)
  have si : ∀ {n k : Nat}, n < k → seqIndex? (n : Int) k = some n := fun {n k} h => seqIndex_of (by omega) (by omega)
  have li : i < items.size := (Array.getElem?_eq_some_iff.mp hi).1
  have lj : j < items.size := (Array.getElem?_eq_some_iff.mp hj).1
  refine PySem.W.kla_codeExpr ?_
  refine wpAny_Tuple ?_
  refine wpAny_items_cons (Subscript_ (wpAny_Name (wpAny_loadName_local rfl hl nsl hv (wpAny_Constant_int (item_tuple (j := i) (x := x) (kT fun _ _ e => e) (by omega) (by omega) (si li) hi ?_))) hd))
  refine wpAny_items_cons (Subscript_ (wpAny_Name (wpAny_loadName_local rfl hl nsl hv (wpAny_Constant_int (item_tuple (j := j) (x := y) (kT fun _ _ e => e) (by omega) (by omega) (si lj) hj ?_))) hd))
  refine wpAny_items_nil ⟨by show 2 ≤ sizeLine; omega, ?_⟩
  refine ⟨_, _, rfl, fun b o e => Heap.get?_push_of_some _ (kp b o e), ?_⟩
  exact .tuple (Heap.get?_push_size _ rfl) rfl rfl (.cons (rx _) (.cons (ry _) .nil))
end
/-- what a row must have: an int at i, a text at j -/
def KeyAt (H : Hp) (i j : Nat) (x : V) (k : Int × Str) : Prop := ∃ t zs, x = .ref t ∧ H t = some (.tup zs) ∧ zs[i]? = some (.int k.1) ∧ zs[j]? = some (.str k.2)
def keyD (k : Int × Str) : PyData := .tuple [.int k.1, .str k.2]
theorem keyD_alike (a b : Int × Str) : PySem.W.alike (keyD a) (keyD b) = true := by
  simp [keyD, PySem.W.alike, PySem.W.alikeAll]
theorem keyD_depth (a : Int × Str) : (keyD a).depth = 1 := by
  simp [keyD, PyData.depth, PyData.depthAll]
def tSortLam (T : List (Addr × Str)) (i j : Nat) (t : TA) : TE := fun σ H Q => t σ H fun vs H1 => ∃ (a : Addr) (xs : List V), vs = [.ref a] ∧ H1 a = some (.lst xs) ∧ (∀ x ∈ xs, ∃ k, KeyAt H1 i j x k) ∧ LamX.Tabs T H1 ∧
  ∀ H2, LamX.ExtN H1 H2 → LamX.Tabs T H2 → ∀ ys p, ys.Perm xs → H2 p = none → Q (.ref p) (upd H2 p (.lst ys))
theorem each_vals {R : Value → V → Prop} (h : ∀ v x, R v x → RelV x v) : ∀ {us : List Value} {xs : List V}, PySem.W.EachIs R us xs → Vals xs us
  | _, _, .nil => .nil
  | _, _, .cons a r => .cons (h _ _ a) (each_vals h r)
theorem vals_each : ∀ {xs : List V} {us : List Value}, Vals xs us → PySem.W.EachIs (fun v x => RelV x v) us xs
  | _, _, .nil => .nil
  | _, _, .cons a r => .cons a (vals_each r)
section
variable {X : Cx} {T : List (Addr × Str)} {c P : Addr} {k : Nat} {p : Str} {e : Expr} {t : TA} {i j : Nat} {p0 pp p1 p2 q1 q2 r1 r2 r3 lpos kpos pos : Pos}
open Classical in
theorem pe_sortLam (hg : Gl X "sorted") (hm : X.mg "sorted" = none) (ha : PA X [e] t) (hr : Room k X.A) (TB : LamX.TabB X.base X.mg c P) (hcode : X.env.code = .ref c)
    (hT : (P, X.env.qual ++ "<lambda>") ∈ T) (hu : ∀ q ∈ T, q.1 = P → q.2 = X.env.qual ++ "<lambda>") (i40 : i < 40) (j40 : j < 40)
    (hb : ∀ (qual : Str) (pm cdv ctv v : Value), bindArgs (PySem.W.kla_fn "<lambda>" qual (lamPs p pp) (lamB p i j p1 p2 q1 q2 r1 r2 r3) (lamSc p) [] pm cdv ctv) ⟨[v], []⟩ = pure [(p, v)])
    (hd : (p == ("__debug__" : Str)) = false) (hl : (lamSc p).names.lookup p = some .local)
    (he : backTo pos (starEach [e] X.env) = (false, eval e X.env) :: backTo pos (starEach [] X.env) := by rfl) (hpl : (backTo pos (starEach [e] X.env)).any (·.1) = false := by rfl) :
    PE X (.Call (.Name "sorted" p0) [e] [⟨some "key", .Lambda (lamPs p pp) (lamB p i j p1 p2 q1 q2 r1 r2 r3) (lamSc p) lpos, kpos⟩] pos) (tSortLam T i j t) := by
  refine ⟨fun pins s σ H Q I h => ?_⟩
  refine wpAny_Call_Name_kw (ld_blt (u := .builtin "sorted") I hg hm (by decide +kernel) ?_ (by decide) (by decide))
  refine PyProof.Rows.callWith_kw (thn (ha.run pos pins s σ H _ I h) fun us s1 ⟨vs, H1, I1, rr, q⟩ => ?_) he hpl rfl rfl
  obtain ⟨a, xs, rfl, hxs, hk, hTs, q⟩ := q
  obtain rfl := Vals.ref1 rr
  show wpAny _ _ (evalAll [do let v ← eval (.Lambda (lamPs p pp) (lamB p i j p1 p2 q1 q2 r1 r2 r3) (lamSc p) lpos) X.env; standAt pos; pure v]) _ _ s1
  refine wpAny_evalAll_cons (wpAny_bind (LamX.lam_make2 I1 TB hcode hT hu hTs rfl (fun y hy z => ?_) fun f c' pm ctv H2 s2 I2 hE hT2 of hf1 hf2 hco => wpAny_bind (wpAny_standAt (wpAny_pure (wpAny_evalAll_nil ?_)))))
  · rw [List.mem_singleton.mp hy] at z
    cases z
  show wpAny _ X.A (call (.builtin "sorted") [.ref a] [(Str.ofString "key", .ref f)]) _ _ s2
  have of' : s2.heap.get? f = some (PySem.W.kla_obj "<lambda>" (X.env.qual ++ "<lambda>") (lamPs p pp) (lamB p i j p1 p2 q1 q2 r1 r2 r3) (lamSc p) [] pm c' ctv) := of
  have ha2 : H2 a = some (.lst xs) := hE _ _ hxs fun _ z => nomatch z
  obtain ⟨its, rv, hl2, hz⟩ := I2.list (SqL.of ha2)
  obtain ⟨⟨oc, cvs, ct, hoc, hdc, hvc⟩, _, _⟩ := I2.hok c' _ hco
  let kf : V → Int × Str := fun x => if h : ∃ k, KeyAt H1 i j x k then Classical.choose h else (0, "")
  have hkf : ∀ x ∈ xs, KeyAt H1 i j x (kf x) := fun x hx => by
    show KeyAt H1 i j x (if h : ∃ k, KeyAt H1 i j x k then Classical.choose h else (0, ""))
    rw [dif_pos (hk x hx)]
    exact Classical.choose_spec (hk x hx)
  refine PySem.W.sorted_key_data (vs := its) (bs := xs) (b := false) (R := fun v x => RelV x v) (fun x => keyD (kf x)) hl2.isList (vals_each rv) (PySem.W.AllAlike.of fun b b' => keyD_alike _ _) (PySem.W.Sortable.tuples fun b => ⟨_, _, rfl⟩) hz ?_ (PyProof.Rows.ksk_s1 _ _) (fun _ => PyProof.Rows.ksk_l1 _ _) (fun _ => PyProof.Rows.ksk_t1 _ _) ?_ ?_
  · intro x _
    show X.A.units + 2 + (keyD (kf x)).depth < cLine
    rw [keyD_depth]
    have := hr.un
    omega
  · intro v x hR hx h tk kp
    obtain ⟨tt, zs, rfl, ht, hi, hj⟩ := hkf x hx
    obtain rfl : v = Value.ref tt := hR
    obtain ⟨its2, rv2, it2, _⟩ := I2.tuple (SqT.of (hE _ _ ht fun _ z => nomatch z))
    obtain ⟨u1, hu1, ru1⟩ := rv2.get hi
    obtain ⟨u2, hu2, ru2⟩ := rv2.get hj
    obtain ⟨t1, rfl⟩ : ∃ t1, u1 = .int (kf (.ref tt)).1 t1 := ru1
    obtain ⟨t2, rfl⟩ : ∃ t2, u2 = .str (kf (.ref tt)).2 t2 := ru2
    exact lam_pair (s := { s2 with heap := h, toks := tk }) (items := its2.toArray) (by show X.A.depth < _; have := hr.dp; omega) (kp _ _ of') ⟨c', oc, cvs, ct, rfl, kp _ _ hoc, hdc, hvc⟩ (I2.nolimit.keeps kp) (hb _ _ _ _) hd hl (it2.keeps kp) (by simpa using hu1) (by simpa using hu2) i40 j40 (fun _ => .int _ _) (fun _ => .str _ _)
  · intro out cc h' tk kp fr at' hlen hout
    have rv3 := each_vals (fun _ _ h => h) hout
    have pm' : (xs.mergeSort (PySem.W.dataLe false fun x => keyD (kf x))).Perm xs := List.mergeSort_perm _ _
    refine ⟨.ref _, upd H2 (s2.heap.objs.size + 1) (.lst (xs.mergeSort (PySem.W.dataLe false fun x => keyD (kf x)))), I2.laid kp (Nat.le_succ _) ⟨by rw [pm'.length_eq]; exact hz, _, cc, rv3, at'⟩, rfl, q H2 hE hT2 _ _ pm' (I2.hok.fresh (Nat.le_succ _))⟩
end
end Sea
namespace Sea
open PySem PySem.Spec PyProof.Rows L2
/-- a tape's list, or a table: these change -/
def Mv : HO → Prop
  | .tbl _ => True
  | .lst (.ref _ :: .int _ :: _) => True
  | _ => False
def KM (H H' : Hp) : Prop := ∀ a o, H a = some o → ¬ Mv o → H' a = some o
theorem KM.refl (H : Hp) : KM H H := fun _ _ h _ => h
theorem KM.trans {H H1 H2 : Hp} (a : KM H H1) (b : KM H1 H2) : KM H H2 := fun x o h n => b x o (a x o h n) n
theorem KM.of_same {H H' : Hp} (s : Same H H') : KM H H' := fun a o h _ => s a o h
theorem mv_tape {H : Hp} {tp cl : Addr} {ns : List Int} (T : Tape H tp cl ns) {o : HO} (h : H tp = some o) : Mv o := by
  obtain ⟨i, r, z, c, h', _⟩ := T.ex
  rw [h'] at h
  cases h
  trivial
theorem KM.of_kb {H H' : Hp} {tp cl : Addr} {ns : List Int} (T : Tape H tp cl ns) (k : KB tp H H') : KM H H' := fun a o h n => k a o (fun e => n (by rw [e] at h; exact mv_tape T h)) h
theorem KM.rest {H : Hp} {tp cl : Addr} {ns : List Int} (T : Tape H tp cl ns) : KM H (rest tp H) := fun a o h n => by
  rw [rest_ne (fun e => n (by rw [e] at h; exact mv_tape T h))]
  exact h
theorem KM.of_ext {H H' : Hp} (e : LamX.ExtN H H') : KM H H' := fun a o h n => e a o h fun ps z => n (by rw [z]; trivial)
theorem mv_refs {α : Type} (f : α → Addr) : ∀ (L : List α), ¬ Mv (.lst (L.map fun e => V.ref (f e)))
  | [], h => h
  | [_], h => h
  | _ :: _ :: _, h => h
theorem mv_strs : ∀ (L : List Str), ¬ Mv (.lst (L.map V.str))
  | [], h => h
  | _ :: _, h => h
theorem KM.tup {H H' : Hp} (k : KM H H') {a : Addr} {xs : List V} (h : H a = some (.tup xs)) : H' a = some (.tup xs) := k _ _ h fun z => z
theorem KM.dK {H H' : Hp} (k : KM H H') {a : Addr} {xs : List (Key × V)} (h : H a = some (.dK xs)) : H' a = some (.dK xs) := k _ _ h fun z => z
theorem ReelAt.km {H H' : Hp} {CR x : Addr} {len : Int} {L : List (Addr × Cue)} (h : ReelAt H CR x len L) (s : KM H H') : ReelAt H' CR x len L := by
  obtain ⟨dx, t, sp, nm, zs, h1, h2, h3, h4, h5, h6⟩ := h
  exact ⟨dx, t, sp, nm, zs, s _ _ h1 (fun z => z), s.tup h2, fun e he => s.tup (h3 e he), s.tup h4, h5, s.tup h6⟩
theorem PlanB.km {H H' : Hp} {CR xr pt nt at' st et dP dF dS dB dT dQ : Addr} {len : Int} {L : List (Addr × Cue)} {ps : List Piece} {as : List (Str × Str)} {ss es : List Str}
    (h : PlanB H CR xr pt nt at' st et dP dF dS dB dT dQ len L ps as ss es) (s : KM H H') : PlanB H' CR xr pt nt at' st et dP dF dS dB dT dQ len L ps as ss es where
  reel := h.reel.km s
  good := h.good
  few := h.few
  one := h.one
  pieces := let ⟨M, a, b, c⟩ := h.pieces; ⟨M, s.tup a, b, fun e he => s.tup (c e he)⟩
  names := s.tup h.names
  arrows := let ⟨M, a, b, c⟩ := h.arrows; ⟨M, s.tup a, b, fun e he => s.tup (c e he)⟩
  ends := h.ends
  starts := s.tup h.starts
  lasts := s.tup h.lasts
  kP := let ⟨k, a, b⟩ := h.kP; ⟨k, s.dK a, fun p hp => let ⟨c, d, e⟩ := b p hp; ⟨c, d, s.tup e⟩⟩
  kF := let ⟨k, a, b⟩ := h.kF; ⟨k, s.dK a, b⟩
  kS := let ⟨k, a, b⟩ := h.kS; ⟨k, s.dK a, b⟩
  kB := let ⟨k, a, b⟩ := h.kB; ⟨k, s.dK a, fun p hp => let ⟨c, d, e, f, g⟩ := b p hp; ⟨c, d, e, s.tup f, g⟩⟩
  kT := let ⟨k, a, b⟩ := h.kT; ⟨k, s.dK a, fun p hp => let ⟨c, d, e, f, g, i⟩ := b p hp; ⟨c, d, e, s.tup f, g, fun x hx => s.tup (i x hx)⟩⟩
  kQ := let ⟨k, a, b⟩ := h.kQ; ⟨k, s.dK a, fun p hp => let ⟨c, d, e, f, g, i⟩ := b p hp; ⟨c, d, e, s.tup f, g, fun x hx => s.tup (i x hx)⟩⟩
theorem PlanAt.km {H H' : Hp} {CR CP x : Addr} {len : Int} {L : List (Addr × Cue)} {ps : List Piece} {as : List (Str × Str)} {ss es : List Str} (h : PlanAt H CR CP x len L ps as ss es) (s : KM H H') : PlanAt H' CR CP x len L ps as ss es := by
  obtain ⟨dx, xr, pt, nt, at', st, et, dP, dF, dS, dB, dT, dQ, h1, h2⟩ := h
  exact ⟨dx, xr, pt, nt, at', st, et, dP, dF, dS, dB, dT, dQ, s _ _ h1 (fun z => z), h2.km s⟩
theorem WorldAt.km {R R' : Hp} {wa : Addr} {len : Int} {L : List (Addr × Cue)} {M : List (Addr × Piece)} {A : List (Addr × (Str × Str))} {ss es : List Str} (h : WorldAt R wa len L M A ss es) (k : KM R R') : WorldAt R' wa len L M A ss es := by
  obtain ⟨ca, pa, aa, sa, ea, h⟩ := h
  exact ⟨ca, pa, aa, sa, ea, k _ _ h.w (fun z => z), k _ _ h.c (mv_refs _ _), fun e he => k.tup (h.cs e he), k _ _ h.p (mv_refs _ _), fun e he => k.tup (h.ps e he), k _ _ h.a (mv_refs _ _), fun e he => k.tup (h.as e he), k _ _ h.s (mv_strs _), k _ _ h.e (mv_strs _)⟩
theorem DI.km {G : Hp → Str → V → Prop} (GK : ∀ H H' y v, KM H H' → G H y v → G H' y v) {ns : List Str} {i : Nat} {H H' : Hp} {d : Addr} (h : DI G ns i H d) (s : KM H H') : DI G ns i H' d :=
  let ⟨ks, h1, h2, h3⟩ := h; ⟨ks, s.dK h1, h2, fun y hy => let ⟨v, h4, h5⟩ := h3 y hy; ⟨v, h4, GK _ _ _ _ s h5⟩⟩
theorem ModelAt.km {R R' : Hp} {ma : Addr} {cs : List Cue} {ps : List Piece} {as : List (Str × Str)} (h : ModelAt R ma cs ps as) (s : KM R R') : ModelAt R' ma cs ps as := by
  obtain ⟨d1, d2, d3, d4, h⟩ := h
  exact ⟨d1, d2, d3, d4, s _ _ h.m (fun z => z), h.sh.km (fun _ _ _ _ _ h => h) s, h.st.km (fun _ _ _ _ k ⟨p, h, e, a, N, e1, e2, e3, e4⟩ => ⟨p, h, e, a, N, e1, k _ _ e2 (mv_refs _ _), e3, fun d hd => k.tup (e4 d hd)⟩) s,
    h.se.km (fun _ _ _ _ k ⟨p, h, e, a, N, e1, e2, e3, e4⟩ => ⟨p, h, e, a, N, e1, k _ _ e2 (mv_refs _ _), e3, fun d hd => k.tup (e4 d hd)⟩) s, h.be.km (fun _ _ _ _ k ⟨a, ys, e, h, r⟩ => ⟨a, ys, e, k _ _ h (mv_strs _), r⟩) s⟩
theorem Tape.km {H H' : Hp} {tp cl : Addr} {ns : List Int} (T : Tape H tp cl ns) (e : LamX.ExtN H H') : Tape H' tp cl ns := by
  obtain ⟨i, r, z, c, h, k⟩ := T.ex
  exact ⟨⟨i, r, z, c, e _ _ h (fun _ z => nomatch z), k⟩, e _ _ T.cells (fun _ z => nomatch z), T.ne, T.nn⟩
theorem row_apart {len : Int} {ps rs : List Piece} {cs : List Cue} (hc : chainC len 0 cs) (hg : ∀ p ∈ ps, GoodP len p) (hr : ∀ p ∈ rs, p ∈ ps) : Apart (rowShow (rs.map (pieceRow ps cs))).1 := by
  refine (row_fill _ _ rfl fun q hq => ?_).2.1
  obtain ⟨p, hp, rfl⟩ := List.mem_map.mp hq
  have g := hg p (hr p hp)
  exact (strip_ok g.lt hc g.s0 (factor_pos (fun q hq => ⟨(hg q hq).d1, (hg q hq).d6⟩) (hr p hp) g.u1)).1
structure FunT (K : PySem.W.Frag) (x qual : Str) (st : Stmt) (f : Addr) (fd : FuncData) (c : Addr) : Prop where
  ex : ∃ (oc : Value) (od : Option Addr) (kV doc pm : Value) (an : Option Addr) (ct : Value) (osl : Array (Option Value)),
    fd = PySem.W.fnOf x qual (defArgs st) (defBody st) (defScope st) .none kV doc pm an (.ref c) ct ∧ K.lookup f = some ⟨oc, od, .func fd, osl⟩ ∧ PySem.W.codeIn K (.ref c) qual = true
  kp : PySem.W.keepIn K (.ref f) = true
section
variable {P : Program} {w : World} {K : PySem.W.Frag} {mg : Str → Option Value} {base : Heap}
theorem FunT.to {x qual : Str} {st : Stmt} {f c : Addr} {fd : FuncData} (F : FunT K x qual st f fd c) : Fun K x qual st f fd := by
  obtain ⟨oc, od, kV, doc, pm, an, ct, osl, h⟩ := F.ex
  exact ⟨⟨oc, od, kV, doc, pm, an, _, ct, osl, h⟩, F.kp⟩
theorem FunT.ok {x qual : Str} {st : Stmt} {f c : Addr} {fd : FuncData} {N ps : List Str} {k : Nat} {sp : Sp} (F : FunT K x qual st f fd c) (S : FnScope N ps (defScope st)) (len : ∀ vs H Q E, sp vs H Q E → vs.length = ps.length)
    (hbody : ∀ (A : Around) (outer : List Env) (s : Shared) (H : Hp) (vs : List V) (Q : VK) (E : XK), Room k (A.deeper (envOfC qual (defScope st) s.heap.objs.size f (.ref c))) → sp vs H Q E →
      ∃ t, PSs (cxOf CX0 P w K mg base N qual (defScope st) f (.ref c) A outer s H E).nox (defBody st) t ∧ t { nx := fun _ H' => Q .non H', rt := Q } (start N vs) H) : FnOk P w K mg base CX0 (k + 1) f fd ps sp := by
  obtain ⟨oc, od, kV, doc, pm, an, ct, osl, rfl, lk, hcd⟩ := F.ex
  refine fn_of lk hcd S len fun A outer s H vs Q E hr hsp => ?_
  obtain ⟨t, h, q⟩ := hbody A outer s H vs Q E hr hsp
  exact ⟨t, h.nox, q⟩
end
end Sea
namespace Sea
open PySem PySem.Spec PyProof.Rows L2
/-- the screen of a row -/
theorem row_screen {len : Int} {ps rs : List Piece} {cs : List Cue} (hc : chainC len 0 cs) (hg : ∀ p ∈ ps, GoodP len p) (hr : ∀ p ∈ rs, p ∈ ps) :
    WFs 0 (rowShow (rs.map (pieceRow ps cs))).1 (rowShow (rs.map (pieceRow ps cs))).2 ∧ fill 0 (rowShow (rs.map (pieceRow ps cs))).1 (rowShow (rs.map (pieceRow ps cs))).2 = rs.flatMap fun p => screenF p (factorOf (grainTo ps) p) cs := by
  have ok : ∀ p ∈ rs, StripOk (pieceRow ps cs p) ∧ fill 0 (pieceRow ps cs p).1 (pieceRow ps cs p).2 = screenF p (factorOf (grainTo ps) p) cs := fun p hp =>
    have g := hg p (hr p hp)
    strip_ok g.lt hc g.s0 (factor_pos (fun q hq => ⟨(hg q hq).d1, (hg q hq).d6⟩) (hr p hp) g.u1)
  obtain ⟨w, ap0, e⟩ := row_fill _ (rs.map (pieceRow ps cs)) rfl fun q hq => by
    obtain ⟨p, hp, rfl⟩ := List.mem_map.mp hq
    exact (ok p hp).1
  refine ⟨w, e.trans ?_⟩
  clear e w ap0
  induction rs with
  | nil => rfl
  | cons p r ih =>
    rw [List.flatMap_cons, List.map_cons, List.flatMap_cons, (ok p List.mem_cons_self).2, ih (fun q hq => hr q (List.mem_cons_of_mem _ hq)) fun q hq => ok q (List.mem_cons_of_mem _ hq)]
def spDue : Sp := fun vs H Q _ => ∃ (wa na ra : Addr) (mc mp len le cl : Int) (L : List (Addr × Cue)) (M : List (Addr × Piece)) (A : List (Addr × (Str × Str))) (ss es : List Str) (rs : List Piece), vs = [.ref wa, .int (grainTo (pcs M)), .ref na, .ref ra] ∧ WorldAt H wa len L M A ss es ∧ GoodW mc mp len (cuesC L) (pcs M) (prs A) ss es ∧ mc ≤ 40 ∧ mp ≤ 12 ∧
  H na = some (.lst [.int le, .int cl]) ∧ H ra = some (.lst ((rs.map (·.nm)).map V.str)) ∧ (∀ p ∈ rs, p ∈ pcs M) ∧ rs.length ≤ 24 ∧
  ∀ (H' : Hp) (t : Addr) (N : List (Addr × Tri)), Same H H' → H' t = some (.tup (refsT N)) → tris N = carry (le * grainTo (pcs M)) (cl * grainTo (pcs M)) (rowShow (rs.map (pieceRow (pcs M) (cuesC L)))).1 → (∀ e ∈ N, TAt H' e) → Q (.ref t) H'
section
variable {P : Program} {w : World} {K : PySem.W.Frag} {mg : Str → Option Value} {base : Heap}
theorem ok_due {f : Addr} {fd : FuncData} (F : Fun K "_law_due" "_law_due" s__law_due f fd) (m_tuple : mg "tuple" = none) (c__law_screen : Cal P w K mg base 1 "_law_screen" spScreen) (c__law_runs : Cal P w K mg base 1 "_law_runs" spRuns) (c__law_filled : Cal P w K mg base 2 "_law_filled" spFilled) :
    FnOk P w K mg base CX0 3 f fd ["_law_world_here", "_law_grain", "_law_numbers_here", "_law_row"] spDue := by
  refine F.ok sc__law_due (fun vs H Q E h => ?_) (fun cdv A outer s H vs Q E hr h => ?_)
  · obtain ⟨wa, na, ra, mc, mp, len, le, cl, L, M, A, ss, es, rs, rfl, _⟩ := h
    rfl
  · obtain ⟨wa, na, ra, mc, mp, len, le, cl, L, M, As, ss, es, rs, rfl, hW, g, mc40, mp12, hna, hra, hrs, r24, q⟩ := h
    refine ⟨_, (pss_cons (ps_set (i := 4) sc__law_due.nd rfl (Or.inl rfl) (pe_lst pa_nil))
    (pss_cons (ps_for PassesOwn.never rfl (pi_list (pv 3)) (pg_name (i := 5) sc__law_due.nd rfl (Or.inl rfl))
    (pss_one (ps_set (i := 4) sc__law_due.nd rfl (Or.inl rfl) (pe_op op_cat (pv 4) (pe_c c__law_screen hr (by decide) rfl (pa_cons (pv 0) (pa_cons (pv 1) (pa_cons (pv 5) pa_nil))))))))
    (pss_one (ps_ret (pe_callTy call_tuple_of (by rfl) m_tuple (by decide +kernel) (pa_cons (pe_c c__law_runs hr (by decide) rfl (pa_cons (pe_c c__law_filled hr (by decide) rfl (pa_cons (pv 4) (pa_cons (pe_op op_mul (pe_ix ix_list (pv 2) (pe_int) (fun _ _ => rfl)) (pv 1)) (pa_cons (pe_op op_mul (pe_ix ix_list (pv 2) (pe_int) (fun _ _ => rfl)) (pv 1)) pa_nil)))) pa_nil)) pa_nil)))))), ?_⟩
    refine ⟨Nat.zero_le _, fun D hD => ?_⟩
    have sD := same_new (o := .lst []) hD
    let scr : List Piece → List (Option Int) := fun ps => ps.flatMap fun p => screenF p (factorOf (grainTo (pcs M)) p) (cuesC L)
    have scr_snoc : ∀ (l : List Piece) (p : Piece), scr (l ++ [p]) = scr l ++ screenF p (factorOf (grainTo (pcs M)) p) (cuesC L) := fun l p => by
      show List.flatMap _ (l ++ [p]) = _
      rw [List.flatMap_append]
      simp [scr]
    refine ⟨_, rfl, ra, rfl, ⟨_, SqL.of (sD _ _ hra)⟩, ?_⟩
    refine for_it walk_list (fun i σ H' => ∃ (t : Addr) (k5 : Option V), σ = [some (.ref wa), some (.int (grainTo (pcs M))), some (.ref na), some (.ref ra), some (.ref t), k5] ∧ Same H H' ∧ H' t = some (.lst ((scr (rs.take i)).map scV)) ∧ (scr (rs.take i)).length ≤ 3240 * i)
      ⟨D, none, rfl, sD, upd_same, Nat.zero_le _⟩ (fun i σ H' _ ⟨_, _, _, hs, _⟩ => SqL.of (hs _ _ hra)) ?_ ?_
    · rintro i y σ Ha Hb hi ⟨t, k5, rfl, hs, ht, lt⟩ ⟨rfl, hy⟩
      have hi' : i < rs.length := by rw [List.length_map, List.length_map] at hi; exact hi
      obtain ⟨p, hp, rfl⟩ : ∃ p, rs[i]? = some p ∧ y = V.str p.nm := by
        refine ⟨rs[i], List.getElem?_eq_getElem hi', ?_⟩
        rw [List.getElem?_map, List.getElem?_map, List.getElem?_eq_getElem hi'] at hy
        exact (Option.some.inj hy).symm
      have tk : scr (rs.take (i + 1)) = scr (rs.take i) ++ screenF p (factorOf (grainTo (pcs M)) p) (cuesC L) := by
        rw [List.take_add_one, hp]
        exact scr_snoc _ _
      refine ⟨_, rfl, _, rfl, _, rfl, _, rfl, wa, mc, mp, len, L, M, As, ss, es, p, rfl, hW.keep hs, g, mc40, mp12, hrs p (List.mem_of_getElem? hp), fun H1 t1 s1 h1 l1 => ?_⟩
      have sl : sizeLine = 16777216 := sizeLine_eq
      refine ⟨t, t1, _, _, rfl, rfl, s1 _ _ ht, h1, by rw [List.length_map, List.length_map]; omega, fun t2 h2 => ⟨t2, _, rfl, (hs.trans s1).trans (same_new h2), ?_, ?_⟩⟩
      · rw [upd_same, tk, List.map_append]
      · rw [tk, List.length_append]
        omega
    rintro σ H1 ⟨t, k5, rfl, s1, ht, lt⟩
    have lr : ((rs.map (·.nm)).map V.str).length = rs.length := by rw [List.length_map, List.length_map]
    rw [lr, List.take_length] at ht lt
    have hg : ∀ p ∈ pcs M, GoodP len p := fun p hp => (g.pg p hp).1
    have key : runsFrom 0 0 (scr rs) = (rowShow (rs.map (pieceRow (pcs M) (cuesC L)))).1 := row_runs (rs := rs) g.ch hg hrs
    have ap := row_apart (rs := rs) g.ch hg hrs
    obtain ⟨wS, eS⟩ := row_screen (rs := rs) g.ch hg hrs
    have eS : fill 0 (rowShow (rs.map (pieceRow (pcs M) (cuesC L)))).1 (rowShow (rs.map (pieceRow (pcs M) (cuesC L)))).2 = scr rs := eS
    have wn := (wf_last wS).1
    obtain ⟨gr1, gr2⟩ := grain_le (ps := pcs M) fun p hp => ⟨(hg p hp).d1, (hg p hp).d6⟩
    have ck : ∀ i : Int, CMul i (grainTo (pcs M)) := fun i => .inr ⟨by omega, by omega⟩
    have ln : ((scr rs).length : Int) = (rowShow (rs.map (pieceRow (pcs M) (cuesC L)))).2 := by
      rw [← eS, fill_length wS]
      omega
    have cr := carry_runs (least := le * grainTo (pcs M)) (close := cl * grainTo (pcs M)) wS ap
    have wH : WFs 0 (hold (cl * grainTo (pcs M)) ((rowShow (rs.map (pieceRow (pcs M) (cuesC L)))).1.filter (keptB (le * grainTo (pcs M))))) (rowShow (rs.map (pieceRow (pcs M) (cuesC L)))).2 := hold_wf (wfs_filter wS)
    have lH := fill_length wH
    refine ⟨_, rfl, _, rfl, na, _, 0, _, rfl, rfl, SqL.of (s1 _ _ hna), atI_nat (j := 0) rfl, _, rfl, _, _, rfl, rfl, ck _, _, rfl, na, _, 1, _, rfl, rfl, SqL.of (s1 _ _ hna), atI_nat (j := 1) rfl, _, rfl, _, _, rfl, rfl, ck _, t, scr rs, _, _, _, _, rfl, ht, by omega, key, wS, ln, fun H2 t2 s2 h2 => ?_⟩
    refine ⟨t2, _, rfl, h2, by omega, fun H3 t3 N s3 h3 e3 n3 => ?_⟩
    refine ⟨t3, _, rfl, .inl ⟨SqL.of h3, fun l hl => ?_⟩⟩
    have s4 := same_new (o := .tup (refsT N)) hl
    exact q _ l N (((s1.trans s2).trans s3).trans s4) upd_same (e3.trans cr) fun e he => (n3 e he).keep s4
end
end Sea
namespace Sea
open PySem PySem.Spec PyProof.Rows L2
def bookF (a b : V) : List (Str × V) := putF "close" b (putF "least" a [])
theorem book_least (a b : V) : (bookF a b).lookup ("least" : Str) = some a := by unfold bookF; (repeat first | rw [lookup_putF, if_neg (by decide +kernel)] | rw [lookup_putF, if_pos rfl])
theorem book_close (a b : V) : (bookF a b).lookup ("close" : Str) = some b := by unfold bookF; (repeat first | rw [lookup_putF, if_neg (by decide +kernel)] | rw [lookup_putF, if_pos rfl])
/-- what the top has written of Book -/
structure BkC (K : PySem.W.Frag) (mg : Str → Option Value) (CK fI : Addr) : Prop where
  cl : Cls K CK
  made : Mk K CK fI
  g : mg "Book" = some (.ref CK)
  nL : NoAttr K CK "least"
  nC : NoAttr K CK "close"
  kl : PySem.W.findIn K (.ref CK) "__class__" = some (some (.builtin "object.__class__"))
  gt : PySem.W.specialIn K (.builtin "object.__class__") "__get__" = some (some (.builtin "getset_descriptor.__get__"))
  tk : PySem.W.takesIn K (.builtin "object.__class__") = some true
  mr : PySem.W.mroIn K CK (.type "object") = some true
def BookAt (H : Hp) (CK x : Addr) (le cl : Int) : Prop := ∃ dx, H x = some (.ins CK dx (bookF (.int le) (.int cl)))
theorem BookAt.keep {H H' : Hp} {CK x : Addr} {le cl : Int} (h : BookAt H CK x le cl) (s : Same H H') : BookAt H' CK x le cl := let ⟨dx, h⟩ := h; ⟨dx, s _ _ h⟩
theorem BookAt.km {H H' : Hp} {CK x : Addr} {le cl : Int} (h : BookAt H CK x le cl) (s : KM H H') : BookAt H' CK x le cl := let ⟨dx, h⟩ := h; ⟨dx, s _ _ h fun z => z⟩
def spBook (CK CN : Addr) : Sp := fun vs H Q E => ∃ (x dx : Addr) (a b : V), vs = [.ref x, a, b] ∧ H x = some (.ins CK dx []) ∧ AnyV H a ∧ AnyV H b ∧
  (inside a 0 100 = false → ∀ q, H q = none → E (.ref CN) (some q) (upd H q (.xd [(("word" : Str), .str "least")]))) ∧
  (inside a 0 100 = true → inside b 0 100 = false → ∀ q, H q = none → E (.ref CN) (some q) (upd H q (.xd [(("word" : Str), .str "close")]))) ∧
  (∀ i j, a = .int i → b = .int j → 0 ≤ i → i ≤ 100 → 0 ≤ j → j ≤ 100 → ∀ H', H' = upd (upd H x (.ins CK dx (putF "least" a []))) x (.ins CK dx (bookF a b)) → Q .non H')
def spBookEq (CK : Addr) : Sp := fun vs H Q _ => ∃ (x y : Addr) (a b c d : Int), vs = [.ref x, .ref y] ∧ BookAt H CK x a b ∧ BookAt H CK y c d ∧ Q (.bl (decide (a = c ∧ b = d))) H
theorem inside_int {x : V} {lo hi : Int} (h : inside x lo hi = true) : ∃ i, x = .int i ∧ lo ≤ i ∧ i ≤ hi := by
  cases x with
  | int i =>
    have : (decide (lo ≤ i) && decide (i ≤ hi)) = true := h
    rw [Bool.and_eq_true] at this
    exact ⟨i, rfl, of_decide_eq_true this.1, of_decide_eq_true this.2⟩
  | _ => cases h
section
variable {P : Program} {w : World} {K : PySem.W.Frag} {mg : Str → Option Value} {base : Heap} {CK CN fK : Addr}
theorem ok_book {f : Addr} {fd : FuncData} (F : Fun K "__init__" "Book.__init__" s_Book___init__ f fd) (T : BkC K mg CK fK) {t : Tok} (g_MOST_BOOK : mg "MOST_BOOK" = some (.int 100 t)) (xN : XI P w K mg base "BadNumber" "word" CN) (c_is_within : Cal P w K mg base 2 "is_within" spWithinA) :
    FnOk P w K mg base (L2.CX P w) 3 f fd ["self", "least", "close"] (spBook CK CN) := by
  obtain ⟨fIN, fdN, XN, FN, bN⟩ := xN.ex
  refine F.okX sc_Book___init__ (fun vs H Q E h => ?_) (fun cdv A outer s H vs Q E hr h => ?_)
  · obtain ⟨x, dx, a, b, rfl, _⟩ := h
    rfl
  · obtain ⟨x, dx, a, b, rfl, hx, ha, hb, q1, q2, q3⟩ := h
    refine ⟨_, (pss_cons (ps_if (pt_not (pt_val (pe_c c_is_within hr (by decide) rfl (pa_cons (pv 1) (pa_cons (pe_int) (pa_cons (pe_glob (v := .int 100) rfl g_MOST_BOOK ⟨_, rfl⟩) pa_nil))))))
    (pss_one (ps_raise rfl (takes_of rfl rfl rfl rfl) (pmk_oex XN.ox XN.iC XN.tI FN (hr.mono (by decide)) bN .nil pass0 rfl XN.gC (pa_cons (pe_str) pa_nil))))
    pss_nil)
    (pss_cons (ps_if (pt_not (pt_val (pe_c c_is_within hr (by decide) rfl (pa_cons (pv 2) (pa_cons (pe_int) (pa_cons (pe_glob (v := .int 100) rfl g_MOST_BOOK ⟨_, rfl⟩) pa_nil))))))
    (pss_one (ps_raise rfl (takes_of rfl rfl rfl rfl) (pmk_oex XN.ox XN.iC XN.tI FN (hr.mono (by decide)) bN .nil pass0 rfl XN.gC (pa_cons (pe_str) pa_nil))))
    pss_nil)
    (pss_cons (ps_fld (pv 0) (pv 1) rfl)
    (pss_one (ps_fld (pv 0) (pv 2) rfl))))), ?_⟩
    refine ⟨_, rfl, a, 0, 100, rfl, ha, _, rfl, ?_⟩
    cases hI : inside a 0 100 with
    | false => exact mk_fin XN.ox XN.no fun q hq => q1 hI q hq
    | true =>
    refine ⟨_, rfl, b, 0, 100, rfl, hb, _, rfl, ?_⟩
    cases hJ : inside b 0 100 with
    | false => exact mk_fin XN.ox XN.no fun q hq => q2 hI hJ q hq
    | true =>
    obtain ⟨i, rfl, i0, i1⟩ := inside_int hI
    obtain ⟨j, rfl, j0, j1⟩ := inside_int hJ
    refine ⟨_, rfl, _, rfl, x, CK, dx, [], rfl, hx, T.cl, T.nL, (by decide : 0 < 1000), ?_⟩
    refine ⟨_, rfl, _, rfl, x, CK, dx, _, rfl, upd_same, T.cl, T.nC, (by show 1 < 1000; decide), ?_⟩
    exact q3 i j rfl rfl i0 i1 j0 j1 _ rfl
theorem ok_book_eq {f : Addr} {fd : FuncData} (F : Fun K "__eq__" "Book.__eq__" s_Book___eq__ f fd) (T : BkC K mg CK fK) (m_isinstance : mg "isinstance" = none) : FnOk P w K mg base CX0 1 f fd ["self", "other"] (spBookEq CK) := by
  refine F.ok sc_Book___eq__ (fun vs H Q E h => ?_) (fun cdv A outer s H vs Q E hr h => ?_)
  · obtain ⟨x, y, a, b, c, d, rfl, _⟩ := h
    rfl
  · obtain ⟨x, y, a, b, c, d, rfl, ⟨dx, hx⟩, ⟨dy, hy⟩, q⟩ := h
    refine ⟨_, (pss_one (ps_ret (pe_and (pe_callB call_isi (by rfl) m_isinstance (by decide +kernel) (pa_cons (pv 1) (pa_cons (pe_glob (v := .ref CK) rfl T.g rfl) pa_nil))) (pe_and (pe_cmpR op_eq (pe_fld (pv 0) rfl) (pe_fld (pv 1) rfl) (nomark _)) (pe_one (pe_cmpR op_eq (pe_fld (pv 0) rfl) (pe_fld (pv 1) rfl) (nomark _))))))), ?_⟩
    refine ⟨_, rfl, _, _, _, _, true, rfl, .own CK, .base (.ins hy T.cl T.kl T.gt T.tk T.mr), if_pos (beq_self_eq_true _), true, rfl, iteT ?_⟩
    refine ⟨_, rfl, x, CK, dx, _, _, rfl, hx, T.cl, T.nL, book_least _ _, _, rfl, y, CK, dy, _, _, rfl, hy, T.cl, T.nL, book_least _ _, rfl, ?_⟩
    by_cases h1 : a = c
    · rw [decide_eq_true (congrArg V.int h1)]
      refine ⟨true, rfl, iteT ⟨_, rfl, x, CK, dx, _, _, rfl, hx, T.cl, T.nC, book_close _ _, _, rfl, y, CK, dy, _, _, rfl, hy, T.cl, T.nC, book_close _ _, rfl, ?_⟩⟩
      rw [show decide (V.int b = V.int d) = decide (a = c ∧ b = d) from by
        by_cases h2 : b = d
        · rw [decide_eq_true (congrArg V.int h2), decide_eq_true ⟨h1, h2⟩]
        · rw [decide_eq_false (fun e => h2 (V.int.inj e)), decide_eq_false (fun e => h2 e.2)]]
      exact q
    · rw [decide_eq_false (fun e => h1 (V.int.inj e))]
      rw [decide_eq_false (fun e => h1 e.1)] at q
      exact ⟨false, rfl, iteF q⟩
def spBookEqT : Sp := fun vs H Q _ => ∃ (a b : Addr) (ys : List V), vs = [.ref a, .ref b] ∧ H b = some (.tup ys) ∧ Q (.bl false) H
theorem ok_book_eqT {f : Addr} {fd : FuncData} (F : Fun K "__eq__" "Book.__eq__" s_Book___eq__ f fd) (T : BkC K mg CK fK) (m_isinstance : mg "isinstance" = none) (kT : PySem.W.kitOne K (.type "tuple") (.ref CK) = some false) : FnOk P w K mg base CX0 1 f fd ["self", "other"] spBookEqT := by
  refine F.ok sc_Book___eq__ (fun vs H Q E h => ?_) (fun cdv A outer s H vs Q E hr h => ?_)
  · obtain ⟨a, b, ys, rfl, _⟩ := h
    rfl
  · obtain ⟨a, b, ys, rfl, hb, q⟩ := h
    refine ⟨_, (pss_one (ps_ret (pe_and (pe_callB call_isi (by rfl) m_isinstance (by decide +kernel) (pa_cons (pv 1) (pa_cons (pe_glob (v := .ref CK) rfl T.g rfl) pa_nil))) (pe_and (pe_cmpR op_eq (pe_fld (pv 0) rfl) (pe_fld (pv 1) rfl) (nomark _)) (pe_one (pe_cmpR op_eq (pe_fld (pv 0) rfl) (pe_fld (pv 1) rfl) (nomark _))))))), ?_⟩
    exact ⟨_, rfl, _, _, _, _, false, rfl, .own CK, .base (.tup hb), kT, false, rfl, iteF q⟩
end
end Sea
namespace Sea
open PySem PySem.Spec PyProof.Rows L2
def SameV : Nat → Hp → V → V → Prop
  | 0, _, x, y => Plain y ∧ x = y
  | n + 1, H, x, y => (Plain y ∧ x = y) ∨ ∃ (a b : Addr) (xs ys : List V), x = .ref a ∧ y = .ref b ∧ H a = some (.tup xs) ∧ H b = some (.tup ys) ∧ xs.length = ys.length ∧ ys.length ≤ 20000 ∧
      ∀ (i : Nat) (u v : V), xs[i]? = some u → ys[i]? = some v → SameV n H u v
theorem SameV.keep : ∀ {n : Nat} {H H' : Hp} {x y : V}, SameV n H x y → Same H H' → SameV n H' x y
  | 0, _, _, _, _, h, _ => h
  | n + 1, _, _, _, _, h, s => by
    rcases h with h | ⟨a, b, xs, ys, h1, h2, h3, h4, h5, h6, h7⟩
    · exact .inl h
    · exact .inr ⟨a, b, xs, ys, h1, h2, s _ _ h3, s _ _ h4, h5, h6, fun i u v e1 e2 => (h7 i u v e1 e2).keep s⟩
def spSame (n : Nat) : Sp := fun vs H Q _ => ∃ x y, vs = [x, y] ∧ SameV n H x y ∧ ∀ H', Same H H' → Q (.bl true) H'
def spNever : Sp := fun _ _ _ _ => False
section
variable {P : Program} {w : World} {K : PySem.W.Frag} {mg : Str → Option Value} {base : Heap}
theorem ok_same_at {f : Addr} {fd : FuncData} (F : Fun K "_law_same" "_law_same" s__law_same f fd) (m_isinstance : mg "isinstance" = none) (m_tuple : mg "tuple" = none) (m_bool : mg "bool" = none) (m_str : mg "str" = none) (m_int : mg "int" = none)
    (m_len : mg "len" = none) (m_all : mg "all" = none) (m_range : mg "range" = none) {k : Nat} {sp sp' : Sp} (c__law_same : Cal P w K mg base k "_law_same" sp)
    (hyp : ∀ vs H Q E, sp' vs H Q E → ∃ x y, vs = [x, y] ∧ (∀ H', Same H H' → Q (.bl true) H') ∧ ((Plain y ∧ x = y) ∨ ∃ (a b : Addr) (xs ys : List V), x = .ref a ∧ y = .ref b ∧ H a = some (.tup xs) ∧ H b = some (.tup ys) ∧ xs.length = ys.length ∧ ys.length ≤ 20000 ∧
      ∀ (i : Nat) (u v : V), xs[i]? = some u → ys[i]? = some v → ∀ H1 Q1 E1, Same H H1 → (∀ H', Same H1 H' → Q1 (.bl true) H') → sp [u, v] H1 Q1 E1)) :
    FnOk P w K mg base CX0 (k + 1) f fd ["_law_told", "_law_due_here"] sp' := by
  refine F.ok sc__law_same (fun vs H Q E h => ?_) (fun cdv A outer s H vs Q E hr h => ?_)
  · obtain ⟨x, y, rfl, _⟩ := hyp _ _ _ _ h
    rfl
  · obtain ⟨x, y, rfl, q, ways⟩ := hyp _ _ _ _ h
    refine ⟨_, (pss_cons (ps_if (pt_val (pe_callB call_isi (by rfl) m_isinstance (by decide +kernel) (pa_cons (pv 1) (pa_cons (pe_bltn (v := .ty "tuple") (by rfl) m_tuple (by decide +kernel) rfl) pa_nil))))
    (pss_cons (ps_if (PW.pt (pw_or (pt_not (pt_val (pe_callB call_isi (by rfl) m_isinstance (by decide +kernel) (pa_cons (pv 0) (pa_cons (pe_bltn (v := .ty "tuple") (by rfl) m_tuple (by decide +kernel) rfl) pa_nil))))) (pw_or1 (pt_cmpR op_ne (pe_callB call_len (by rfl) m_len (by decide +kernel) (pa_cons (pv 0) pa_nil)) (pe_callB call_len (by rfl) m_len (by decide +kernel) (pa_cons (pv 1) pa_nil)) (nomark _)))))
    (pss_one (ps_ret (pe_bl)))
    pss_nil)
    (pss_one (ps_ret (pe_callB (cr_all rfl) (by rfl) m_all (by decide +kernel) (pa_cons (pe_lc (own := [("_law_k", 2)]) rfl sc__law_same.nd (pi_range1 (by rfl) m_range (pa_cons (pe_callB call_len (by rfl) m_len (by decide +kernel) (pa_cons (pv 1) pa_nil)) pa_nil)) (blkOk_by (N := N__law_same) (sc := defScope s__law_same) (by decide +kernel)) (fun _ _ _ _ _ => (pg_name (i := 2) sc__law_same.nd rfl (Or.inl rfl))) (fun _ _ _ _ _ => pts_nil) (fun _ _ _ _ _ => (pe_c c__law_same hr (Nat.le_refl _) rfl (pa_cons (pe_ix (show IxR _ (rIxT K) from ix_tup) (pv 0) (pv 2) (fun _ _ => rfl)) (pa_cons (pe_ix (show IxR _ (rIxT K) from ix_tup) (pv 1) (pv 2) (fun _ _ => rfl)) pa_nil))))) pa_nil)))))
    pss_nil)
    (pss_cons (ps_if (pt_cmpR op_isN (pv 1) (pe_non) (nomark _))
    (pss_one (ps_ret (pe_cmpR op_isN (pv 0) (pe_non) (nomark _))))
    pss_nil)
    (pss_cons (ps_if (pt_val (pe_callB call_isi (by rfl) m_isinstance (by decide +kernel) (pa_cons (pv 1) (pa_cons (pe_bltn (v := .ty "bool") (by rfl) m_bool (by decide +kernel) rfl) pa_nil))))
    (pss_one (ps_ret (pe_and (pe_callB call_isi (by rfl) m_isinstance (by decide +kernel) (pa_cons (pv 0) (pa_cons (pe_bltn (v := .ty "bool") (by rfl) m_bool (by decide +kernel) rfl) pa_nil))) (pe_one (pe_cmpR op_eq (pv 0) (pv 1) (nomark _))))))
    pss_nil)
    (pss_cons (ps_if (pt_val (pe_callB call_isi (by rfl) m_isinstance (by decide +kernel) (pa_cons (pv 1) (pa_cons (pe_bltn (v := .ty "str") (by rfl) m_str (by decide +kernel) rfl) pa_nil))))
    (pss_one (ps_ret (pe_and (pe_callB call_isi (by rfl) m_isinstance (by decide +kernel) (pa_cons (pv 0) (pa_cons (pe_bltn (v := .ty "str") (by rfl) m_str (by decide +kernel) rfl) pa_nil))) (pe_one (pe_cmpR op_eq (pv 0) (pv 1) (nomark _))))))
    pss_nil)
    (pss_one (ps_ret (pe_and (pe_callB call_isi (by rfl) m_isinstance (by decide +kernel) (pa_cons (pv 0) (pa_cons (pe_bltn (v := .ty "int") (by rfl) m_int (by decide +kernel) rfl) pa_nil))) (pe_and (pe_not (pe_callB call_isi (by rfl) m_isinstance (by decide +kernel) (pa_cons (pv 0) (pa_cons (pe_bltn (v := .ty "bool") (by rfl) m_bool (by decide +kernel) rfl) pa_nil)))) (pe_one (pe_cmpR op_eq (pv 0) (pv 1) (nomark _))))))))))), ?_⟩
    rcases ways with ⟨hp, rfl⟩ | ⟨a, b, xs, ys, rfl, rfl, ha, hb, hl, hl2, hsub⟩
    · have q0 := q H (Same.refl H)
      cases x with
      | non =>
        exact ⟨_, rfl, _, _, _, _, false, rfl, .ty _, .base .non, kit_ty (by decide +kernel), false, rfl, _, rfl, rfl, _, rfl, _, rfl, rfl, q0⟩
      | bl c =>
        refine ⟨_, rfl, _, _, _, _, false, rfl, .ty _, .base (.bl c), kit_ty (by decide +kernel), false, rfl, _, rfl, rfl, _, rfl, _, rfl, _, _, _, _, true, rfl, .ty _, .base (.bl c), kit_ty (by decide +kernel), true, rfl, _, rfl, _, _, _, _, true, rfl, .ty _, .base (.bl c), kit_ty (by decide +kernel), true, rfl, iteT ⟨_, rfl, _, rfl, rfl, ?_⟩⟩
        rw [decide_eq_true rfl]
        exact q0
      | int i =>
        refine ⟨_, rfl, _, _, _, _, false, rfl, .ty _, .base (.int i), kit_ty (by decide +kernel), false, rfl, _, rfl, rfl, _, rfl, _, rfl, _, _, _, _, false, rfl, .ty _, .base (.int i), kit_ty (by decide +kernel), false, rfl, _, rfl, _, _, _, _, false, rfl, .ty _, .base (.int i), kit_ty (by decide +kernel), false, rfl, _, rfl, _, _, _, _, true, rfl, .ty _, .base (.int i), kit_ty (by decide +kernel), true, rfl, iteT ⟨_, rfl, _, _, _, _, false, rfl, .ty _, .base (.int i), kit_ty (by decide +kernel), ?_⟩⟩
        refine ⟨false, rfl, _, rfl, iteT ⟨_, rfl, _, rfl, rfl, ?_⟩⟩
        rw [decide_eq_true rfl]
        exact q0
      | str z =>
        refine ⟨_, rfl, _, _, _, _, false, rfl, .ty _, .base (.str z), kit_ty (by decide +kernel), false, rfl, _, rfl, rfl, _, rfl, _, rfl, _, _, _, _, false, rfl, .ty _, .base (.str z), kit_ty (by decide +kernel), false, rfl, _, rfl, _, _, _, _, true, rfl, .ty _, .base (.str z), kit_ty (by decide +kernel), true, rfl, _, rfl, _, _, _, _, true, rfl, .ty _, .base (.str z), kit_ty (by decide +kernel), true, rfl, iteT ⟨_, rfl, _, rfl, rfl, ?_⟩⟩
        rw [decide_eq_true rfl]
        exact q0
      | ref a => exact hp.elim
      | byt z => exact hp.elim
      | flt z => exact hp.elim
      | ty z => exact hp.elim
    · have hl3 : ys.length ≤ sizeLine := Nat.le_of_lt (small_line (Nat.le_trans hl2 (by decide)))
      have hl4 : xs.length ≤ sizeLine := hl ▸ hl3
      refine ⟨_, rfl, _, _, _, _, true, rfl, .ty _, .base (.tup hb), kit_ty (by decide +kernel), true, rfl, _, rfl, _, _, _, _, true, rfl, .ty _, .base (.tup ha), kit_ty (by decide +kernel), true, rfl, ?_⟩
      refine ⟨_, rfl, _, xs.length, rfl, .inr ⟨_, SqT.of ha, rfl⟩, _, rfl, _, ys.length, rfl, .inr ⟨_, SqT.of hb, rfl⟩, rfl, _, rfl, ?_⟩
      rw [hl]
      refine ite2 (fun e => absurd e (by simp)) (fun _ => ?_)
      refine ⟨_, rfl, _, ys.length, rfl, .inr ⟨_, SqT.of hb, rfl⟩, _, rfl, by omega, by omega, fun D hD => ?_⟩
      refine lc_it (walk_range (lo := 0) (n := ((ys.length : Nat) : Int).toNat)) (fun i H' => Same H H' ∧ H' D = some (.lst (List.replicate i (V.bl true)))) ⟨same_new hD, upd_same⟩ (fun _ _ _ _ => trivial) ?_ ?_
      · rintro i x Ha Hb hi ⟨hs, hd⟩ ⟨rfl, rfl⟩
        have hi' : i < ys.length := by rw [Int.toNat_natCast] at hi; exact hi
        have ex : xs[i]? = some (xs[i]'(hl ▸ hi')) := List.getElem?_eq_getElem (hl ▸ hi')
        have ey : ys[i]? = some (ys[i]'hi') := List.getElem?_eq_getElem hi'
        have at1 : atI xs (0 + (i : Nat)) = some (xs[i]'(hl ▸ hi')) := by rw [Int.zero_add]; exact atI_nat ex
        have at2 : atI ys (0 + (i : Nat)) = some (ys[i]'hi') := by rw [Int.zero_add]; exact atI_nat ey
        refine ⟨rfl, _, rfl, _, rfl, a, xs, _, _, rfl, rfl, SqT.of (hs _ _ ha), at1, _, rfl, _, rfl, b, ys, _, _, rfl, rfl, SqT.of (hs _ _ hb), at2, ?_⟩
        refine hsub i _ _ ex ey _ _ _ hs fun H2 s2 => ⟨_, s2 _ _ hd, ?_, same_over (hs.trans s2) hD, ?_⟩
        · rw [List.length_replicate]
          exact small_line (by omega)
        · rw [upd_same, List.replicate_succ']
      · rintro H' ⟨hs, hd⟩
        have hd2 : H' D = some (.lst ((List.replicate ys.length true).map V.bl)) := by rw [hd, Int.toNat_natCast, List.map_replicate]
        have q' := q H' hs
        have e : (List.replicate ys.length true).all id = true := List.all_eq_true.mpr fun b hb => by rw [List.eq_of_mem_replicate hb]; rfl
        refine ⟨D, _, rfl, SqL.of hd2, ?_⟩
        rw [e]
        exact q'
end
end Sea
namespace Sea
open PySem PySem.Spec PyProof.Rows L2
theorem hu64 {A : Around} {k : Nat} (hr : Room k A) : A.units + 64 < cLine := by
  have := hr.un
  omega
theorem same_tris {H : Hp} {t1 t2 : Addr} {N1 N2 : List (Addr × Tri)} (h1 : H t1 = some (.tup (refsT N1))) (h2 : H t2 = some (.tup (refsT N2))) (e : tris N1 = tris N2) (a1 : ∀ d ∈ N1, TAt H d) (a2 : ∀ d ∈ N2, TAt H d) (l : N2.length ≤ 20000) : SameV 2 H (.ref t1) (.ref t2) := by
  have le : N1.length = N2.length := by
    have := congrArg List.length e
    rw [List.length_map, List.length_map] at this
    exact this
  refine .inr ⟨t1, t2, _, _, rfl, rfl, h1, h2, by rw [List.length_map, List.length_map]; exact le, by rw [List.length_map]; exact l, fun i u v hu hv => ?_⟩
  obtain ⟨d1, g1, rfl⟩ := ref_at hu
  obtain ⟨d2, g2, rfl⟩ := ref_at hv
  have e1 : (tris N1)[i]? = some d1.2 := by rw [List.getElem?_map, g1]; rfl
  have e2 : (tris N2)[i]? = some d2.2 := by rw [List.getElem?_map, g2]; rfl
  have ed : d1.2 = d2.2 := by
    rw [e, e2] at e1
    exact (Option.some.inj e1).symm
  have b1 := a1 d1 (List.mem_of_getElem? g1)
  have b2 := a2 d2 (List.mem_of_getElem? g2)
  refine .inr ⟨d1.1, d2.1, _, _, rfl, rfl, b1, b2, rfl, (by show 3 ≤ 20000; decide), fun j u v hu hv => ?_⟩
  rw [ed] at hu
  rw [hu] at hv
  cases hv
  have : j < 3 := (List.getElem?_eq_some_iff.mp hu).1
  have : j = 0 ∨ j = 1 ∨ j = 2 := by omega
  rcases this with q | q | q <;> subst q <;> (cases hu; exact ⟨trivial, rfl⟩)
theorem rows_same {ps : List Piece} (nd : (ps.map (·.nm)).Nodup) : ∀ {rs rs' : List Piece}, (∀ p ∈ rs, p ∈ ps) → (∀ p ∈ rs', p ∈ ps) → (rs'.map (·.nm)).map V.str = (rs.map (·.nm)).map V.str → rs' = rs
  | [], [], _, _, _ => rfl
  | [], _ :: _, _, _, e => by cases e
  | _ :: _, [], _, _, e => by cases e
  | p :: r, p' :: r', h, h', e => by
    obtain ⟨e1, e2⟩ := List.cons.inj e
    rw [by_name nd (h p List.mem_cons_self) (h' p' List.mem_cons_self) (V.str.inj e1), rows_same nd (fun q hq => h q (List.mem_cons_of_mem _ hq)) (fun q hq => h' q (List.mem_cons_of_mem _ hq)) e2]
theorem addTri_len (b : Int) (T : List Tri) (t : Tri) : (addTri b T t).length ≤ T.length + 1 := by
  rcases List.eq_nil_or_concat T with e | ⟨T0, l, e⟩
  · subst e
    exact Nat.le_refl _
  · rw [List.concat_eq_append] at e
    subst e
    rw [addTri_snoc]
    split
    · rw [List.length_append, List.length_append]; exact Nat.le_succ _
    · rw [List.length_append]; exact Nat.le_refl _
theorem fold_tri_len {b : Int} : ∀ {S T : List Tri}, (S.foldl (addTri b) T).length ≤ T.length + S.length
  | [], _ => Nat.le_refl _
  | t :: r, T => by
    rw [List.foldl_cons, List.length_cons]
    have h1 := fold_tri_len (b := b) (S := r) (T := addTri b T t)
    have h2 := addTri_len b T t
    omega
theorem rowShow_len : ∀ (n : Nat) (ps : List (List Tri × Int)), ps.length = n → (∀ p ∈ ps, p.1.length ≤ 40) → (rowShow ps).1.length ≤ 40 * n := by
  intro n
  induction n with
  | zero =>
    intro ps hl _
    cases ps with
    | nil => exact Nat.le_refl _
    | cons a r => cases hl
  | succ n ih =>
    intro ps hl h
    have hne : ps ≠ [] := by intro e; rw [e] at hl; cases hl
    have e := (List.dropLast_concat_getLast hne).symm
    generalize ps.dropLast = qs at e
    generalize ps.getLast hne = p at e
    subst e
    have lq : qs.length = n := by
      rw [List.length_append, List.length_cons, List.length_nil] at hl
      omega
    have i1 := ih qs lq fun p hp => h p (List.mem_append_left _ hp)
    have hp := h p (List.mem_append_right _ (List.mem_singleton.mpr rfl))
    rw [rowShow_snoc]
    have := fold_tri_len (b := (rowShow qs).2) (S := p.1) (T := (rowShow qs).1)
    show (p.1.foldl (addTri (rowShow qs).2) (rowShow qs).1).length ≤ _
    omega
end Sea
namespace Sea
open PySem PySem.Spec PyProof.Rows L2
theorem plan_grain (v1 v2 v3 v4 v5 v6 v7 v8 v9 v10 v11 v12 v13 : V) : (planF v1 v2 v3 v4 v5 v6 v7 v8 v9 v10 v11 v12 v13).lookup ("_grain" : Str) = some v7 := by unfold planF; (repeat first | rw [lookup_putF, if_neg (by decide +kernel)] | rw [lookup_putF, if_pos rfl])
theorem carry_snoc (least close : Int) (S : List Tri) (t : Tri) : carry least close (S ++ [t]) = carryStep least close (carry least close S) t := by
  unfold carry
  rw [List.foldl_append]
  rfl
theorem carryStep_len {least close : Int} {T : List Tri} {t : Tri} : (carryStep least close T t).length ≤ T.length + 1 := by
  unfold carryStep
  split
  · omega
  · split
    · rw [List.length_append]; exact Nat.le_refl _
    · rename_i l hl
      have h1 : 1 ≤ T.length := by
        cases T with
        | nil => cases hl
        | cons a r => rw [List.length_cons]; omega
      split
      · rw [List.length_append]; exact Nat.le_refl _
      · split
        · rw [List.length_append, List.length_dropLast, List.length_cons, List.length_nil]
          omega
        · rw [List.length_append, List.length_dropLast, List.length_cons, List.length_cons, List.length_nil]
          omega
def spCarr (CP CR CK : Addr) : Sp := fun vs H Q _ => ∃ (x b ra : Addr) (len le cl : Int) (L : List (Addr × Cue)) (ps : List Piece) (as : List (Str × Str)) (ss es : List Str) (rs : List Piece), vs = [.ref x, .ref b, .ref ra] ∧ PlanAt H CR CP x len L ps as ss es ∧ BookAt H CK b le cl ∧ L.length ≤ 40 ∧
  H ra = some (.tup ((rs.map (·.nm)).map V.str)) ∧ (∀ p ∈ rs, p ∈ ps) ∧ rs.length ≤ 400 ∧
  ∀ (H' : Hp) (t : Addr) (N : List (Addr × Tri)), Same H H' → H' t = some (.tup (refsT N)) → tris N = carry (le * grainTo ps) (cl * grainTo ps) (rowShow (rs.map (pieceRow ps (cuesC L)))).1 → (∀ e ∈ N, TAt H' e) → Q (.ref t) H'
/-- a list of triples that grows at D -/
structure Lst (H1 : Hp) (D : Addr) (Hc : Hp) (N : List (Addr × Tri)) : Prop where
  kb : KB D H1 Hc
  at_ : Hc D = some (.lst (refsT N))
  tr : ∀ e ∈ N, TAt Hc e
theorem Lst.put {H1 Hc : Hp} {D T2 : Addr} {N N' : List (Addr × Tri)} {tr : Tri} {ys : List V} (h : Lst H1 D Hc N) (h2 : Hc T2 = none) (ey : ys = refsT N') (hm : ∀ d ∈ N', d ∈ N ∨ d = (T2, tr)) : Lst H1 D (upd (upd Hc T2 (.tup (Tri.vs tr))) D (.lst ys)) N' := by
  subst ey
  have sT2 := same_new (o := .tup (Tri.vs tr)) h2
  have ko : KT Hc (upd (upd Hc T2 (.tup (Tri.vs tr))) D (.lst (refsT N'))) := (KT.of_same sT2).over (sT2 _ _ h.at_)
  refine ⟨kb_put fun b o n hb => sT2 _ _ (h.kb b o n hb), upd_same, fun d hd => ?_⟩
  rcases hm d hd with h' | h'
  · exact ko _ _ (h.tr d h')
  · rw [h']
    exact ((KT.refl (upd Hc T2 (.tup (Tri.vs tr)))).over (zs := refsT N') (sT2 _ _ h.at_)) _ _ upd_same
theorem last_set {N3 : List (Addr × Tri)} {l : Addr × Tri} {T2 : Addr} {tr : Tri} : (refsT (N3 ++ [l])).set N3.length (V.ref T2) = refsT (N3 ++ [(T2, tr)]) := by
  rw [refsT_app, refsT_app]
  show ((List.map _ N3) ++ [V.ref l.1]).set _ _ = _
  rw [List.set_append_right _ _ (by rw [List.length_map]; exact Nat.le_refl _), List.length_map, Nat.sub_self]
  rfl
theorem mem_snoc {N3 : List (Addr × Tri)} {l x : Addr × Tri} : ∀ d ∈ N3 ++ [x], d ∈ N3 ++ [l] ∨ d = x := fun d hd => by
  rcases List.mem_append.mp hd with h | h
  · exact .inl (List.mem_append_left _ h)
  · exact .inr (List.mem_singleton.mp h)
theorem mem_push {N : List (Addr × Tri)} {x : Addr × Tri} : ∀ d ∈ N ++ [x], d ∈ N ∨ d = x := fun d hd => by
  rcases List.mem_append.mp hd with h | h
  · exact .inl h
  · exact .inr (List.mem_singleton.mp h)
/-- a property of an own class keeps its promise -/
def OwnP (P : Program) (w : World) (K : PySem.W.Frag) (mg : Str → Option Value) (base : Heap) (k : Nat) (C : Addr) (nm : Str) (sp : Sp) : Prop :=
  ∃ (p g : Addr) (fd : FuncData), PropOf K C nm p g ∧ FnOk P w K mg base CX0 k g fd ["self"] sp ∧ Binds K fd ["self"] []
def spGrain (CP CR : Addr) : Sp := fun vs H Q _ => ∃ (x : Addr) (len : Int) (L : List (Addr × Cue)) (ps : List Piece) (as : List (Str × Str)) (ss es : List Str), vs = [.ref x] ∧ PlanAt H CR CP x len L ps as ss es ∧ Q (.int (grainTo ps)) H
section
variable {P : Program} {w : World} {K : PySem.W.Frag} {mg : Str → Option Value} {base : Heap} {CR CP CK CB fR fP fK : Addr}
theorem ok_grain {f : Addr} {fd : FuncData} (F : Fun K "grain" "Plan.grain" s_Plan_grain f fd) (TP : PlC K mg CP fP) : FnOk P w K mg base CX0 1 f fd ["self"] (spGrain CP CR) := by
  refine F.ok sc_Plan_grain (fun vs H Q E h => ?_) (fun cdv A outer s H vs Q E hr h => ?_)
  · obtain ⟨x, len, L, ps, as, ss, es, rfl, _⟩ := h
    rfl
  · obtain ⟨x, len, L, ps, as, ss, es, rfl, hP, q⟩ := h
    obtain ⟨dx, xr, pt, nt, at', st, et, dP, dF, dS, dB, dT, dQ, hx, B⟩ := id hP
    exact ⟨_, (pss_one (ps_ret (pe_fld (pv 0) rfl))), _, rfl, x, CP, dx, _, _, rfl, hx, TP.cl, TP.nG, plan_grain .., q⟩
theorem ok_row_carried {f : Addr} {fd : FuncData} (F : Fun K "row_carried" "row_carried" s_row_carried f fd) (TP : PlC K mg CP fP) (TK : BkC K mg CK fK) (m_len : mg "len" = none) (m_tuple : mg "tuple" = none) (pG : OwnP P w K mg base 1 CP "grain" (spGrain CP CR)) (c_row_showings : Cal P w K mg base 3 "row_showings" (spRowShow CP CR)) :
    FnOk P w K mg base CX0 4 f fd ["plan", "book", "names"] (spCarr CP CR CK) := by
  obtain ⟨pg, gg, fdG, PG, FG, bG⟩ := pG
  refine F.ok sc_row_carried (fun vs H Q E h => ?_) (fun cdv A outer s H vs Q E hr h => ?_)
  · obtain ⟨x, b, ra, len, le, cl, L, ps, as, ss, es, rs, rfl, _⟩ := h
    rfl
  · obtain ⟨x, b, ra, len, le, cl, L, ps, as, ss, es, rs, rfl, hP, hK, l40, hra, hrs, r400, q⟩ := h
    refine ⟨_, (pss_cons (ps_set (i := 3) sc_row_carried.nd rfl (Or.inl rfl) (pe_op op_mul (pe_fld (pv 1) rfl) (pe_prop (E := E0) (pv 0) TP.cl PG FG (hr.mono (by decide)) bG .nil pass0 (by rfl))))
    (pss_cons (ps_set (i := 4) sc_row_carried.nd rfl (Or.inl rfl) (pe_op op_mul (pe_fld (pv 1) rfl) (pe_prop (E := E0) (pv 0) TP.cl PG FG (hr.mono (by decide)) bG .nil pass0 (by rfl))))
    (pss_cons (ps_set (i := 5) sc_row_carried.nd rfl (Or.inl rfl) (pe_lst pa_nil))
    (pss_cons (ps_for PassesOwn.never rfl (pi_tup (pe_c c_row_showings hr (by decide) rfl (pa_cons (pv 0) (pa_cons (pv 2) pa_nil)))) (pg_tup rfl (pgs_cons (pg_name (i := 6) sc_row_carried.nd rfl (Or.inl rfl)) (pgs_cons (pg_name (i := 7) sc_row_carried.nd rfl (Or.inl rfl)) (pgs_cons (pg_name (i := 8) sc_row_carried.nd rfl (Or.inl rfl)) pgs_nil))))
    (pss_cons (ps_if (pt_cmpR op_lt (pe_op op_sub (pv 8) (pv 7)) (pv 3) (nomark _))
    (pss_one ps_continue)
    pss_nil)
    (pss_one (ps_if (PW.pt (pw_or (pt_cmpR op_eq (pe_callB call_len (by rfl) m_len (by decide +kernel) (pa_cons (pv 5) pa_nil)) (pe_int) (nomark _)) (pw_or1 (pt_cmpR op_ge (pe_op op_sub (pv 7) (pe_ix ix_tup (pe_ix ix_list (pv 5) (pe_un un_neg (pe_int)) (fun _ _ => rfl)) (pe_int) (fun _ _ => rfl))) (pv 4) (nomark _)))))
    (pss_one (ps_expr (pe_bm PySem.F.plainAttrs_list PySem.F.slot_list_append PySem.F.type_list_append mt_append (pv 5) (pa_cons (pe_tup (pa_cons (pv 6) (pa_cons (pv 7) (pa_cons (pv 8) pa_nil)))) pa_nil))))
    (pss_one (ps_if (pt_cmpR op_eq (pe_ix ix_tup (pe_ix ix_list (pv 5) (pe_un un_neg (pe_int)) (fun _ _ => rfl)) (pe_int) (fun _ _ => rfl)) (pv 6) (nomark _))
    (pss_one (ps_asg (pe_tup (pa_cons (pv 6) (pa_cons (pe_ix ix_tup (pe_ix ix_list (pv 5) (pe_un un_neg (pe_int)) (fun _ _ => rfl)) (pe_int) (fun _ _ => rfl)) (pa_cons (pv 8) pa_nil)))) (pg_sub (pv 5) (pe_un un_neg (pe_int)) set_list)))
    (pss_cons (ps_asg (pe_tup (pa_cons (pe_ix ix_tup (pe_ix ix_list (pv 5) (pe_un un_neg (pe_int)) (fun _ _ => rfl)) (pe_int) (fun _ _ => rfl)) (pa_cons (pe_ix ix_tup (pe_ix ix_list (pv 5) (pe_un un_neg (pe_int)) (fun _ _ => rfl)) (pe_int) (fun _ _ => rfl)) (pa_cons (pv 7) pa_nil)))) (pg_sub (pv 5) (pe_un un_neg (pe_int)) set_list))
    (pss_one (ps_expr (pe_bm PySem.F.plainAttrs_list PySem.F.slot_list_append PySem.F.type_list_append mt_append (pv 5) (pa_cons (pe_tup (pa_cons (pv 6) (pa_cons (pv 7) (pa_cons (pv 8) pa_nil)))) pa_nil)))))))))))
    (pss_one (ps_ret (pe_callTy call_tuple_of (by rfl) m_tuple (by decide +kernel) (pa_cons (pv 5) pa_nil)))))))), ?_⟩
    obtain ⟨dx, xr, pt, nt, at', st, et, dP, dF, dS, dB, dT, dQ, hx, B⟩ := id hP
    obtain ⟨db, hb⟩ := id hK
    obtain ⟨gr1, gr2⟩ := grain_le (ps := ps) fun p hp => ⟨(B.good p hp).d1, (B.good p hp).d6⟩
    have ck : ∀ i : Int, CMul i (grainTo ps) := fun i => .inr ⟨by omega, by omega⟩
    refine ⟨_, rfl, b, CK, db, _, _, rfl, hb, TK.cl, TK.nL, book_least _ _, _, rfl, x, dx, _, rfl, hx, x, len, L, ps, as, ss, es, rfl, hP, _, _, rfl, rfl, ck _, ?_⟩
    refine ⟨_, rfl, b, CK, db, _, _, rfl, hb, TK.cl, TK.nC, book_close _ _, _, rfl, x, dx, _, rfl, hx, x, len, L, ps, as, ss, es, rfl, hP, _, _, rfl, rfl, ck _, ?_⟩
    refine ⟨Nat.zero_le _, fun D hD => ?_⟩
    have sD := same_new (o := .lst []) hD
    refine ⟨_, rfl, _, rfl, x, ra, len, L, ps, as, ss, es, rs, rfl, hP.keep sD, by omega, sD _ _ hra, hrs, r400, fun H1 t S s1 ht eS hS => ⟨t, rfl, ⟨_, SqT.of ht⟩, ?_⟩⟩
    have lS : S.length ≤ 20000 := by
      have h1 := rowShow_len _ (rs.map (pieceRow ps (cuesC L))) rfl fun z hz => by
        obtain ⟨p, hp, rfl⟩ := List.mem_map.mp hz
        exact Nat.le_trans (strip_len p (factorOf (grainTo ps) p) (cuesC L)) (by rw [List.length_map]; exact l40)
      have h2 := congrArg List.length eS
      rw [List.length_map] at h1 h2
      omega
    rw [← eS] at q
    have hD1 : H1 D = some (.lst []) := s1 _ _ upd_same
    refine for_it walk_tup (fun i σ H' => (∃ k6 k7 k8 : Option V, σ = [some (.ref x), some (.ref b), some (.ref ra), some (.int (le * grainTo ps)), some (.int (cl * grainTo ps)), some (.ref D), k6, k7, k8]) ∧ ∃ N : List (Addr × Tri), Lst H1 D H' N ∧ tris N = carry (le * grainTo ps) (cl * grainTo ps) ((tris S).take i) ∧ N.length ≤ i)
      ⟨⟨_, _, _, rfl⟩, [], ⟨fun _ _ _ h => h, hD1, fun _ h => nomatch h⟩, rfl, Nat.le_refl _⟩ (fun i σ H' _ ⟨_, N, hv, _⟩ => SqT.of (hv.kb _ _ (fun e => by rw [e, hD1] at ht; cases ht) ht)) ?_ ?_
    · rintro i y σ Hc Hd hi ⟨⟨k6, k7, k8, rfl⟩, N, hv, hn, lN⟩ ⟨rfl, hy⟩
      obtain ⟨t, htt, rfl⟩ := ref_at hy
      have tA : TAt Hd t := hv.kb _ _ (fun e => by have := hS t (List.mem_of_getElem? htt); unfold TAt at this; rw [e, hD1] at this; cases this) (hS t (List.mem_of_getElem? htt))
      have ht2 : (tris S)[i]? = some t.2 := by rw [List.getElem?_map, htt]; rfl
      have hi' : i < S.length := (List.getElem?_eq_some_iff.mp htt).1
      have tk : carry (le * grainTo ps) (cl * grainTo ps) ((tris S).take (i + 1)) = carryStep (le * grainTo ps) (cl * grainTo ps) (tris N) t.2 := by
        rw [List.take_add_one, ht2]
        show carry (le * grainTo ps) (cl * grainTo ps) (_ ++ [t.2]) = _
        rw [carry_snoc, hn]
      refine ⟨t.1, _, rfl, SqT.of tA, rfl, _, _, rfl, _, _, rfl, _, _, rfl, rfl, ?_⟩
      refine ⟨_, rfl, _, rfl, _, _, rfl, rfl, _, rfl, _, _, rfl, rfl, _, rfl, ite2 (fun h1 => ?_) (fun h1 => ?_)⟩
      · have h1 : t.2.2.2 - t.2.2.1 < (le * grainTo ps) := of_decide_eq_true h1
        refine ⟨⟨_, _, _, rfl⟩, N, hv, ?_, by omega⟩
        rw [tk]
        exact (if_pos h1).symm
      have h1 : ¬ t.2.2.2 - t.2.2.1 < (le * grainTo ps) := fun z => h1 (decide_eq_true z)
      have fin : ∀ {N' : List (Addr × Tri)} {H' : Hp}, Lst H1 D H' N' → tris N' = carryStep (le * grainTo ps) (cl * grainTo ps) (tris N) t.2 → ∃ N : List (Addr × Tri), Lst H1 D H' N ∧ tris N = carry (le * grainTo ps) (cl * grainTo ps) ((tris S).take (i + 1)) ∧ N.length ≤ i + 1 := fun {N' H'} a e => ⟨N', a, e.trans tk.symm, by
        have h2 := congrArg List.length e
        have h3 := carryStep_len (least := le * grainTo ps) (close := cl * grainTo ps) (T := tris N) (t := t.2)
        rw [List.length_map] at h2 h3
        omega⟩
      refine ⟨_, rfl, _, N.length, rfl, .inl ⟨_, SqL.of hv.at_, (List.length_map ..).symm⟩, rfl, _, rfl, ?_⟩
      rcases List.eq_nil_or_concat N with e | ⟨N3, l, e⟩
      · subst e
        refine iteT ⟨_, rfl, .inl ⟨rfl, _, SqL.of hv.at_⟩, _, rfl, _, rfl, _, rfl, Nat.le_of_lt (small_line (by show 3 ≤ 100000; decide)), fun T2 hT2 => ⟨D, _, _, rfl, rfl, same_new (o := .tup _) hT2 _ _ hv.at_, small_line (by show 0 ≤ 100000; decide), ⟨_, _, _, rfl⟩, fin (hv.put (tr := t.2) (N' := [(T2, t.2)]) hT2 rfl (mem_push (N := []))) ?_⟩⟩
        exact (if_neg h1).symm
      · rw [List.concat_eq_append] at e
        subst e
        have lA := hv.tr l (List.mem_append_right _ (List.mem_singleton.mpr rfl))
        have hl : atI (refsT (N3 ++ [l])) (-1) = some (V.ref l.1) := by rw [refsT_app]; exact atI_last _ _
        have eT : tris (N3 ++ [l]) = tris N3 ++ [l.2] := tris_app ..
        have lN3 : N3.length + 1 ≤ 20000 := by
          rw [List.length_append] at lN
          have : N3.length + 1 ≤ i := lN
          omega
        have ix : ∀ y : V, ixN (refsT (N3 ++ [l])).length (-1) = some N3.length := fun _ => by
          rw [List.length_map, List.length_append, List.length_cons, List.length_nil]
          exact ixN_last _
        have big : ∀ {m : Nat}, m ≤ 20000 → m ≤ 100000 := fun h => by omega
        rw [decide_eq_false (show ¬ V.int (((N3 ++ [l]).length : Nat) : Int) = V.int 0 by
          intro e
          have e := V.int.inj e
          rw [List.length_append, List.length_cons] at e
          omega)]
        refine iteF ⟨_, rfl, _, rfl, _, rfl, D, _, _, _, rfl, rfl, SqL.of hv.at_, hl, l.1, _, 2, _, rfl, rfl, SqT.of lA, atI_nat (j := 2) rfl, _, _, rfl, rfl, _, rfl, _, _, rfl, rfl, _, rfl, ite2 (fun h2 => ?_) (fun h2 => ?_)⟩
        · have h2 : t.2.2.1 - l.2.2.2 ≥ (cl * grainTo ps) := of_decide_eq_true h2
          refine ⟨_, rfl, .inl ⟨rfl, _, SqL.of hv.at_⟩, _, rfl, _, rfl, _, rfl, Nat.le_of_lt (small_line (by show 3 ≤ 100000; decide)), fun T2 hT2 => ⟨D, _, _, rfl, rfl, same_new (o := .tup _) hT2 _ _ hv.at_, small_line (by rw [List.length_map, List.length_append]; exact big lN3), ⟨_, _, _, rfl⟩, fin (hv.put (tr := t.2) (N' := N3 ++ [l] ++ [(T2, t.2)]) hT2 (by rw [refsT_app (N3 ++ [l])]; rfl) mem_push) ?_⟩⟩
          rw [tris_app, eT, step_kept h1, if_pos h2]
          rfl
        have h2 : ¬ t.2.2.1 - l.2.2.2 ≥ (cl * grainTo ps) := fun z => h2 (decide_eq_true z)
        refine ⟨_, rfl, _, rfl, D, _, _, _, rfl, rfl, SqL.of hv.at_, hl, l.1, _, 0, _, rfl, rfl, SqT.of lA, atI_nat (j := 0) rfl, _, rfl, rfl, _, rfl, ite2 (fun h3 => ?_) (fun h3 => ?_)⟩
        · have h3 : l.2.1 = t.2.1 := V.int.inj (of_decide_eq_true h3)
          refine ⟨_, rfl, _, rfl, _, rfl, D, _, _, _, rfl, rfl, SqL.of hv.at_, hl, l.1, _, 1, _, rfl, rfl, SqT.of lA, atI_nat (j := 1) rfl, _, rfl, Nat.le_of_lt (small_line (by show 3 ≤ 100000; decide)), fun T2 hT2 => ?_⟩
          have hd3 := same_new (o := .tup [V.int t.2.1, V.int l.2.2.1, V.int t.2.2.2]) hT2 _ _ hv.at_
          refine ⟨_, rfl, _, rfl, D, _, _, N3.length, rfl, rfl, hd3, ix .non, ⟨_, _, _, rfl⟩, fin (hv.put (tr := (t.2.1, l.2.2.1, t.2.2.2)) (N' := N3 ++ [(T2, (t.2.1, l.2.2.1, t.2.2.2))]) hT2 (last_set (l := l)) mem_snoc) ?_⟩
          rw [tris_app, eT, step_kept h1, if_neg h2, if_pos h3]
          rfl
        · have h3 : ¬ l.2.1 = t.2.1 := fun z => h3 (decide_eq_true (congrArg V.int z))
          refine ⟨_, rfl, _, rfl, D, _, _, _, rfl, rfl, SqL.of hv.at_, hl, l.1, _, 0, _, rfl, rfl, SqT.of lA, atI_nat (j := 0) rfl, _, rfl, _, rfl, D, _, _, _, rfl, rfl, SqL.of hv.at_, hl, l.1, _, 1, _, rfl, rfl, SqT.of lA, atI_nat (j := 1) rfl, _, rfl, Nat.le_of_lt (small_line (by show 3 ≤ 100000; decide)), fun T2 hT2 => ?_⟩
          have hd3 := same_new (o := .tup [V.int l.2.1, V.int l.2.2.1, V.int t.2.2.1]) hT2 _ _ hv.at_
          refine ⟨_, rfl, _, rfl, D, _, _, N3.length, rfl, rfl, hd3, ix .non, ?_⟩
          have hv2 := hv.put (tr := (l.2.1, l.2.2.1, t.2.2.1)) (N' := N3 ++ [(T2, (l.2.1, l.2.2.1, t.2.2.1))]) hT2 (last_set (l := l)) mem_snoc
          refine ⟨_, rfl, .inl ⟨rfl, _, SqL.of hv2.at_⟩, _, rfl, _, rfl, _, rfl, Nat.le_of_lt (small_line (by show 3 ≤ 100000; decide)), fun T3 hT3 => ⟨D, _, _, rfl, rfl, same_new (o := .tup _) hT3 _ _ hv2.at_, small_line (by rw [List.length_map, List.length_append]; exact big lN3), ⟨_, _, _, rfl⟩, fin (hv2.put (tr := t.2) (N' := N3 ++ [(T2, (l.2.1, l.2.2.1, t.2.2.1))] ++ [(T3, t.2)]) hT3 (by rw [refsT_app (N3 ++ [_])]; rfl) mem_push) ?_⟩⟩
          rw [tris_app, tris_app, eT, step_kept h1, if_neg h2, if_neg h3, List.append_assoc]
          rfl
    rintro σ H2 ⟨⟨k6, k7, k8, rfl⟩, N, hv, hn, lN⟩
    have lr : (refsT S).length = (tris S).length := by rw [List.length_map, List.length_map]
    rw [lr, List.take_length] at hn
    refine ⟨_, rfl, D, _, rfl, .inl ⟨SqL.of hv.at_, fun p hp => ?_⟩⟩
    have sp := same_new (o := .tup (refsT N)) hp
    refine q _ p N (fun a o h => sp _ _ (hv.kb _ _ (ne_of_none h hD) (s1 _ _ (sD _ _ h)))) upd_same hn fun e he => (hv.tr e he).keep sp
end
end Sea
namespace Sea
open PySem PySem.Spec PyProof.Rows L2
/-- the cue that is on at the end -/
def lastOn (T : List Tri) (b : Int) : Option Int :=
  match T.getLast? with
  | some l => if l.2.2 = b then some l.1 else none
  | none => none
theorem lastOn_snoc (T : List Tri) (l : Tri) (b : Int) : lastOn (T ++ [l]) b = if l.2.2 = b then some l.1 else none := by
  unfold lastOn
  rw [List.getLast?_concat]
/-- told by what was on -/
def addOn (on : Option Int) (b : Int) (told : List Tri) (t : Tri) : List Tri :=
  if t.2.1 = 0 ∧ on = some t.1 then match told.getLast? with | some l => told.dropLast ++ [(l.1, l.2.1, b + t.2.2)] | none => told else told ++ [(t.1, b + t.2.1, b + t.2.2)]
theorem addOn_eq {b : Int} {told : List Tri} {t : Tri} : addOn (lastOn told b) b told t = addTri b told t := by
  unfold addOn
  rcases List.eq_nil_or_concat told with e | ⟨T0, l, e⟩
  · subst e
    rw [if_neg (fun q => by cases q.2)]
    rfl
  · rw [List.concat_eq_append] at e
    subst e
    rw [lastOn_snoc, addTri_snoc]
    by_cases h1 : l.2.2 = b
    · rw [if_pos h1]
      by_cases h2 : t.2.1 = 0 ∧ l.1 = t.1
      · rw [if_pos ⟨h2.1, congrArg some h2.2⟩, if_pos ⟨h2.1, h2.2, h1⟩, List.getLast?_concat, List.dropLast_concat]
        show _ ++ [(l.1, l.2.1, b + t.2.2)] = _
        rw [h2.2]
      · rw [if_neg fun q => h2 ⟨q.1, Option.some.inj q.2⟩, if_neg fun q => h2 ⟨q.1, q.2.1⟩]
    · rw [if_neg h1, if_neg (fun q => by cases q.2), if_neg (fun q => h1 q.2.2)]
theorem addOn_late {on : Option Int} {b : Int} {told : List Tri} {t : Tri} (h : t.2.1 ≠ 0) : addOn on b told t = addTri b told t := by
  unfold addOn addTri
  rw [if_neg fun q => h q.1]
  split
  · rw [if_neg fun q => h q.1]
  · rfl
theorem fold_on {b : Int} {told : List Tri} : ∀ {S : List Tri} {n : Int}, WFs 0 S n → S.foldl (addOn (lastOn told b) b) told = S.foldl (addTri b) told
  | [], _, _ => rfl
  | t :: r, n, h => by
    rw [List.foldl_cons, List.foldl_cons, addOn_eq]
    have late : ∀ {S : List Tri} {v m : Int} {T : List Tri}, 0 < v → WFs v S m → S.foldl (addOn (lastOn told b) b) T = S.foldl (addTri b) T := fun {S} => by
      induction S with
      | nil => intros; rfl
      | cons u r' ih =>
        intro v m T hv hw
        obtain ⟨h1, h2, h3⟩ := hw
        rw [List.foldl_cons, List.foldl_cons, addOn_late (by omega), ih (v := u.2.2) (by omega) h3]
    obtain ⟨h1, h2, h3⟩ := h
    exact late (v := t.2.2) (by omega) h3
/-- what is on behind a strip -/
def endOn (S : List Tri) (n : Int) : Option Int := lastOn S n
theorem fold_last {b : Int} : ∀ {S : List Tri} {T : List Tri} {l : Tri}, S.getLast? = some l → ∃ s, (S.foldl (addTri b) T).getLast? = some (l.1, s, b + l.2.2) := by
  intro S T l h
  rcases List.eq_nil_or_concat S with e | ⟨S0, d, e⟩
  · subst e
    cases h
  · rw [List.concat_eq_append] at e
    subst e
    rw [List.getLast?_concat] at h
    cases h
    rw [foldl_snoc]
    rcases List.eq_nil_or_concat (S0.foldl (addTri b) T) with e | ⟨T0, m, e⟩
    · rw [e, addTri_nil]
      exact ⟨_, rfl⟩
    · rw [List.concat_eq_append] at e
      rw [e, addTri_snoc]
      split
      · exact ⟨_, List.getLast?_concat⟩
      · exact ⟨_, List.getLast?_concat⟩
theorem lastOn_step {acc : List Tri × Int} {p : List Tri × Int} (hp : WFs 0 p.1 p.2) (hw : WFs 0 acc.1 acc.2) (pos : 0 < p.2) : lastOn (rowStep acc p).1 (rowStep acc p).2 = endOn p.1 p.2 := by
  show lastOn (p.1.foldl (addTri acc.2) acc.1) (acc.2 + p.2) = lastOn p.1 p.2
  cases h : p.1.getLast? with
  | none =>
    have e : p.1 = [] := by
      cases q : p.1 with
      | nil => rfl
      | cons a r => rw [q] at h; exact absurd h (by simp)
    rw [e]
    show lastOn acc.1 (acc.2 + p.2) = none
    unfold lastOn
    cases h2 : acc.1.getLast? with
    | none => rfl
    | some l =>
      have := (wf_last hw).2 l h2
      show (if l.2.2 = acc.2 + p.2 then _ else _) = _
      rw [if_neg (by omega)]
  | some l =>
    obtain ⟨s, hs⟩ := fold_last (b := acc.2) (T := acc.1) h
    unfold lastOn
    rw [hs, h]
    show (if acc.2 + l.2.2 = acc.2 + p.2 then some l.1 else none) = if l.2.2 = p.2 then some l.1 else none
    by_cases q : l.2.2 = p.2
    · rw [if_pos (by omega), if_pos q]
    · rw [if_neg (by omega), if_neg q]
end Sea
namespace Sea
open PySem PySem.Spec PyProof.Rows L2
def spShowL : Sp := fun vs H Q _ => ∃ (ma ra : Addr) (len : Int) (cs : List Cue) (ps : List Piece) (as : List (Str × Str)) (rs : List Piece), vs = [.ref ma, .ref ra] ∧ ModelAt H ma cs ps as ∧ H ra = some (.lst ((rs.map (·.nm)).map V.str)) ∧ (∀ p ∈ rs, p ∈ ps) ∧ rs.length ≤ 400 ∧ cs.length ≤ 40 ∧ chainC len 0 cs ∧ (∀ p ∈ ps, GoodP len p) ∧ (ps.map (·.nm)).Nodup ∧
  ∀ (H' : Hp) (t : Addr) (N : List (Addr × Tri)), Same H H' → H' t = some (.lst (refsT N)) → tris N = (rowShow (rs.map (pieceRow ps cs))).1 → (∀ e ∈ N, TAt H' e) → Q (.ref t) H'
theorem DI.get {G : Hp → Str → V → Prop} {ns : List Str} {n : Nat} {H : Hp} {d : Addr} {z : Str} (h : DI G ns n H d) (hn : ns.length ≤ n) (hz : z ∈ ns) : ∃ ks v, H d = some (.dK ks) ∧ valV ks (Sum.inr z) = some v ∧ G H z v := by
  obtain ⟨ks, h1, _, h3⟩ := h
  obtain ⟨v, h4, h5⟩ := h3 z (by rw [List.take_of_length_le hn]; exact hz)
  exact ⟨ks, v, h1, h4, h5⟩
theorem fold_len {on : Option Int} {b : Int} : ∀ {S T : List Tri}, T.length ≤ (S.foldl (addOn on b) T).length
  | [], _ => Nat.le_refl _
  | t :: r, T => by
    rw [List.foldl_cons]
    refine Nat.le_trans ?_ (fold_len (S := r))
    unfold addOn
    split
    · split
      · rename_i l h
        rcases List.eq_nil_or_concat T with e | ⟨T0, d, e⟩
        · rw [e] at h; cases h
        · rw [e, List.concat_eq_append, List.dropLast_concat, List.length_append, List.length_append]
          exact Nat.le_refl _
      · exact Nat.le_refl _
    · rw [List.length_append]
      omega
section
variable {P : Program} {w : World} {K : PySem.W.Frag} {mg : Str → Option Value} {base : Heap}
theorem ok_showL {f : Addr} {fd : FuncData} (F : Fun K "_law_showings" "_law_showings" s__law_showings f fd) : FnOk P w K mg base CX0 1 f fd ["_law_model_here", "_law_row"] spShowL := by
  refine F.ok sc__law_showings (fun vs H Q E h => ?_) (fun cdv A outer s H vs Q E hr h => ?_)
  · obtain ⟨ma, ra, len, cs, ps, as, rs, rfl, _⟩ := h
    rfl
  · obtain ⟨ma, ra, len, cs, ps, as, rs, rfl, ⟨d1, d2, d3, d4, B⟩, hra, hrs, r400, c40, hch, hg, nd, q⟩ := h
    refine ⟨_, (pss_cons (ps_set (i := 2) sc__law_showings.nd rfl (Or.inl rfl) (pe_lst pa_nil))
    (pss_cons (ps_set (i := 3) sc__law_showings.nd rfl (Or.inl rfl) (pe_int))
    (pss_cons (ps_set (i := 4) sc__law_showings.nd rfl (Or.inl rfl) (pe_non))
    (pss_cons (ps_for PassesOwn.never rfl (pi_list (pv 1)) (pg_name (i := 5) sc__law_showings.nd rfl (Or.inl rfl))
    (pss_cons (ps_set (i := 6) sc__law_showings.nd rfl (Or.inl rfl) (pe_dget (hu_of hr) (pe_ix ix_list (pv 0) (pe_int) (fun _ _ => rfl)) (pv 5) (fun _ _ => rfl)))
    (pss_cons (ps_for PassesOwn.never rfl (pi_list (pv 6)) (pg_name (i := 7) sc__law_showings.nd rfl (Or.inl rfl))
    (pss_one (ps_if (PW.pt (pw_and (pt_cmpR op_eq (pe_ix ix_tup (pv 7) (pe_int) (fun _ _ => rfl)) (pe_int) (nomark _)) (pw_and1 (pt_cmpR op_eq (pv 4) (pe_ix ix_tup (pv 7) (pe_int) (fun _ _ => rfl)) (nomark _)))))
    (pss_one (ps_asg (pe_tup (pa_cons (pe_ix ix_tup (pe_ix ix_list (pv 2) (pe_un un_neg (pe_int)) (fun _ _ => rfl)) (pe_int) (fun _ _ => rfl)) (pa_cons (pe_ix ix_tup (pe_ix ix_list (pv 2) (pe_un un_neg (pe_int)) (fun _ _ => rfl)) (pe_int) (fun _ _ => rfl)) (pa_cons (pe_op op_add (pv 3) (pe_ix ix_tup (pv 7) (pe_int) (fun _ _ => rfl))) pa_nil)))) (pg_sub (pv 2) (pe_un un_neg (pe_int)) set_list)))
    (pss_one (ps_expr (pe_bm PySem.F.plainAttrs_list PySem.F.slot_list_append PySem.F.type_list_append mt_append (pv 2) (pa_cons (pe_tup (pa_cons (pe_ix ix_tup (pv 7) (pe_int) (fun _ _ => rfl)) (pa_cons (pe_op op_add (pv 3) (pe_ix ix_tup (pv 7) (pe_int) (fun _ _ => rfl))) (pa_cons (pe_op op_add (pv 3) (pe_ix ix_tup (pv 7) (pe_int) (fun _ _ => rfl))) pa_nil)))) pa_nil)))))))
    (pss_cons (ps_set (i := 4) sc__law_showings.nd rfl (Or.inl rfl) (pe_non))
    (C8.pss_cut (ps_if (PW.pt (pw_and (pt_truth (pv 6) (by intro _; rfl)) (pw_and1 (pt_cmpR op_eq (pe_ix ix_tup (pe_ix ix_list (pv 6) (pe_un un_neg (pe_int)) (fun _ _ => rfl)) (pe_int) (fun _ _ => rfl)) (pe_dget (hu_of hr) (pe_ix ix_list (pv 0) (pe_int) (fun _ _ => rfl)) (pv 5) (fun _ _ => rfl)) (nomark _)))))
    (pss_one (ps_set (i := 4) sc__law_showings.nd rfl (Or.inl rfl) (pe_ix ix_tup (pe_ix ix_list (pv 6) (pe_un un_neg (pe_int)) (fun _ _ => rfl)) (pe_int) (fun _ _ => rfl))))
    pss_nil)
    (pss_one (ps_set (i := 3) sc__law_showings.nd rfl (Or.inl rfl) (pe_op op_add (pv 3) (pe_dget (hu_of hr) (pe_ix ix_list (pv 0) (pe_int) (fun _ _ => rfl)) (pv 5) (fun _ _ => rfl))))))))))
    (pss_one (ps_ret (pv 2))))))), ?_⟩
    refine ⟨Nat.zero_le _, fun D hD => ?_⟩
    have sD := same_new (o := .lst []) hD
    have ok : ∀ p ∈ ps, StripOk (pieceRow ps cs p) := fun p hp => (strip_ok (hg p hp).lt hch (hg p hp).s0 (factor_pos (fun q hq => ⟨(hg q hq).d1, (hg q hq).d6⟩) hp (hg p hp).u1)).1
    have pos : ∀ p ∈ ps, 0 < shownOf (grainTo ps) p := fun p hp => by
      have := factor_pos (fun q hq => ⟨(hg q hq).d1, (hg q hq).d6⟩) hp (hg p hp).u1
      have := (hg p hp).lt
      exact Int.mul_pos (by omega) (by omega)
    have rf : ∀ i, WFs 0 (rowShow ((rs.take i).map (pieceRow ps cs))).1 (rowShow ((rs.take i).map (pieceRow ps cs))).2 := fun i => (row_fill _ _ rfl fun z hz => by
      obtain ⟨p, hp, rfl⟩ := List.mem_map.mp hz
      exact ok p (hrs p (List.mem_of_mem_take hp))).1
    refine ⟨_, rfl, ra, rfl, ⟨_, SqL.of (sD _ _ hra)⟩, ?_⟩
    refine for_it walk_list (fun i σ H' => (∃ k5 k6 k7 : Option V, σ = [some (.ref ma), some (.ref ra), some (.ref D), some (.int (rowShow ((rs.take i).map (pieceRow ps cs))).2), some (scV (lastOn (rowShow ((rs.take i).map (pieceRow ps cs))).1 (rowShow ((rs.take i).map (pieceRow ps cs))).2)), k5, k6, k7]) ∧ Same H H' ∧ ∃ N : List (Addr × Tri), H' D = some (.lst (refsT N)) ∧ tris N = (rowShow ((rs.take i).map (pieceRow ps cs))).1 ∧ (∀ e ∈ N, TAt H' e) ∧ N.length ≤ 40 * i)
      ⟨⟨_, _, _, rfl⟩, sD, [], upd_same, rfl, (fun _ h => nomatch h), Nat.zero_le _⟩ (fun i σ H' _ hv => SqL.of (hv.2.1 _ _ hra)) ?_ ?_
    · rintro i y σ Ha Hb hi ⟨⟨k5, k6, k7, rfl⟩, hs, N, hd, hn, hN, lN⟩ ⟨rfl, hy⟩
      have hi' : i < rs.length := by rw [List.length_map, List.length_map] at hi; exact hi
      obtain ⟨p, hp, rfl⟩ : ∃ p, rs[i]? = some p ∧ y = V.str p.nm := by
        refine ⟨rs[i], List.getElem?_eq_getElem hi', ?_⟩
        rw [List.getElem?_map, List.getElem?_map, List.getElem?_eq_getElem hi'] at hy
        exact (Option.some.inj hy).symm
      have hpp := hrs p (List.mem_of_getElem? hp)
      have pin : p.nm ∈ ps.map (·.nm) := List.mem_map.mpr ⟨p, hpp, rfl⟩
      have tk : (rs.take (i + 1)).map (pieceRow ps cs) = (rs.take i).map (pieceRow ps cs) ++ [pieceRow ps cs p] := by
        rw [List.take_add_one, hp, List.map_append]
        rfl
      obtain ⟨ks2, v2, hk2, hv2, p2, hp2, en2, sa, S, rfl, hsa, eS, hS⟩ := B.st.get (by rw [List.length_map]; exact Nat.le_refl _) pin
      obtain rfl : p2 = p := by_name nd hpp hp2 en2
      obtain ⟨ks1, v1, hk1, hv1, p1, hp1, en1, rfl⟩ := B.sh.get (by rw [List.length_map]; exact Nat.le_refl _) pin
      obtain rfl : p1 = p2 := by_name nd hpp hp1 en1
      have dg1 : ∀ {H'}, Same H H' → DGet H' d1 (V.str p1.nm) (some (.int (shownOf (grainTo ps) p1))) := fun k => hv1 ▸ DGet.k (k := Sum.inr p1.nm) (k _ _ hk1)
      have dg2 : ∀ {H'}, Same H H' → DGet H' d2 (V.str p1.nm) (some (.ref sa)) := fun k => hv2 ▸ DGet.k (k := Sum.inr p1.nm) (k _ _ hk2)
      have okp := ok p1 hpp
      have pp := pos p1 hpp
      have wr := rf i
      have lS : S.length ≤ 40 := by
        have h1 : (tris S).length = (stripF p1 (factorOf (grainTo ps) p1) cs).length := congrArg List.length eS
        have h2 := strip_len p1 (factorOf (grainTo ps) p1) cs
        rw [List.length_map] at h1
        omega
      refine ⟨_, rfl, ma, _, 2, _, rfl, rfl, SqL.of (hs _ _ B.m), atI_nat (j := 2) rfl, _, rfl, d2, _, rfl, dg2 hs, ?_⟩
      refine ⟨_, rfl, sa, rfl, ⟨_, SqL.of (hs _ _ hsa)⟩, ?_⟩
      generalize hb : (rowShow ((rs.take i).map (pieceRow ps cs))) = acc at hn wr ⊢
      generalize hon : lastOn acc.1 acc.2 = on
      refine for_it walk_list (fun j σ H' => (∃ k7 : Option V, σ = [some (.ref ma), some (.ref ra), some (.ref D), some (.int acc.2), some (scV on), some (.str p1.nm), some (.ref sa), k7]) ∧ Same H H' ∧ ∃ N : List (Addr × Tri), H' D = some (.lst (refsT N)) ∧ tris N = ((tris S).take j).foldl (addOn on acc.2) acc.1 ∧ (∀ e ∈ N, TAt H' e) ∧ N.length ≤ 40 * i + j)
        ⟨⟨_, rfl⟩, hs, N, hd, hn, hN, lN⟩ (fun j σ H' _ hv => SqL.of (hv.2.1 _ _ hsa)) ?_ ?_
      · rintro j y2 σ2 Hc Hd hj ⟨⟨k7, rfl⟩, hs2, N2, hd2, hn2, hN2, lN2⟩ ⟨rfl, hy2⟩
        obtain ⟨t, ht, rfl⟩ := ref_at hy2
        have tA := hs2 _ _ (hS t (List.mem_of_getElem? ht))
        have ht2 : (tris S)[j]? = some t.2 := by rw [List.getElem?_map, ht]; rfl
        have hj' : j < 40 := by have := (List.getElem?_eq_some_iff.mp ht).1; omega
        have tk2 : ((tris S).take (j + 1)).foldl (addOn on acc.2) acc.1 = addOn on acc.2 (tris N2) t.2 := by
          rw [List.take_add_one, ht2]
          show (_ ++ [t.2]).foldl _ _ = _
          rw [foldl_snoc, hn2]
        let Iv : Hp → Prop := fun H' => Same H H' ∧ ∃ N : List (Addr × Tri), H' D = some (.lst (refsT N)) ∧ tris N = ((tris S).take (j + 1)).foldl (addOn on acc.2) acc.1 ∧ (∀ e ∈ N, TAt H' e) ∧ N.length ≤ 40 * i + (j + 1)
        have gen : ∀ (T2 : Addr) (tr : Tri) (ys : List V) (N' : List (Addr × Tri)), Hd T2 = none → ys = refsT N' → tris N' = addOn on acc.2 (tris N2) t.2 → (∀ d ∈ N', d ∈ N2 ∨ d = (T2, tr)) → N'.length ≤ N2.length + 1 → Iv (upd (upd Hd T2 (.tup (Tri.vs tr))) D (.lst ys)) := fun T2 tr ys N' h2 ey eN hm hl => by
          subst ey
          have sT2 := same_new (o := .tup (Tri.vs tr)) h2
          have ko : KT Hd (upd (upd Hd T2 (.tup (Tri.vs tr))) D (.lst (refsT N'))) := (KT.of_same sT2).over (sT2 _ _ hd2)
          refine ⟨fun b o hb => ?_, N', upd_same, eN.trans tk2.symm, fun d hd' => ?_, by omega⟩
          · have nb : b ≠ D := ne_of_none hb hD
            rw [upd_ne nb]
            exact sT2 _ _ (hs2 _ _ hb)
          · rcases hm d hd' with h | h
            · exact ko _ _ (hN2 d h)
            · rw [h]
              exact ((KT.refl (upd Hd T2 (.tup (Tri.vs tr)))).over (zs := refsT N') (sT2 _ _ hd2)) _ _ upd_same
        have app : ¬ (t.2.2.1 = 0 ∧ on = some t.2.1) → ∀ T2, Hd T2 = none → Iv (upd (upd Hd T2 (.tup [V.int t.2.1, V.int (acc.2 + t.2.2.1), V.int (acc.2 + t.2.2.2)])) D (.lst (refsT N2 ++ [V.ref T2]))) := fun ea T2 h2 =>
          gen T2 (t.2.1, acc.2 + t.2.2.1, acc.2 + t.2.2.2) _ (N2 ++ [(T2, (t.2.1, acc.2 + t.2.2.1, acc.2 + t.2.2.2))]) h2 (by rw [refsT_app]; rfl) (by unfold addOn; rw [if_neg ea, tris_app]; rfl) (fun d hd' => by
            rcases List.mem_append.mp hd' with h | h
            · exact .inl h
            · exact .inr (List.mem_singleton.mp h)) (by rw [List.length_append]; exact Nat.le_refl _)
        refine ⟨_, rfl, t.1, _, 1, _, rfl, rfl, SqT.of tA, atI_nat (j := 1) rfl, rfl, _, rfl, ite2 (fun h1 => ?_) (fun h1 => ?_)⟩
        · have h1 : t.2.2.1 = 0 := V.int.inj (of_decide_eq_true h1)
          refine ⟨_, rfl, _, rfl, t.1, _, 0, _, rfl, rfl, SqT.of tA, atI_nat (j := 0) rfl, scV_sc on (some t.2.1), _, rfl, ?_⟩
          rw [show decide (scV on = V.int t.2.1) = decide (on = some t.2.1) from scV_eq on (some t.2.1)]
          by_cases h2 : on = some t.2.1
          · rw [decide_eq_true h2]
            have ne : 1 ≤ N2.length := by
              have h3 := fold_len (on := on) (b := acc.2) (S := (tris S).take j) (T := acc.1)
              rw [← hn2, List.length_map] at h3
              have h4 : 1 ≤ acc.1.length := by
                cases q : acc.1 with
                | nil =>
                  rw [q] at hon
                  rw [h2] at hon
                  cases hon
                | cons a r => rw [List.length_cons]; omega
              omega
            rcases List.eq_nil_or_concat N2 with e | ⟨N3, l, e⟩
            · rw [e] at ne
              exact absurd ne (by decide)
            · rw [List.concat_eq_append] at e
              subst e
              have lA := hN2 l (List.mem_append_right _ (List.mem_singleton.mpr rfl))
              have hl : atI (refsT (N3 ++ [l])) (-1) = some (V.ref l.1) := by rw [refsT_app]; exact atI_last _ _
              have eT : tris (N3 ++ [l]) = tris N3 ++ [l.2] := tris_app ..
              refine iteT ⟨_, rfl, _, rfl, D, _, _, _, rfl, rfl, SqL.of hd2, hl, l.1, _, 0, _, rfl, rfl, SqT.of lA, atI_nat (j := 0) rfl, _, rfl, _, rfl, D, _, _, _, rfl, rfl, SqL.of hd2, hl, l.1, _, 1, _, rfl, rfl, SqT.of lA, atI_nat (j := 1) rfl, _, rfl, _, rfl, t.1, _, 2, _, rfl, rfl, SqT.of tA, atI_nat (j := 2) rfl, _, _, rfl, rfl, Nat.le_of_lt (small_line (by show 3 ≤ 100000; decide)), fun T2 hT2 => ?_⟩
              have hd3 := same_new (o := .tup [V.int l.2.1, V.int l.2.2.1, V.int (acc.2 + t.2.2.2)]) hT2 _ _ hd2
              refine ⟨_, rfl, _, rfl, D, _, _, N3.length, rfl, rfl, hd3, ?_, ⟨_, rfl⟩, gen T2 (l.2.1, l.2.2.1, acc.2 + t.2.2.2) _ (N3 ++ [(T2, (l.2.1, l.2.2.1, acc.2 + t.2.2.2))]) hT2 ?_ ?_ (fun d hd' => ?_) ?_⟩
              · rw [List.length_map, List.length_append, List.length_cons, List.length_nil]
                exact ixN_last _
              · rw [refsT_app, refsT_app]
                show ((List.map _ N3) ++ [V.ref l.1]).set _ _ = _
                rw [List.set_append_right _ _ (by rw [List.length_map]; exact Nat.le_refl _), List.length_map, Nat.sub_self]
                rfl
              · rw [tris_app, eT]
                unfold addOn
                rw [if_pos ⟨h1, h2⟩, List.getLast?_concat, List.dropLast_concat]
                rfl
              · rcases List.mem_append.mp hd' with h | h
                · exact .inl (List.mem_append_left _ h)
                · exact .inr (List.mem_singleton.mp h)
              · rw [List.length_append, List.length_append]
                exact Nat.le_succ _
          · rw [decide_eq_false h2]
            exact ⟨_, rfl, .inl ⟨rfl, _, SqL.of hd2⟩, _, rfl, t.1, _, 0, _, rfl, rfl, SqT.of tA, atI_nat (j := 0) rfl, _, rfl, _, rfl, t.1, _, 1, _, rfl, rfl, SqT.of tA, atI_nat (j := 1) rfl, _, _, rfl, rfl, _, rfl, _, rfl, t.1, _, 2, _, rfl, rfl, SqT.of tA, atI_nat (j := 2) rfl, _, _, rfl, rfl, Nat.le_of_lt (small_line (by show 3 ≤ 100000; decide)), fun T2 hT2 => ⟨D, _, _, rfl, rfl, same_new (o := .tup _) hT2 _ _ hd2, small_line (by rw [List.length_map]; omega), ⟨_, rfl⟩, app (fun q => h2 q.2) T2 hT2⟩⟩
        · exact ⟨_, rfl, .inl ⟨rfl, _, SqL.of hd2⟩, _, rfl, t.1, _, 0, _, rfl, rfl, SqT.of tA, atI_nat (j := 0) rfl, _, rfl, _, rfl, t.1, _, 1, _, rfl, rfl, SqT.of tA, atI_nat (j := 1) rfl, _, _, rfl, rfl, _, rfl, _, rfl, t.1, _, 2, _, rfl, rfl, SqT.of tA, atI_nat (j := 2) rfl, _, _, rfl, rfl, Nat.le_of_lt (small_line (by show 3 ≤ 100000; decide)), fun T2 hT2 => ⟨D, _, _, rfl, rfl, same_new (o := .tup _) hT2 _ _ hd2, small_line (by rw [List.length_map]; omega), ⟨_, rfl⟩, app (fun q => h1 (decide_eq_true (congrArg V.int q.1))) T2 hT2⟩⟩
      · rintro σ2 H2 ⟨⟨k7, rfl⟩, hs2, N2, hd2, hn2, hN2, lN2⟩
        rw [show (refsT S).length = (tris S).length by rw [List.length_map, List.length_map], List.take_length] at hn2
        have wS : WFs 0 (tris S) (shownOf (grainTo ps) p1) := by rw [eS]; exact okp.wf
        rw [← hon, fold_on wS] at hn2
        refine ⟨fun σ' H' => σ' = [some (.ref ma), some (.ref ra), some (.ref D), some (.int acc.2), some (scV (endOn (tris S) (shownOf (grainTo ps) p1))), some (.str p1.nm), some (.ref sa), k7] ∧ H2 = H', ?_, ?_⟩
        · refine ⟨_, rfl, _, .inl ⟨_, SqL.of (hs2 _ _ hsa), rfl⟩, ?_⟩
          rcases List.eq_nil_or_concat S with e | ⟨S0, l, e⟩
          · subst e
            exact ⟨rfl, rfl⟩
          · rw [List.concat_eq_append] at e
            subst e
            have lA := hs2 _ _ (hS l (List.mem_append_right _ (List.mem_singleton.mpr rfl)))
            have hl : atI (refsT (S0 ++ [l])) (-1) = some (V.ref l.1) := by rw [refsT_app]; exact atI_last _ _
            have ne : (!(refsT (S0 ++ [l])).isEmpty) = true := by
              rw [refsT_app]
              cases refsT S0 <;> rfl
            have eo : endOn (tris (S0 ++ [l])) (shownOf (grainTo ps) p1) = if l.2.2.2 = shownOf (grainTo ps) p1 then some l.2.1 else none := by
              rw [tris_app]
              exact lastOn_snoc _ _ _
            rw [ne]
            refine iteT ⟨_, rfl, _, rfl, sa, _, _, _, rfl, rfl, SqL.of (hs2 _ _ hsa), hl, l.1, _, 2, _, rfl, rfl, SqT.of lA, atI_nat (j := 2) rfl, _, rfl, ma, _, 1, _, rfl, rfl, SqL.of (hs2 _ _ B.m), atI_nat (j := 1) rfl, _, rfl, d1, _, rfl, dg1 hs2, rfl, _, rfl, ite2 (fun h => ?_) (fun h => ?_)⟩
            · have h : l.2.2.2 = shownOf (grainTo ps) p1 := V.int.inj (of_decide_eq_true h)
              refine ⟨_, rfl, _, rfl, sa, _, _, _, rfl, rfl, SqL.of (hs2 _ _ hsa), hl, l.1, _, 0, _, rfl, rfl, SqT.of lA, atI_nat (j := 0) rfl, ?_, rfl⟩
              rw [eo, if_pos h]
              rfl
            · refine ⟨?_, rfl⟩
              rw [eo, if_neg fun q => h (decide_eq_true (congrArg V.int q))]
              rfl
        rintro σ' H3 ⟨rfl, rfl⟩
        refine ⟨_, rfl, _, rfl, ma, _, 1, _, rfl, rfl, SqL.of (hs2 _ _ B.m), atI_nat (j := 1) rfl, _, rfl, d1, _, rfl, dg1 hs2, _, _, rfl, rfl, ⟨some (.str p1.nm), some (.ref sa), k7, ?_⟩, hs2, N2, hd2, ?_, hN2, ?_⟩
        · rw [tk, rowShow_snoc, hb, lastOn_step okp.wf wr pp]
          show [_, _, _, some (V.int (acc.2 + shownOf (grainTo ps) p1)), some (scV (endOn (tris S) (shownOf (grainTo ps) p1))), _, _, _] = _
          rw [eS]
          rfl
        · rw [tk, rowShow_snoc, hb, hn2, eS]
          rfl
        · rw [List.length_map] at lN2
          omega
    · rintro σ H' ⟨⟨k5, k6, k7, rfl⟩, hs, N, hd, hn, hN, lN⟩
      rw [show ((rs.map (·.nm)).map V.str).length = rs.length by rw [List.length_map, List.length_map], List.take_length] at hn
      exact ⟨_, rfl, q H' D N hs hd hn hN⟩
end
end Sea
namespace Sea
open PySem PySem.Spec PyProof.Rows L2
def spCarried (CP CR CK CB : Addr) : Sp := fun vs H Q E => ∃ (x b : Addr) (v : V) (len le cl : Int) (L : List (Addr × Cue)) (ps : List Piece) (as : List (Str × Str)) (ss es : List Str), vs = [.ref x, .ref b, v] ∧ PlanAt H CR CP x len L ps as ss es ∧ BookAt H CK b le cl ∧ L.length ≤ 40 ∧
  rowUp H (ps.map (·.nm)) v (fun k H' => ∀ q, H' q = none → E (.ref CB) (some q) (upd H' q (.xd [(("number" : Str), .int k)])))
    (fun xs _ H1 => ∀ (rs : List Piece), xs = (rs.map (·.nm)).map V.str → (∀ p ∈ rs, p ∈ ps) → ∀ (H' : Hp) (t : Addr) (N : List (Addr × Tri)), Same H1 H' → H' t = some (.tup (refsT N)) → tris N = carry (le * grainTo ps) (cl * grainTo ps) (rowShow (rs.map (pieceRow ps (cuesC L)))).1 → (∀ e ∈ N, TAt H' e) → Q (.ref t) H')
def spCarL : Sp := fun vs H Q _ => ∃ (ma ra : Addr) (len le cl : Int) (cs : List Cue) (ps : List Piece) (as : List (Str × Str)) (rs : List Piece), vs = [.ref ma, .int le, .int cl, .ref ra] ∧ ModelAt H ma cs ps as ∧ H ra = some (.lst ((rs.map (·.nm)).map V.str)) ∧ (∀ p ∈ rs, p ∈ ps) ∧ rs.length ≤ 400 ∧ cs.length ≤ 40 ∧ chainC len 0 cs ∧ (∀ p ∈ ps, GoodP len p) ∧ (ps.map (·.nm)).Nodup ∧
  ∀ (H' : Hp) (t : Addr) (N : List (Addr × Tri)), Same H H' → H' t = some (.lst (refsT N)) → tris N = carry (le * grainTo ps) (cl * grainTo ps) (rowShow (rs.map (pieceRow ps cs))).1 → (∀ e ∈ N, TAt H' e) → Q (.ref t) H'
theorem Lst.app {H1 Hc : Hp} {D : Addr} {N N' : List (Addr × Tri)} {ys : List V} (h : Lst H1 D Hc N) (ey : ys = refsT N') (hm : ∀ d ∈ N', d ∈ N ∨ TAt Hc d) : Lst H1 D (upd Hc D (.lst ys)) N' := by
  subst ey
  have ko : KT Hc (upd Hc D (.lst (refsT N'))) := (KT.refl _).over h.at_
  exact ⟨kb_put h.kb, upd_same, fun d hd => (hm d hd).elim (fun h' => ko _ _ (h.tr d h')) fun h' => ko _ _ h'⟩
section
variable {P : Program} {w : World} {K : PySem.W.Frag} {mg : Str → Option Value} {base : Heap} {CR CP CK CB fR fP fK : Addr}
theorem ok_carried {f : Addr} {fd : FuncData} (F : Fun K "carried" "carried" s_carried f fd) (c_judged_row : CalX P w K mg base 3 "judged_row" (spRowJ CP CR CB)) (c_row_carried : Cal P w K mg base 4 "row_carried" (spCarr CP CR CK)) :
    FnOk P w K mg base (L2.CX P w) 5 f fd ["plan", "book", "row"] (spCarried CP CR CK CB) := by
  refine F.okX sc_carried (fun vs H Q E h => ?_) (fun cdv A outer s H vs Q E hr h => ?_)
  · obtain ⟨x, b, v, len, le, cl, L, ps, as, ss, es, rfl, _⟩ := h
    rfl
  · obtain ⟨x, b, v, len, le, cl, L, ps, as, ss, es, rfl, hP, hK, lL, h⟩ := h
    refine ⟨_, (pss_one (ps_ret (pe_c c_row_carried hr (by decide) rfl (pa_cons (pv 0) (pa_cons (pv 1) (pa_cons (show PE _ _ (tCallSD (spRowJ CP CR CB) [] (WE fun cls d _ H => E cls d H) (tCons (tVar 0) (tCons (tVar 2) tNil))) from by
          refine pe_cX (k := 3) (j := 4) (sp := spRowJ CP CR CB) ?_ ?_ ?_ ?_ ?_ ?_
          · exact c_judged_row
          · exact hr
          · decide
          · rfl
          · exact (fun σ => passAt (takes_of rfl rfl rfl rfl) σ)
          · exact (pa_cons (pv 0) (pa_cons (pv 2) pa_nil))) pa_nil)))))), ?_⟩
    refine ⟨_, rfl, _, rfl, _, rfl, _, rfl, x, v, len, L, ps, as, ss, es, rfl, hP, ?_⟩
    refine h.imp id fun ⟨a, xs, e, ha, hany, h1, h2, h3⟩ => ⟨a, xs, e, ha, hany, h1, h2, fun l1 l4 hz H1 t s1 ht => ?_⟩
    obtain ⟨zs, rfl, hzs⟩ := hasV_names hz
    obtain ⟨rs, rfl, hrs⟩ := names_pieces hzs
    have lr : rs.length ≤ 400 := by rw [List.length_map, List.length_map] at l4; exact l4
    exact ⟨x, b, t, len, le, cl, L, ps, as, ss, es, rs, rfl, hP.keep s1, hK.keep s1, lL, ht, hrs, lr, fun H2 t2 N s2 h2' eN hN => h3 l1 l4 hz H1 t s1 ht rs rfl hrs H2 t2 N s2 h2' eN hN⟩
theorem ok_carL {f : Addr} {fd : FuncData} (F : Fun K "_law_carried" "_law_carried" s__law_carried f fd) (m_len : mg "len" = none) (c__law_showings : Cal P w K mg base 1 "_law_showings" spShowL) :
    FnOk P w K mg base CX0 2 f fd ["_law_model_here", "_law_least", "_law_close", "_law_row"] spCarL := by
  refine F.ok sc__law_carried (fun vs H Q E h => ?_) (fun cdv A outer s H vs Q E hr h => ?_)
  · obtain ⟨ma, ra, len, le, cl, cs, ps, as, rs, rfl, _⟩ := h
    rfl
  · obtain ⟨ma, ra, len, le, cl, cs, ps, as, rs, rfl, hM, hra, hrs, r400, c40, hch, hg, nd, q⟩ := h
    refine ⟨_, (pss_cons (ps_set (i := 4) sc__law_carried.nd rfl (Or.inl rfl) (pe_lst pa_nil))
    (pss_cons (ps_for PassesOwn.never rfl (pi_list (pe_c c__law_showings hr (by decide) rfl (pa_cons (pv 0) (pa_cons (pv 3) pa_nil)))) (pg_name (i := 5) sc__law_carried.nd rfl (Or.inl rfl))
    (pss_one (ps_if (pt_cmpR op_ge (pe_op op_sub (pe_ix ix_tup (pv 5) (pe_int) (fun _ _ => rfl)) (pe_ix ix_tup (pv 5) (pe_int) (fun _ _ => rfl))) (pe_op op_mul (pv 1) (pe_ix ix_list (pv 0) (pe_int) (fun _ _ => rfl))) (nomark _))
    (C8.pss_cut (ps_set (i := 6) sc__law_carried.nd rfl (Or.inl rfl) (pe_and (pe_cmpR op_gt (pe_callB call_len (by rfl) m_len (by decide +kernel) (pa_cons (pv 4) pa_nil)) (pe_int) (nomark _)) (pe_one (pe_cmpR op_lt (pe_op op_sub (pe_ix ix_tup (pv 5) (pe_int) (fun _ _ => rfl)) (pe_ix ix_tup (pe_ix ix_list (pv 4) (pe_un un_neg (pe_int)) (fun _ _ => rfl)) (pe_int) (fun _ _ => rfl))) (pe_op op_mul (pv 2) (pe_ix ix_list (pv 0) (pe_int) (fun _ _ => rfl))) (nomark _)))))
    (pss_one (ps_if (PW.pt (pw_and (pt_val (pv 6)) (pw_and1 (pt_cmpR op_eq (pe_ix ix_tup (pe_ix ix_list (pv 4) (pe_un un_neg (pe_int)) (fun _ _ => rfl)) (pe_int) (fun _ _ => rfl)) (pe_ix ix_tup (pv 5) (pe_int) (fun _ _ => rfl)) (nomark _)))))
    (pss_one (ps_asg (pe_tup (pa_cons (pe_ix ix_tup (pv 5) (pe_int) (fun _ _ => rfl)) (pa_cons (pe_ix ix_tup (pe_ix ix_list (pv 4) (pe_un un_neg (pe_int)) (fun _ _ => rfl)) (pe_int) (fun _ _ => rfl)) (pa_cons (pe_ix ix_tup (pv 5) (pe_int) (fun _ _ => rfl)) pa_nil)))) (pg_sub (pv 4) (pe_un un_neg (pe_int)) set_list)))
    (pss_cons (ps_if (pt_val (pv 6))
    (pss_one (ps_asg (pe_tup (pa_cons (pe_ix ix_tup (pe_ix ix_list (pv 4) (pe_un un_neg (pe_int)) (fun _ _ => rfl)) (pe_int) (fun _ _ => rfl)) (pa_cons (pe_ix ix_tup (pe_ix ix_list (pv 4) (pe_un un_neg (pe_int)) (fun _ _ => rfl)) (pe_int) (fun _ _ => rfl)) (pa_cons (pe_ix ix_tup (pv 5) (pe_int) (fun _ _ => rfl)) pa_nil)))) (pg_sub (pv 4) (pe_un un_neg (pe_int)) set_list)))
    pss_nil)
    (pss_one (ps_expr (pe_bm PySem.F.plainAttrs_list PySem.F.slot_list_append PySem.F.type_list_append mt_append (pv 4) (pa_cons (pv 5) pa_nil))))))))
    pss_nil)))
    (pss_one (ps_ret (pv 4))))), ?_⟩
    obtain ⟨d1, d2, d3, d4, B⟩ := id hM
    obtain ⟨gr1, gr2⟩ := grain_le (ps := ps) fun p hp => ⟨(hg p hp).d1, (hg p hp).d6⟩
    have ck : ∀ i : Int, CMul i (grainTo ps) := fun i => .inr ⟨by omega, by omega⟩
    refine ⟨Nat.zero_le _, fun D hD => ?_⟩
    have sD := same_new (o := .lst []) hD
    refine ⟨_, rfl, _, rfl, ma, ra, len, cs, ps, as, rs, rfl, hM.keep sD, sD _ _ hra, hrs, r400, c40, hch, hg, nd, fun H1 t S s1 ht eS hS => ⟨t, rfl, ⟨_, SqL.of ht⟩, ?_⟩⟩
    have lS : S.length ≤ 20000 := by
      have h1 := rowShow_len _ (rs.map (pieceRow ps cs)) rfl fun z hz => by
        obtain ⟨p, hp, rfl⟩ := List.mem_map.mp hz
        exact Nat.le_trans (strip_len p (factorOf (grainTo ps) p) cs) c40
      have h2 := congrArg List.length eS
      rw [List.length_map] at h1 h2
      omega
    rw [← eS] at q
    have hD1 : H1 D = some (.lst []) := s1 _ _ upd_same
    have nD : ∀ {a : Addr} {o : HO}, H a = some o → a ≠ D := fun h => ne_of_none h hD
    have guard : ∀ (i : Nat) (H' : Hp) (N : List (Addr × Tri)), i ≤ (refsT S).length → Lst H1 D H' N → N.length ≤ i → SqL K H' t (refsT S) := fun i H' N hi hv lN => by
      by_cases e : t = D
      · have h0 : refsT S = [] := by
          rw [e, hD1] at ht
          exact (HO.lst.inj (Option.some.inj ht)).symm
        rw [h0] at hi ⊢
        have : N = [] := List.eq_nil_of_length_eq_zero (by have hi : i ≤ 0 := hi; omega)
        subst this
        rw [e]
        exact SqL.of hv.at_
      · exact SqL.of (hv.kb _ _ e ht)
    refine for_it walk_list (fun i σ H' => (∃ k5 k6 : Option V, σ = [some (.ref ma), some (.int le), some (.int cl), some (.ref ra), some (.ref D), k5, k6]) ∧ ∃ N : List (Addr × Tri), Lst H1 D H' N ∧ tris N = carry (le * grainTo ps) (cl * grainTo ps) ((tris S).take i) ∧ N.length ≤ i)
      ⟨⟨_, _, rfl⟩, [], ⟨fun _ _ _ h => h, hD1, fun _ h => nomatch h⟩, rfl, Nat.le_refl _⟩ (fun i σ H' hi ⟨_, N, hv, _, lN⟩ => guard i H' N hi hv lN) ?_ ?_
    · rintro i y σ Hc Hd hi ⟨⟨k5, k6, rfl⟩, N, hv, hn, lN⟩ ⟨rfl, hy⟩
      obtain ⟨t, htt, rfl⟩ := ref_at hy
      have tA : TAt Hd t := hv.kb _ _ (fun e => by have := hS t (List.mem_of_getElem? htt); unfold TAt at this; rw [e, hD1] at this; cases this) (hS t (List.mem_of_getElem? htt))
      have ht2 : (tris S)[i]? = some t.2 := by rw [List.getElem?_map, htt]; rfl
      have hi' : i < S.length := (List.getElem?_eq_some_iff.mp htt).1
      have hm : Hd ma = some (.lst [.int (grainTo ps), .ref d1, .ref d2, .ref d3, .ref d4]) := hv.kb _ _ (nD B.m) (s1 _ _ (sD _ _ B.m))
      have tk : carry (le * grainTo ps) (cl * grainTo ps) ((tris S).take (i + 1)) = carryStep (le * grainTo ps) (cl * grainTo ps) (tris N) t.2 := by
        rw [List.take_add_one, ht2]
        show carry _ _ (_ ++ [t.2]) = _
        rw [carry_snoc, hn]
      refine ⟨_, rfl, t.1, _, 2, _, rfl, rfl, SqT.of tA, atI_nat (j := 2) rfl, _, rfl, t.1, _, 1, _, rfl, rfl, SqT.of tA, atI_nat (j := 1) rfl, _, _, rfl, rfl, _, rfl, _, rfl, ma, _, 0, _, rfl, rfl, SqL.of hm, atI_nat (j := 0) rfl, _, _, rfl, rfl, ck _, _, _, rfl, rfl, _, rfl, ite2 (fun h1 => ?_) (fun h1 => ?_)⟩
      rotate_left
      · have h1 : t.2.2.2 - t.2.2.1 < le * grainTo ps := by
          have : ¬ t.2.2.2 - t.2.2.1 ≥ le * grainTo ps := fun z => h1 (decide_eq_true z)
          omega
        refine ⟨⟨_, _, rfl⟩, N, hv, ?_, by omega⟩
        rw [tk]
        exact (if_pos h1).symm
      have h1 : ¬ t.2.2.2 - t.2.2.1 < le * grainTo ps := by
        have : t.2.2.2 - t.2.2.1 ≥ le * grainTo ps := of_decide_eq_true h1
        omega
      have fin : ∀ {N' : List (Addr × Tri)} {H' : Hp}, Lst H1 D H' N' → tris N' = carryStep (le * grainTo ps) (cl * grainTo ps) (tris N) t.2 → ∃ N : List (Addr × Tri), Lst H1 D H' N ∧ tris N = carry (le * grainTo ps) (cl * grainTo ps) ((tris S).take (i + 1)) ∧ N.length ≤ i + 1 := fun {N' H'} a e => ⟨N', a, e.trans tk.symm, by
        have h2 := congrArg List.length e
        have h3 := carryStep_len (least := le * grainTo ps) (close := cl * grainTo ps) (T := tris N) (t := t.2)
        rw [List.length_map] at h2 h3
        omega⟩
      rcases List.eq_nil_or_concat N with e | ⟨N3, l, e⟩
      · subst e
        refine ⟨fun σ' H' => σ' = [some (.ref ma), some (.int le), some (.int cl), some (.ref ra), some (.ref D), some (.ref t.1), some (.bl false)] ∧ H' = Hd, ?_, ?_⟩
        · exact ⟨_, rfl, _, 0, rfl, .inl ⟨_, SqL.of hv.at_, rfl⟩, _, _, rfl, rfl, false, rfl, rfl, rfl⟩
        rintro σ' H' ⟨rfl, rfl⟩
        refine ⟨_, rfl, false, rfl, ?_⟩
        refine ⟨_, rfl, false, rfl, _, rfl, .inl ⟨rfl, _, SqL.of hv.at_⟩, _, rfl, D, _, _, rfl, rfl, hv.at_, small_line (by show 0 ≤ 100000; decide), ⟨_, _, rfl⟩, fin (hv.app (N' := [t]) rfl (fun d hd => .inr (by rw [List.mem_singleton.mp hd]; exact tA))) ?_⟩
        exact (if_neg h1).symm
      · rw [List.concat_eq_append] at e
        subst e
        have lA := hv.tr l (List.mem_append_right _ (List.mem_singleton.mpr rfl))
        have hl : atI (refsT (N3 ++ [l])) (-1) = some (V.ref l.1) := by rw [refsT_app]; exact atI_last _ _
        have eT : tris (N3 ++ [l]) = tris N3 ++ [l.2] := tris_app ..
        have lN3 : N3.length + 1 ≤ 20000 := by
          rw [List.length_append] at lN
          have : N3.length + 1 ≤ i := lN
          omega
        have ix : ∀ y : V, ixN (refsT (N3 ++ [l])).length (-1) = some N3.length := fun _ => by
          rw [List.length_map, List.length_append, List.length_cons, List.length_nil]
          exact ixN_last _
        have big : ∀ {m : Nat}, m ≤ 20000 → m ≤ 100000 := fun h => by omega
        refine ⟨fun σ' H' => σ' = [some (.ref ma), some (.int le), some (.int cl), some (.ref ra), some (.ref D), some (.ref t.1), some (.bl (decide (t.2.2.1 - l.2.2.2 < cl * grainTo ps)))] ∧ H' = Hd, ?_, ?_⟩
        · refine ⟨_, rfl, _, (N3 ++ [l]).length, rfl, .inl ⟨_, SqL.of hv.at_, (List.length_map ..).symm⟩, _, _, rfl, rfl, true, ?_, iteT ⟨_, rfl, t.1, _, 1, _, rfl, rfl, SqT.of tA, atI_nat (j := 1) rfl, _, rfl, _, rfl, D, _, _, _, rfl, rfl, SqL.of hv.at_, hl, l.1, _, 2, _, rfl, rfl, SqT.of lA, atI_nat (j := 2) rfl, _, _, rfl, rfl, _, rfl, _, rfl, ma, _, 0, _, rfl, rfl, SqL.of hm, atI_nat (j := 0) rfl, _, _, rfl, rfl, ck _, _, _, rfl, rfl, rfl, rfl⟩⟩
          rw [List.length_append, List.length_cons]
          exact congrArg V.bl (decide_eq_true (by omega))
        rintro σ' H' ⟨rfl, rfl⟩
        refine ⟨_, rfl, _, rfl, ?_⟩
        by_cases h2 : t.2.2.1 - l.2.2.2 < cl * grainTo ps
        · rw [decide_eq_true h2]
          have h2' : ¬ t.2.2.1 - l.2.2.2 ≥ cl * grainTo ps := by omega
          refine iteT ⟨_, rfl, _, rfl, D, _, _, _, rfl, rfl, SqL.of hv.at_, hl, l.1, _, 0, _, rfl, rfl, SqT.of lA, atI_nat (j := 0) rfl, _, rfl, t.1, _, 0, _, rfl, rfl, SqT.of tA, atI_nat (j := 0) rfl, rfl, _, rfl, ite2 (fun h3 => ?_) (fun h3 => ?_)⟩
          · have h3 : l.2.1 = t.2.1 := V.int.inj (of_decide_eq_true h3)
            refine ⟨_, rfl, t.1, _, 0, _, rfl, rfl, SqT.of tA, atI_nat (j := 0) rfl, _, rfl, _, rfl, D, _, _, _, rfl, rfl, SqL.of hv.at_, hl, l.1, _, 1, _, rfl, rfl, SqT.of lA, atI_nat (j := 1) rfl, _, rfl, t.1, _, 2, _, rfl, rfl, SqT.of tA, atI_nat (j := 2) rfl, Nat.le_of_lt (small_line (by show 3 ≤ 100000; decide)), fun T2 hT2 => ?_⟩
            have hd3 := same_new (o := .tup [V.int t.2.1, V.int l.2.2.1, V.int t.2.2.2]) hT2 _ _ hv.at_
            refine ⟨_, rfl, _, rfl, D, _, _, N3.length, rfl, rfl, hd3, ix .non, ⟨_, _, rfl⟩, fin (hv.put (tr := (t.2.1, l.2.2.1, t.2.2.2)) (N' := N3 ++ [(T2, (t.2.1, l.2.2.1, t.2.2.2))]) hT2 (last_set (l := l)) mem_snoc) ?_⟩
            rw [tris_app, eT, step_kept h1, if_neg h2', if_pos h3]
            rfl
          · have h3 : ¬ l.2.1 = t.2.1 := fun z => h3 (decide_eq_true (congrArg V.int z))
            refine ⟨_, rfl, true, rfl, _, rfl, _, rfl, D, _, _, _, rfl, rfl, SqL.of hv.at_, hl, l.1, _, 0, _, rfl, rfl, SqT.of lA, atI_nat (j := 0) rfl, _, rfl, _, rfl, D, _, _, _, rfl, rfl, SqL.of hv.at_, hl, l.1, _, 1, _, rfl, rfl, SqT.of lA, atI_nat (j := 1) rfl, _, rfl, t.1, _, 1, _, rfl, rfl, SqT.of tA, atI_nat (j := 1) rfl, Nat.le_of_lt (small_line (by show 3 ≤ 100000; decide)), fun T2 hT2 => ?_⟩
            have hd3 := same_new (o := .tup [V.int l.2.1, V.int l.2.2.1, V.int t.2.2.1]) hT2 _ _ hv.at_
            refine ⟨_, rfl, _, rfl, D, _, _, N3.length, rfl, rfl, hd3, ix .non, ?_⟩
            have hv2 := hv.put (tr := (l.2.1, l.2.2.1, t.2.2.1)) (N' := N3 ++ [(T2, (l.2.1, l.2.2.1, t.2.2.1))]) hT2 (last_set (l := l)) mem_snoc
            have tA2 := ((KT.of_same (same_new (o := .tup [V.int l.2.1, V.int l.2.2.1, V.int t.2.2.1]) hT2)).over (zs := (refsT (N3 ++ [l])).set N3.length (V.ref T2)) hd3) _ _ tA
            refine ⟨_, rfl, .inl ⟨rfl, _, SqL.of hv2.at_⟩, _, rfl, D, _, _, rfl, rfl, hv2.at_, small_line (by rw [List.length_map, List.length_append]; exact big lN3), ⟨_, _, rfl⟩, fin (hv2.app (N' := N3 ++ [(T2, (l.2.1, l.2.2.1, t.2.2.1))] ++ [t]) (by rw [refsT_app (N3 ++ [_])]; rfl) (fun d hd => ?_)) ?_⟩
            · rcases List.mem_append.mp hd with h | h
              · exact .inl h
              · exact .inr (by rw [List.mem_singleton.mp h]; exact tA2)
            · rw [tris_app, tris_app, eT, step_kept h1, if_neg h2', if_neg h3, List.append_assoc]
              rfl
        · rw [decide_eq_false h2]
          have h2' : t.2.2.1 - l.2.2.2 ≥ cl * grainTo ps := by omega
          refine iteF ⟨_, rfl, false, rfl, _, rfl, .inl ⟨rfl, _, SqL.of hv.at_⟩, _, rfl, D, _, _, rfl, rfl, hv.at_, small_line (by rw [List.length_map, List.length_append]; exact big lN3), ⟨_, _, rfl⟩, fin (hv.app (N' := N3 ++ [l] ++ [t]) (by rw [refsT_app (N3 ++ [l])]; rfl) (fun d hd => ?_)) ?_⟩
          · rcases List.mem_append.mp hd with h | h
            · exact .inl h
            · exact .inr (by rw [List.mem_singleton.mp h]; exact tA)
          · rw [tris_app (N3 ++ [l]), eT, step_kept h1, if_pos h2']
            rfl
    rintro σ H2 ⟨⟨k5, k6, rfl⟩, N, hv, hn, lN⟩
    have lr : (refsT S).length = (tris S).length := by rw [List.length_map, List.length_map]
    rw [lr, List.take_length] at hn
    exact ⟨_, rfl, q H2 D N (fun a o h => hv.kb _ _ (ne_of_none h hD) (s1 _ _ (sD _ _ h))) hv.at_ hn hv.tr⟩
end
end Sea
namespace Sea
open PySem PySem.Spec PyProof.Rows L2
def spNums : Sp := fun vs H Q _ => ∃ (tp cl : Addr) (ns : List Int), vs = [.ref tp] ∧ Tape H tp cl ns ∧
  ∀ (H' : Hp) (t : Addr) (a b : Int), KB tp H H' → Tape H' tp cl ns → t ≠ tp → H' t = some (.lst [.int a, .int b]) → 0 ≤ a → a ≤ 100 → 0 ≤ b → b ≤ 100 → Q (.ref t) H'
def spGoodN : Sp := fun vs H Q _ => ∃ v, vs = [v] ∧ AnyV H v ∧ Q (.bl (inside v 0 100)) H
section
variable {P : Program} {w : World} {K : PySem.W.Frag} {mg : Str → Option Value} {base : Heap}
theorem ok_bookL {f : Addr} {fd : FuncData} (F : Fun K "_law_book" "_law_book" s__law_book f fd) (c__law_pick : Cal P w K mg base 1 "_law_pick" spPick) : FnOk P w K mg base CX0 2 f fd ["_law_tape_here"] spNums := by
  refine F.ok sc__law_book (fun vs H Q E h => ?_) (fun cdv A outer s H vs Q E hr h => ?_)
  · obtain ⟨tp, cl, ns, rfl, _⟩ := h
    rfl
  · obtain ⟨tp, cl, ns, rfl, T, q⟩ := h
    refine ⟨_, (pss_one (ps_ret (pe_lst (pa_cons (pe_c c__law_pick hr (by decide) rfl (pa_cons (pv 0) (pa_cons (pe_int) pa_nil))) (pa_cons (pe_c c__law_pick hr (by decide) rfl (pa_cons (pv 0) (pa_cons (pe_int) pa_nil))) pa_nil))))), ?_⟩
    refine ⟨_, rfl, tp, cl, ns, 4, rfl, T, by decide, fun H1 a k1 T1 a0 a1 => ⟨_, rfl, tp, cl, ns, 4, rfl, T1, by decide, fun H2 b k2 T2 b0 b1 => ⟨(by show 2 ≤ sizeLine; decide), fun p hp => ?_⟩⟩⟩
    exact q _ p a b ((k1.trans k2).new T2 hp) (T2.new hp) (T2.fresh hp).1.symm upd_same a0 (by omega) b0 (by omega)
theorem ok_numbers {f : Addr} {fd : FuncData} (F : Fun K "_law_numbers" "_law_numbers" s__law_numbers f fd) (c__law_pick : Cal P w K mg base 1 "_law_pick" spPick) (c__law_some : Cal P w K mg base 2 "_law_some" spSome) (c__law_rarely : Cal P w K mg base 2 "_law_rarely" spRarely) (c__law_book : Cal P w K mg base 2 "_law_book" spNums) :
    FnOk P w K mg base CX0 3 f fd ["_law_tape_here"] spNums := by
  refine F.ok sc__law_numbers (fun vs H Q E h => ?_) (fun cdv A outer s H vs Q E hr h => ?_)
  · obtain ⟨tp, cl, ns, rfl, _⟩ := h
    rfl
  · obtain ⟨tp, cl, ns, rfl, T, q⟩ := h
    refine ⟨_, (pss_cons (ps_set (i := 1) sc__law_numbers.nd rfl (Or.inl rfl) (pe_c c__law_book hr (by decide) rfl (pa_cons (pv 0) pa_nil)))
    (C8.pss_cut (ps_if (pt_val (pe_c c__law_rarely hr (by decide) rfl (pa_cons (pv 0) (pa_cons (pe_int) pa_nil))))
    (pss_one (ps_set (i := 1) sc__law_numbers.nd rfl (Or.inl rfl) (pe_lst (pa_cons (pe_c c__law_pick hr (by decide) rfl (pa_cons (pv 0) (pa_cons (pe_int) pa_nil))) (pa_cons (pe_c c__law_pick hr (by decide) rfl (pa_cons (pv 0) (pa_cons (pe_int) pa_nil))) pa_nil)))))
    pss_nil)
    (C8.pss_cut (ps_if (pt_val (pe_c c__law_rarely hr (by decide) rfl (pa_cons (pv 0) (pa_cons (pe_int) pa_nil))))
    (pss_one (ps_set (i := 1) sc__law_numbers.nd rfl (Or.inl rfl) (pe_lst (pa_cons (pe_c c__law_some hr (by decide) rfl (pa_cons (pv 0) (pa_cons (pe_int) (pa_cons (pe_int) pa_nil)))) (pa_cons (pe_c c__law_some hr (by decide) rfl (pa_cons (pv 0) (pa_cons (pe_int) (pa_cons (pe_int) pa_nil)))) pa_nil)))))
    pss_nil)
    (pss_one (ps_ret (pv 1)))))), ?_⟩
    let Iv : L2.St → Hp → Prop := fun σ H' => ∃ (t : Addr) (a b : Int), σ = [some (.ref tp), some (.ref t)] ∧ KB tp H H' ∧ Tape H' tp cl ns ∧ t ≠ tp ∧ H' t = some (.lst [.int a, .int b]) ∧ 0 ≤ a ∧ a ≤ 100 ∧ 0 ≤ b ∧ b ≤ 100
    refine ⟨_, rfl, tp, cl, ns, rfl, T, fun H1 t a b k1 T1 nt ht a0 a1 b0 b1 => ?_⟩
    refine ⟨Iv, ?_, ?_⟩
    · refine ⟨_, rfl, tp, cl, ns, 5, rfl, T1, by decide, fun H2 c k2 T2 => ⟨c, rfl, ?_⟩⟩
      cases c with
      | false => exact ⟨t, a, b, rfl, k1.trans k2, T2, nt, k2 _ _ nt ht, a0, a1, b0, b1⟩
      | true =>
        refine ⟨_, rfl, tp, cl, ns, 13, rfl, T2, by decide, fun H3 a' k3 T3 a0' a1' => ⟨_, rfl, tp, cl, ns, 25, rfl, T3, by decide, fun H4 b' k4 T4 b0' b1' => ⟨(by show 2 ≤ sizeLine; decide), fun p hp => ?_⟩⟩⟩
        exact ⟨p, a', b', rfl, (((k1.trans k2).trans k3).trans k4).new T4 hp, T4.new hp, (T4.fresh hp).1.symm, upd_same, a0', by omega, b0', by omega⟩
    rintro σ H2 ⟨t2, a2, b2, rfl, k2, T2, nt2, ht2, a20, a21, b20, b21⟩
    refine ⟨Iv, ?_, ?_⟩
    · refine ⟨_, rfl, tp, cl, ns, 12, rfl, T2, by decide, fun H3 c k3 T3 => ⟨c, rfl, ?_⟩⟩
      cases c with
      | false => exact ⟨t2, a2, b2, rfl, k2.trans k3, T3, nt2, k3 _ _ nt2 ht2, a20, a21, b20, b21⟩
      | true =>
        refine ⟨_, rfl, tp, cl, ns, 0, 100, rfl, T3, by decide, by decide, fun H4 a' k4 T4 a0' a1' => ⟨_, rfl, tp, cl, ns, 0, 100, rfl, T4, by decide, by decide, fun H5 b' k5 T5 b0' b1' => ⟨(by show 2 ≤ sizeLine; decide), fun p hp => ?_⟩⟩⟩
        exact ⟨p, a', b', rfl, (((k2.trans k3).trans k4).trans k5).new T5 hp, T5.new hp, (T5.fresh hp).1.symm, upd_same, a0', a1', b0', b1'⟩
    rintro σ H3 ⟨t3, a3, b3, rfl, k3, T3, nt3, ht3, a30, a31, b30, b31⟩
    exact ⟨_, rfl, q H3 t3 a3 b3 k3 T3 nt3 ht3 a30 a31 b30 b31⟩
theorem ok_goodN {f : Addr} {fd : FuncData} (F : Fun K "_law_good_number" "_law_good_number" s__law_good_number f fd) (m_isinstance : mg "isinstance" = none) (m_int : mg "int" = none) (m_bool : mg "bool" = none) : FnOk P w K mg base CX0 1 f fd ["_law_thing"] spGoodN := by
  refine F.ok sc__law_good_number (fun vs H Q E h => ?_) (fun cdv A outer s H vs Q E hr h => ?_)
  · obtain ⟨v, rfl, _⟩ := h
    rfl
  · obtain ⟨v, rfl, ha, q⟩ := h
    refine ⟨_, (pss_one (ps_ret (pe_and (pe_callB call_isi (by rfl) m_isinstance (by decide +kernel) (pa_cons (pv 0) (pa_cons (pe_bltn (v := .ty "int") (by rfl) m_int (by decide +kernel) rfl) pa_nil))) (pe_and (pe_not (pe_callB call_isi (by rfl) m_isinstance (by decide +kernel) (pa_cons (pv 0) (pa_cons (pe_bltn (v := .ty "bool") (by rfl) m_bool (by decide +kernel) rfl) pa_nil)))) (pe_one (pe_chain op_le op_le (pe_int) (pv 0) (pe_int))))))), ?_⟩
    cases v with
    | int i =>
      refine ⟨_, rfl, _, _, _, _, true, rfl, .ty _, .base (.int i), kit_ty (by decide +kernel), true, rfl, iteT ⟨_, rfl, _, _, _, _, false, rfl, .ty _, .base (.int i), kit_ty (by decide +kernel), false, rfl, true, rfl, iteT ⟨_, rfl, _, _, rfl, rfl, _, rfl, ?_⟩⟩⟩
      have q' : Q (.bl (decide (0 ≤ i) && decide (i ≤ 100))) H := q
      refine ite2 (fun e => ?_) (fun e => ?_)
      · rw [e, Bool.true_and] at q'
        exact ⟨_, _, rfl, rfl, q'⟩
      · rw [Bool.eq_false_iff.mpr e, Bool.false_and] at q'
        exact q'
    | bl b => exact ⟨_, rfl, _, _, _, _, true, rfl, .ty _, .base (.bl b), kit_ty (by decide +kernel), true, rfl, iteT ⟨_, rfl, _, _, _, _, true, rfl, .ty _, .base (.bl b), kit_ty (by decide +kernel), true, rfl, false, rfl, iteF q⟩⟩
    | non => exact ⟨_, rfl, _, _, _, _, false, rfl, .ty _, .base .non, kit_ty (by decide +kernel), false, rfl, iteF q⟩
    | str z => exact ⟨_, rfl, _, _, _, _, false, rfl, .ty _, .base (.str z), kit_ty (by decide +kernel), false, rfl, iteF q⟩
    | ref a =>
      rcases ha with hp | ⟨a', xs, ea, hl | hl⟩
      · exact hp.elim
      · cases ea
        exact ⟨_, rfl, _, _, _, _, false, rfl, .ty _, .base (.lst hl), kit_ty (by decide +kernel), false, rfl, iteF q⟩
      · cases ea
        exact ⟨_, rfl, _, _, _, _, false, rfl, .ty _, .base (.tup hl), kit_ty (by decide +kernel), false, rfl, iteF q⟩
    | byt z => rcases ha with hp | ⟨a', xs, ea, _⟩ <;> first | exact hp.elim | cases ea
    | flt z => rcases ha with hp | ⟨a', xs, ea, _⟩ <;> first | exact hp.elim | cases ea
    | ty z => rcases ha with hp | ⟨a', xs, ea, _⟩ <;> first | exact hp.elim | cases ea
end
end Sea
namespace Sea
open PySem PySem.Spec PyProof.Rows L2
/-- how many slots there are is known where a statement runs -/
theorem pss_len {X : Cx} {st : List Stmt} {t : TS} {n : Nat} (h : PSs X st t) (hn : X.N.length = n) : PSs X st (fun D σ H => σ.length = n → t D σ H) :=
  ⟨fun pins s σ H D I q => h.run pins s σ H D I (q (I.len.trans hn))⟩
theorem two_slots {σ : L2.St} {i : Nat} {x : Option V} (h : (σ.set i x).length = 2) : ∃ u v, σ = [u, v] := by
  rw [List.length_set] at h
  match σ, h with
  | [u, v], _ => exact ⟨u, v, rfl⟩
structure EX12 (K : PySem.W.Frag) (CN CB CM : Addr) : Prop where
  nn : PySem.W.exmOne K (.ref CN) (.ref CN) = some true
  bn : PySem.W.exmOne K (.ref CB) (.ref CN) = some false
  bb : PySem.W.exmOne K (.ref CB) (.ref CB) = some true
  kn : PySem.W.kitAny K (.ref CN) [.ref CB, .ref CM] = some false
  kb : PySem.W.kitAny K (.ref CB) [.ref CN, .ref CM] = some false
def TTr (CN CB : Addr) : (XK → Hp → VK → Prop) → Hp → VK → Prop := fun tl H Q =>
  tl (fun cls d H' => (∃ q w, cls = .ref CN ∧ d = some q ∧ H' q = some (.xd [(("word" : Str), w)]) ∧ ∀ H'' t, Same H' H'' → H'' t = some (.tup [.str "BadNumber", w, .bl false]) → Q (.ref t) H'') ∨
      (∃ q w, cls = .ref CB ∧ d = some q ∧ H' q = some (.xd [(("number" : Str), w)]) ∧ ∀ H'' t, Same H' H'' → H'' t = some (.tup [.str "BadRow", w, .bl false]) → Q (.ref t) H''))
    H (fun _ H' => [V.str "none"].length ≤ sizeLine ∧ ∀ p, H' p = none → Q (.ref p) (upd H' p (.tup [V.str "none"])))
section
variable {X : Cx} {CN CB CM CE fN fB g : Addr} {cdg : Value} {q : Str}
theorem refusal_gives (m_isinstance : X.mg "isinstance" = none) (XN : XC X.K X.mg "BadNumber" "word" CN fN) (XB : XC X.K X.mg "BadRow" "number" CB fB) (gM : X.mg "TooMany" = some (.ref CM)) (gE : X.mg "CaptionError" = some (.ref CE)) (x3 : EX12 X.K CN CB CM) :
    LamX.GivesTo X N__law_refusal "_law_refusal" (defScope s__law_refusal) g cdg (defBody s__law_refusal) "_law_call" q (TTr CN CB) := by
  intro f c' s H Q tl act hc h
  refine ⟨_, (pss_cons (ps_try_cl (X := (cxOf C8.CX0 X.prog X.w X.K X.mg X.base N__law_refusal "_law_refusal" (defScope s__law_refusal) g cdg X.A X.stack s H C8.E0).nox) (Wo := fun _ _ _ _ => False)
        (tb := fun W D σ H => ∃ Ech : XK, (∀ cls d σ' H', Ech cls d H' → W cls d σ' H') ∧ σ[0]? = some (some (.ref f)) ∧ H c' = some (LamX.CodeO c' q) ∧ tl Ech H (fun _ H' => D.nx σ H')) rfl rfl sc__law_refusal.nd takes0
        (fun W pn xe tk _ => by
          refine ⟨fun pins s' σ H' D I h' => ?_⟩
          obtain ⟨Ech, hW, h1, h2, h3⟩ := h'
          exact (pss_one (ps_expr (act W pn xe Ech _ _ tk hW))).run pins s' σ H' D I ⟨h1, h2, h3⟩)
        (.named (i := 1) ⟨rfl, by decide, .inl XN.gC⟩ rfl rfl (fun a oe cls d pn hz hf => pss_len (n := 2) (pss_one (ps_ret (pe_tup (pa_cons (pe_str) (pa_cons (pe_xf XN.xf XN.no hz hf (pv 1)) (pa_cons (pe_callB (call_ask hz hf) (by rfl) m_isinstance (by decide +kernel) (pa_cons (pv 1) (pa_cons (pe_tup (pa_cons (pe_glob (v := .ref CB) rfl XB.gC rfl) (pa_cons (pe_glob (v := .ref CM) rfl gM rfl) pa_nil))) pa_nil))) pa_nil)))))) rfl)
        (.named (i := 1) ⟨rfl, by decide, .inl XB.gC⟩ rfl rfl (fun a oe cls d pn hz hf => pss_len (n := 2) (pss_one (ps_ret (pe_tup (pa_cons (pe_str) (pa_cons (pe_xf XB.xf XB.no hz hf (pv 1)) (pa_cons (pe_callB (call_ask hz hf) (by rfl) m_isinstance (by decide +kernel) (pa_cons (pv 1) (pa_cons (pe_tup (pa_cons (pe_glob (v := .ref CN) rfl XN.gC rfl) (pa_cons (pe_glob (v := .ref CM) rfl gM rfl) pa_nil))) pa_nil))) pa_nil)))))) rfl)
        (.bare ⟨rfl, by decide, .inl gE⟩ (fun a oe cls d pn hz hf => (pss_one (ps_ret (pe_tup (pa_cons (pe_str) pa_nil))))) .nil))))
      (pss_one (ps_ret (pe_tup (pa_cons (pe_str) pa_nil))))), ?_⟩
  refine ⟨_, ?_, rfl, hc, h⟩
  rintro cls d σ' H' (⟨qq, w, rfl, rfl, hd2, hq⟩ | ⟨qq, w, rfl, rfl, hd2, hq⟩)
  · refine ⟨true, x3.nn, fun _ a ha hlen => ?_, (fun z => nomatch z)⟩
    obtain ⟨u, v, rfl⟩ := two_slots hlen
    refine ⟨_, rfl, rfl, rfl, qq, _, _, rfl, hd2, rfl, _, rfl, (by show 2 ≤ sizeLine; decide), fun p hp => ?_⟩
    exact ⟨CN, qq, _, .ref p, false, rfl, rfl, XN.ask, same_new hp _ _ hd2, rfl, .inr ⟨p, _, _, rfl, upd_same, .cons (.own _) (.cons (.own _) .nil), x3.kn⟩, (by show 3 ≤ sizeLine; decide), fun t ht => hq _ t ((same_new hp).trans (same_new ht)) upd_same⟩
  · refine ⟨false, x3.bn, (fun z => nomatch z), fun _ => ⟨true, x3.bb, fun _ a ha hlen => ?_, (fun z => nomatch z)⟩⟩
    obtain ⟨u, v, rfl⟩ := two_slots hlen
    refine ⟨_, rfl, rfl, rfl, qq, _, _, rfl, hd2, rfl, _, rfl, (by show 2 ≤ sizeLine; decide), fun p hp => ?_⟩
    exact ⟨CB, qq, _, .ref p, false, rfl, rfl, XB.ask, same_new hp _ _ hd2, rfl, .inr ⟨p, _, _, rfl, upd_same, .cons (.own _) (.cons (.own _) .nil), x3.kb⟩, (by show 3 ≤ sizeLine; decide), fun t ht => hq _ t ((same_new hp).trans (same_new ht)) upd_same⟩
end
end Sea
namespace Sea
open PySem PySem.Spec PyProof.Rows L2
abbrev lamB12 : Str := ("_law_books_right" ++ ".<locals>." : Str) ++ "<lambda>"
theorem tabs_nl {Ts : List (Addr × Str)} {H H' : Hp} (t : LamX.Tabs Ts H) (k : ∀ b o, H b = some o → (∀ xs, o ≠ .lst xs) → H' b = some o) : LamX.Tabs Ts H' := fun p hp => by
  obtain ⟨ps, h1, h2, h3⟩ := t p hp
  refine ⟨ps, k _ _ h1 (fun xs e => nomatch e), h2, fun pos cv hc => ?_⟩
  obtain ⟨c, rfl, hc'⟩ := h3 pos cv hc
  exact ⟨c, rfl, k _ _ hc' fun xs e => nomatch e⟩
theorem tabs_kb {Ts : List (Addr × Str)} {H H' : Hp} {tp cl : Addr} {ns : List Int} (t : LamX.Tabs Ts H) (T : Tape H tp cl ns) (k : KB tp H H') : LamX.Tabs Ts H' := tabs_nl t fun b o h n => k b o (fun e => by
  obtain ⟨i, r, z, c, h', _⟩ := T.ex
  rw [e, h'] at h
  cases h
  exact n _ rfl) h
theorem tabs_same {Ts : List (Addr × Str)} {H H' : Hp} (t : LamX.Tabs Ts H) (s : Same H H') : LamX.Tabs Ts H' := tabs_nl t fun b o h _ => s b o h
theorem anyV_ext {H H' : Hp} {y : V} (h : AnyV H y) (s : LamX.ExtN H H') : AnyV H' y := by
  rcases h with h | ⟨a', ys, e, h | h⟩
  · exact .inl h
  · exact .inr ⟨a', ys, e, .inl (s _ _ h fun _ z => nomatch z)⟩
  · exact .inr ⟨a', ys, e, .inr (s _ _ h fun _ z => nomatch z)⟩
theorem same_plain {H : Hp} {t u : Addr} {xs : List V} (h1 : H t = some (.tup xs)) (h2 : H u = some (.tup xs)) (pl : ∀ x ∈ xs, Plain x) (l : xs.length ≤ 20000) : SameV 2 H (.ref t) (.ref u) := by
  refine .inr ⟨t, u, xs, xs, rfl, rfl, h1, h2, rfl, l, fun i a b ha hb => ?_⟩
  rw [ha] at hb
  cases hb
  exact .inl ⟨pl a (List.mem_of_getElem? ha), rfl⟩
/-- Book(a, b) of two good numbers -/
theorem book_good {CK CN : Addr} {H1 : Hp} {a b : Int} {Qr : Addr → Hp → Prop} {E : XK} (a0 : 0 ≤ a) (a1 : a ≤ 100) (b0 : 0 ≤ b) (b1 : b ≤ 100) (good : ∀ H2 x, Same H1 H2 → BookAt H2 CK x a b → Qr x H2) :
    ∀ x dx, H1 x = none → H1 dx = none → dx ≠ x → spBook CK CN (.ref x :: ([V.int a, .int b] ++ [])) (upd (upd H1 dx (.own x)) x (.ins CK dx [])) (fun v H2 => v = .non ∧ Qr x H2) E := by
  intro x dx hx hdx ne
  have ia : inside (V.int a) 0 100 = true := by
    show (decide (0 ≤ a) && decide (a ≤ 100)) = true
    rw [decide_eq_true a0, decide_eq_true a1]; rfl
  have ib : inside (V.int b) 0 100 = true := by
    show (decide (0 ≤ b) && decide (b ≤ 100)) = true
    rw [decide_eq_true b0, decide_eq_true b1]; rfl
  refine ⟨x, dx, _, _, rfl, upd_same, .inl trivial, .inl trivial, (fun h => by rw [ia] at h; cases h), (fun _ h => by rw [ib] at h; cases h), fun i j hi hj _ _ _ _ H' e => ⟨rfl, ?_⟩⟩
  cases hi
  cases hj
  subst e
  refine good _ x (fun c o h => ?_) ⟨dx, upd_same⟩
  have nx : c ≠ x := fun e => by rw [e, hx] at h; cases h
  have nd : c ≠ dx := fun e => by rw [e, hdx] at h; cases h
  rw [upd_ne nx, upd_ne nx, upd_ne nx, upd_ne nd]
  exact h
def spBooksR (PB : Addr) : Sp := fun vs H Q _ => ∃ (tp cl : Addr) (ns : List Int), vs = [.ref tp] ∧ Tape H tp cl ns ∧ LamX.Tabs [(PB, lamB12)] H ∧ ∀ H', Q (.bl true) H'
section
variable {P : Program} {w : World} {K : PySem.W.Frag} {mg : Str → Option Value} {base : Heap} {CK CN CB CM CE fN fB fK fQ fRf cB PB : Addr}
theorem ok_booksR {f : Addr} {fd fdK fdQ fdRf : FuncData} (F : FunT K "_law_books_right" "_law_books_right" s__law_books_right f fd cB) (TB : LamX.TabB base mg cB PB)
    (T : BkC K mg CK fK) (FK : FnOk P w K mg base (L2.CX P w) 3 fK fdK ["self", "least", "close"] (spBook CK CN)) (bK : Binds K fdK ["self", "least", "close"] [])
    (FQ : FnOk P w K mg base CX0 1 fQ fdQ ["self", "other"] (spBookEq CK)) (FT : FnOk P w K mg base CX0 1 fQ fdQ ["self", "other"] spBookEqT) (bQ : Binds K fdQ ["self", "other"] [])
    (hEq : PySem.W.findIn K (.ref CK) "__eq__" = some (some (.ref fQ))) (iQ : PySem.W.isFn K (.ref fQ) = true) (sT : PySem.W.subIn K (.type "tuple") (.ref CK) = some false)
    (FRf : Fun K "_law_refusal" "_law_refusal" s__law_refusal fRf fdRf) (gRf : mg "_law_refusal" = some (.ref fRf)) (bRf : Binds K fdRf ["_law_call"] [])
    (m_isinstance : mg "isinstance" = none) (XN : XC K mg "BadNumber" "word" CN fN) (XB : XC K mg "BadRow" "number" CB fB) (gM : mg "TooMany" = some (.ref CM)) (gE : mg "CaptionError" = some (.ref CE)) (x3 : EX12 K CN CB CM)
    (c__law_pick : Cal P w K mg base 1 "_law_pick" spPick) (c__law_some : Cal P w K mg base 2 "_law_some" spSome) (c__law_same : Cal P w K mg base 3 "_law_same" (spSame 2)) (c__law_good_number : Cal P w K mg base 1 "_law_good_number" spGoodN) :
    FnOk P w K mg base CX0 7 f fd ["_law_tape_here"] (spBooksR PB) := by
  obtain ⟨oc, od, kV, doc, pm, an, cdR, ctR, osl, rfl, lkR, hcR⟩ := FRf.ex
  refine F.ok sc__law_books_right (fun vs H Q E h => ?_) (fun A outer s H vs Q E hr h => ?_)
  · obtain ⟨tp, cl, ns, rfl, _⟩ := h
    rfl
  · obtain ⟨tp, cl, ns, rfl, T0, tabs, q⟩ := h
    refine ⟨_, (pss_cons (ps_set (i := 1) sc__law_books_right.nd rfl (Or.inl rfl) (pe_lst (pa_cons (pe_un un_neg (pe_int)) (pa_cons (pe_int) (pa_cons (pe_bl) (pa_cons (pe_non) (pa_cons (pe_str) (pa_cons (pe_int) (pa_cons (pe_int) (pa_cons (pe_c c__law_some hr (by decide) rfl (pa_cons (pv 0) (pa_cons (pe_int) (pa_cons (pe_int) pa_nil)))) (pa_cons (pe_bl) (pa_cons (pe_op op_powB (pe_int) (pe_int)) (pa_cons (pe_tup (pa_cons (pe_int) pa_nil)) pa_nil)))))))))))))
    (pss_cons (ps_set (i := 4) sc__law_books_right.nd rfl (Or.inr rfl) (pe_ix ix_list (pv 1) (pe_c c__law_pick hr (by decide) rfl (pa_cons (pv 0) (pa_cons (pe_int) pa_nil))) (fun _ _ => rfl)))
    (pss_cons (ps_set (i := 5) sc__law_books_right.nd rfl (Or.inr rfl) (pe_ix ix_list (pv 1) (pe_c c__law_pick hr (by decide) rfl (pa_cons (pv 0) (pa_cons (pe_int) pa_nil))) (fun _ _ => rfl)))
    (pss_cons (ps_set (i := 2) sc__law_books_right.nd rfl (Or.inl rfl) (show PE _ _ (LamX.tLam [(PB, lamB12)] (TTr CN CB) (fun E => tMakeS CK (spBook CK CN) [] (WE fun cls d _ H => E cls d H) (tCons (tVar 4) (tCons (tVar 5) tNil)))) from by
          refine LamX.pe_lamcall (k := 4) (P := PB) (c := cB) (Ng := N__law_refusal) (sg := defScope s__law_refusal) rfl gRf FRf.kp lkR hcR bRf sc__law_refusal rfl ?_ (refusal_gives m_isinstance XN XB gM gE x3) TB rfl (List.mem_singleton_self _) (fun q hq _ => by rw [List.mem_singleton.mp hq]; rfl) (hr.mono (by decide)) (show LamX.LamS (defScope s__law_books_right) _ from LamX.lamS_by (by decide +kernel)) rfl (fun _ _ _ _ _ => rfl) ?_
          · exact Or.inl rfl
          · intro A outer s H E f c' hr2
            refine pe_makeS (CX := L2.CX P w) (ps := ["self", "least", "close"]) (k := 3) (C := CK) (f := fK) (fd := fdK) (sp := spBook CK CN) (ds := []) ?_ ?_ ?_ ?_ ?_ ?_ ?_ ?_ ?_
            · exact T.made
            · exact FK
            · exact hr2
            · rfl
            · exact T.g
            · exact bK
            · exact .nil
            · exact (fun σ => passAt (takes_of rfl rfl rfl rfl) σ)
            · exact pa_cons (pv 4) (pa_cons (pv 5) pa_nil)))
    (pss_cons (ps_if (pt_not (pt_val (pe_c c__law_good_number hr (by decide) rfl (pa_cons (pv 4) pa_nil))))
    (pss_one (ps_ret (pe_c c__law_same hr (by decide) rfl (pa_cons (pv 2) (pa_cons (pe_tup (pa_cons (pe_str) (pa_cons (pe_str) (pa_cons (pe_bl) pa_nil)))) pa_nil)))))
    pss_nil)
    (pss_cons (ps_if (pt_not (pt_val (pe_c c__law_good_number hr (by decide) rfl (pa_cons (pv 5) pa_nil))))
    (pss_one (ps_ret (pe_c c__law_same hr (by decide) rfl (pa_cons (pv 2) (pa_cons (pe_tup (pa_cons (pe_str) (pa_cons (pe_str) (pa_cons (pe_bl) pa_nil)))) pa_nil)))))
    pss_nil)
    (pss_cons (ps_if (pt_cmpR (op_neD hr.units) (pv 2) (pe_tup (pa_cons (pe_str) pa_nil)) (nomark _))
    (pss_one (ps_ret (pe_bl)))
    pss_nil)
    (pss_cons (ps_set (i := 3) sc__law_books_right.nd rfl (Or.inl rfl) (pe_makeS (E := WE fun _ _ _ _ => False) T.made FK (hr.mono (by decide)) rfl T.g bK .nil (fun σ => passAt takes0 σ) (pa_cons (pv 4) (pa_cons (pv 5) pa_nil))))
    (pss_cons (ps_if (PW.pt (pw_or (pt_not (pt_val (pe_c c__law_same hr (by decide) rfl (pa_cons (pe_fld (pv 3) rfl) (pa_cons (pv 4) pa_nil))))) (pw_or1 (pt_not (pt_val (pe_c c__law_same hr (by decide) rfl (pa_cons (pe_fld (pv 3) rfl) (pa_cons (pv 5) pa_nil))))))))
    (pss_one (ps_ret (pe_bl)))
    pss_nil)
    (pss_cons (ps_if (PW.pt (pw_or (pt_not (pt_val (pe_c c__law_same hr (by decide) rfl (pa_cons (pe_cmpR (op_ownEq FQ hr (by decide) hEq iQ bQ) (pv 3) (pe_makeS (E := WE fun _ _ _ _ => False) T.made FK (hr.mono (by decide)) rfl T.g bK .nil (fun σ => passAt takes0 σ) (pa_cons (pv 4) (pa_cons (pv 5) pa_nil))) (nomark _)) (pa_cons (pe_bl) pa_nil))))) (pw_or1 (pt_not (pt_val (pe_c c__law_same hr (by decide) rfl (pa_cons (pe_cmpR (op_ownEqT FT hr (by decide) sT hEq iQ bQ) (pv 3) (pe_tup (pa_cons (pv 4) (pa_cons (pv 5) pa_nil))) (nomark _)) (pa_cons (pe_bl) pa_nil))))))))
    (pss_one (ps_ret (pe_bl)))
    pss_nil)
    (pss_cons (ps_if (pt_not (pt_val (pe_c c__law_same hr (by decide) rfl (pa_cons (pe_cmpR (op_ownEq FQ hr (by decide) hEq iQ bQ) (pv 3) (pe_makeS (E := WE fun _ _ _ _ => False) T.made FK (hr.mono (by decide)) rfl T.g bK .nil (fun σ => passAt takes0 σ) (pa_cons (pv 5) (pa_cons (pv 4) pa_nil))) (nomark _)) (pa_cons (pe_cmpR op_eq (pv 4) (pv 5) (nomark _)) pa_nil)))))
    (pss_one (ps_ret (pe_bl)))
    pss_nil)
    (pss_one (ps_ret (pe_c c__law_same hr (by decide) rfl (pa_cons (pe_cmpR (op_ownEq FQ hr (by decide) hEq iQ bQ) (pv 3) (pe_makeS (E := WE fun _ _ _ _ => False) T.made FK (hr.mono (by decide)) rfl T.g bK .nil (fun σ => passAt takes0 σ) (pa_cons (pv 4) (pa_cons (pe_op op_sub (pe_int) (pv 5)) pa_nil))) (nomark _)) (pa_cons (pe_cmpR op_eq (pv 5) (pe_int) (nomark _)) pa_nil)))))))))))))))), ?_⟩
    refine ⟨1, rfl, _, rfl, tp, cl, ns, 0, 100, rfl, T0, by decide, by decide, fun H1 d k1 T1 d0 d1 => ?_⟩
    refine ⟨10, 39, rfl, rfl, ⟨by decide, by decide +kernel⟩, ?_⟩
    dsimp only
    generalize (10 : Int) ^ (39 : Int).toNat = big
    refine ⟨(by show 1 ≤ sizeLine; decide), fun p1 hp1 => ?_⟩
    have k2 := k1.new T1 (o := .tup [.int 1]) hp1
    have T2 := T1.new (o := .tup [.int 1]) hp1
    have n1 := (T1.fresh hp1).1.symm
    have h1 := upd_same (H := H1) (a := p1) (o := .tup [V.int 1])
    generalize upd H1 p1 _ = H2 at k2 T2 h1 ⊢
    refine ⟨(by show 11 ≤ sizeLine; decide), fun p2 hp2 => ?_⟩
    have k3 := k2.new T2 (o := .lst [.int (-1), .int 101, .bl true, .non, .str "1", .int 0, .int 100, .int d, .bl false, .int big, .ref p1]) hp2
    have T3 := T2.new (o := .lst [.int (-1), .int 101, .bl true, .non, .str "1", .int 0, .int 100, .int d, .bl false, .int big, .ref p1]) hp2
    have n2 := (T2.fresh hp2).1.symm
    have h2 := upd_same (H := H2) (a := p2) (o := .lst [V.int (-1), .int 101, .bl true, .non, .str "1", .int 0, .int 100, .int d, .bl false, .int big, .ref p1])
    have h1 := same_new (o := .lst [.int (-1), .int 101, .bl true, .non, .str "1", .int 0, .int 100, .int d, .bl false, .int big, .ref p1]) hp2 _ _ h1
    have tabs3 := tabs_kb tabs T0 k3
    generalize upd H2 p2 _ = H3 at k3 T3 h1 h2 tabs3 ⊢
    have pk : ∀ e : Int, 0 ≤ e → e < 11 → ∃ v, atI [.int (-1), .int 101, .bl true, .non, .str "1", .int 0, .int 100, .int d, .bl false, .int big, .ref p1] e = some v ∧ ∀ H', KB tp H3 H' → AnyV H' v := by
      intro e e0 e1
      obtain ⟨n, rfl⟩ : ∃ n : Nat, e = (n : Int) := ⟨e.toNat, by omega⟩
      have : n = 0 ∨ n = 1 ∨ n = 2 ∨ n = 3 ∨ n = 4 ∨ n = 5 ∨ n = 6 ∨ n = 7 ∨ n = 8 ∨ n = 9 ∨ n = 10 := by omega
      rcases this with rfl | rfl | rfl | rfl | rfl | rfl | rfl | rfl | rfl | rfl | rfl
      · exact ⟨_, atI_nat (j := 0) rfl, fun _ _ => .inl trivial⟩
      · exact ⟨_, atI_nat (j := 1) rfl, fun _ _ => .inl trivial⟩
      · exact ⟨_, atI_nat (j := 2) rfl, fun _ _ => .inl trivial⟩
      · exact ⟨_, atI_nat (j := 3) rfl, fun _ _ => .inl trivial⟩
      · exact ⟨_, atI_nat (j := 4) rfl, fun _ _ => .inl trivial⟩
      · exact ⟨_, atI_nat (j := 5) rfl, fun _ _ => .inl trivial⟩
      · exact ⟨_, atI_nat (j := 6) rfl, fun _ _ => .inl trivial⟩
      · exact ⟨_, atI_nat (j := 7) rfl, fun _ _ => .inl trivial⟩
      · exact ⟨_, atI_nat (j := 8) rfl, fun _ _ => .inl trivial⟩
      · exact ⟨_, atI_nat (j := 9) rfl, fun _ _ => .inl trivial⟩
      · exact ⟨_, atI_nat (j := 10) rfl, fun _ k => .inr ⟨p1, _, rfl, .inr (k _ _ n1 h1)⟩⟩
    refine ⟨_, rfl, _, rfl, tp, cl, ns, 11, rfl, T3, by decide, fun H4 e k4 T4 e0 e1 => ?_⟩
    obtain ⟨v1, hv1, av1⟩ := pk e e0 (by omega)
    refine ⟨p2, _, _, v1, rfl, rfl, SqL.of (k4 _ _ n2 h2), hv1, ?_⟩
    refine ⟨_, rfl, _, rfl, tp, cl, ns, 11, rfl, T4, by decide, fun H5 e' k5 T5 e0' e1' => ?_⟩
    obtain ⟨v2, hv2, av2⟩ := pk e' e0' (by omega)
    have k35 := k4.trans k5
    refine ⟨p2, _, _, v2, rfl, rfl, SqL.of (k35 _ _ n2 h2), hv2, ?_⟩
    have av1 := av1 H5 k35
    have av2 := av2 H5 k35
    clear pk hv1 hv2 h1 h2
    refine ⟨tabs_kb tabs3 T3 k35, fun H6 e6 _ => ?_⟩
    have av1 := anyV_ext av1 e6
    have av2 := anyV_ext av2 e6
    refine ⟨_, rfl, _, rfl, fun x dx hx hdx ne => ?_⟩
    have s1 := same_new (o := .own x) hdx
    have hx1 : upd H6 dx (.own x) x = none := by rw [upd_ne (Ne.symm ne)]; exact hx
    have s2 := same_new (o := .ins CK dx []) hx1
    have av1 := anyV_keep av1 (s1.trans s2)
    have av2 := anyV_keep av2 (s1.trans s2)
    have hx2 := upd_same (H := upd H6 dx (.own x)) (a := x) (o := .ins CK dx [])
    generalize upd (upd H6 dx (.own x)) x (.ins CK dx []) = H7 at av1 av2 hx2 ⊢
    refine ⟨x, dx, v1, v2, rfl, hx2, av1, av2, fun hI q' hq' => ?_, fun hI hJ q' hq' => ?_, fun i j e1 e2 i0 i1 j0 j1 H8 eH => ?_⟩
    · refine .inl ⟨q', .str "least", rfl, rfl, upd_same, fun H8 t s8 ht => ?_⟩
      refine ⟨_, rfl, v1, rfl, anyV_keep (anyV_keep av1 (same_new hq')) s8, _, rfl, ?_⟩
      rw [hI]
      refine ⟨_, rfl, (by show 3 ≤ sizeLine; decide), fun u hu => ⟨_, _, rfl, same_plain (same_new hu _ _ ht) upd_same (fun y hy => ?_) (by show 3 ≤ 20000; decide), fun H' _ => q H'⟩⟩
      simp only [List.mem_cons, List.mem_nil_iff, or_false] at hy
      rcases hy with rfl | rfl | rfl <;> trivial
    · refine .inl ⟨q', .str "close", rfl, rfl, upd_same, fun H8 t s8 ht => ?_⟩
      have S8 := (same_new (o := .xd [(("word" : Str), V.str "close")]) hq').trans s8
      refine ⟨_, rfl, v1, rfl, anyV_keep av1 S8, _, rfl, ?_⟩
      rw [hI]
      refine ⟨_, rfl, v2, rfl, anyV_keep av2 S8, _, rfl, ?_⟩
      rw [hJ]
      refine ⟨_, rfl, (by show 3 ≤ sizeLine; decide), fun u hu => ⟨_, _, rfl, same_plain (same_new hu _ _ ht) upd_same (fun y hy => ?_) (by show 3 ≤ 20000; decide), fun H' _ => q H'⟩⟩
      simp only [List.mem_cons, List.mem_nil_iff, or_false] at hy
      rcases hy with rfl | rfl | rfl <;> trivial
    · subst e1 e2 eH
      have hI : inside (V.int i) 0 100 = true := by
        show (decide (0 ≤ i) && decide (i ≤ 100)) = true
        rw [decide_eq_true i0, decide_eq_true i1]; rfl
      have hJ : inside (V.int j) 0 100 = true := by
        show (decide (0 ≤ j) && decide (j ≤ 100)) = true
        rw [decide_eq_true j0, decide_eq_true j1]; rfl
      refine ⟨rfl, (by show 1 ≤ sizeLine; decide), fun t ht => ?_⟩
      have ht' := upd_same (H := upd (upd H7 x (.ins CK dx (putF "least" (.int i) []))) x (.ins CK dx (bookF (.int i) (.int j)))) (a := t) (o := .tup [V.str "none"])
      generalize upd (upd (upd H7 x (.ins CK dx (putF "least" (.int i) []))) x (.ins CK dx (bookF (.int i) (.int j)))) t (.tup [V.str "none"]) = H8 at ht' ⊢
      refine ⟨_, rfl, _, rfl, .inl trivial, _, rfl, ?_⟩
      rw [hI]
      refine ⟨_, rfl, _, rfl, .inl trivial, _, rfl, ?_⟩
      rw [hJ]
      refine ⟨_, rfl, (by show 1 ≤ sizeLine; decide), fun u hu => ?_⟩
      refine ⟨.tuple [.str "none"], .tuple [.str "none"], .tup (SqT.of (same_new hu _ _ ht')) (.cons (.str _) .nil), .tup (SqT.of upd_same) (.cons (.str _) .nil), (by decide +kernel), (by decide +kernel), _, rfl, ?_⟩
      rw [show PyData.eqv (.tuple [.str "none"]) (.tuple [.str "none"]) = true from by decide +kernel]
      refine iteF ?_
      refine ⟨_, rfl, _, rfl, book_good i0 i1 j0 j1 fun H9 b s9 hb => ?_⟩
      obtain ⟨db, hdb⟩ := id hb
      refine ⟨_, rfl, b, CK, db, _, _, rfl, hdb, T.cl, T.nL, book_least _ _, _, rfl, _, _, rfl, .inl ⟨trivial, rfl⟩, fun H10 s10 => ⟨_, rfl, ?_⟩⟩
      have hdb := s10 _ _ hdb
      refine ⟨_, rfl, b, CK, db, _, _, rfl, hdb, T.cl, T.nC, book_close _ _, _, rfl, _, _, rfl, .inl ⟨trivial, rfl⟩, fun H11 s11 => ⟨_, rfl, ?_⟩⟩
      have hb := (hb.keep s10).keep s11
      refine ⟨_, rfl, _, rfl, _, rfl, book_good i0 i1 j0 j1 fun H12 c s12 hc => ?_⟩
      obtain ⟨dc, hdc⟩ := id hc
      have hb := hb.keep s12
      obtain ⟨db, hdb⟩ := id hb
      refine ⟨b, c, db, dc, _, _, rfl, rfl, hdb, hdc, b, c, _, _, _, _, rfl, hb, hc, ⟨_, rfl⟩, ?_⟩
      refine ⟨_, _, rfl, .inl ⟨trivial, by rw [decide_eq_true ⟨rfl, rfl⟩]⟩, fun H13 s13 => ⟨_, rfl, ?_⟩⟩
      have hb := hb.keep s13
      refine ⟨_, rfl, _, rfl, _, rfl, (by show 2 ≤ sizeLine; decide), fun p hp => ?_⟩
      have hb := hb.keep (same_new (o := .tup [.int i, .int j]) hp)
      have hp' := upd_same (H := H13) (a := p) (o := .tup [V.int i, .int j])
      generalize upd H13 p _ = H14 at hb hp' ⊢
      obtain ⟨db, hdb⟩ := id hb
      refine ⟨b, p, db, _, _, rfl, rfl, hdb, hp', b, p, _, rfl, hp', ⟨_, rfl⟩, ?_⟩
      refine ⟨_, _, rfl, .inl ⟨trivial, rfl⟩, fun H15 s15 => ⟨_, rfl, ?_⟩⟩
      have hb := hb.keep s15
      refine ⟨_, rfl, _, rfl, _, rfl, book_good j0 j1 i0 i1 fun H16 c s16 hc => ?_⟩
      obtain ⟨dc, hdc⟩ := id hc
      have hb := hb.keep s16
      obtain ⟨db, hdb⟩ := id hb
      refine ⟨b, c, db, dc, _, _, rfl, rfl, hdb, hdc, b, c, _, _, _, _, rfl, hb, hc, ⟨_, rfl⟩, ?_⟩
      refine ⟨_, rfl, _, rfl, rfl, ?_⟩
      refine ⟨_, _, rfl, .inl ⟨trivial, ?_⟩, fun H17 s17 => ⟨_, rfl, ?_⟩⟩
      · refine congrArg V.bl ?_
        by_cases h : i = j
        · rw [decide_eq_true ⟨h, h.symm⟩, decide_eq_true (congrArg V.int h)]
        · rw [decide_eq_false fun z => h z.1, decide_eq_false fun z => h (V.int.inj z)]
      have hb := hb.keep s17
      refine ⟨_, rfl, _, rfl, _, rfl, _, _, rfl, rfl, book_good i0 i1 (by omega) (by omega) fun H18 c s18 hc => ?_⟩
      obtain ⟨dc, hdc⟩ := id hc
      have hb := hb.keep s18
      obtain ⟨db, hdb⟩ := id hb
      refine ⟨b, c, db, dc, _, _, rfl, rfl, hdb, hdc, b, c, _, _, _, _, rfl, hb, hc, ⟨_, rfl⟩, ?_⟩
      refine ⟨_, rfl, rfl, ?_⟩
      refine ⟨_, _, rfl, .inl ⟨trivial, ?_⟩, fun H19 s19 => q H19⟩
      refine congrArg V.bl ?_
      by_cases h : j = 50
      · rw [decide_eq_true ⟨rfl, by omega⟩, decide_eq_true (congrArg V.int h)]
      · rw [decide_eq_false fun z => h (by omega), decide_eq_false fun z => h (V.int.inj z)]
end
end Sea
namespace Sea
open PySem PySem.Spec PyProof.Rows L2
def spWay : Sp := fun vs H Q _ => ∃ (tp cl : Addr) (ns : List Int) (wa ma : Addr) (mc mp len most : Int) (L : List (Addr × Cue)) (M : List (Addr × Piece)) (A : List (Addr × (Str × Str))) (ss es : List Str), vs = [.ref tp, .ref wa, .ref ma, .int most] ∧ Tape H tp cl ns ∧ WorldAt (rest tp H) wa len L M A ss es ∧ ModelAt (rest tp H) ma (cuesC L) (pcs M) (prs A) ∧
  GoodW mc mp len (cuesC L) (pcs M) (prs A) ss es ∧ 1 ≤ most ∧ most ≤ 40 ∧
  ∀ (H' : Hp) (t : Addr) (zs : List Str), KB tp H H' → Tape H' tp cl ns → t ≠ tp → H' t = some (.lst (zs.map V.str)) → (∀ z ∈ zs, z ∈ (pcs M).map (·.nm)) → 1 ≤ zs.length → (zs.length : Int) ≤ most → Q (.ref t) H'
section
variable {P : Program} {w : World} {K : PySem.W.Frag} {mg : Str → Option Value} {base : Heap}
theorem ok_way {f : Addr} {fd : FuncData} (F : Fun K "_law_drawn_way" "_law_drawn_way" s__law_drawn_way f fd) (m_range : mg "range" = none) (m_len : mg "len" = none) (c__law_pick : Cal P w K mg base 1 "_law_pick" spPick) (c__law_some : Cal P w K mg base 2 "_law_some" spSome) :
    FnOk P w K mg base CX0 3 f fd ["_law_tape_here", "_law_world_here", "_law_model_here", "_law_most"] spWay := by
  refine F.ok sc__law_drawn_way (fun vs H Q E h => ?_) (fun cdv A outer s H vs Q E hr h => ?_)
  · obtain ⟨tp, cl, ns, wa, ma, mc, mp, len, most, L, M, A, ss, es, rfl, _⟩ := h
    rfl
  · obtain ⟨tp, cl, ns, wa, ma, mc, mp, len, most, L, M, As, ss, es, rfl, T, ⟨ca, pa, aa, sa, ea, W⟩, ⟨d1, d2, d3, d4, B⟩, g, m1, m40, q⟩ := h
    refine ⟨_, (pss_cons (ps_set (i := 4) sc__law_drawn_way.nd rfl (Or.inl rfl) (pe_lst (pa_cons (pe_ix ix_list (pe_ix ix_list (pv 1) (pe_int) (fun _ _ => rfl)) (pe_c c__law_pick hr (by decide) rfl (pa_cons (pv 0) (pa_cons (pe_callB call_len (by rfl) m_len (by decide +kernel) (pa_cons (pe_ix ix_list (pv 1) (pe_int) (fun _ _ => rfl)) pa_nil)) pa_nil))) (fun _ _ => rfl)) pa_nil)))
    (pss_cons (ps_for PassesOwn.never rfl (pi_range1 (by rfl) m_range (pa_cons (pe_c c__law_some hr (by decide) rfl (pa_cons (pv 0) (pa_cons (pe_int) (pa_cons (pe_op op_sub (pv 3) (pe_int)) pa_nil)))) pa_nil)) (pg_name (i := 5) sc__law_drawn_way.nd rfl (Or.inl rfl))
    (pss_cons (ps_set (i := 6) sc__law_drawn_way.nd rfl (Or.inl rfl) (pe_dget (hu_of hr) (pe_ix ix_list (pv 2) (pe_int) (fun _ _ => rfl)) (pe_ix ix_list (pv 4) (pe_un un_neg (pe_int)) (fun _ _ => rfl)) (fun _ _ => rfl)))
    (pss_one (ps_if (pt_truth (pv 6) (by intro _; rfl))
    (pss_one (ps_expr (pe_bm PySem.F.plainAttrs_list PySem.F.slot_list_append PySem.F.type_list_append mt_append (pv 4) (pa_cons (pe_ix ix_list (pv 6) (pe_c c__law_pick hr (by decide) rfl (pa_cons (pv 0) (pa_cons (pe_callB call_len (by rfl) m_len (by decide +kernel) (pa_cons (pv 6) pa_nil)) pa_nil))) (fun _ _ => rfl)) pa_nil))))
    pss_nil))))
    (pss_one (ps_ret (pv 4))))), ?_⟩
    have at0 : ∀ {H' : Hp}, KB tp H H' → Same (rest tp H) H' := fun k a o h => rest_le _ _ _ _ (rest_kb k _ _ h)
    have k0 := at0 (KB.refl tp H)
    have ls1 := g.st.some
    have ls2 := g.st.most
    refine ⟨_, rfl, wa, _, 4, _, rfl, rfl, SqL.of (k0 _ _ W.w), atI_nat (j := 4) rfl, _, rfl, _, rfl, wa, _, 4, _, rfl, rfl, SqL.of (k0 _ _ W.w), atI_nat (j := 4) rfl, _, ss.length, rfl, .inl ⟨_, SqL.of (k0 _ _ W.s), (List.length_map ..).symm⟩, tp, cl, ns, _, rfl, T, by omega, fun H1 d kb1 T1 e0 e1 => ?_⟩
    obtain ⟨n, rfl⟩ : ∃ n : Nat, d = (n : Int) := ⟨d.toNat, by omega⟩
    have hn : n < ss.length := by omega
    have en : (ss.map V.str)[n]? = some (V.str ss[n]) := by rw [List.getElem?_map, List.getElem?_eq_getElem hn]; rfl
    refine ⟨sa, _, _, _, rfl, rfl, SqL.of (at0 kb1 _ _ W.s), atI_nat en, Nat.le_of_lt (small_line (by show 1 ≤ 100000; decide)), fun D hD => ?_⟩
    have nD := (T1.fresh hD).1
    have goneD := kb_none kb1 T1 hD
    have k2 := kb1.over (o := .lst [V.str ss[n]]) goneD
    have T2 := T1.new (o := .lst [V.str ss[n]]) hD
    refine ⟨_, rfl, _, rfl, _, _, rfl, rfl, tp, cl, ns, 0, _, rfl, T2, by omega, by omega, fun H3 m kb3 T3 n0 n1 => ?_⟩
    have hd3 := kb3 _ _ nD.symm (upd_same (H := H1) (a := D) (o := .lst [V.str ss[n]]))
    have k3 := k2.trans kb3
    refine ⟨m, rfl, by omega, by omega, ?_⟩
    refine for_it (walk_range (lo := 0) (n := m.toNat)) (fun i σ H' => (∃ (k5 k6 : Option V) (zs : List Str), σ = [some (.ref tp), some (.ref wa), some (.ref ma), some (.int most), some (.ref D), k5, k6] ∧ H' D = some (.lst (zs.map V.str)) ∧ (∀ z ∈ zs, z ∈ (pcs M).map (·.nm)) ∧ 1 ≤ zs.length ∧ zs.length ≤ i + 1) ∧ KB tp H H' ∧ Tape H' tp cl ns)
      ⟨⟨none, none, [ss[n]], rfl, hd3, fun z hz => by rw [List.mem_singleton.mp hz]; exact g.st.sub _ (List.getElem_mem hn), Nat.le_refl _, Nat.le_refl _⟩, k3, T3⟩ (fun _ _ _ _ _ => trivial) ?_ ?_
    · rintro i y σ Ha Hb hi ⟨⟨k5, k6, zs, rfl, hd, hz, z1, z2⟩, ka, Ta⟩ ⟨rfl, rfl⟩
      have ak := at0 ka
      have hl : zs.length - 1 < zs.length := by omega
      have hlast : atI (zs.map V.str) (-1) = some (V.str zs[zs.length - 1]) := by
        rw [atI_end (by rw [List.length_map]; exact hl)]
        simp
      have zin := hz _ (List.getElem_mem hl)
      obtain ⟨ks, v, hk, hv, na, ys, rfl, hna, hperm, _⟩ := B.be.get (by rw [List.length_map]; exact Nat.le_refl _) zin
      have dg : DGet Hb d4 (V.str zs[zs.length - 1]) (some (.ref na)) := hv ▸ DGet.k (k := Sum.inr zs[zs.length - 1]) (ak _ _ hk)
      have yin : ∀ y ∈ ys, y ∈ (pcs M).map (·.nm) := fun y hy => by
        have h1 := hperm.mem_iff.mp hy
        obtain ⟨a, ha, rfl⟩ := List.mem_map.mp h1
        exact (g.ai a (List.mem_filter.mp ha).1).2
      have ly : ys.length ≤ 100 := by
        have h1 := hperm.length_eq
        have h2 := rights_few g.an (ns := (pcs M).map (·.nm)) (fun a ha => (g.ai a ha).2) zs[zs.length - 1]
        have h3 := g.al
        have h4 : (rightsOf (prs As) zs[zs.length - 1]).length ≤ (prs As).length := by
          unfold rightsOf
          rw [List.length_map]
          exact List.length_filter_le _ _
        omega
      have nna : na ≠ tp := fun e => by
        rw [e] at hna
        unfold rest at hna
        rw [if_pos rfl] at hna
        cases hna
      refine ⟨_, rfl, ma, _, 4, _, rfl, rfl, SqL.of (ak _ _ B.m), atI_nat (j := 4) rfl, _, rfl, _, rfl, D, _, _, _, rfl, rfl, SqL.of hd, hlast, d4, _, rfl, dg, ?_⟩
      refine ⟨_, rfl, _, .inl ⟨_, SqL.of (ak _ _ hna), rfl⟩, ?_⟩
      cases ys with
      | nil => exact ⟨⟨_, _, zs, rfl, hd, hz, z1, by omega⟩, ka, Ta⟩
      | cons y0 yr =>
        refine iteT ⟨_, rfl, .inl ⟨rfl, _, SqL.of hd⟩, _, rfl, _, rfl, _, rfl, _, (y0 :: yr).length, rfl, .inl ⟨_, SqL.of (ak _ _ hna), (List.length_map ..).symm⟩, tp, cl, ns, _, rfl, Ta, by omega, fun H4 u k4 T4 u0 u1 => ?_⟩
        obtain ⟨j, rfl⟩ : ∃ j : Nat, u = (j : Int) := ⟨u.toNat, by omega⟩
        have lc : 1 ≤ (y0 :: yr).length := by rw [List.length_cons]; omega
        have hj : j < (y0 :: yr).length := by omega
        have ej : ((y0 :: yr).map V.str)[j]? = some (V.str (y0 :: yr)[j]) := by rw [List.getElem?_map, List.getElem?_eq_getElem hj]; rfl
        have hd4 := k4 _ _ nD.symm hd
        refine ⟨na, _, _, _, rfl, rfl, SqL.of (at0 (ka.trans k4) _ _ hna), atI_nat ej, D, _, _, rfl, rfl, hd4, small_line (by rw [List.length_map]; omega), ⟨_, _, zs ++ [(y0 :: yr)[j]], rfl, ?_, fun z hz' => ?_, ?_, ?_⟩, (ka.trans k4).over goneD, T4.other nD (T1.fresh hD).2⟩
        · rw [upd_same, List.map_append]
          rfl
        · rcases List.mem_append.mp hz' with h | h
          · exact hz z h
          · rw [List.mem_singleton.mp h]
            exact yin _ (List.getElem_mem hj)
        · rw [List.length_append]; omega
        · rw [List.length_append, List.length_cons, List.length_nil]; omega
    · rintro σ H' ⟨⟨k5, k6, zs, rfl, hd, hz, z1, z2⟩, ka, Ta⟩
      exact ⟨_, rfl, q H' D zs ka Ta nD.symm hd hz z1 (by omega)⟩
end
end Sea
namespace Sea
open PySem PySem.Spec PyProof.Rows L2
def rLenK (K : PySem.W.Frag) : List V → Hp → VK → Prop := fun xs H Q => ∃ x n, xs = [x] ∧ LenV K x H n ∧ Q (.int n) H
def spRow : Sp := fun vs H Q _ => ∃ (tp cl : Addr) (ns : List Int) (wa ma na : Addr) (mc mp len : Int) (L : List (Addr × Cue)) (M : List (Addr × Piece)) (A : List (Addr × (Str × Str))) (ss es : List Str) (ys : List Str), vs = [.ref tp, .ref wa, .ref ma, .ref na] ∧ Tape H tp cl ns ∧ WorldAt (rest tp H) wa len L M A ss es ∧ ModelAt (rest tp H) ma (cuesC L) (pcs M) (prs A) ∧
  GoodW mc mp len (cuesC L) (pcs M) (prs A) ss es ∧ H na = some (.lst (ys.map V.str)) ∧ na ≠ tp ∧ (∀ z ∈ ys, z ∈ (pcs M).map (·.nm)) ∧ 1 ≤ ys.length ∧ ys.length ≤ 12 ∧
  ∀ (H' : Hp) (t : Addr) (zs : List Str), KB tp H H' → Tape H' tp cl ns → t ≠ tp → H' t = some (.lst (zs.map V.str)) → (∀ z ∈ zs, z ∈ (pcs M).map (·.nm)) → 1 ≤ zs.length → zs.length ≤ 12 → Q (.ref t) H'
theorem cut_part (a n : Nat) (xs : List V) : ∀ {d : Nat}, d = a + n → cutV xs (some ((a : Nat) : Int)) (some ((d : Nat) : Int)) = (xs.drop a).take n := by
  intro d hd
  unfold cutV
  rw [HT.sIx_nat, HT.sIx_nat, hd]
  by_cases h : a ≤ xs.length
  · rw [Nat.min_eq_left h]
    by_cases h2 : a + n ≤ xs.length
    · rw [Nat.min_eq_left h2, show a + n - a = n by omega]
    · rw [Nat.min_eq_right (by omega), List.take_of_length_le (by rw [List.length_drop]; omega), List.take_of_length_le (by rw [List.length_drop]; omega)]
  · rw [Nat.min_eq_right (by omega), Nat.min_eq_right (by omega), Nat.sub_self, List.take_zero, List.drop_eq_nil_of_le (by omega), List.take_nil]
section
variable {P : Program} {w : World} {K : PySem.W.Frag} {mg : Str → Option Value} {base : Heap}
theorem ok_row {f : Addr} {fd : FuncData} (F : Fun K "_law_drawn_row" "_law_drawn_row" s__law_drawn_row f fd) (m_range : mg "range" = none) (m_len : mg "len" = none) (c__law_pick : Cal P w K mg base 1 "_law_pick" spPick) (c__law_some : Cal P w K mg base 2 "_law_some" spSome) (c__law_drawn_way : Cal P w K mg base 3 "_law_drawn_way" spWay) :
    FnOk P w K mg base CX0 4 f fd ["_law_tape_here", "_law_world_here", "_law_model_here", "_law_names_here"] spRow := by
  refine F.ok sc__law_drawn_row (fun vs H Q E h => ?_) (fun cdv A outer s H vs Q E hr h => ?_)
  · obtain ⟨tp, cl, ns, wa, ma, na, mc, mp, len, L, M, A, ss, es, ys, rfl, _⟩ := h
    rfl
  · obtain ⟨tp, cl, ns, wa, ma, na, mc, mp, len, L, M, As, ss, es, ys, rfl, T, W, B, g, hna, nna, hys, y1, y12, q⟩ := h
    refine ⟨_, (pss_cons (ps_set (i := 4) sc__law_drawn_row.nd rfl (Or.inl rfl) (pe_c c__law_pick hr (by decide) rfl (pa_cons (pv 0) (pa_cons (pe_int) pa_nil))))
    (pss_cons (ps_if (pt_cmpR op_eq (pv 4) (pe_int) (nomark _))
    (pss_one (ps_ret (pe_c c__law_drawn_way hr (by decide) rfl (pa_cons (pv 0) (pa_cons (pv 1) (pa_cons (pv 2) (pa_cons (pe_int) pa_nil)))))))
    pss_nil)
    (pss_cons (ps_if (pt_cmpR op_eq (pv 4) (pe_int) (nomark _))
    (pss_cons (ps_set (i := 5) sc__law_drawn_row.nd rfl (Or.inl rfl) (pe_c c__law_pick hr (by decide) rfl (pa_cons (pv 0) (pa_cons (pe_callB call_len (by rfl) m_len (by decide +kernel) (pa_cons (pv 3) pa_nil)) pa_nil))))
    (pss_one (ps_ret (pe_slice sl_list (pe_op op_cat (pv 3) (pv 3)) (po_some (pv 5)) (po_some (pe_op op_add (pv 5) (pe_c c__law_some hr (by decide) rfl (pa_cons (pv 0) (pa_cons (pe_int) (pa_cons (pe_callB call_len (by rfl) m_len (by decide +kernel) (pa_cons (pv 3) pa_nil)) pa_nil))))))))))
    pss_nil)
    (pss_cons (ps_if (pt_cmpR op_eq (pv 4) (pe_int) (nomark _))
    (pss_one (ps_ret (pe_op op_rep (pe_lst (pa_cons (pe_ix ix_list (pv 3) (pe_c c__law_pick hr (by decide) rfl (pa_cons (pv 0) (pa_cons (pe_callB call_len (by rfl) m_len (by decide +kernel) (pa_cons (pv 3) pa_nil)) pa_nil))) (fun _ _ => rfl)) pa_nil)) (pe_c c__law_some hr (by decide) rfl (pa_cons (pv 0) (pa_cons (pe_int) (pa_cons (pe_int) pa_nil)))))))
    pss_nil)
    (pss_one (ps_ret (pe_lc (own := [("_law_k", 6)]) rfl sc__law_drawn_row.nd (pi_range1 (by rfl) m_range (pa_cons (pe_c c__law_some hr (by decide) rfl (pa_cons (pv 0) (pa_cons (pe_int) (pa_cons (pe_int) pa_nil)))) pa_nil)) (blkOk_by (N := N__law_drawn_row) (sc := defScope s__law_drawn_row) (by decide +kernel)) (fun _ _ _ _ _ => (pg_name (i := 6) sc__law_drawn_row.nd rfl (Or.inl rfl))) (fun _ _ _ _ _ => pts_nil) (fun _ _ _ _ _ => by exact (pe_ix (show IxR _ (rIxL K) from ix_list) (pv 3) (pe_c c__law_pick hr (by decide) rfl (pa_cons (pv 0) (pa_cons (pe_callB (show CallR _ (.builtin "len") (rLenK K) from call_len) (by rfl) m_len (by decide +kernel) (pa_cons (pv 3) pa_nil)) pa_nil))) (fun _ _ => rfl)))))))))), ?_⟩
    have sl : sizeLine = 16777216 := sizeLine_eq
    have at' : ∀ {H' : Hp}, KB tp H H' → H' na = some (.lst (ys.map V.str)) := fun k => k _ _ nna hna
    -- one of the names
    have one : ∀ {d : Int}, 0 ≤ d → (d < (ys.length : Nat) ∨ d = 0) → ∃ (n : Nat) (hn : n < ys.length), d = (n : Int) ∧ (ys.map V.str)[n]? = some (V.str ys[n]) := fun {d} h0 h1 => by
      refine ⟨d.toNat, by omega, by omega, ?_⟩
      rw [List.getElem?_map, List.getElem?_eq_getElem (by omega)]
      rfl
    refine ⟨_, rfl, tp, cl, ns, 4, rfl, T, by decide, fun H1 kind k1 T1 a0 a1 => ?_⟩
    have W1 := W.keep (rest_kb k1)
    have B1' := B.keep (rest_kb k1)
    refine ⟨_, rfl, rfl, _, rfl, ite2 (fun _ => ?_) (fun _ => ?_)⟩
    · refine ⟨_, rfl, _, rfl, _, rfl, tp, cl, ns, wa, ma, mc, mp, len, 12, L, M, As, ss, es, rfl, T1, W1, B1', g, by decide, by decide, fun H2 t zs k2 T2 nt ht hz z1 z2 => ?_⟩
      exact q H2 t zs (k1.trans k2) T2 nt ht hz z1 (by omega)
    refine ⟨_, rfl, rfl, _, rfl, ite2 (fun _ => ?_) (fun _ => ?_)⟩
    · refine ⟨_, rfl, _, rfl, _, ys.length, rfl, .inl ⟨_, SqL.of (at' k1), (List.length_map ..).symm⟩, tp, cl, ns, _, rfl, T1, by omega, fun H2 d k2 T2 d0 d1 => ?_⟩
      obtain ⟨n, hn, rfl, _⟩ := one d0 d1
      have k12 := k1.trans k2
      refine ⟨_, rfl, _, rfl, na, na, _, _, rfl, rfl, at' k12, at' k12, by rw [List.length_map]; omega, fun p hp => ?_⟩
      have np := (T2.fresh hp).1
      have kp := k12.new T2 (o := .lst (ys.map V.str ++ ys.map V.str)) hp
      have Tp := T2.new (o := .lst (ys.map V.str ++ ys.map V.str)) hp
      have hpp := upd_same (H := H2) (a := p) (o := .lst (ys.map V.str ++ ys.map V.str))
      generalize upd H2 p (.lst (ys.map V.str ++ ys.map V.str)) = H3 at kp Tp hpp ⊢
      refine ⟨_, rfl, _, rfl, _, rfl, _, rfl, _, rfl, _, ys.length, rfl, .inl ⟨_, SqL.of (at' kp), (List.length_map ..).symm⟩, tp, cl, ns, 1, _, rfl, Tp, by omega, by omega, fun H4 m k4 T4 m1 m2 => ?_⟩
      obtain ⟨c, rfl⟩ : ∃ c : Nat, m = (c : Int) := ⟨m.toNat, by omega⟩
      refine ⟨_, _, rfl, rfl, _, rfl, p, _, rfl, SqL.of (k4 _ _ np.symm hpp), fun p2 hp2 => ?_⟩
      have e1 : cutV (ys.map V.str ++ ys.map V.str) (some ((n : Nat) : Int)) (some (((n : Nat) : Int) + ((c : Nat) : Int))) = (((ys ++ ys).drop n).take c).map V.str := by
        rw [show ((n : Nat) : Int) + ((c : Nat) : Int) = ((n + c : Nat) : Int) by omega, cut_part n c _ rfl, List.map_take, List.map_drop, List.map_append]
      rw [e1]
      have K4 := kp.trans k4
      refine q _ p2 (((ys ++ ys).drop n).take c) (K4.new T4 hp2) (T4.new hp2) (T4.fresh hp2).1.symm upd_same (fun z hz => ?_) ?_ ?_
      · rcases List.mem_append.mp (List.mem_of_mem_drop (List.mem_of_mem_take hz)) with h | h <;> exact hys z h
      · rw [List.length_take, List.length_drop, List.length_append]
        omega
      · rw [List.length_take]
        omega
    refine ⟨_, rfl, rfl, _, rfl, ite2 (fun _ => ?_) (fun _ => ?_)⟩
    · refine ⟨_, rfl, _, rfl, _, rfl, _, ys.length, rfl, .inl ⟨_, SqL.of (at' k1), (List.length_map ..).symm⟩, tp, cl, ns, _, rfl, T1, by omega, fun H2 d k2 T2 d0 d1 => ?_⟩
      obtain ⟨n, hn, rfl, en⟩ := one d0 d1
      have k12 := k1.trans k2
      refine ⟨na, _, _, _, rfl, rfl, SqL.of (at' k12), atI_nat en, Nat.le_of_lt (small_line (by show 1 ≤ 100000; decide)), fun p hp => ?_⟩
      have np := (T2.fresh hp).1
      have kp := k12.new T2 (o := .lst [V.str ys[n]]) hp
      have Tp := T2.new (o := .lst [V.str ys[n]]) hp
      have hpp := upd_same (H := H2) (a := p) (o := .lst [V.str ys[n]])
      generalize upd H2 p (.lst [V.str ys[n]]) = H3 at kp Tp hpp ⊢
      refine ⟨_, rfl, tp, cl, ns, 1, 6, rfl, Tp, by decide, by decide, fun H4 m k4 T4 m1 m2 => ?_⟩
      obtain ⟨c, rfl⟩ : ∃ c : Nat, m = (c : Int) := ⟨m.toNat, by omega⟩
      refine ⟨p, _, _, rfl, rfl, k4 _ _ np.symm hpp, by omega, by omega, (by show 1 * ((c : Nat) : Int).toNat ≤ _; omega), fun p2 hp2 => ?_⟩
      have K4 := kp.trans k4
      rw [Int.toNat_natCast, rep_flat]
      refine q _ p2 (List.replicate c ys[n]) (K4.new T4 hp2) (T4.new hp2) (T4.fresh hp2).1.symm (by rw [upd_same, List.map_replicate]) (fun z hz => ?_) ?_ ?_
      · rw [(List.mem_replicate.mp hz).2]
        exact hys _ (List.getElem_mem hn)
      · rw [List.length_replicate]; omega
      · rw [List.length_replicate]; omega
    refine ⟨_, rfl, tp, cl, ns, 1, 12, rfl, T1, by decide, by decide, fun H2 m k2 T2 m1 m2 => ⟨m, rfl, by omega, by omega, fun D hD => ?_⟩⟩
    have nD := (T2.fresh hD).1
    have k12 := k1.trans k2
    have goneD := kb_none k12 T2 hD
    refine lc_it (walk_range (lo := 0) (n := m.toNat)) (fun i H' => KB tp H H' ∧ Tape H' tp cl ns ∧ ∃ zs : List Str, H' D = some (.lst (zs.map V.str)) ∧ zs.length = i ∧ ∀ z ∈ zs, z ∈ (pcs M).map (·.nm)) ⟨k12.over goneD, T2.new hD, [], upd_same, rfl, fun _ h => nomatch h⟩ (fun _ _ _ _ => trivial) ?_ ?_
    · rintro i x Ha Hb hi ⟨ka, Ta, zs, hd, lz, hz⟩ ⟨rfl, rfl⟩
      refine ⟨rfl, _, rfl, _, rfl, _, rfl, _, ys.length, rfl, .inl ⟨_, SqL.of (at' ka), (List.length_map ..).symm⟩, tp, cl, ns, _, rfl, Ta, by omega, fun H3 d k3 T3 d0 d1 => ?_⟩
      obtain ⟨n, hn, rfl, en⟩ := one d0 d1
      refine ⟨na, _, _, _, rfl, rfl, SqL.of (at' (ka.trans k3)), atI_nat en, _, k3 _ _ nD.symm hd, small_line (by rw [List.length_map]; omega), (ka.trans k3).over goneD, T3.other nD (T2.fresh hD).2, zs ++ [ys[n]], ?_, ?_, fun z hz' => ?_⟩
      · rw [upd_same, List.map_append]
        rfl
      · rw [List.length_append, lz]
        rfl
      · rcases List.mem_append.mp hz' with h | h
        · exact hz z h
        · rw [List.mem_singleton.mp h]
          exact hys _ (List.getElem_mem hn)
    · rintro H3 ⟨ka, Ta, zs, hd, lz, hz⟩
      exact q H3 D zs ka Ta nD.symm hd hz (by omega) (by omega)
end
end Sea
namespace Sea
open PySem PySem.Spec PyProof.Rows L2
theorem carry_len {a b : Int} : ∀ (S T : List Tri), (S.foldl (carryStep a b) T).length ≤ T.length + S.length
  | [], T => Nat.le_refl _
  | t :: S, T => by
    have h1 := carry_len (a := a) (b := b) S (carryStep a b T t)
    have h2 := carryStep_len (least := a) (close := b) (T := T) (t := t)
    show (S.foldl (carryStep a b) (carryStep a b T t)).length ≤ T.length + (S.length + 1)
    omega
theorem row_few {a b len : Int} {ps gs : List Piece} {cs : List Cue} (hc : cs.length ≤ 40) (h4 : gs.length ≤ 400) {N : List (Addr × Tri)} (e : tris N = carry a b (rowShow (gs.map (pieceRow ps cs))).1) : N.length ≤ 20000 := by
  have h1 := congrArg List.length e
  rw [List.length_map] at h1
  have h2 : (carry a b (rowShow (gs.map (pieceRow ps cs))).1).length ≤ 0 + (rowShow (gs.map (pieceRow ps cs))).1.length := carry_len _ []
  have h3 := rowShow_len _ (gs.map (pieceRow ps cs)) rfl fun z hz => by
    obtain ⟨p, hp, rfl⟩ := List.mem_map.mp hz
    exact Nat.le_trans (strip_len p (factorOf (grainTo ps) p) cs) hc
  rw [List.length_map] at h3
  omega
theorem names_has {ps rs : List Piece} (hrs : ∀ p ∈ rs, p ∈ ps) : ∀ z ∈ (rs.map (·.nm)).map V.str, hasV (ps.map (·.nm)) z = true := fun z hz => by
  obtain ⟨n, hn, rfl⟩ := List.mem_map.mp hz
  obtain ⟨p, hp, rfl⟩ := List.mem_map.mp hn
  exact decide_eq_true (List.mem_map.mpr ⟨p, hrs p hp, rfl⟩)
/-- carried of a good row -/
theorem row_good {H : Hp} {ra : Addr} {le cl : Int} {L' : List (Addr × Cue)} {ps rs : List Piece} {Qr : Addr → Hp → Prop} {bad : Int → Hp → Prop} (nd : (ps.map (·.nm)).Nodup)
    (hra : H ra = some (.tup ((rs.map (·.nm)).map V.str)) ∨ H ra = some (.lst ((rs.map (·.nm)).map V.str))) (hrs : ∀ p ∈ rs, p ∈ ps) (r1 : 1 ≤ rs.length) (r4 : rs.length ≤ 400)
    (q : ∀ (H' : Hp) (t : Addr) (N : List (Addr × Tri)), Same H H' → H' t = some (.tup (refsT N)) → tris N = carry (le * grainTo ps) (cl * grainTo ps) (rowShow (rs.map (pieceRow ps (cuesC L')))).1 → (∀ e ∈ N, TAt H' e) → Qr t H') :
    rowUp H (ps.map (·.nm)) (.ref ra) bad (fun xs _ H1 => ∀ (rs : List Piece), xs = (rs.map (·.nm)).map V.str → (∀ p ∈ rs, p ∈ ps) → ∀ (H' : Hp) (t : Addr) (N : List (Addr × Tri)), Same H1 H' → H' t = some (.tup (refsT N)) → tris N = carry (le * grainTo ps) (cl * grainTo ps) (rowShow (rs.map (pieceRow ps (cuesC L')))).1 → (∀ e ∈ N, TAt H' e) → Qr t H') := by
  have lr : ((rs.map (·.nm)).map V.str).length = rs.length := by rw [List.length_map, List.length_map]
  refine .inr ⟨ra, _, rfl, hra, (fun y hy => .inl (plain_strs hy)), (fun h => by rw [lr] at h; omega), (fun j y _ _ hy _ hb => by
    rw [names_has hrs y (List.mem_of_getElem? hy)] at hb
    cases hb), fun _ _ _ Hx tx sx _ rs' e' hrs' H3 t3 N3 sy h3 e3 n3 => ?_⟩
  have er : rs = rs' := (rows_same nd hrs hrs' e'.symm).symm
  subst er
  exact q H3 t3 N3 (sx.trans sy) h3 e3 n3
theorem BadV.ext {ns : List Str} {H H' : Hp} {v : V} {k : Int} (h : BadV ns H v k) (s : LamX.ExtN H H') : BadV ns H' v k := by
  rcases h with h | ⟨a, xs, e, ha, hy, r⟩
  · exact .inl h
  · exact .inr ⟨a, xs, e, ha.imp (fun z => s _ _ z fun _ z => nomatch z) (fun z => s _ _ z fun _ z => nomatch z), fun y h => anyV_ext (hy y h) s, r⟩
/-- what the law of the books holds -/
structure St12 (Ts : List (Addr × Str)) (CR CP CK tp cl y wa ma nD rw na oa bb bo : Addr) (ns : List Int) (len : Int) (L L' : List (Addr × Cue)) (M : List (Addr × Piece)) (As : List (Addr × (Str × Str))) (ss es zs : List Str) (ps : List Piece) (a b a' b' : Int) (H : Hp) : Prop where
  T : Tape H tp cl ns
  Y : PlanAt H CR CP y len L' (pcs M) (prs As) ss es
  W : WorldAt H wa len L M As ss es
  B : ModelAt H ma (cuesC L) (pcs M) (prs As)
  D : H nD = some (.lst (zs.map V.str))
  R : H rw = some (.lst ((ps.map (·.nm)).map V.str))
  N : H na = some (.lst [.int a, .int b])
  O : H oa = some (.lst [.int a', .int b'])
  K : BookAt H CK bb a b
  J : BookAt H CK bo a' b'
  Tb : LamX.Tabs Ts H
section
variable {Ts : List (Addr × Str)} {CR CP CK tp cl y wa ma nD rw na oa bb bo : Addr} {ns : List Int} {len : Int} {L L' : List (Addr × Cue)} {M : List (Addr × Piece)} {As : List (Addr × (Str × Str))} {ss es zs : List Str} {ps : List Piece} {a b a' b' : Int} {H H' : Hp}
theorem St12.km (h : St12 Ts CR CP CK tp cl y wa ma nD rw na oa bb bo ns len L L' M As ss es zs ps a b a' b' H) (k : KM H H') (T' : Tape H' tp cl ns) (t : LamX.Tabs Ts H') : St12 Ts CR CP CK tp cl y wa ma nD rw na oa bb bo ns len L L' M As ss es zs ps a b a' b' H' :=
  ⟨T', h.Y.km k, h.W.km k, h.B.km k, k _ _ h.D (mv_strs _), k _ _ h.R (mv_strs _), k _ _ h.N (fun z => z), k _ _ h.O (fun z => z), h.K.km k, h.J.km k, t⟩
theorem St12.same (h : St12 Ts CR CP CK tp cl y wa ma nD rw na oa bb bo ns len L L' M As ss es zs ps a b a' b' H) (s : Same H H') : St12 Ts CR CP CK tp cl y wa ma nD rw na oa bb bo ns len L L' M As ss es zs ps a b a' b' H' :=
  h.km (KM.of_same s) (h.T.same s) (tabs_same h.Tb s)
theorem St12.kb (h : St12 Ts CR CP CK tp cl y wa ma nD rw na oa bb bo ns len L L' M As ss es zs ps a b a' b' H) (k : KB tp H H') (T' : Tape H' tp cl ns) : St12 Ts CR CP CK tp cl y wa ma nD rw na oa bb bo ns len L L' M As ss es zs ps a b a' b' H' :=
  h.km (KM.of_kb h.T k) T' (tabs_kb h.Tb h.T k)
theorem St12.ext (h : St12 Ts CR CP CK tp cl y wa ma nD rw na oa bb bo ns len L L' M As ss es zs ps a b a' b' H) (e : LamX.ExtN H H') (t : LamX.Tabs Ts H') : St12 Ts CR CP CK tp cl y wa ma nD rw na oa bb bo ns len L L' M As ss es zs ps a b a' b' H' :=
  h.km (KM.of_ext e) (h.T.km e) t
end
end Sea
namespace Sea
open PySem PySem.Spec PyProof.Rows L2
abbrev lamQ : Str := ("law" ++ ".<locals>." : Str) ++ "<lambda>"
abbrev Ts12 (P0 PB : Addr) : List (Addr × Str) := [(P0, lamQ), (PB, lamB12)]
theorem hu12 {P0 PB : Addr} (h : PB ≠ P0) : ∀ q ∈ Ts12 P0 PB, q.1 = P0 → q.2 = lamQ := fun q hq e => by
  rcases List.mem_cons.mp hq with rfl | hq
  · rfl
  · rw [List.mem_singleton.mp hq] at e
    exact absurd e h
def spLaw12 (K : PySem.W.Frag) (P0 PB : Addr) : Sp := fun vs H Q _ => ∃ (a : Addr) (ns : List Int), vs = [.ref a] ∧ SqL K H a (ns.map V.int) ∧ ns.length ≤ 63 ∧ H P0 = some (.tbl #[]) ∧ H PB = some (.tbl #[]) ∧ ∀ H', Q (.bl true) H'
theorem flat_map (n : Nat) (ps : List Piece) : (List.replicate n ((ps.map (·.nm)).map V.str)).flatten = (((List.replicate n ps).flatten).map (·.nm)).map V.str := by
  rw [List.map_flatten, List.map_flatten, List.map_replicate, List.map_replicate]
theorem flatP_len (n : Nat) (ps : List Piece) : (List.replicate n ps).flatten.length = n * ps.length := by
  induction n with
  | zero => rw [List.replicate_zero, List.flatten_nil, List.length_nil, Nat.zero_mul]
  | succ n ih => rw [List.replicate_succ, List.flatten_cons, List.length_append, ih, Nat.succ_mul, Nat.add_comm]
section
variable {P : Program} {w : World} {K : PySem.W.Frag} {mg : Str → Option Value} {base : Heap} {CR CP CB CC CM CLn CE CK CN fR fP fK fN fB fRf cL P0 PB : Addr}
theorem ok_law {f : Addr} {fd : FuncData} (F : FunT K "law" "law" s_law f fd cL) (TB : LamX.TabB base mg cL P0) (nPB : PB ≠ P0) (m_sorted : mg "sorted" = none) (m_tuple : mg "tuple" = none) (m_list : mg "list" = none) (m_len : mg "len" = none)
    (TR : RC K mg CR fR) {fdR : FuncData} (FR : FnOk P w K mg base (L2.CX P w) 5 fR fdR ["self", "length", "cues"] (spReelA K CR CC CM CLn)) (bR : Binds K fdR ["self", "length", "cues"] [])
    (TP : PlC K mg CP fP) {fdP : FuncData} (FP : FnOk P w K mg base CX0 5 fP fdP ["self", "reel", "pieces", "arrows", "starts", "ends"] (spPlan CR CP)) (bP : Binds K fdP ["self", "reel", "pieces", "arrows", "starts", "ends"] [])
    (TK : BkC K mg CK fK) {fdK : FuncData} (FK : FnOk P w K mg base (L2.CX P w) 3 fK fdK ["self", "least", "close"] (spBook CK CN)) (bK : Binds K fdK ["self", "least", "close"] [])
    {fdRf : FuncData} (FRf : Fun K "_law_refusal" "_law_refusal" s__law_refusal fRf fdRf) (gRf : mg "_law_refusal" = some (.ref fRf)) (bRf : Binds K fdRf ["_law_call"] [])
    (m_isinstance : mg "isinstance" = none) (XN : XC K mg "BadNumber" "word" CN fN) (XB : XC K mg "BadRow" "number" CB fB) (gM : mg "TooMany" = some (.ref CM)) (gE : mg "CaptionError" = some (.ref CE)) (x3 : EX12 K CN CB CM)
    (c_carried : CalX P w K mg base 5 "carried" (spCarried CP CR CK CB)) (c__law_tape : Cal P w K mg base 1 "_law_tape" (spTape K)) (c__law_pick : Cal P w K mg base 1 "_law_pick" spPick) (c__law_some : Cal P w K mg base 2 "_law_some" spSome) (c__law_rarely : Cal P w K mg base 2 "_law_rarely" spRarely)
    (c__law_world : Cal P w K mg base 5 "_law_world" spWorld) (c__law_model : Cal P w K mg base 2 "_law_model" spModel) (c__law_due : Cal P w K mg base 3 "_law_due" spDue) (c__law_carried : Cal P w K mg base 2 "_law_carried" spCarL) (c__law_numbers : Cal P w K mg base 3 "_law_numbers" spNums)
    (c__law_same : Cal P w K mg base 3 "_law_same" (spSame 2)) (c__law_drawn_row : Cal P w K mg base 4 "_law_drawn_row" spRow) (c__law_books_right : Cal P w K mg base 7 "_law_books_right" (spBooksR PB)) :
    FnOk P w K mg base CX0 8 f fd ["_law_script"] (spLaw12 K P0 PB) := by
  obtain ⟨oc, od, kV, doc, pm, an, cdR, ctR, osl, rfl, lkR, hcR⟩ := FRf.ex
  refine F.ok sc_law (fun vs H Q E h => ?_) (fun A outer s H vs Q E hr h => ?_)
  · obtain ⟨a, ns, rfl, _⟩ := h
    rfl
  · obtain ⟨sa, sns, rfl, hS, hl, hP0, hPB, q⟩ := h
    refine ⟨_, (pss_cons (ps_set (i := 1) sc_law.nd rfl (Or.inl rfl) (pe_c c__law_tape hr (by decide) rfl (pa_cons (pv 0) pa_nil)))
    (pss_cons (ps_set (i := 2) sc_law.nd rfl (Or.inl rfl) (pe_c c__law_world hr (by decide) rfl (pa_cons (pv 1) (pa_cons (pe_int) (pa_cons (pe_int) (pa_cons (pe_bl) pa_nil))))))
    (pss_cons (ps_set (i := 3) sc_law.nd rfl (Or.inl rfl) (pe_c c__law_model hr (by decide) rfl (pa_cons (pv 2) pa_nil)))
    (pss_cons (ps_set (i := 16) sc_law.nd rfl (Or.inr rfl) (pe_make TP.made FP (hr.mono (by decide)) rfl TP.g bP .nil pass0 (pa_cons (pe_make (E := E0) TR.made FR (hr.mono (by decide)) rfl TR.g bR .nil (passes_call takes0 (fun _ _ _ _ h => h)) (pa_cons (pe_ix ix_list (pv 2) (pe_int) (fun _ _ => rfl)) (pa_cons (pe_ix ix_list (pv 2) (pe_int) (fun _ _ => rfl)) pa_nil))) (pa_cons (pe_ix ix_list (pv 2) (pe_int) (fun _ _ => rfl)) (pa_cons (pe_ix ix_list (pv 2) (pe_int) (fun _ _ => rfl)) (pa_cons (pe_ix ix_list (pv 2) (pe_int) (fun _ _ => rfl)) (pa_cons (pe_ix ix_list (pv 2) (pe_int) (fun _ _ => rfl)) pa_nil)))))))
    (pss_cons (ps_setLc (i := 4) (own := [("_law_piece", 18)]) rfl sc_law.nd rfl rfl (sw_true rfl rfl rfl (by decide +kernel)) (pi_list (pe_sortLam (T := Ts12 P0 PB) (i := 1) (j := 0) (P := P0) (c := cL) rfl m_sorted (pa_cons (pe_ix ix_list (pv 2) (pe_int) (fun _ _ => rfl)) pa_nil) hr TB rfl List.mem_cons_self (hu12 nPB) (by decide) (by decide) (fun _ _ _ _ _ => rfl) (by decide) rfl)) (blkOk_by (N := N_law) (sc := defScope s_law) (by decide +kernel)) (fun _ _ _ _ _ => (pg_name (i := 18) sc_law.nd rfl (Or.inl rfl))) (fun _ _ _ _ _ => pts_nil) (fun _ _ _ _ _ => by exact (pe_ix (show IxR _ (rIxT K) from ix_tup) (pv 18) (pe_int) (fun _ _ => rfl))))
    (pss_cons (ps_set (i := 5) sc_law.nd rfl (Or.inl rfl) (pe_c c__law_drawn_row hr (by decide) rfl (pa_cons (pv 1) (pa_cons (pv 2) (pa_cons (pv 3) (pa_cons (pv 4) pa_nil))))))
    (pss_cons (ps_set (i := 6) sc_law.nd rfl (Or.inl rfl) (pe_c c__law_numbers hr (by decide) rfl (pa_cons (pv 1) pa_nil)))
    (pss_cons (ps_set (i := 7) sc_law.nd rfl (Or.inl rfl) (pe_c c__law_numbers hr (by decide) rfl (pa_cons (pv 1) pa_nil)))
    (pss_cons (ps_set (i := 14) sc_law.nd rfl (Or.inr rfl) (pe_make (E := E0) TK.made FK (hr.mono (by decide)) rfl TK.g bK .nil (passes_call takes0 (fun _ _ _ _ h => h)) (pa_cons (pe_ix ix_list (pv 6) (pe_int) (fun _ _ => rfl)) (pa_cons (pe_ix ix_list (pv 6) (pe_int) (fun _ _ => rfl)) pa_nil))))
    (pss_cons (ps_set (i := 8) sc_law.nd rfl (Or.inl rfl) (pe_make (E := E0) TK.made FK (hr.mono (by decide)) rfl TK.g bK .nil (passes_call takes0 (fun _ _ _ _ h => h)) (pa_cons (pe_ix ix_list (pv 7) (pe_int) (fun _ _ => rfl)) (pa_cons (pe_ix ix_list (pv 7) (pe_int) (fun _ _ => rfl)) pa_nil))))
    (pss_cons (ps_set (i := 9) sc_law.nd rfl (Or.inl rfl) (pe_callTy call_list_of (by rfl) m_list (by decide +kernel) (pa_cons (pv 5) pa_nil)))
    (C8.pss_cut (ps_set (i := 10) sc_law.nd rfl (Or.inl rfl) (pe_c c__law_due hr (by decide) rfl (pa_cons (pv 2) (pa_cons (pe_ix ix_list (pv 3) (pe_int) (fun _ _ => rfl)) (pa_cons (pv 6) (pa_cons (pv 5) pa_nil))))))
    (pss_cons (ps_if (PW.pt (pw_or (pt_not (pt_val (pe_c c__law_same hr (by decide) rfl (pa_cons (show PE _ _ (tCallSD (spCarried CP CR CK CB) [] (WE fun _ _ _ _ => False) (tCons (tVar 16) (tCons (tVar 14) (tCons (tVar 9) tNil)))) from by
          refine pe_cX (k := 5) (j := 7) (sp := spCarried CP CR CK CB) ?_ ?_ ?_ ?_ ?_ ?_
          · exact c_carried
          · exact hr
          · decide
          · rfl
          · exact (fun σ => passAt takes0 σ)
          · exact (pa_cons (pv 16) (pa_cons (pv 14) (pa_cons (pv 9) pa_nil)))) (pa_cons (pv 10) pa_nil))))) (pw_or1 (pt_cmpR (op_neD (hu64 hr)) (pv 9) (pv 5) (nomark _)))))
    (pss_one (ps_ret (pe_bl)))
    pss_nil)
    (pss_cons (ps_if (pt_not (pt_val (pe_c c__law_same hr (by decide) rfl (pa_cons (show PE _ _ (tCallSD (spCarried CP CR CK CB) [] (WE fun _ _ _ _ => False) (tCons (tVar 16) (tCons (tVar 8) (tCons (tCB (rTupOf K) (tCons (tVar 5) tNil)) tNil)))) from by
          refine pe_cX (k := 5) (j := 7) (sp := spCarried CP CR CK CB) ?_ ?_ ?_ ?_ ?_ ?_
          · exact c_carried
          · exact hr
          · decide
          · rfl
          · exact (fun σ => passAt takes0 σ)
          · exact (pa_cons (pv 16) (pa_cons (pv 8) (pa_cons (pe_callTy (show CallR _ (.type "tuple") (rTupOf K) from cr_tupOf) (by rfl) m_tuple (by decide +kernel) (pa_cons (pv 5) pa_nil)) pa_nil)))) (pa_cons (pe_c c__law_due hr (by decide) rfl (pa_cons (pv 2) (pa_cons (pe_ix ix_list (pv 3) (pe_int) (fun _ _ => rfl)) (pa_cons (pv 7) (pa_cons (pv 5) pa_nil))))) pa_nil)))))
    (pss_one (ps_ret (pe_bl)))
    pss_nil)
    (C8.pss_cut (ps_set (i := 11) sc_law.nd rfl (Or.inl rfl) (pe_op op_cat (pv 5) (pe_c c__law_drawn_row hr (by decide) rfl (pa_cons (pv 1) (pa_cons (pv 2) (pa_cons (pv 3) (pa_cons (pv 4) pa_nil)))))))
    (pss_cons (ps_if (pt_not (pt_val (pe_c c__law_same hr (by decide) rfl (pa_cons (show PE _ _ (tCallSD (spCarried CP CR CK CB) [] (WE fun _ _ _ _ => False) (tCons (tVar 16) (tCons (tVar 8) (tCons (tVar 11) tNil)))) from by
          refine pe_cX (k := 5) (j := 7) (sp := spCarried CP CR CK CB) ?_ ?_ ?_ ?_ ?_ ?_
          · exact c_carried
          · exact hr
          · decide
          · rfl
          · exact (fun σ => passAt takes0 σ)
          · exact (pa_cons (pv 16) (pa_cons (pv 8) (pa_cons (pv 11) pa_nil)))) (pa_cons (pe_c c__law_due hr (by decide) rfl (pa_cons (pv 2) (pa_cons (pe_ix ix_list (pv 3) (pe_int) (fun _ _ => rfl)) (pa_cons (pv 7) (pa_cons (pv 11) pa_nil))))) pa_nil)))))
    (pss_one (ps_ret (pe_bl)))
    pss_nil)
    (pss_cons (ps_if (pt_not (pt_val (pe_c c__law_same hr (by decide) rfl (pa_cons (show PE _ _ (tCallSD (spCarried CP CR CK CB) [] (WE fun _ _ _ _ => False) (tCons (tVar 16) (tCons (tVar 14) (tCons (tVar 5) tNil)))) from by
          refine pe_cX (k := 5) (j := 7) (sp := spCarried CP CR CK CB) ?_ ?_ ?_ ?_ ?_ ?_
          · exact c_carried
          · exact hr
          · decide
          · rfl
          · exact (fun σ => passAt takes0 σ)
          · exact (pa_cons (pv 16) (pa_cons (pv 14) (pa_cons (pv 5) pa_nil)))) (pa_cons (pv 10) pa_nil)))))
    (pss_one (ps_ret (pe_bl)))
    pss_nil)
    (pss_cons (ps_if (pt_not (pt_val (pe_c c__law_same hr (by decide) rfl (pa_cons (show PE _ _ (tCallSD (spCarried CP CR CK CB) [] (WE fun _ _ _ _ => False) (tCons (tVar 16) (tCons (tMake CK (spBook CK CN) [] E0 (tCons (tC (.int 0)) (tCons (tC (.int 0)) tNil))) (tCons (tVar 5) tNil)))) from by
          refine pe_cX (k := 5) (j := 7) (sp := spCarried CP CR CK CB) ?_ ?_ ?_ ?_ ?_ ?_
          · exact c_carried
          · exact hr
          · decide
          · rfl
          · exact (fun σ => passAt takes0 σ)
          · exact (pa_cons (pv 16) (pa_cons (pe_make (E := E0) TK.made FK (hr.mono (by decide)) rfl TK.g bK .nil (passes_call takes0 (fun _ _ _ _ h => h)) (pa_cons (pe_int) (pa_cons (pe_int) pa_nil))) (pa_cons (pv 5) pa_nil)))) (pa_cons (pe_c c__law_due hr (by decide) rfl (pa_cons (pv 2) (pa_cons (pe_ix ix_list (pv 3) (pe_int) (fun _ _ => rfl)) (pa_cons (pe_lst (pa_cons (pe_int) (pa_cons (pe_int) pa_nil))) (pa_cons (pv 5) pa_nil))))) pa_nil)))))
    (pss_one (ps_ret (pe_bl)))
    pss_nil)
    (C8.pss_cut (ps_if (pt_val (pe_c c__law_rarely hr (by decide) rfl (pa_cons (pv 1) (pa_cons (pe_int) pa_nil))))
    (pss_cons (ps_set (i := 12) sc_law.nd rfl (Or.inl rfl) (pe_slice sl_list (pe_op op_rep (pv 5) (pe_int)) po_none (po_some (pe_c c__law_some hr (by decide) rfl (pa_cons (pv 1) (pa_cons (pe_int) (pa_cons (pe_int) pa_nil)))))))
    (pss_one (ps_if (pt_not (pt_val (pe_c c__law_same hr (by decide) rfl (pa_cons (show PE _ _ (tCallSD (spCarried CP CR CK CB) [] (WE fun _ _ _ _ => False) (tCons (tVar 16) (tCons (tVar 14) (tCons (tVar 12) tNil)))) from by
          refine pe_cX (k := 5) (j := 7) (sp := spCarried CP CR CK CB) ?_ ?_ ?_ ?_ ?_ ?_
          · exact c_carried
          · exact hr
          · decide
          · rfl
          · exact (fun σ => passAt takes0 σ)
          · exact (pa_cons (pv 16) (pa_cons (pv 14) (pa_cons (pv 12) pa_nil)))) (pa_cons (pe_callTy call_tuple_of (by rfl) m_tuple (by decide +kernel) (pa_cons (pe_c c__law_carried hr (by decide) rfl (pa_cons (pv 3) (pa_cons (pe_ix ix_list (pv 6) (pe_int) (fun _ _ => rfl)) (pa_cons (pe_ix ix_list (pv 6) (pe_int) (fun _ _ => rfl)) (pa_cons (pv 12) pa_nil))))) pa_nil)) pa_nil)))))
    (pss_one (ps_ret (pe_bl)))
    pss_nil)))
    pss_nil)
    (pss_cons (ps_set (i := 13) sc_law.nd rfl (Or.inl rfl) (pe_c c__law_pick hr (by decide) rfl (pa_cons (pv 1) (pa_cons (pe_callB call_len (by rfl) m_len (by decide +kernel) (pa_cons (pv 5) pa_nil)) pa_nil))))
    (C8.pss_cut (ps_set (i := 17) sc_law.nd rfl (Or.inr rfl) (pe_op op_cat (pe_op op_cat (pe_slice sl_list (pv 5) po_none (po_some (pv 13))) (pe_lst (pa_cons (pe_ix ix_list (pe_lst (pa_cons (pe_str) (pa_cons (pe_non) (pa_cons (pe_int) (pa_cons (pe_bl) (pa_cons (pe_tup (pa_cons (pe_str) pa_nil)) pa_nil)))))) (pe_c c__law_pick hr (by decide) rfl (pa_cons (pv 1) (pa_cons (pe_int) pa_nil))) (fun _ _ => rfl)) pa_nil))) (pe_slice sl_list (pv 5) (po_some (pv 13)) po_none)))
    (pss_cons (ps_if (pt_not (pt_val (pe_c c__law_same hr (by decide) rfl (pa_cons (show PE _ _ (LamX.tLam (Ts12 P0 PB) (TTr CN CB) (fun E => (tCallSD (spCarried CP CR CK CB) [] (WE fun cls d _ H => E cls d H) (tCons (tVar 16) (tCons (tVar 14) (tCons (tVar 17) tNil)))))) from by
          refine LamX.pe_lamcall (k := 5) (P := P0) (c := cL) (Ng := N__law_refusal) (sg := defScope s__law_refusal) rfl gRf FRf.kp lkR hcR bRf sc__law_refusal rfl ?_ (refusal_gives m_isinstance XN XB gM gE x3) TB rfl List.mem_cons_self (hu12 nPB) (hr.mono (by decide)) (show LamX.LamS (defScope s_law) _ from LamX.lamS_by (by decide +kernel)) rfl (fun _ _ _ _ _ => rfl) ?_
          · exact Or.inl rfl
          · intro A outer s H E f c' hr2
            refine pe_cX (k := 5) (j := 5) (sp := spCarried CP CR CK CB) ?_ ?_ ?_ ?_ ?_ ?_
            · exact c_carried
            · exact hr2
            · decide
            · rfl
            · exact (fun σ => passAt (takes_of rfl rfl rfl rfl) σ)
            · exact (pa_cons (pv 16) (pa_cons (pv 14) (pa_cons (pv 17) pa_nil)))) (pa_cons (pe_tup (pa_cons (pe_str) (pa_cons (pv 13) (pa_cons (pe_bl) pa_nil)))) pa_nil)))))
    (pss_one (ps_ret (pe_bl)))
    pss_nil)
    (pss_cons (ps_set (i := 15) sc_law.nd rfl (Or.inr rfl) (pe_ix ix_list (pe_lst (pa_cons (pe_tup pa_nil) (pa_cons (pe_str) (pa_cons (pe_non) (pa_cons (pe_int) (pa_cons (pe_slice sl_list (pe_op op_rep (pv 5) (pe_int)) po_none (po_some (pe_int))) pa_nil)))))) (pe_c c__law_pick hr (by decide) rfl (pa_cons (pv 1) (pa_cons (pe_int) pa_nil))) (fun _ _ => rfl)))
    (pss_cons (ps_if (pt_not (pt_val (pe_c c__law_same hr (by decide) rfl (pa_cons (show PE _ _ (LamX.tLam (Ts12 P0 PB) (TTr CN CB) (fun E => (tCallSD (spCarried CP CR CK CB) [] (WE fun cls d _ H => E cls d H) (tCons (tVar 16) (tCons (tVar 14) (tCons (tVar 15) tNil)))))) from by
          refine LamX.pe_lamcall (k := 5) (P := P0) (c := cL) (Ng := N__law_refusal) (sg := defScope s__law_refusal) rfl gRf FRf.kp lkR hcR bRf sc__law_refusal rfl ?_ (refusal_gives m_isinstance XN XB gM gE x3) TB rfl List.mem_cons_self (hu12 nPB) (hr.mono (by decide)) (show LamX.LamS (defScope s_law) _ from LamX.lamS_by (by decide +kernel)) rfl (fun _ _ _ _ _ => rfl) ?_
          · exact Or.inl rfl
          · intro A outer s H E f c' hr2
            refine pe_cX (k := 5) (j := 5) (sp := spCarried CP CR CK CB) ?_ ?_ ?_ ?_ ?_ ?_
            · exact c_carried
            · exact hr2
            · decide
            · rfl
            · exact (fun σ => passAt (takes_of rfl rfl rfl rfl) σ)
            · exact (pa_cons (pv 16) (pa_cons (pv 14) (pa_cons (pv 15) pa_nil)))) (pa_cons (pe_tup (pa_cons (pe_str) (pa_cons (pe_un un_neg (pe_int)) (pa_cons (pe_bl) pa_nil)))) pa_nil)))))
    (pss_one (ps_ret (pe_bl)))
    pss_nil)
    (pss_one (ps_ret (pe_c c__law_books_right hr (by decide) rfl (pa_cons (pv 1) pa_nil)))))))))))))))))))))))))))), ?_⟩
    have sl : sizeLine = 16777216 := sizeLine_eq
    refine ⟨_, rfl, sa, sns, rfl, hS, hl, fun H1 tp cl ns s1 T1 => ?_⟩
    have tabs1 : LamX.Tabs (Ts12 P0 PB) H1 := fun p hp => by
      rcases List.mem_cons.mp hp with rfl | hp
      · exact LamX.TabS.nil (s1 _ _ hP0)
      · rw [List.mem_singleton.mp hp]
        exact LamX.TabS.nil (s1 _ _ hPB)
    refine ⟨_, rfl, tp, cl, ns, 7, 5, true, rfl, T1, by decide, by decide, by decide, by decide, fun H2 wa len L M As ss es k2 T2 W2 g => ?_⟩
    have tabs2 := tabs_kb tabs1 T1 k2
    have W2 := W2.keep (rest_le tp H2)
    refine ⟨_, rfl, wa, 7, 5, len, L, M, As, ss, es, rfl, W2, g, by decide, by decide, fun H3 ma s3 B3 => ?_⟩
    have tabs3 := tabs_same tabs2 s3
    have T3 := T2.same s3
    have W3 := W2.keep s3
    obtain ⟨ca, pa, aa, sa', ea, WB⟩ := id W3
    have lL : L.length ≤ 40 := by
      have := g.cm
      rw [List.length_map] at this
      omega
    have l30 := g.l30
    refine ⟨_, rfl, wa, _, 0, _, rfl, rfl, SqL.of WB.w, atI_nat (j := 0) rfl, _, rfl, wa, _, 1, _, rfl, rfl, SqL.of WB.w, atI_nat (j := 1) rfl, reel_world g.l1 (by omega) WB.c WB.cs g.ch lL fun H4 x L' s4 hR eL => ?_⟩
    have WB4 := WB.keep s4
    refine ⟨_, rfl, wa, _, 2, _, rfl, rfl, SqL.of WB4.w, atI_nat (j := 2) rfl, _, rfl, wa, _, 3, _, rfl, rfl, SqL.of WB4.w, atI_nat (j := 3) rfl, _, rfl, wa, _, 4, _, rfl, rfl, SqL.of WB4.w, atI_nat (j := 4) rfl, _, rfl, wa, _, 5, _, rfl, rfl, SqL.of WB4.w, atI_nat (j := 5) rfl, plan_world WB4 g (by decide) (by decide) hR eL fun H5 y s5 hY => ?_⟩
    have s35 := s4.trans s5
    have T5 := T3.same s35
    have B5 := B3.keep s35
    have W5 := W3.keep s35
    have WB5 := WB4.keep s5
    have tabs5 := tabs_same tabs3 s35
    refine ⟨_, rfl, wa, _, 2, _, rfl, rfl, SqL.of WB5.w, atI_nat (j := 2) rfl, pa, refsP M, rfl, WB5.p, (fun v hv => ?_), tabs5, fun H6 e6 tabs6 ys p pm hp => ?_⟩
    · obtain ⟨e, he, rfl⟩ := List.mem_map.mp hv
      exact ⟨(e.2.s, e.2.nm), e.1, e.2.vs, rfl, WB5.ps e he, rfl, rfl⟩
    have km : KM H5 (upd H6 p (.lst ys)) := (KM.of_ext e6).trans (KM.of_same (same_new hp))
    have T7 : Tape (upd H6 p (.lst ys)) tp cl ns := (T5.km e6).new hp
    have tabs7 := tabs_same tabs6 (same_new (o := .lst ys) hp)
    have h7 := upd_same (H := H6) (a := p) (o := .lst ys)
    generalize upd H6 p (.lst ys) = H7 at km T7 h7 tabs7 ⊢
    refine ⟨p, rfl, ⟨_, SqL.of h7⟩, fun D hD => ?_⟩
    refine lc_it walk_list (fun i H' => Same H7 H' ∧ ∃ zs : List Str, H' D = some (.lst (zs.map V.str)) ∧ zs.length = i ∧ ∀ z ∈ zs, z ∈ (pcs M).map (·.nm)) ⟨same_new hD, [], upd_same, rfl, fun _ h => nomatch h⟩ (fun i H' _ hv => SqL.of (hv.1 _ _ h7)) ?_ ?_
    · rintro i v Ha Hb hi ⟨hs, zs, hd, lz, hz⟩ ⟨rfl, hy⟩
      obtain ⟨e, he, rfl⟩ := List.mem_map.mp (pm.mem_iff.mp (List.mem_of_getElem? hy))
      refine ⟨rfl, _, rfl, e.1, _, 0, _, rfl, rfl, SqT.of (hs _ _ (km.tup (WB5.ps e he))), atI_nat (j := 0) rfl, zs.map V.str, hd, ?_, ?_, zs ++ [e.2.nm], ?_, ?_, ?_⟩
      · refine small_line ?_
        have h1 := pm.length_eq
        have h2 := g.pm
        rw [List.length_map] at h1 h2 ⊢
        omega
      · exact same_over hs hD
      · rw [upd_same, List.map_append]
        rfl
      · rw [List.length_append, lz]
        rfl
      · intro z hz'
        rcases List.mem_append.mp hz' with h | h
        · exact hz z h
        · rw [List.mem_singleton.mp h]
          exact List.mem_map.mpr ⟨e.2, List.mem_map.mpr ⟨e, he, rfl⟩, rfl⟩
    rintro H8 ⟨s8, zs, hD8, lz, hz⟩
    have lzs : zs.length = M.length := by
      rw [lz, pm.length_eq, List.length_map]
    have lM1 := g.p1
    have lM2 := g.pm
    rw [List.length_map] at lM1 lM2
    have nD := (T7.fresh hD).1.symm
    have T8 := T7.same s8
    have km8 := km.trans (KM.of_same s8)
    have W8 := W5.km km8
    have B8 := B5.km km8
    have Y8 := hY.km km8
    have tabs8 := tabs_same tabs7 s8
    refine ⟨_, rfl, _, rfl, _, rfl, _, rfl, tp, cl, ns, wa, ma, D, 7, 5, len, L, M, As, ss, es, zs, rfl, T8, W8.km (KM.rest T8), B8.km (KM.rest T8), g, hD8, nD, hz, by omega, by omega, fun H9 rw_ rs k9 T9 nr hr9 hrs r1 r12 => ?_⟩
    have km9 := KM.of_kb T8 k9
    have W9 := W8.km km9
    have B9 := B8.km km9
    have Y9 := Y8.km km9
    have tabs9 := tabs_kb tabs8 T8 k9
    have hD9 := k9 _ _ nD hD8
    obtain ⟨ps, rfl, hps⟩ := names_pieces hrs
    rw [List.length_map] at r1 r12
    refine ⟨_, rfl, tp, cl, ns, rfl, T9, fun H10 na a b k10 T10 nn h10 a0 a1 b0 b1 => ?_⟩
    refine ⟨_, rfl, tp, cl, ns, rfl, T10, fun H11 oa a' b' k11 T11 no h11 a0' a1' b0' b1' => ?_⟩
    have h10 := k11 _ _ nn h10
    have k911 := k10.trans k11
    have km11 := KM.of_kb T9 k911
    refine ⟨_, rfl, na, _, 0, _, rfl, rfl, SqL.of h10, atI_nat (j := 0) rfl, _, rfl, na, _, 1, _, rfl, rfl, SqL.of h10, atI_nat (j := 1) rfl, book_good a0 a1 b0 b1 fun H12 bb s12 hK => ?_⟩
    have h11' := s12 _ _ h11
    refine ⟨_, rfl, oa, _, 0, _, rfl, rfl, SqL.of h11', atI_nat (j := 0) rfl, _, rfl, oa, _, 1, _, rfl, rfl, SqL.of h11', atI_nat (j := 1) rfl, book_good a0' a1' b0' b1' fun H13 bo s13 hJ => ?_⟩
    have s1113 := s12.trans s13
    have S : St12 (Ts12 P0 PB) CR CP CK tp cl y wa ma D rw_ na oa bb bo ns len L L' M As ss es zs ps a b a' b' H13 :=
      ⟨T11.same s1113, (Y9.km km11).keep s1113, (W9.km km11).keep s1113, (B9.km km11).keep s1113, s1113 _ _ (k911 _ _ nD hD9), s1113 _ _ (k911 _ _ nr hr9), s1113 _ _ h10, s1113 _ _ h11, hK.keep s13, hJ, tabs_same (tabs_kb tabs9 T9 k911) s1113⟩
    clear h10 h11 h11' hK hJ T1 T2 T3 T5 T7 T8 T9 T10 T11 W2 W3 W5 W8 W9 B3 B5 B8 B9 Y8 Y9 hY WB WB4 WB5 tabs1 tabs2 tabs3 tabs5 tabs6 tabs7 tabs8 tabs9 hD8 hD9 hr9 hR hD h7 km km8 km9 km11 k2 k9 k10 k11 k911 s1 s3 s4 s5 s8 s12 s13 s35 s1113 hP0 hPB hS e6
    have lL' : L'.length ≤ 40 := by
      have h1 := congrArg List.length eL
      rw [List.length_map, List.length_map] at h1
      omega
    have lc : (cuesC L).length ≤ 40 := by rw [List.length_map]; exact lL
    have hg : ∀ p ∈ pcs M, GoodP len p := fun p hp => (g.pg p hp).1
    refine ⟨_, rfl, rw_, _, rfl, .inl (SqL.of S.R), fun ha hha => ?_⟩
    have S := S.same (same_new (o := .lst ((ps.map (·.nm)).map V.str)) hha)
    have hh := upd_same (H := H13) (a := ha) (o := .lst ((ps.map (·.nm)).map V.str))
    generalize upd H13 ha (.lst ((ps.map (·.nm)).map V.str)) = H14 at S hh ⊢
    obtain ⟨d1, d2, d3, d4, B⟩ := id S.B
    refine ⟨fun σ' H' => ∃ (du : Addr) (N1 : List (Addr × Tri)), σ' = [some (.ref sa), some (.ref tp), some (.ref wa), some (.ref ma), some (.ref D), some (.ref rw_), some (.ref na), some (.ref oa), some (.ref bo), some (.ref ha), some (.ref du), none, none, none, some (.ref bb), none, some (.ref y), none, none] ∧
      Same H14 H' ∧ H' du = some (.tup (refsT N1)) ∧ tris N1 = carry (a * grainTo (pcs M)) (b * grainTo (pcs M)) (rowShow (ps.map (pieceRow (pcs M) (cuesC L)))).1 ∧ ∀ e ∈ N1, TAt H' e, ?_, ?_⟩
    · exact ⟨_, rfl, _, rfl, ma, _, 0, _, rfl, rfl, SqL.of B.m, atI_nat (j := 0) rfl, _, rfl, _, rfl, wa, na, rw_, 7, 5, len, a, b, L, M, As, ss, es, ps, rfl, S.W, g, by decide, by decide, S.N, S.R, hps, by omega, fun H15 du N1 s15 hdu eN nN => ⟨du, N1, rfl, s15, hdu, eN, nN⟩⟩
    clear B
    rintro σ H15 ⟨du, N1, rfl, s15, hdu, eN, nN⟩
    have S := S.same s15
    have hh := s15 _ _ hh
    refine ⟨_, rfl, _, rfl, _, rfl, y, bb, .ref ha, len, a, b, L', pcs M, prs As, ss, es, rfl, S.Y, S.K, lL', row_good g.nd (.inr hh) hps r1 (by omega) fun H16 t1 M1 s16 ht1 e1 m1 => ?_⟩
    rw [eL] at e1
    have S := S.same s16
    have hh := s16 _ _ hh
    have hdu := s16 _ _ hdu
    have nN : ∀ e ∈ N1, TAt H16 e := fun e he => (nN e he).keep s16
    refine ⟨_, rfl, _, _, rfl, same_tris ht1 hdu (e1.trans eN.symm) m1 nN (row_few (len := len) lc (by omega) eN), fun H17 s17 => ⟨_, rfl, ?_⟩⟩
    have S := S.same s17
    have hh := s17 _ _ hh
    have hdu := s17 _ _ hdu
    have nN : ∀ e ∈ N1, TAt H17 e := fun e he => (nN e he).keep s17
    have asc : ∀ z ∈ ps.map (·.nm), AscS z := fun z hz => by
      obtain ⟨p, hp, rfl⟩ := List.mem_map.mp hz
      exact nameS (hg p (hps p hp)).nm
    refine ⟨_, rfl, _, rfl, .list ((ps.map (·.nm)).map .str), .list ((ps.map (·.nm)).map .str), .lst (SqL.of hh) (dp_strs _), .lst (SqL.of S.R) (dp_strs _), strs_shaped asc, strs_shaped asc, _, rfl, ?_⟩
    rw [show PyData.eqv (.list ((ps.map (·.nm)).map .str)) (.list ((ps.map (·.nm)).map .str)) = true from (strs_eqv _ _).trans (decide_eq_true rfl)]
    refine iteF ?_
    refine ⟨_, rfl, _, rfl, _, rfl, rw_, _, rfl, .inl ⟨SqL.of S.R, fun tu htu => ?_⟩⟩
    have S := S.same (same_new (o := .tup ((ps.map (·.nm)).map V.str)) htu)
    have hdu := same_new (o := .tup ((ps.map (·.nm)).map V.str)) htu _ _ hdu
    have nN : ∀ e ∈ N1, TAt _ e := fun e he => (nN e he).keep (same_new (o := .tup ((ps.map (·.nm)).map V.str)) htu)
    have hh := upd_same (H := H17) (a := tu) (o := .tup ((ps.map (·.nm)).map V.str))
    generalize upd H17 tu _ = H18 at S hdu nN hh ⊢
    refine ⟨y, bo, .ref tu, len, a', b', L', pcs M, prs As, ss, es, rfl, S.Y, S.J, lL', row_good g.nd (.inl hh) hps r1 (by omega) fun H19 t2 M2 s19 ht2 e2 m2 => ?_⟩
    rw [eL] at e2
    have S := S.same s19
    have hdu := s19 _ _ hdu
    have nN : ∀ e ∈ N1, TAt H19 e := fun e he => (nN e he).keep s19
    obtain ⟨d1, d2, d3, d4, B⟩ := id S.B
    refine ⟨_, rfl, _, rfl, ma, _, 0, _, rfl, rfl, SqL.of B.m, atI_nat (j := 0) rfl, _, rfl, _, rfl, wa, oa, rw_, 7, 5, len, a', b', L, M, As, ss, es, ps, rfl, S.W, g, by decide, by decide, S.O, S.R, hps, by omega, fun H20 du2 N2 s20 hdu2 eN2 nN2 => ?_⟩
    clear B
    refine ⟨_, _, rfl, same_tris (s20 _ _ ht2) hdu2 (e2.trans eN2.symm) (fun e he => (m2 e he).keep s20) nN2 (row_few (len := len) lc (by omega) eN2), fun H21 s21 => ⟨_, rfl, ?_⟩⟩
    have s2021 := s20.trans s21
    have S := S.same s2021
    have hdu := s2021 _ _ hdu
    have nN : ∀ e ∈ N1, TAt H21 e := fun e he => (nN e he).keep s2021
    refine ⟨fun σ' H' => ∃ (lo : Addr) (gl : List Piece), σ' = [some (.ref sa), some (.ref tp), some (.ref wa), some (.ref ma), some (.ref D), some (.ref rw_), some (.ref na), some (.ref oa), some (.ref bo), some (.ref ha), some (.ref du), some (.ref lo), none, none, some (.ref bb), none, some (.ref y), none, none] ∧
      St12 (Ts12 P0 PB) CR CP CK tp cl y wa ma D rw_ na oa bb bo ns len L L' M As ss es zs ps a b a' b' H' ∧ H' du = some (.tup (refsT N1)) ∧ (∀ e ∈ N1, TAt H' e) ∧ H' lo = some (.lst ((gl.map (·.nm)).map V.str)) ∧ (∀ p ∈ gl, p ∈ pcs M) ∧ 1 ≤ gl.length ∧ gl.length ≤ 24, ?_, ?_⟩
    · refine ⟨_, rfl, _, rfl, _, rfl, _, rfl, _, rfl, tp, cl, ns, wa, ma, D, 7, 5, len, L, M, As, ss, es, zs, rfl, S.T, S.W.km (KM.rest S.T), S.B.km (KM.rest S.T), g, S.D, nD, hz, by omega, by omega, fun H22 ob zs2 k22 T22 nob hob hzs2 q1 q12 => ?_⟩
      obtain ⟨qs, rfl, hqs⟩ := names_pieces hzs2
      rw [List.length_map] at q1 q12
      have kR := KM.of_kb S.T k22
      have S := S.kb k22 T22
      have lps : ((ps.map (·.nm)).map V.str).length = ps.length := by rw [List.length_map, List.length_map]
      have lqs : ((qs.map (·.nm)).map V.str).length = qs.length := by rw [List.length_map, List.length_map]
      refine ⟨rw_, ob, _, _, rfl, rfl, S.R, hob, (by rw [lps, lqs]; omega), fun lo hlo => ?_⟩
      have sl1 := same_new (o := .lst ((ps.map (·.nm)).map V.str ++ (qs.map (·.nm)).map V.str)) hlo
      refine ⟨lo, ps ++ qs, rfl, S.same sl1, sl1 _ _ (kR.tup hdu), fun e he => sl1 _ _ (kR.tup (nN e he)), ?_, fun p hp => (List.mem_append.mp hp).elim (hps p) (hqs p), by rw [List.length_append]; omega, by rw [List.length_append]; omega⟩
      rw [upd_same, List.map_append, List.map_append]
    rintro σ H23 ⟨lo, gl, rfl, S, hdu, nN, hlo', hgl, lgl⟩
    refine ⟨_, rfl, _, rfl, _, rfl, y, bo, .ref lo, len, a', b', L', pcs M, prs As, ss, es, rfl, S.Y, S.J, lL', row_good g.nd (.inr hlo') hgl lgl.1 (by omega) fun H24 t3 M3 s24 ht3 e3 m3 => ?_⟩
    rw [eL] at e3
    have S := S.same s24
    have hdu := s24 _ _ hdu
    have hlo' := s24 _ _ hlo'
    have nN : ∀ e ∈ N1, TAt H24 e := fun e he => (nN e he).keep s24
    obtain ⟨d1, d2, d3, d4, B⟩ := id S.B
    refine ⟨_, rfl, _, rfl, ma, _, 0, _, rfl, rfl, SqL.of B.m, atI_nat (j := 0) rfl, _, rfl, _, rfl, wa, oa, lo, 7, 5, len, a', b', L, M, As, ss, es, gl, rfl, S.W, g, by decide, by decide, S.O, hlo', hgl, lgl.2, fun H25 du3 N3 s25 hdu3 eN3 nN3 => ?_⟩
    clear B
    refine ⟨_, _, rfl, same_tris (s25 _ _ ht3) hdu3 (e3.trans eN3.symm) (fun e he => (m3 e he).keep s25) nN3 (row_few (len := len) lc (by omega) eN3), fun H26 s26 => ⟨_, rfl, ?_⟩⟩
    have s2526 := s25.trans s26
    have S := S.same s2526
    have hdu := s2526 _ _ hdu
    have nN : ∀ e ∈ N1, TAt H26 e := fun e he => (nN e he).keep s2526
    refine ⟨_, rfl, _, rfl, _, rfl, y, bb, .ref rw_, len, a, b, L', pcs M, prs As, ss, es, rfl, S.Y, S.K, lL', row_good g.nd (.inr S.R) hps r1 (by omega) fun H27 t4 M4 s27 ht4 e4 m4 => ?_⟩
    rw [eL] at e4
    have S := S.same s27
    have hdu := s27 _ _ hdu
    have nN : ∀ e ∈ N1, TAt H27 e := fun e he => (nN e he).keep s27
    refine ⟨_, rfl, _, _, rfl, same_tris ht4 hdu (e4.trans eN.symm) m4 nN (row_few (len := len) lc (by omega) eN), fun H28 s28 => ⟨_, rfl, ?_⟩⟩
    have S := S.same s28
    clear hdu nN hh
    refine ⟨_, rfl, book_good (by decide) (by decide) (by decide) (by decide) fun H29 b0 s29 hb0 => ?_⟩
    have S := S.same s29
    refine ⟨_, rfl, y, b0, .ref rw_, len, 0, 0, L', pcs M, prs As, ss, es, rfl, S.Y, hb0, lL', row_good g.nd (.inr S.R) hps r1 (by omega) fun H30 t5 M5 s30 ht5 e5 m5 => ?_⟩
    rw [eL] at e5
    have S := S.same s30
    obtain ⟨d1, d2, d3, d4, B⟩ := id S.B
    refine ⟨_, rfl, _, rfl, ma, _, 0, _, rfl, rfl, SqL.of B.m, atI_nat (j := 0) rfl, (by show 2 ≤ sizeLine; decide), fun z0 hz0 => ?_⟩
    clear B
    have sz := same_new (o := .lst [.int 0, .int 0]) hz0
    have S := S.same sz
    have ht5 := sz _ _ ht5
    have m5 : ∀ e ∈ M5, TAt _ e := fun e he => (m5 e he).keep sz
    have hz0' := upd_same (H := H30) (a := z0) (o := .lst [V.int 0, V.int 0])
    generalize upd H30 z0 _ = H31 at S ht5 m5 hz0' ⊢
    refine ⟨_, rfl, wa, z0, rw_, 7, 5, len, 0, 0, L, M, As, ss, es, ps, rfl, S.W, g, by decide, by decide, hz0', S.R, hps, by omega, fun H32 du5 N5 s32 hdu5 eN5 nN5 => ?_⟩
    refine ⟨_, _, rfl, same_tris (s32 _ _ ht5) hdu5 (e5.trans eN5.symm) (fun e he => (m5 e he).keep s32) nN5 (row_few (len := len) lc (by omega) eN5), fun H33 s33 => ⟨_, rfl, ?_⟩⟩
    have S := S.same (s32.trans s33)
    have lps : ((ps.map (·.nm)).map V.str).length = ps.length := by rw [List.length_map, List.length_map]
    refine ⟨fun σ' H' => ∃ k12 : Option V, σ' = [some (.ref sa), some (.ref tp), some (.ref wa), some (.ref ma), some (.ref D), some (.ref rw_), some (.ref na), some (.ref oa), some (.ref bo), some (.ref ha), some (.ref du), some (.ref lo), k12, none, some (.ref bb), none, some (.ref y), none, none] ∧ St12 (Ts12 P0 PB) CR CP CK tp cl y wa ma D rw_ na oa bb bo ns len L L' M As ss es zs ps a b a' b' H', ?_, ?_⟩
    · refine ⟨_, rfl, tp, cl, ns, 9, rfl, S.T, by decide, fun H34 b9 k34 T34 => ⟨b9, rfl, ?_⟩⟩
      have S := S.kb k34 T34
      cases b9 with
      | false => exact ⟨none, rfl, S⟩
      | true =>
        refine ⟨_, rfl, rw_, 400, _, rfl, rfl, S.R, by decide, by decide, (by rw [lps]; show ps.length * 400 ≤ _; omega), fun p1 hp1 => ?_⟩
        rw [show (400 : Int).toNat = 400 from rfl, flat_map]
        have n1 := (T34.fresh hp1).1.symm
        have S := S.same (same_new (o := .lst ((((List.replicate 400 ps).flatten).map (·.nm)).map V.str)) hp1)
        have h19 := upd_same (H := H34) (a := p1) (o := .lst ((((List.replicate 400 ps).flatten).map (·.nm)).map V.str))
        generalize upd H34 p1 _ = H35 at S h19 ⊢
        refine ⟨_, rfl, tp, cl, ns, 399, 400, rfl, S.T, by decide, by decide, fun H36 d k36 T36 d0 d1 => ?_⟩
        obtain ⟨n, rfl⟩ : ∃ n : Nat, d = (n : Int) := ⟨d.toNat, by omega⟩
        have h19 := k36 _ _ n1 h19
        have S := S.kb k36 T36
        refine ⟨_, rfl, p1, _, rfl, SqL.of h19, fun p2 hp2 => ?_⟩
        rw [cut_front n _ rfl, ← List.map_take, ← List.map_take]
        have hgs : ∀ p ∈ (List.replicate 400 ps).flatten.take n, p ∈ pcs M := fun p hp => by
          obtain ⟨l, hl, hq⟩ := List.mem_flatten.mp (List.mem_of_mem_take hp)
          rw [(List.mem_replicate.mp hl).2] at hq
          exact hps p hq
        have lgs : ((List.replicate 400 ps).flatten.take n).length ≤ 400 ∧ 1 ≤ ((List.replicate 400 ps).flatten.take n).length := by
          rw [List.length_take, flatP_len 400 ps]
          omega
        generalize (List.replicate 400 ps).flatten.take n = gs at hgs lgs ⊢
        have S := S.same (same_new (o := .lst ((gs.map (·.nm)).map V.str)) hp2)
        have h21 := upd_same (H := H36) (a := p2) (o := .lst ((gs.map (·.nm)).map V.str))
        generalize upd H36 p2 _ = H37 at S h21 ⊢
        refine ⟨_, rfl, _, rfl, _, rfl, y, bb, .ref p2, len, a, b, L', pcs M, prs As, ss, es, rfl, S.Y, S.K, lL', row_good g.nd (.inr h21) hgs lgs.2 lgs.1 fun H38 t6 M6 s38 ht6 e6 m6 => ?_⟩
        rw [eL] at e6
        have S := S.same s38
        have h21 := s38 _ _ h21
        refine ⟨_, rfl, _, rfl, na, _, 0, _, rfl, rfl, SqL.of S.N, atI_nat (j := 0) rfl, _, rfl, na, _, 1, _, rfl, rfl, SqL.of S.N, atI_nat (j := 1) rfl, _, rfl, ma, p2, len, a, b, cuesC L, pcs M, prs As, gs, rfl, S.B, h21, hgs, lgs.1, lc, g.ch, hg, g.nd, fun H39 t7 N7 s39 h7 e7 n7 => ?_⟩
        refine ⟨t7, _, rfl, .inl ⟨SqL.of h7, fun l hl => ?_⟩⟩
        have s40 := same_new (o := .tup (refsT N7)) hl
        refine ⟨_, _, rfl, same_tris (s40 _ _ (s39 _ _ ht6)) upd_same (e6.trans e7.symm) (fun d hd => ((m6 d hd).keep s39).keep s40) (fun d hd => (n7 d hd).keep s40) (row_few (len := len) lc lgs.1 e7), fun H41 s41 => ⟨_, rfl, ?_⟩⟩
        exact ⟨_, rfl, S.same ((s39.trans s40).trans s41)⟩
    rintro σ H34 ⟨k12, rfl, S⟩
    refine ⟨_, rfl, _, rfl, _, ps.length, rfl, .inl ⟨_, SqL.of S.R, lps.symm⟩, tp, cl, ns, _, rfl, S.T, by omega, fun H42 at_ k42 T42 c0 c1 => ?_⟩
    obtain ⟨n, rfl⟩ : ∃ n : Nat, at_ = (n : Int) := ⟨at_.toNat, by omega⟩
    have S := S.kb k42 T42
    have ln : n < ps.length := by omega
    refine ⟨fun σ' H' => ∃ sp : Addr, σ' = [some (.ref sa), some (.ref tp), some (.ref wa), some (.ref ma), some (.ref D), some (.ref rw_), some (.ref na), some (.ref oa), some (.ref bo), some (.ref ha), some (.ref du), some (.ref lo), k12, some (.int n), some (.ref bb), none, some (.ref y), some (.ref sp), none] ∧ St12 (Ts12 P0 PB) CR CP CK tp cl y wa ma D rw_ na oa bb bo ns len L L' M As ss es zs ps a b a' b' H' ∧ BadV ((pcs M).map (·.nm)) H' (.ref sp) n, ?_, ?_⟩
    · refine ⟨_, rfl, _, rfl, _, rfl, rw_, _, rfl, SqL.of S.R, fun p1 hp1 => ?_⟩
      rw [cut_front n _ rfl]
      have n1 := (T42.fresh hp1).1.symm
      have S := S.same (same_new (o := .lst (((ps.map (·.nm)).map V.str).take n)) hp1)
      have h1 := upd_same (H := H42) (a := p1) (o := .lst (((ps.map (·.nm)).map V.str).take n))
      generalize upd H42 p1 _ = H43 at S h1 ⊢
      refine ⟨(by show 1 ≤ sizeLine; decide), fun p2 hp2 => ?_⟩
      have n2 := (S.T.fresh hp2).1.symm
      have S := S.same (same_new (o := .tup [.str "a"]) hp2)
      have h1 := same_new (o := .tup [.str "a"]) hp2 _ _ h1
      have h2 := upd_same (H := H43) (a := p2) (o := .tup [V.str "a"])
      generalize upd H43 p2 _ = H44 at S h1 h2 ⊢
      refine ⟨(by show 5 ≤ sizeLine; decide), fun p3 hp3 => ?_⟩
      have n3 := (S.T.fresh hp3).1.symm
      have S := S.same (same_new (o := .lst [.str "nowhere", .non, .int 3, .bl true, .ref p2]) hp3)
      have h1 := same_new (o := .lst [.str "nowhere", .non, .int 3, .bl true, .ref p2]) hp3 _ _ h1
      have h2 := same_new (o := .lst [.str "nowhere", .non, .int 3, .bl true, .ref p2]) hp3 _ _ h2
      have h3 := upd_same (H := H44) (a := p3) (o := .lst [V.str "nowhere", .non, .int 3, .bl true, .ref p2])
      generalize upd H44 p3 _ = H45 at S h1 h2 h3 ⊢
      refine ⟨_, rfl, tp, cl, ns, 5, rfl, S.T, by decide, fun H46 d k46 T46 d0 d1 => ?_⟩
      have S := S.kb k46 T46
      have h1 := k46 _ _ n1 h1
      have h2 := k46 _ _ n2 h2
      have h3 := k46 _ _ n3 h3
      obtain ⟨v, hv, av, ov⟩ : ∃ v, atI [.str "nowhere", .non, .int 3, .bl true, .ref p2] d = some v ∧ AnyV H46 v ∧ hasV ((pcs M).map (·.nm)) v = false := by
        obtain ⟨m, rfl⟩ : ∃ m : Nat, d = (m : Int) := ⟨d.toNat, by omega⟩
        have : m = 0 ∨ m = 1 ∨ m = 2 ∨ m = 3 ∨ m = 4 := by omega
        rcases this with rfl | rfl | rfl | rfl | rfl
        · exact ⟨_, atI_nat (j := 0) rfl, .inl trivial, odd_nowhere g.sh⟩
        · exact ⟨_, atI_nat (j := 1) rfl, .inl trivial, rfl⟩
        · exact ⟨_, atI_nat (j := 2) rfl, .inl trivial, rfl⟩
        · exact ⟨_, atI_nat (j := 3) rfl, .inl trivial, rfl⟩
        · exact ⟨_, atI_nat (j := 4) rfl, .inr ⟨p2, [V.str "a"], rfl, .inr h2⟩, rfl⟩
      refine ⟨p3, _, _, v, rfl, rfl, SqL.of h3, hv, ?_⟩
      refine ⟨(by show 1 ≤ sizeLine; decide), fun p4 hp4 => ?_⟩
      have S := S.same (same_new (o := .lst [v]) hp4)
      have h1 := same_new (o := .lst [v]) hp4 _ _ h1
      have av := anyV_keep av (same_new (o := .lst [v]) hp4)
      have h4 := upd_same (H := H46) (a := p4) (o := .lst [v])
      generalize upd H46 p4 _ = H47 at S h1 av h4 ⊢
      have l1 : (((ps.map (·.nm)).map V.str).take n).length = n := by rw [List.length_take, lps]; omega
      refine ⟨p1, p4, _, _, rfl, rfl, h1, h4, (by rw [l1]; show n + 1 ≤ _; omega), fun p5 hp5 => ?_⟩
      have S := S.same (same_new (o := .lst (((ps.map (·.nm)).map V.str).take n ++ [v])) hp5)
      have av := anyV_keep av (same_new (o := .lst (((ps.map (·.nm)).map V.str).take n ++ [v])) hp5)
      have h5 := upd_same (H := H47) (a := p5) (o := .lst (((ps.map (·.nm)).map V.str).take n ++ [v]))
      generalize upd H47 p5 _ = H48 at S av h5 ⊢
      refine ⟨_, rfl, _, rfl, _, rfl, rw_, _, rfl, SqL.of S.R, fun p6 hp6 => ?_⟩
      rw [cut_back n _ rfl]
      have S := S.same (same_new (o := .lst (((ps.map (·.nm)).map V.str).drop n)) hp6)
      have av := anyV_keep av (same_new (o := .lst (((ps.map (·.nm)).map V.str).drop n)) hp6)
      have h5 := same_new (o := .lst (((ps.map (·.nm)).map V.str).drop n)) hp6 _ _ h5
      have h6 := upd_same (H := H48) (a := p6) (o := .lst (((ps.map (·.nm)).map V.str).drop n))
      generalize upd H48 p6 _ = H49 at S av h5 h6 ⊢
      have l2 : (((ps.map (·.nm)).map V.str).drop n).length = ps.length - n := by rw [List.length_drop, lps]
      have pX : ∀ z ∈ ((ps.map (·.nm)).map V.str).take n, hasV ((pcs M).map (·.nm)) z = true := fun z hz => names_has hps z (List.mem_of_mem_take hz)
      have plX : ∀ z ∈ ((ps.map (·.nm)).map V.str).take n, Plain z := fun z hz => plain_strs (List.mem_of_mem_take hz)
      have plY : ∀ z ∈ ((ps.map (·.nm)).map V.str).drop n, Plain z := fun z hz => plain_strs (List.mem_of_mem_drop hz)
      generalize ((ps.map (·.nm)).map V.str).take n = X at l1 pX plX h5 ⊢
      generalize ((ps.map (·.nm)).map V.str).drop n = Z at l2 plY h6 ⊢
      refine ⟨p5, p6, _, _, rfl, rfl, h5, h6, (by rw [List.length_append, l1, l2]; show n + 1 + _ ≤ _; omega), fun p7 hp7 => ?_⟩
      have s7 := same_new (o := .lst (X ++ [v] ++ Z)) hp7
      have lT : (X ++ [v] ++ Z).length = ps.length + 1 := by rw [List.length_append, List.length_append, l1, l2]; show n + 1 + _ = _; omega
      refine ⟨p7, rfl, S.same s7, .inr ⟨p7, X ++ [v] ++ Z, rfl, .inr upd_same, fun z hz => ?_, .inr ⟨n, v, rfl, by omega, by omega, ?_, ?_, ov⟩⟩⟩
      · rcases List.mem_append.mp hz with hz | hz
        · rcases List.mem_append.mp hz with hz | hz
          · exact .inl (plX z hz)
          · rw [List.mem_singleton.mp hz]
            exact anyV_keep av s7
        · exact .inl (plY z hz)
      · rw [List.append_assoc, List.getElem?_append_right (by omega), l1, Nat.sub_self]
        rfl
      · intro z hz
        rw [List.append_assoc, List.take_append_of_le_length (by omega), List.take_of_length_le (by omega)] at hz
        exact pX z hz
    rintro σ H50 ⟨sp, rfl, S, hb⟩
    refine ⟨S.Tb, fun H51 e51 tb51 => ?_⟩
    have S := S.ext e51 tb51
    refine ⟨_, rfl, _, rfl, _, rfl, y, bb, .ref sp, len, a, b, L', pcs M, prs As, ss, es, rfl, S.Y, S.K, lL', (hb.ext e51).rowUp fun H52 s52 q' hq' => ?_⟩
    refine .inr ⟨q', .int n, rfl, rfl, upd_same, fun H53 t s53 ht => ?_⟩
    have S := ((S.same s52).same (same_new (o := .xd [(("number" : Str), .int n)]) hq')).same s53
    refine ⟨_, rfl, (by show 3 ≤ sizeLine; decide), fun u hu => ?_⟩
    have S := S.same (same_new (o := .tup [.str "BadRow", .int n, .bl false]) hu)
    refine ⟨_, _, rfl, same_plain (same_new hu _ _ ht) upd_same (fun y hy => ?_) (by show 3 ≤ 20000; decide), fun H54 s54 => ⟨_, rfl, ?_⟩⟩
    · simp only [List.mem_cons, List.mem_nil_iff, or_false] at hy
      rcases hy with rfl | rfl | rfl <;> trivial
    have S := S.same s54
    refine ⟨Nat.zero_le _, fun r1_ hr1 => ?_⟩
    have n1 := (S.T.fresh hr1).1.symm
    have S := S.same (same_new (o := .tup []) hr1)
    have h1 := upd_same (H := H54) (a := r1_) (o := .tup [])
    generalize upd H54 r1_ _ = H55 at S h1 ⊢
    refine ⟨_, rfl, rw_, 401, _, rfl, rfl, S.R, by decide, by decide, (by rw [lps]; show ps.length * 401 ≤ _; omega), fun r2_ hr2 => ?_⟩
    have S := S.same (same_new (o := .lst (List.replicate (401 : Int).toNat ((ps.map (·.nm)).map V.str)).flatten) hr2)
    have h1 := same_new (o := .lst (List.replicate (401 : Int).toNat ((ps.map (·.nm)).map V.str)).flatten) hr2 _ _ h1
    have h2 := upd_same (H := H55) (a := r2_) (o := .lst (List.replicate (401 : Int).toNat ((ps.map (·.nm)).map V.str)).flatten)
    generalize upd H55 r2_ _ = H56 at S h1 h2 ⊢
    refine ⟨_, rfl, r2_, _, rfl, SqL.of h2, fun r3_ hr3 => ?_⟩
    rw [cut_front (d := 401) 401 _ rfl]
    have l3 : ((List.replicate (401 : Int).toNat ((ps.map (·.nm)).map V.str)).flatten.take 401).length = 401 := by
      rw [List.length_take, repf_len, lps]
      show min 401 (401 * ps.length) = 401
      omega
    have pl3 : ∀ y ∈ (List.replicate (401 : Int).toNat ((ps.map (·.nm)).map V.str)).flatten.take 401, Plain y := fun y hy => plain_strs (flat_mem (List.mem_of_mem_take hy))
    generalize (List.replicate (401 : Int).toNat ((ps.map (·.nm)).map V.str)).flatten.take 401 = X at l3 pl3 ⊢
    have n3 := (S.T.fresh hr3).1.symm
    have S := S.same (same_new (o := .lst X) hr3)
    have h1 := same_new (o := .lst X) hr3 _ _ h1
    have h3 := upd_same (H := H56) (a := r3_) (o := .lst X)
    generalize upd H56 r3_ _ = H57 at S h1 h3 ⊢
    refine ⟨(by show 5 ≤ sizeLine; decide), fun r4_ hr4 => ?_⟩
    have n4 := (S.T.fresh hr4).1.symm
    have S := S.same (same_new (o := .lst [.ref r1_, .str "ab", .non, .int 7, .ref r3_]) hr4)
    have h1 := same_new (o := .lst [.ref r1_, .str "ab", .non, .int 7, .ref r3_]) hr4 _ _ h1
    have h3 := same_new (o := .lst [.ref r1_, .str "ab", .non, .int 7, .ref r3_]) hr4 _ _ h3
    have h4 := upd_same (H := H57) (a := r4_) (o := .lst [V.ref r1_, .str "ab", .non, .int 7, .ref r3_])
    generalize upd H57 r4_ _ = H58 at S h1 h3 h4 ⊢
    refine ⟨_, rfl, tp, cl, ns, 5, rfl, S.T, by decide, fun H59 d k59 T59 d0 d1 => ?_⟩
    have S := S.kb k59 T59
    have h1 := k59 _ _ n1 h1
    have h3 := k59 _ _ n3 h3
    have h4 := k59 _ _ n4 h4
    obtain ⟨v, hv, hb⟩ : ∃ v, atI [.ref r1_, .str "ab", .non, .int 7, .ref r3_] d = some v ∧ BadV ((pcs M).map (·.nm)) H59 v (-1) := by
      obtain ⟨m, rfl⟩ : ∃ m : Nat, d = (m : Int) := ⟨d.toNat, by omega⟩
      have : m = 0 ∨ m = 1 ∨ m = 2 ∨ m = 3 ∨ m = 4 := by omega
      rcases this with rfl | rfl | rfl | rfl | rfl
      · exact ⟨_, atI_nat (j := 0) rfl, .inr ⟨r1_, [], rfl, .inl h1, (fun _ h => nomatch h), .inl ⟨rfl, .inl (by decide)⟩⟩⟩
      · exact ⟨_, atI_nat (j := 1) rfl, .inl ⟨trivial, rfl⟩⟩
      · exact ⟨_, atI_nat (j := 2) rfl, .inl ⟨trivial, rfl⟩⟩
      · exact ⟨_, atI_nat (j := 3) rfl, .inl ⟨trivial, rfl⟩⟩
      · exact ⟨_, atI_nat (j := 4) rfl, .inr ⟨r3_, X, rfl, .inr h3, fun y hy => .inl (pl3 y hy), .inl ⟨rfl, .inr (by omega)⟩⟩⟩
    refine ⟨r4_, _, _, v, rfl, rfl, SqL.of h4, hv, ?_⟩
    refine ⟨S.Tb, fun H61 e61 tb61 => ?_⟩
    have S := S.ext e61 tb61
    refine ⟨_, rfl, _, rfl, _, rfl, y, bb, v, len, a, b, L', pcs M, prs As, ss, es, rfl, S.Y, S.K, lL', (hb.ext e61).rowUp fun H62 s62 q' hq' => ?_⟩
    refine .inr ⟨q', .int (-1), rfl, rfl, upd_same, fun H63 t s63 ht => ?_⟩
    have S := ((S.same s62).same (same_new (o := .xd [(("number" : Str), .int (-1))]) hq')).same s63
    refine ⟨1, rfl, (by show 3 ≤ sizeLine; decide), fun u hu => ?_⟩
    have S := S.same (same_new (o := .tup [.str "BadRow", .int (-1), .bl false]) hu)
    refine ⟨_, _, rfl, same_plain (same_new hu _ _ ht) upd_same (fun y hy => ?_) (by show 3 ≤ 20000; decide), fun H64 s64 => ⟨_, rfl, ?_⟩⟩
    · simp only [List.mem_cons, List.mem_nil_iff, or_false] at hy
      rcases hy with rfl | rfl | rfl <;> trivial
    have S := S.same s64
    exact ⟨_, rfl, tp, cl, ns, rfl, S.T, fun p hp => S.Tb p (List.mem_cons_of_mem _ hp), fun H' => q H'⟩
end
end Sea
namespace Sea
open PySem PySem.Spec PyProof.Rows L2
theorem walk_tab2 {l : PySem.W.OpenLaw} {n k : Nat} {q : Program} {loose : List Str} {XP : (Str → Option Value) → Heap → Prop} {YP : World → Heap → Prop} {d d2 : DefRec} {K : Params → PySem.W.Frag} {sp : World → Addr → Addr → Sp} {x x2 : Str}
    (most : l.most = some n) (small : n ≤ sizeLine) (plain : d.params.defaults = []) (room : Room k callerA) (kin : ∀ (w : World) (h : Heap), YP w h → (K w.params).In h)
    (hrec : (recsOf q).find? (fun e => e.name == d.name) = some d) (hrec2 : (recsOf q).find? (fun e => e.name == x2) = some d2)
    (F : ∀ (w : World) (mg : Str → Option Value) (fa : Addr) (h : Heap), (K w.params).In h → h.Ns mainGlobals mg → mg d.name = some (.ref fa) → ∃ (fd : FuncData) (c P c2 P2 : Addr), PySem.W.tabIn (K w.params) d.name = some (c, P) ∧ (K w.params).lookup P = none ∧ PySem.W.tabIn (K w.params) x2 = some (c2, P2) ∧ (K w.params).lookup P2 = none ∧
      (∀ (s : Shared) (u : Value), BindsTo s fd ⟨[u], []⟩ [(x, u)]) ∧ ∀ base : Heap, (K w.params).In base → base.Ns mainGlobals mg → LamX.TabB base mg c P → LamX.TabB base mg c2 P2 → FnOk l.prog w (K w.params) mg base CX0 k fa fd [x] (sp w P P2))
    (start : ∀ (w : World) (H : Hp) (P P2 : Addr) (a : Addr) (ns : List Int), ns.length ≤ n → H P = some (.tbl #[]) → H P2 = some (.tbl #[]) → SqL (K w.params) H a (ns.map V.int) → sp w P P2 [.ref a] H (fun v _ => v = .bl true) E0) :
    PySem.W.WalkO q loose XP YP l.row.toRowW d [] (fun f vs => PySem.call f vs) := by
  refine Att.attach_callB most plain ?_
  intro w s0 s1 mg mb fa o pm cd doc a vs ns G Y ho hd hcd hmg hobj hints hlen hbits hg
  have KX := kin w _ Y
  obtain ⟨fd, c, P, c2, P2, ht, nP, ht2, nP2, hb, hF⟩ := F w mg fa _ KX G.T.g hmg
  obtain ⟨C, hP⟩ := PySem.W.tab_of G.T KX hrec ht
  obtain ⟨C2, hP2⟩ := PySem.W.tab_of G.T KX hrec2 ht2
  have two : ∀ {R : Addr × Addr → Prop}, R (c, P) → R (c2, P2) → ∀ p ∈ [(c, P), (c2, P2)], R p := fun r1 r2 p hp => by
    rcases List.mem_cons.mp hp with e | e
    · rw [e]
      exact r1
    · rw [List.mem_singleton.mp e]
      exact r2
  exact LamX.law_callTs (cs := [(c, P), (c2, P2)]) (CX := CX0) KX G.T.g G.T.b G.T.builtins G.T.nolimit hg (two hP hP2) (two nP nP2) (two C C2) G.T.bmain hobj hints (Nat.le_trans hlen small) room
    (fun base h1 h2 h3 => hF base h1 h2 (h3 _ List.mem_cons_self) (h3 _ (List.mem_cons_of_mem _ (List.mem_singleton_self _)))) hb
    (fun H hH hS => start w H P P2 a ns hlen (hH _ List.mem_cons_self) (hH _ (List.mem_cons_of_mem _ (List.mem_singleton_self _))) hS) (fun H e s' h => h)
end Sea
namespace Sea
open PySem PySem.Spec PyProof.Rows L2
theorem exm_mk {K : PySem.W.Frag} {T S : Addr} {b : Bool} (h1 : PySem.W.subIn K (.ref S) (.type "BaseException") = some true) (h2 : PySem.W.isClsIn K S = true) (h3 : PySem.W.typeIn K (.ref S) = some (.type "type")) (h4 : PySem.W.subIn K (.ref T) (.ref S) = some b) :
    PySem.W.exmOne K (.ref T) (.ref S) = some b := by
  have e1 : (PySem.W.subIn K (.ref S) (.type "BaseException") == some true) = true := by rw [h1] <;> rfl
  have e2 : ((PySem.W.clsIn K S).isSome && PySem.W.typeIn K (.ref S) == some (.type "type")) = true := by
    have h2' : (PySem.W.clsIn K S).isSome = true := h2
    rw [h2', h3] <;> rfl
  show (if (PySem.W.subIn K (.ref S) (.type "BaseException") == some true) = true then (if ((PySem.W.clsIn K S).isSome && PySem.W.typeIn K (.ref S) == some (.type "type")) = true then PySem.W.subIn K (.ref T) (.ref S) else none) else none) = some b
  rw [if_pos e1, if_pos e2]
  exact h4
theorem kit_no {K : PySem.W.Frag} {T S : Addr} (h0 : PySem.W.subIn K (.ref T) (.ref T) = some true) (h2 : PySem.W.isClsIn K S = true) (h3 : PySem.W.typeIn K (.ref S) = some (.type "type")) (h4 : PySem.W.subIn K (.ref T) (.ref S) = some false) :
    PySem.W.kitOne K (.ref T) (.ref S) = some false := by
  have ne : ((Value.ref T == Value.ref S) = true) → False := fun e => by
    have e' : Value.ref T = Value.ref S := eq_of_beq e
    rw [← e', h0] at h4
    cases h4
  have e2 : ((PySem.W.clsIn K S).isSome && PySem.W.typeIn K (.ref S) == some (.type "type")) = true := by
    have h2' : (PySem.W.clsIn K S).isSome = true := h2
    rw [h2', h3] <;> rfl
  show (if (Value.ref T == Value.ref S) = true then some true else if ((PySem.W.clsIn K S).isSome && PySem.W.typeIn K (.ref S) == some (.type "type")) = true then PySem.W.subIn K (.ref T) (.ref S) else none) = some false
  rw [if_neg ne, if_pos e2]
  exact h4
theorem kit_two {K : PySem.W.Frag} {T A B : Addr} (h1 : PySem.W.kitOne K (.ref T) (.ref A) = some false) (h2 : PySem.W.kitOne K (.ref T) (.ref B) = some false) : PySem.W.kitAny K (.ref T) [.ref A, .ref B] = some false :=
  kitAny_cons h1 (fun _ => kitAny_cons h2 (fun _ => rfl) (fun z => nomatch z)) (fun z => nomatch z)
theorem kit_noT {K : PySem.W.Frag} {S : Addr} {s : String} (h2 : PySem.W.isClsIn K S = true) (h3 : PySem.W.typeIn K (.ref S) = some (.type "type")) (h4 : PySem.W.subIn K (.type s) (.ref S) = some false) :
    PySem.W.kitOne K (.type s) (.ref S) = some false := by
  have ne : ((Value.type s == Value.ref S) = true) → False := fun e => nomatch (eq_of_beq e : Value.type s = Value.ref S)
  have e2 : ((PySem.W.clsIn K S).isSome && PySem.W.typeIn K (.ref S) == some (.type "type")) = true := by
    have h2' : (PySem.W.clsIn K S).isSome = true := h2
    rw [h2', h3] <;> rfl
  show (if (Value.type s == Value.ref S) = true then some true else if ((PySem.W.clsIn K S).isSome && PySem.W.typeIn K (.ref S) == some (.type "type")) = true then PySem.W.subIn K (.type s) (.ref S) else none) = some false
  rw [if_neg ne, if_pos e2]
  exact h4
theorem ok_iLn {P : Program} {w : World} {K : PySem.W.Frag} {mg : Str → Option Value} {base : Heap} {C f : Addr} {fd : FuncData} (F : Fun K "__init__" "BadLength.__init__" s_BadLength___init__ f fd) : FnOk P w K mg base CX0 1 f fd ["self", "length"] (spIni K C "length") := by
  refine F.ok sc_BadLength___init__ (fun vs H Q E h => ?_) (fun cdv A outer s H vs Q E hr h => ?_)
  · obtain ⟨a, v, rfl, _⟩ := h
    rfl
  · obtain ⟨a, v, rfl, ox, no, ha, q⟩ := h
    exact ⟨_, pss_one (ps_ost (pv 0) (pv 1)), _, rfl, _, rfl, a, C, rfl, ox, no, .inl ⟨ha, q⟩⟩
theorem ok_iU {P : Program} {w : World} {K : PySem.W.Frag} {mg : Str → Option Value} {base : Heap} {C f : Addr} {fd : FuncData} (F : Fun K "__init__" "BadCue.__init__" s_BadCue___init__ f fd) : FnOk P w K mg base CX0 1 f fd ["self", "number"] (spIni K C "number") := by
  refine F.ok sc_BadCue___init__ (fun vs H Q E h => ?_) (fun cdv A outer s H vs Q E hr h => ?_)
  · obtain ⟨a, v, rfl, _⟩ := h
    rfl
  · obtain ⟨a, v, rfl, ox, no, ha, q⟩ := h
    exact ⟨_, pss_one (ps_ost (pv 0) (pv 1)), _, rfl, _, rfl, a, C, rfl, ox, no, .inl ⟨ha, q⟩⟩
theorem ok_iM {P : Program} {w : World} {K : PySem.W.Frag} {mg : Str → Option Value} {base : Heap} {C f : Addr} {fd : FuncData} (F : Fun K "__init__" "TooMany.__init__" s_TooMany___init__ f fd) : FnOk P w K mg base CX0 1 f fd ["self", "word"] (spIni K C "word") := by
  refine F.ok sc_TooMany___init__ (fun vs H Q E h => ?_) (fun cdv A outer s H vs Q E hr h => ?_)
  · obtain ⟨a, v, rfl, _⟩ := h
    rfl
  · obtain ⟨a, v, rfl, ox, no, ha, q⟩ := h
    exact ⟨_, pss_one (ps_ost (pv 0) (pv 1)), _, rfl, _, rfl, a, C, rfl, ox, no, .inl ⟨ha, q⟩⟩
theorem ok_iB {P : Program} {w : World} {K : PySem.W.Frag} {mg : Str → Option Value} {base : Heap} {C f : Addr} {fd : FuncData} (F : Fun K "__init__" "BadRow.__init__" s_BadRow___init__ f fd) : FnOk P w K mg base CX0 1 f fd ["self", "number"] (spIni K C "number") := by
  refine F.ok sc_BadRow___init__ (fun vs H Q E h => ?_) (fun cdv A outer s H vs Q E hr h => ?_)
  · obtain ⟨a, v, rfl, _⟩ := h
    rfl
  · obtain ⟨a, v, rfl, ox, no, ha, q⟩ := h
    exact ⟨_, pss_one (ps_ost (pv 0) (pv 1)), _, rfl, _, rfl, a, C, rfl, ox, no, .inl ⟨ha, q⟩⟩
theorem ok_iN {P : Program} {w : World} {K : PySem.W.Frag} {mg : Str → Option Value} {base : Heap} {C f : Addr} {fd : FuncData} (F : Fun K "__init__" "BadNumber.__init__" s_BadNumber___init__ f fd) : FnOk P w K mg base CX0 1 f fd ["self", "word"] (spIni K C "word") := by
  refine F.ok sc_BadNumber___init__ (fun vs H Q E h => ?_) (fun cdv A outer s H vs Q E hr h => ?_)
  · obtain ⟨a, v, rfl, _⟩ := h
    rfl
  · obtain ⟨a, v, rfl, ox, no, ha, q⟩ := h
    exact ⟨_, pss_one (ps_ost (pv 0) (pv 1)), _, rfl, _, rfl, a, C, rfl, ox, no, .inl ⟨ha, q⟩⟩
theorem ok_same2 {P : Program} {w : World} {K : PySem.W.Frag} {mg : Str → Option Value} {base : Heap} {f : Addr} {fd : FuncData} (F : Fun K "_law_same" "_law_same" s__law_same f fd) (m_isinstance : mg "isinstance" = none) (m_tuple : mg "tuple" = none) (m_bool : mg "bool" = none) (m_str : mg "str" = none) (m_int : mg "int" = none)
    (m_len : mg "len" = none) (m_all : mg "all" = none) (m_range : mg "range" = none) (g : mg "_law_same" = some (.ref f)) (kp : PySem.W.keepIn K (.ref f) = true) (b : Binds K fd ["_law_told", "_law_due_here"] []) :
    FnOk P w K mg base CX0 3 f fd ["_law_told", "_law_due_here"] (spSame 2) := by
  have f0 : FnOk P w K mg base CX0 0 f fd ["_law_told", "_law_due_here"] spNever := ⟨fun _ _ _ _ h => h.elim, fun _ _ _ _ _ _ _ _ _ _ _ _ _ h => h.elim⟩
  have step : ∀ {k n : Nat}, FnOk P w K mg base CX0 k f fd ["_law_told", "_law_due_here"] (spSame n) → FnOk P w K mg base CX0 (k + 1) f fd ["_law_told", "_law_due_here"] (spSame (n + 1)) := fun {k n} h =>
    ok_same_at F m_isinstance m_tuple m_bool m_str m_int m_len m_all m_range ⟨f, fd, _, h, g, kp, b⟩ fun vs H Q E hs => by
      obtain ⟨x, y, rfl, hw, q⟩ := hs
      refine ⟨x, y, rfl, q, ?_⟩
      rcases hw with hw | ⟨a, b, xs, ys, h1, h2, h3, h4, h5, h6, h7⟩
      · exact .inl hw
      · exact .inr ⟨a, b, xs, ys, h1, h2, h3, h4, h5, h6, fun i u v e1 e2 H1 Q1 E1 s1 q1 => ⟨u, v, rfl, (h7 i u v e1 e2).keep s1, q1⟩⟩
  have f1 : FnOk P w K mg base CX0 1 f fd ["_law_told", "_law_due_here"] (spSame 0) :=
    ok_same_at F m_isinstance m_tuple m_bool m_str m_int m_len m_all m_range ⟨f, fd, _, f0, g, kp, b⟩ fun vs H Q E hs => by
      obtain ⟨x, y, rfl, hw, q⟩ := hs
      exact ⟨x, y, rfl, q, .inl hw⟩
  exact step (step f1)
theorem tab_mk {K : PySem.W.Frag} {x : Str} {f c P0 : Addr} {oc : Value} {od : Option Addr} {fd : FuncData} {sl : Array (Option Value)} {cl : Value} {od2 : Option Addr} {vs : Array Value} {sl2 : Array (Option Value)}
    (a : PySem.W.nsIn K mainGlobals x = some (some (.ref f))) (l : K.lookup f = some ⟨oc, od, .func fd, sl⟩) (hc : fd.code = .ref c) (lc : K.lookup c = some ⟨cl, od2, .fields vs, sl2⟩) (h : (vs[11]? : Option Value) = some (.ref P0)) : PySem.W.tabIn K x = some (c, P0) := by
  unfold PySem.W.tabIn
  rw [a]
  simp only [l, hc, lc, h]
theorem all_mk {l : PySem.W.OpenLaw} {w : World} {K : PySem.W.Frag} {h : Heap} {mg : Str → Option Value} {fa CE CLn CU CM CB CN CK CR CP TD aW cL P0 cB PB pGr f_is_integer f_is_within f_items_of f_parts_of f_is_name f_has_percent f_is_text f_cue_of f_judged_cues f_piece_of_form f_judged_pieces f_judged_arrows f_wrong_name f_judged_starts f_judged_ends f_led_to f_first_unreached f_strip_of_piece f_sends_of_piece f_row_showings f_judged_row f_row_carried f_carried f__law_tape f__law_pick f__law_some f__law_rarely f__law_names f__law_text f__law_few_text f__law_cues f__law_pieces f__law_arrows f__law_others f__law_turned f__law_world f__law_gcd f__law_strip f__law_model f__law_showings f__law_carried f__law_drawn_way f__law_same f__law_book f__law_screen f__law_runs f__law_filled f__law_due f__law_drawn_row f__law_numbers f__law_refusal f__law_good_number f__law_books_right f_law f_iLn f_iU f_iM f_iB f_iN f_iR f_iP f_iK f_shown_of f_strip_of f_has f_eqK f_gr : Addr} (X : K.In h) (G : h.Ns mainGlobals mg) (hfa : mg "law" = some (.ref fa))
    {od_is_integer an_is_integer od_is_within an_is_within od_items_of an_items_of od_parts_of an_parts_of od_is_name an_is_name od_has_percent an_has_percent od_is_text an_is_text od_cue_of an_cue_of od_judged_cues an_judged_cues od_piece_of_form an_piece_of_form od_judged_pieces an_judged_pieces od_judged_arrows an_judged_arrows od_wrong_name an_wrong_name od_judged_starts an_judged_starts od_judged_ends an_judged_ends od_led_to an_led_to od_first_unreached an_first_unreached od_strip_of_piece an_strip_of_piece od_sends_of_piece an_sends_of_piece od_row_showings an_row_showings od_judged_row an_judged_row od_row_carried an_row_carried od_carried an_carried od__law_tape an__law_tape od__law_pick an__law_pick od__law_some an__law_some od__law_rarely an__law_rarely od__law_names an__law_names od__law_text an__law_text od__law_few_text an__law_few_text od__law_cues an__law_cues od__law_pieces an__law_pieces od__law_arrows an__law_arrows od__law_others an__law_others od__law_turned an__law_turned od__law_world an__law_world od__law_gcd an__law_gcd od__law_strip an__law_strip od__law_model an__law_model od__law_showings an__law_showings od__law_carried an__law_carried od__law_drawn_way an__law_drawn_way od__law_same an__law_same od__law_book an__law_book od__law_screen an__law_screen od__law_runs an__law_runs od__law_filled an__law_filled od__law_due an__law_due od__law_drawn_row an__law_drawn_row od__law_numbers an__law_numbers od__law_refusal an__law_refusal od__law_good_number an__law_good_number od__law_books_right an__law_books_right od_law an_law od_iLn an_iLn od_iU an_iU od_iM an_iM od_iB an_iB od_iN an_iN od_iR an_iR od_iP an_iP od_iK an_iK od_shown_of an_shown_of od_strip_of an_strip_of od_has an_has od_eqK an_eqK od_gr an_gr odCo odCb : Option Addr} {sl_is_integer sl_is_within sl_items_of sl_parts_of sl_is_name sl_has_percent sl_is_text sl_cue_of sl_judged_cues sl_piece_of_form sl_judged_pieces sl_judged_arrows sl_wrong_name sl_judged_starts sl_judged_ends sl_led_to sl_first_unreached sl_strip_of_piece sl_sends_of_piece sl_row_showings sl_judged_row sl_row_carried sl_carried sl__law_tape sl__law_pick sl__law_some sl__law_rarely sl__law_names sl__law_text sl__law_few_text sl__law_cues sl__law_pieces sl__law_arrows sl__law_others sl__law_turned sl__law_world sl__law_gcd sl__law_strip sl__law_model sl__law_showings sl__law_carried sl__law_drawn_way sl__law_same sl__law_book sl__law_screen sl__law_runs sl__law_filled sl__law_due sl__law_drawn_row sl__law_numbers sl__law_refusal sl__law_good_number sl__law_books_right sl_law sl_iLn sl_iU sl_iM sl_iB sl_iN sl_iR sl_iP sl_iK sl_shown_of sl_strip_of sl_has sl_eqK sl_gr slCo slCb : Array (Option Value)} {oc_is_integer kV_is_integer dc_is_integer pm_is_integer cd_is_integer ct_is_integer oc_is_within kV_is_within dc_is_within pm_is_within cd_is_within ct_is_within oc_items_of kV_items_of dc_items_of pm_items_of cd_items_of ct_items_of oc_parts_of kV_parts_of dc_parts_of pm_parts_of cd_parts_of ct_parts_of oc_is_name kV_is_name dc_is_name pm_is_name cd_is_name ct_is_name oc_has_percent kV_has_percent dc_has_percent pm_has_percent cd_has_percent ct_has_percent oc_is_text kV_is_text dc_is_text pm_is_text cd_is_text ct_is_text oc_cue_of kV_cue_of dc_cue_of pm_cue_of cd_cue_of ct_cue_of oc_judged_cues kV_judged_cues dc_judged_cues pm_judged_cues cd_judged_cues ct_judged_cues oc_piece_of_form kV_piece_of_form dc_piece_of_form pm_piece_of_form cd_piece_of_form ct_piece_of_form oc_judged_pieces kV_judged_pieces dc_judged_pieces pm_judged_pieces cd_judged_pieces ct_judged_pieces oc_judged_arrows kV_judged_arrows dc_judged_arrows pm_judged_arrows cd_judged_arrows ct_judged_arrows oc_wrong_name kV_wrong_name dc_wrong_name pm_wrong_name cd_wrong_name ct_wrong_name oc_judged_starts kV_judged_starts dc_judged_starts pm_judged_starts cd_judged_starts ct_judged_starts oc_judged_ends kV_judged_ends dc_judged_ends pm_judged_ends cd_judged_ends ct_judged_ends oc_led_to kV_led_to dc_led_to pm_led_to cd_led_to ct_led_to oc_first_unreached kV_first_unreached dc_first_unreached pm_first_unreached cd_first_unreached ct_first_unreached oc_strip_of_piece kV_strip_of_piece dc_strip_of_piece pm_strip_of_piece cd_strip_of_piece ct_strip_of_piece oc_sends_of_piece kV_sends_of_piece dc_sends_of_piece pm_sends_of_piece cd_sends_of_piece ct_sends_of_piece oc_row_showings kV_row_showings dc_row_showings pm_row_showings cd_row_showings ct_row_showings oc_judged_row kV_judged_row dc_judged_row pm_judged_row cd_judged_row ct_judged_row oc_row_carried kV_row_carried dc_row_carried pm_row_carried cd_row_carried ct_row_carried oc_carried kV_carried dc_carried pm_carried cd_carried ct_carried oc__law_tape kV__law_tape dc__law_tape pm__law_tape cd__law_tape ct__law_tape oc__law_pick kV__law_pick dc__law_pick pm__law_pick cd__law_pick ct__law_pick oc__law_some kV__law_some dc__law_some pm__law_some cd__law_some ct__law_some oc__law_rarely kV__law_rarely dc__law_rarely pm__law_rarely cd__law_rarely ct__law_rarely oc__law_names kV__law_names dc__law_names pm__law_names cd__law_names ct__law_names oc__law_text kV__law_text dc__law_text pm__law_text cd__law_text ct__law_text oc__law_few_text kV__law_few_text dc__law_few_text pm__law_few_text cd__law_few_text ct__law_few_text oc__law_cues kV__law_cues dc__law_cues pm__law_cues cd__law_cues ct__law_cues oc__law_pieces kV__law_pieces dc__law_pieces pm__law_pieces cd__law_pieces ct__law_pieces oc__law_arrows kV__law_arrows dc__law_arrows pm__law_arrows cd__law_arrows ct__law_arrows oc__law_others kV__law_others dc__law_others pm__law_others cd__law_others ct__law_others oc__law_turned kV__law_turned dc__law_turned pm__law_turned cd__law_turned ct__law_turned oc__law_world kV__law_world dc__law_world pm__law_world cd__law_world ct__law_world oc__law_gcd kV__law_gcd dc__law_gcd pm__law_gcd cd__law_gcd ct__law_gcd oc__law_strip kV__law_strip dc__law_strip pm__law_strip cd__law_strip ct__law_strip oc__law_model kV__law_model dc__law_model pm__law_model cd__law_model ct__law_model oc__law_showings kV__law_showings dc__law_showings pm__law_showings cd__law_showings ct__law_showings oc__law_carried kV__law_carried dc__law_carried pm__law_carried cd__law_carried ct__law_carried oc__law_drawn_way kV__law_drawn_way dc__law_drawn_way pm__law_drawn_way cd__law_drawn_way ct__law_drawn_way oc__law_same kV__law_same dc__law_same pm__law_same cd__law_same ct__law_same oc__law_book kV__law_book dc__law_book pm__law_book cd__law_book ct__law_book oc__law_screen kV__law_screen dc__law_screen pm__law_screen cd__law_screen ct__law_screen oc__law_runs kV__law_runs dc__law_runs pm__law_runs cd__law_runs ct__law_runs oc__law_filled kV__law_filled dc__law_filled pm__law_filled cd__law_filled ct__law_filled oc__law_due kV__law_due dc__law_due pm__law_due cd__law_due ct__law_due oc__law_drawn_row kV__law_drawn_row dc__law_drawn_row pm__law_drawn_row cd__law_drawn_row ct__law_drawn_row oc__law_numbers kV__law_numbers dc__law_numbers pm__law_numbers cd__law_numbers ct__law_numbers oc__law_refusal kV__law_refusal dc__law_refusal pm__law_refusal cd__law_refusal ct__law_refusal oc__law_good_number kV__law_good_number dc__law_good_number pm__law_good_number cd__law_good_number ct__law_good_number oc__law_books_right kV__law_books_right dc__law_books_right pm__law_books_right ct__law_books_right oc_law kV_law dc_law pm_law ct_law oc_iLn kV_iLn dc_iLn pm_iLn cd_iLn ct_iLn oc_iU kV_iU dc_iU pm_iU cd_iU ct_iU oc_iM kV_iM dc_iM pm_iM cd_iM ct_iM oc_iB kV_iB dc_iB pm_iB cd_iB ct_iB oc_iN kV_iN dc_iN pm_iN cd_iN ct_iN oc_iR kV_iR dc_iR pm_iR cd_iR ct_iR oc_iP kV_iP dc_iP pm_iP cd_iP ct_iP oc_iK kV_iK dc_iK pm_iK cd_iK ct_iK oc_shown_of kV_shown_of dc_shown_of pm_shown_of cd_shown_of ct_shown_of oc_strip_of kV_strip_of dc_strip_of pm_strip_of cd_strip_of ct_strip_of oc_has kV_has dc_has pm_has cd_has ct_has oc_eqK kV_eqK dc_eqK pm_eqK cd_eqK ct_eqK oc_gr kV_gr dc_gr pm_gr cd_gr ct_gr d0 clCo clCb : Value} {restGr : List Value} {vsCo vsCb : Array Value} {tMB tP tT tQ tL tNm tPi tRa tOn tW1 tW2 : Tok} {oTD oWA oCo oCb : Obj} {nTD nWA : Nat}
    {nmLn qLn : Str} {NLn : Addr} {bsLn : List Value} {snLn : List Str} {subLn : List Value} {abLn : Bool} {colLn : Option Bool} {ddLn : Option Addr} {m0Ln m1Ln m2Ln m3Ln m5Ln : Option Value}
    {nmU qU : Str} {NU : Addr} {bsU : List Value} {snU : List Str} {subU : List Value} {abU : Bool} {colU : Option Bool} {ddU : Option Addr} {m0U m1U m2U m3U m5U : Option Value}
    {nmM qM : Str} {NM : Addr} {bsM : List Value} {snM : List Str} {subM : List Value} {abM : Bool} {colM : Option Bool} {ddM : Option Addr} {m0M m1M m2M m3M m5M : Option Value}
    {nmB qB : Str} {NB : Addr} {bsB : List Value} {snB : List Str} {subB : List Value} {abB : Bool} {colB : Option Bool} {ddB : Option Addr} {m0B m1B m2B m3B m5B : Option Value}
    {nmN qN : Str} {NN : Addr} {bsN : List Value} {snN : List Str} {subN : List Value} {abN : Bool} {colN : Option Bool} {ddN : Option Addr} {m0N m1N m2N m3N m5N : Option Value}
    (a_is_integer : PySem.W.nsIn K mainGlobals "is_integer" = some (some (.ref f_is_integer)))
    (l_is_integer : K.lookup f_is_integer = some ⟨oc_is_integer, od_is_integer, .func (PySem.W.fnOf "is_integer" "is_integer" (defArgs s_is_integer) (defBody s_is_integer) (defScope s_is_integer) .none kV_is_integer dc_is_integer pm_is_integer an_is_integer cd_is_integer ct_is_integer), sl_is_integer⟩)
    (c_is_integer_ : PySem.W.codeIn K cd_is_integer "is_integer" = true)
    (k_is_integer : PySem.W.keepIn K (.ref f_is_integer) = true)
    (a_is_within : PySem.W.nsIn K mainGlobals "is_within" = some (some (.ref f_is_within)))
    (l_is_within : K.lookup f_is_within = some ⟨oc_is_within, od_is_within, .func (PySem.W.fnOf "is_within" "is_within" (defArgs s_is_within) (defBody s_is_within) (defScope s_is_within) .none kV_is_within dc_is_within pm_is_within an_is_within cd_is_within ct_is_within), sl_is_within⟩)
    (c_is_within_ : PySem.W.codeIn K cd_is_within "is_within" = true)
    (k_is_within : PySem.W.keepIn K (.ref f_is_within) = true)
    (a_items_of : PySem.W.nsIn K mainGlobals "items_of" = some (some (.ref f_items_of)))
    (l_items_of : K.lookup f_items_of = some ⟨oc_items_of, od_items_of, .func (PySem.W.fnOf "items_of" "items_of" (defArgs s_items_of) (defBody s_items_of) (defScope s_items_of) .none kV_items_of dc_items_of pm_items_of an_items_of cd_items_of ct_items_of), sl_items_of⟩)
    (c_items_of_ : PySem.W.codeIn K cd_items_of "items_of" = true)
    (k_items_of : PySem.W.keepIn K (.ref f_items_of) = true)
    (a_parts_of : PySem.W.nsIn K mainGlobals "parts_of" = some (some (.ref f_parts_of)))
    (l_parts_of : K.lookup f_parts_of = some ⟨oc_parts_of, od_parts_of, .func (PySem.W.fnOf "parts_of" "parts_of" (defArgs s_parts_of) (defBody s_parts_of) (defScope s_parts_of) .none kV_parts_of dc_parts_of pm_parts_of an_parts_of cd_parts_of ct_parts_of), sl_parts_of⟩)
    (c_parts_of_ : PySem.W.codeIn K cd_parts_of "parts_of" = true)
    (k_parts_of : PySem.W.keepIn K (.ref f_parts_of) = true)
    (a_is_name : PySem.W.nsIn K mainGlobals "is_name" = some (some (.ref f_is_name)))
    (l_is_name : K.lookup f_is_name = some ⟨oc_is_name, od_is_name, .func (PySem.W.fnOf "is_name" "is_name" (defArgs s_is_name) (defBody s_is_name) (defScope s_is_name) .none kV_is_name dc_is_name pm_is_name an_is_name cd_is_name ct_is_name), sl_is_name⟩)
    (c_is_name_ : PySem.W.codeIn K cd_is_name "is_name" = true)
    (k_is_name : PySem.W.keepIn K (.ref f_is_name) = true)
    (a_has_percent : PySem.W.nsIn K mainGlobals "has_percent" = some (some (.ref f_has_percent)))
    (l_has_percent : K.lookup f_has_percent = some ⟨oc_has_percent, od_has_percent, .func (PySem.W.fnOf "has_percent" "has_percent" (defArgs s_has_percent) (defBody s_has_percent) (defScope s_has_percent) .none kV_has_percent dc_has_percent pm_has_percent an_has_percent cd_has_percent ct_has_percent), sl_has_percent⟩)
    (c_has_percent_ : PySem.W.codeIn K cd_has_percent "has_percent" = true)
    (k_has_percent : PySem.W.keepIn K (.ref f_has_percent) = true)
    (a_is_text : PySem.W.nsIn K mainGlobals "is_text" = some (some (.ref f_is_text)))
    (l_is_text : K.lookup f_is_text = some ⟨oc_is_text, od_is_text, .func (PySem.W.fnOf "is_text" "is_text" (defArgs s_is_text) (defBody s_is_text) (defScope s_is_text) .none kV_is_text dc_is_text pm_is_text an_is_text cd_is_text ct_is_text), sl_is_text⟩)
    (c_is_text_ : PySem.W.codeIn K cd_is_text "is_text" = true)
    (k_is_text : PySem.W.keepIn K (.ref f_is_text) = true)
    (a_cue_of : PySem.W.nsIn K mainGlobals "cue_of" = some (some (.ref f_cue_of)))
    (l_cue_of : K.lookup f_cue_of = some ⟨oc_cue_of, od_cue_of, .func (PySem.W.fnOf "cue_of" "cue_of" (defArgs s_cue_of) (defBody s_cue_of) (defScope s_cue_of) .none kV_cue_of dc_cue_of pm_cue_of an_cue_of cd_cue_of ct_cue_of), sl_cue_of⟩)
    (c_cue_of_ : PySem.W.codeIn K cd_cue_of "cue_of" = true)
    (k_cue_of : PySem.W.keepIn K (.ref f_cue_of) = true)
    (a_judged_cues : PySem.W.nsIn K mainGlobals "judged_cues" = some (some (.ref f_judged_cues)))
    (l_judged_cues : K.lookup f_judged_cues = some ⟨oc_judged_cues, od_judged_cues, .func (PySem.W.fnOf "judged_cues" "judged_cues" (defArgs s_judged_cues) (defBody s_judged_cues) (defScope s_judged_cues) .none kV_judged_cues dc_judged_cues pm_judged_cues an_judged_cues cd_judged_cues ct_judged_cues), sl_judged_cues⟩)
    (c_judged_cues_ : PySem.W.codeIn K cd_judged_cues "judged_cues" = true)
    (k_judged_cues : PySem.W.keepIn K (.ref f_judged_cues) = true)
    (a_piece_of_form : PySem.W.nsIn K mainGlobals "piece_of_form" = some (some (.ref f_piece_of_form)))
    (l_piece_of_form : K.lookup f_piece_of_form = some ⟨oc_piece_of_form, od_piece_of_form, .func (PySem.W.fnOf "piece_of_form" "piece_of_form" (defArgs s_piece_of_form) (defBody s_piece_of_form) (defScope s_piece_of_form) .none kV_piece_of_form dc_piece_of_form pm_piece_of_form an_piece_of_form cd_piece_of_form ct_piece_of_form), sl_piece_of_form⟩)
    (c_piece_of_form_ : PySem.W.codeIn K cd_piece_of_form "piece_of_form" = true)
    (k_piece_of_form : PySem.W.keepIn K (.ref f_piece_of_form) = true)
    (a_judged_pieces : PySem.W.nsIn K mainGlobals "judged_pieces" = some (some (.ref f_judged_pieces)))
    (l_judged_pieces : K.lookup f_judged_pieces = some ⟨oc_judged_pieces, od_judged_pieces, .func (PySem.W.fnOf "judged_pieces" "judged_pieces" (defArgs s_judged_pieces) (defBody s_judged_pieces) (defScope s_judged_pieces) .none kV_judged_pieces dc_judged_pieces pm_judged_pieces an_judged_pieces cd_judged_pieces ct_judged_pieces), sl_judged_pieces⟩)
    (c_judged_pieces_ : PySem.W.codeIn K cd_judged_pieces "judged_pieces" = true)
    (k_judged_pieces : PySem.W.keepIn K (.ref f_judged_pieces) = true)
    (a_judged_arrows : PySem.W.nsIn K mainGlobals "judged_arrows" = some (some (.ref f_judged_arrows)))
    (l_judged_arrows : K.lookup f_judged_arrows = some ⟨oc_judged_arrows, od_judged_arrows, .func (PySem.W.fnOf "judged_arrows" "judged_arrows" (defArgs s_judged_arrows) (defBody s_judged_arrows) (defScope s_judged_arrows) .none kV_judged_arrows dc_judged_arrows pm_judged_arrows an_judged_arrows cd_judged_arrows ct_judged_arrows), sl_judged_arrows⟩)
    (c_judged_arrows_ : PySem.W.codeIn K cd_judged_arrows "judged_arrows" = true)
    (k_judged_arrows : PySem.W.keepIn K (.ref f_judged_arrows) = true)
    (a_wrong_name : PySem.W.nsIn K mainGlobals "wrong_name" = some (some (.ref f_wrong_name)))
    (l_wrong_name : K.lookup f_wrong_name = some ⟨oc_wrong_name, od_wrong_name, .func (PySem.W.fnOf "wrong_name" "wrong_name" (defArgs s_wrong_name) (defBody s_wrong_name) (defScope s_wrong_name) .none kV_wrong_name dc_wrong_name pm_wrong_name an_wrong_name cd_wrong_name ct_wrong_name), sl_wrong_name⟩)
    (c_wrong_name_ : PySem.W.codeIn K cd_wrong_name "wrong_name" = true)
    (k_wrong_name : PySem.W.keepIn K (.ref f_wrong_name) = true)
    (a_judged_starts : PySem.W.nsIn K mainGlobals "judged_starts" = some (some (.ref f_judged_starts)))
    (l_judged_starts : K.lookup f_judged_starts = some ⟨oc_judged_starts, od_judged_starts, .func (PySem.W.fnOf "judged_starts" "judged_starts" (defArgs s_judged_starts) (defBody s_judged_starts) (defScope s_judged_starts) .none kV_judged_starts dc_judged_starts pm_judged_starts an_judged_starts cd_judged_starts ct_judged_starts), sl_judged_starts⟩)
    (c_judged_starts_ : PySem.W.codeIn K cd_judged_starts "judged_starts" = true)
    (k_judged_starts : PySem.W.keepIn K (.ref f_judged_starts) = true)
    (a_judged_ends : PySem.W.nsIn K mainGlobals "judged_ends" = some (some (.ref f_judged_ends)))
    (l_judged_ends : K.lookup f_judged_ends = some ⟨oc_judged_ends, od_judged_ends, .func (PySem.W.fnOf "judged_ends" "judged_ends" (defArgs s_judged_ends) (defBody s_judged_ends) (defScope s_judged_ends) .none kV_judged_ends dc_judged_ends pm_judged_ends an_judged_ends cd_judged_ends ct_judged_ends), sl_judged_ends⟩)
    (c_judged_ends_ : PySem.W.codeIn K cd_judged_ends "judged_ends" = true)
    (k_judged_ends : PySem.W.keepIn K (.ref f_judged_ends) = true)
    (a_led_to : PySem.W.nsIn K mainGlobals "led_to" = some (some (.ref f_led_to)))
    (l_led_to : K.lookup f_led_to = some ⟨oc_led_to, od_led_to, .func (PySem.W.fnOf "led_to" "led_to" (defArgs s_led_to) (defBody s_led_to) (defScope s_led_to) .none kV_led_to dc_led_to pm_led_to an_led_to cd_led_to ct_led_to), sl_led_to⟩)
    (c_led_to_ : PySem.W.codeIn K cd_led_to "led_to" = true)
    (k_led_to : PySem.W.keepIn K (.ref f_led_to) = true)
    (a_first_unreached : PySem.W.nsIn K mainGlobals "first_unreached" = some (some (.ref f_first_unreached)))
    (l_first_unreached : K.lookup f_first_unreached = some ⟨oc_first_unreached, od_first_unreached, .func (PySem.W.fnOf "first_unreached" "first_unreached" (defArgs s_first_unreached) (defBody s_first_unreached) (defScope s_first_unreached) .none kV_first_unreached dc_first_unreached pm_first_unreached an_first_unreached cd_first_unreached ct_first_unreached), sl_first_unreached⟩)
    (c_first_unreached_ : PySem.W.codeIn K cd_first_unreached "first_unreached" = true)
    (k_first_unreached : PySem.W.keepIn K (.ref f_first_unreached) = true)
    (a_strip_of_piece : PySem.W.nsIn K mainGlobals "strip_of_piece" = some (some (.ref f_strip_of_piece)))
    (l_strip_of_piece : K.lookup f_strip_of_piece = some ⟨oc_strip_of_piece, od_strip_of_piece, .func (PySem.W.fnOf "strip_of_piece" "strip_of_piece" (defArgs s_strip_of_piece) (defBody s_strip_of_piece) (defScope s_strip_of_piece) .none kV_strip_of_piece dc_strip_of_piece pm_strip_of_piece an_strip_of_piece cd_strip_of_piece ct_strip_of_piece), sl_strip_of_piece⟩)
    (c_strip_of_piece_ : PySem.W.codeIn K cd_strip_of_piece "strip_of_piece" = true)
    (k_strip_of_piece : PySem.W.keepIn K (.ref f_strip_of_piece) = true)
    (a_sends_of_piece : PySem.W.nsIn K mainGlobals "sends_of_piece" = some (some (.ref f_sends_of_piece)))
    (l_sends_of_piece : K.lookup f_sends_of_piece = some ⟨oc_sends_of_piece, od_sends_of_piece, .func (PySem.W.fnOf "sends_of_piece" "sends_of_piece" (defArgs s_sends_of_piece) (defBody s_sends_of_piece) (defScope s_sends_of_piece) .none kV_sends_of_piece dc_sends_of_piece pm_sends_of_piece an_sends_of_piece cd_sends_of_piece ct_sends_of_piece), sl_sends_of_piece⟩)
    (c_sends_of_piece_ : PySem.W.codeIn K cd_sends_of_piece "sends_of_piece" = true)
    (k_sends_of_piece : PySem.W.keepIn K (.ref f_sends_of_piece) = true)
    (a_row_showings : PySem.W.nsIn K mainGlobals "row_showings" = some (some (.ref f_row_showings)))
    (l_row_showings : K.lookup f_row_showings = some ⟨oc_row_showings, od_row_showings, .func (PySem.W.fnOf "row_showings" "row_showings" (defArgs s_row_showings) (defBody s_row_showings) (defScope s_row_showings) .none kV_row_showings dc_row_showings pm_row_showings an_row_showings cd_row_showings ct_row_showings), sl_row_showings⟩)
    (c_row_showings_ : PySem.W.codeIn K cd_row_showings "row_showings" = true)
    (k_row_showings : PySem.W.keepIn K (.ref f_row_showings) = true)
    (a_judged_row : PySem.W.nsIn K mainGlobals "judged_row" = some (some (.ref f_judged_row)))
    (l_judged_row : K.lookup f_judged_row = some ⟨oc_judged_row, od_judged_row, .func (PySem.W.fnOf "judged_row" "judged_row" (defArgs s_judged_row) (defBody s_judged_row) (defScope s_judged_row) .none kV_judged_row dc_judged_row pm_judged_row an_judged_row cd_judged_row ct_judged_row), sl_judged_row⟩)
    (c_judged_row_ : PySem.W.codeIn K cd_judged_row "judged_row" = true)
    (k_judged_row : PySem.W.keepIn K (.ref f_judged_row) = true)
    (a_row_carried : PySem.W.nsIn K mainGlobals "row_carried" = some (some (.ref f_row_carried)))
    (l_row_carried : K.lookup f_row_carried = some ⟨oc_row_carried, od_row_carried, .func (PySem.W.fnOf "row_carried" "row_carried" (defArgs s_row_carried) (defBody s_row_carried) (defScope s_row_carried) .none kV_row_carried dc_row_carried pm_row_carried an_row_carried cd_row_carried ct_row_carried), sl_row_carried⟩)
    (c_row_carried_ : PySem.W.codeIn K cd_row_carried "row_carried" = true)
    (k_row_carried : PySem.W.keepIn K (.ref f_row_carried) = true)
    (a_carried : PySem.W.nsIn K mainGlobals "carried" = some (some (.ref f_carried)))
    (l_carried : K.lookup f_carried = some ⟨oc_carried, od_carried, .func (PySem.W.fnOf "carried" "carried" (defArgs s_carried) (defBody s_carried) (defScope s_carried) .none kV_carried dc_carried pm_carried an_carried cd_carried ct_carried), sl_carried⟩)
    (c_carried_ : PySem.W.codeIn K cd_carried "carried" = true)
    (k_carried : PySem.W.keepIn K (.ref f_carried) = true)
    (a__law_tape : PySem.W.nsIn K mainGlobals "_law_tape" = some (some (.ref f__law_tape)))
    (l__law_tape : K.lookup f__law_tape = some ⟨oc__law_tape, od__law_tape, .func (PySem.W.fnOf "_law_tape" "_law_tape" (defArgs s__law_tape) (defBody s__law_tape) (defScope s__law_tape) .none kV__law_tape dc__law_tape pm__law_tape an__law_tape cd__law_tape ct__law_tape), sl__law_tape⟩)
    (c__law_tape_ : PySem.W.codeIn K cd__law_tape "_law_tape" = true)
    (k__law_tape : PySem.W.keepIn K (.ref f__law_tape) = true)
    (a__law_pick : PySem.W.nsIn K mainGlobals "_law_pick" = some (some (.ref f__law_pick)))
    (l__law_pick : K.lookup f__law_pick = some ⟨oc__law_pick, od__law_pick, .func (PySem.W.fnOf "_law_pick" "_law_pick" (defArgs s__law_pick) (defBody s__law_pick) (defScope s__law_pick) .none kV__law_pick dc__law_pick pm__law_pick an__law_pick cd__law_pick ct__law_pick), sl__law_pick⟩)
    (c__law_pick_ : PySem.W.codeIn K cd__law_pick "_law_pick" = true)
    (k__law_pick : PySem.W.keepIn K (.ref f__law_pick) = true)
    (a__law_some : PySem.W.nsIn K mainGlobals "_law_some" = some (some (.ref f__law_some)))
    (l__law_some : K.lookup f__law_some = some ⟨oc__law_some, od__law_some, .func (PySem.W.fnOf "_law_some" "_law_some" (defArgs s__law_some) (defBody s__law_some) (defScope s__law_some) .none kV__law_some dc__law_some pm__law_some an__law_some cd__law_some ct__law_some), sl__law_some⟩)
    (c__law_some_ : PySem.W.codeIn K cd__law_some "_law_some" = true)
    (k__law_some : PySem.W.keepIn K (.ref f__law_some) = true)
    (a__law_rarely : PySem.W.nsIn K mainGlobals "_law_rarely" = some (some (.ref f__law_rarely)))
    (l__law_rarely : K.lookup f__law_rarely = some ⟨oc__law_rarely, od__law_rarely, .func (PySem.W.fnOf "_law_rarely" "_law_rarely" (defArgs s__law_rarely) (defBody s__law_rarely) (defScope s__law_rarely) .none kV__law_rarely dc__law_rarely pm__law_rarely an__law_rarely cd__law_rarely ct__law_rarely), sl__law_rarely⟩)
    (c__law_rarely_ : PySem.W.codeIn K cd__law_rarely "_law_rarely" = true)
    (k__law_rarely : PySem.W.keepIn K (.ref f__law_rarely) = true)
    (a__law_names : PySem.W.nsIn K mainGlobals "_law_names" = some (some (.ref f__law_names)))
    (l__law_names : K.lookup f__law_names = some ⟨oc__law_names, od__law_names, .func (PySem.W.fnOf "_law_names" "_law_names" (defArgs s__law_names) (defBody s__law_names) (defScope s__law_names) .none kV__law_names dc__law_names pm__law_names an__law_names cd__law_names ct__law_names), sl__law_names⟩)
    (c__law_names_ : PySem.W.codeIn K cd__law_names "_law_names" = true)
    (k__law_names : PySem.W.keepIn K (.ref f__law_names) = true)
    (a__law_text : PySem.W.nsIn K mainGlobals "_law_text" = some (some (.ref f__law_text)))
    (l__law_text : K.lookup f__law_text = some ⟨oc__law_text, od__law_text, .func (PySem.W.fnOf "_law_text" "_law_text" (defArgs s__law_text) (defBody s__law_text) (defScope s__law_text) .none kV__law_text dc__law_text pm__law_text an__law_text cd__law_text ct__law_text), sl__law_text⟩)
    (c__law_text_ : PySem.W.codeIn K cd__law_text "_law_text" = true)
    (k__law_text : PySem.W.keepIn K (.ref f__law_text) = true)
    (a__law_few_text : PySem.W.nsIn K mainGlobals "_law_few_text" = some (some (.ref f__law_few_text)))
    (l__law_few_text : K.lookup f__law_few_text = some ⟨oc__law_few_text, od__law_few_text, .func (PySem.W.fnOf "_law_few_text" "_law_few_text" (defArgs s__law_few_text) (defBody s__law_few_text) (defScope s__law_few_text) .none kV__law_few_text dc__law_few_text pm__law_few_text an__law_few_text cd__law_few_text ct__law_few_text), sl__law_few_text⟩)
    (c__law_few_text_ : PySem.W.codeIn K cd__law_few_text "_law_few_text" = true)
    (k__law_few_text : PySem.W.keepIn K (.ref f__law_few_text) = true)
    (a__law_cues : PySem.W.nsIn K mainGlobals "_law_cues" = some (some (.ref f__law_cues)))
    (l__law_cues : K.lookup f__law_cues = some ⟨oc__law_cues, od__law_cues, .func (PySem.W.fnOf "_law_cues" "_law_cues" (defArgs s__law_cues) (defBody s__law_cues) (defScope s__law_cues) .none kV__law_cues dc__law_cues pm__law_cues an__law_cues cd__law_cues ct__law_cues), sl__law_cues⟩)
    (c__law_cues_ : PySem.W.codeIn K cd__law_cues "_law_cues" = true)
    (k__law_cues : PySem.W.keepIn K (.ref f__law_cues) = true)
    (a__law_pieces : PySem.W.nsIn K mainGlobals "_law_pieces" = some (some (.ref f__law_pieces)))
    (l__law_pieces : K.lookup f__law_pieces = some ⟨oc__law_pieces, od__law_pieces, .func (PySem.W.fnOf "_law_pieces" "_law_pieces" (defArgs s__law_pieces) (defBody s__law_pieces) (defScope s__law_pieces) .none kV__law_pieces dc__law_pieces pm__law_pieces an__law_pieces cd__law_pieces ct__law_pieces), sl__law_pieces⟩)
    (c__law_pieces_ : PySem.W.codeIn K cd__law_pieces "_law_pieces" = true)
    (k__law_pieces : PySem.W.keepIn K (.ref f__law_pieces) = true)
    (a__law_arrows : PySem.W.nsIn K mainGlobals "_law_arrows" = some (some (.ref f__law_arrows)))
    (l__law_arrows : K.lookup f__law_arrows = some ⟨oc__law_arrows, od__law_arrows, .func (PySem.W.fnOf "_law_arrows" "_law_arrows" (defArgs s__law_arrows) (defBody s__law_arrows) (defScope s__law_arrows) .none kV__law_arrows dc__law_arrows pm__law_arrows an__law_arrows cd__law_arrows ct__law_arrows), sl__law_arrows⟩)
    (c__law_arrows_ : PySem.W.codeIn K cd__law_arrows "_law_arrows" = true)
    (k__law_arrows : PySem.W.keepIn K (.ref f__law_arrows) = true)
    (a__law_others : PySem.W.nsIn K mainGlobals "_law_others" = some (some (.ref f__law_others)))
    (l__law_others : K.lookup f__law_others = some ⟨oc__law_others, od__law_others, .func (PySem.W.fnOf "_law_others" "_law_others" (defArgs s__law_others) (defBody s__law_others) (defScope s__law_others) .none kV__law_others dc__law_others pm__law_others an__law_others cd__law_others ct__law_others), sl__law_others⟩)
    (c__law_others_ : PySem.W.codeIn K cd__law_others "_law_others" = true)
    (k__law_others : PySem.W.keepIn K (.ref f__law_others) = true)
    (a__law_turned : PySem.W.nsIn K mainGlobals "_law_turned" = some (some (.ref f__law_turned)))
    (l__law_turned : K.lookup f__law_turned = some ⟨oc__law_turned, od__law_turned, .func (PySem.W.fnOf "_law_turned" "_law_turned" (defArgs s__law_turned) (defBody s__law_turned) (defScope s__law_turned) .none kV__law_turned dc__law_turned pm__law_turned an__law_turned cd__law_turned ct__law_turned), sl__law_turned⟩)
    (c__law_turned_ : PySem.W.codeIn K cd__law_turned "_law_turned" = true)
    (k__law_turned : PySem.W.keepIn K (.ref f__law_turned) = true)
    (a__law_world : PySem.W.nsIn K mainGlobals "_law_world" = some (some (.ref f__law_world)))
    (l__law_world : K.lookup f__law_world = some ⟨oc__law_world, od__law_world, .func (PySem.W.fnOf "_law_world" "_law_world" (defArgs s__law_world) (defBody s__law_world) (defScope s__law_world) .none kV__law_world dc__law_world pm__law_world an__law_world cd__law_world ct__law_world), sl__law_world⟩)
    (c__law_world_ : PySem.W.codeIn K cd__law_world "_law_world" = true)
    (k__law_world : PySem.W.keepIn K (.ref f__law_world) = true)
    (a__law_gcd : PySem.W.nsIn K mainGlobals "_law_gcd" = some (some (.ref f__law_gcd)))
    (l__law_gcd : K.lookup f__law_gcd = some ⟨oc__law_gcd, od__law_gcd, .func (PySem.W.fnOf "_law_gcd" "_law_gcd" (defArgs s__law_gcd) (defBody s__law_gcd) (defScope s__law_gcd) .none kV__law_gcd dc__law_gcd pm__law_gcd an__law_gcd cd__law_gcd ct__law_gcd), sl__law_gcd⟩)
    (c__law_gcd_ : PySem.W.codeIn K cd__law_gcd "_law_gcd" = true)
    (k__law_gcd : PySem.W.keepIn K (.ref f__law_gcd) = true)
    (a__law_strip : PySem.W.nsIn K mainGlobals "_law_strip" = some (some (.ref f__law_strip)))
    (l__law_strip : K.lookup f__law_strip = some ⟨oc__law_strip, od__law_strip, .func (PySem.W.fnOf "_law_strip" "_law_strip" (defArgs s__law_strip) (defBody s__law_strip) (defScope s__law_strip) .none kV__law_strip dc__law_strip pm__law_strip an__law_strip cd__law_strip ct__law_strip), sl__law_strip⟩)
    (c__law_strip_ : PySem.W.codeIn K cd__law_strip "_law_strip" = true)
    (k__law_strip : PySem.W.keepIn K (.ref f__law_strip) = true)
    (a__law_model : PySem.W.nsIn K mainGlobals "_law_model" = some (some (.ref f__law_model)))
    (l__law_model : K.lookup f__law_model = some ⟨oc__law_model, od__law_model, .func (PySem.W.fnOf "_law_model" "_law_model" (defArgs s__law_model) (defBody s__law_model) (defScope s__law_model) .none kV__law_model dc__law_model pm__law_model an__law_model cd__law_model ct__law_model), sl__law_model⟩)
    (c__law_model_ : PySem.W.codeIn K cd__law_model "_law_model" = true)
    (k__law_model : PySem.W.keepIn K (.ref f__law_model) = true)
    (a__law_showings : PySem.W.nsIn K mainGlobals "_law_showings" = some (some (.ref f__law_showings)))
    (l__law_showings : K.lookup f__law_showings = some ⟨oc__law_showings, od__law_showings, .func (PySem.W.fnOf "_law_showings" "_law_showings" (defArgs s__law_showings) (defBody s__law_showings) (defScope s__law_showings) .none kV__law_showings dc__law_showings pm__law_showings an__law_showings cd__law_showings ct__law_showings), sl__law_showings⟩)
    (c__law_showings_ : PySem.W.codeIn K cd__law_showings "_law_showings" = true)
    (k__law_showings : PySem.W.keepIn K (.ref f__law_showings) = true)
    (a__law_carried : PySem.W.nsIn K mainGlobals "_law_carried" = some (some (.ref f__law_carried)))
    (l__law_carried : K.lookup f__law_carried = some ⟨oc__law_carried, od__law_carried, .func (PySem.W.fnOf "_law_carried" "_law_carried" (defArgs s__law_carried) (defBody s__law_carried) (defScope s__law_carried) .none kV__law_carried dc__law_carried pm__law_carried an__law_carried cd__law_carried ct__law_carried), sl__law_carried⟩)
    (c__law_carried_ : PySem.W.codeIn K cd__law_carried "_law_carried" = true)
    (k__law_carried : PySem.W.keepIn K (.ref f__law_carried) = true)
    (a__law_drawn_way : PySem.W.nsIn K mainGlobals "_law_drawn_way" = some (some (.ref f__law_drawn_way)))
    (l__law_drawn_way : K.lookup f__law_drawn_way = some ⟨oc__law_drawn_way, od__law_drawn_way, .func (PySem.W.fnOf "_law_drawn_way" "_law_drawn_way" (defArgs s__law_drawn_way) (defBody s__law_drawn_way) (defScope s__law_drawn_way) .none kV__law_drawn_way dc__law_drawn_way pm__law_drawn_way an__law_drawn_way cd__law_drawn_way ct__law_drawn_way), sl__law_drawn_way⟩)
    (c__law_drawn_way_ : PySem.W.codeIn K cd__law_drawn_way "_law_drawn_way" = true)
    (k__law_drawn_way : PySem.W.keepIn K (.ref f__law_drawn_way) = true)
    (a__law_same : PySem.W.nsIn K mainGlobals "_law_same" = some (some (.ref f__law_same)))
    (l__law_same : K.lookup f__law_same = some ⟨oc__law_same, od__law_same, .func (PySem.W.fnOf "_law_same" "_law_same" (defArgs s__law_same) (defBody s__law_same) (defScope s__law_same) .none kV__law_same dc__law_same pm__law_same an__law_same cd__law_same ct__law_same), sl__law_same⟩)
    (c__law_same_ : PySem.W.codeIn K cd__law_same "_law_same" = true)
    (k__law_same : PySem.W.keepIn K (.ref f__law_same) = true)
    (a__law_book : PySem.W.nsIn K mainGlobals "_law_book" = some (some (.ref f__law_book)))
    (l__law_book : K.lookup f__law_book = some ⟨oc__law_book, od__law_book, .func (PySem.W.fnOf "_law_book" "_law_book" (defArgs s__law_book) (defBody s__law_book) (defScope s__law_book) .none kV__law_book dc__law_book pm__law_book an__law_book cd__law_book ct__law_book), sl__law_book⟩)
    (c__law_book_ : PySem.W.codeIn K cd__law_book "_law_book" = true)
    (k__law_book : PySem.W.keepIn K (.ref f__law_book) = true)
    (a__law_screen : PySem.W.nsIn K mainGlobals "_law_screen" = some (some (.ref f__law_screen)))
    (l__law_screen : K.lookup f__law_screen = some ⟨oc__law_screen, od__law_screen, .func (PySem.W.fnOf "_law_screen" "_law_screen" (defArgs s__law_screen) (defBody s__law_screen) (defScope s__law_screen) .none kV__law_screen dc__law_screen pm__law_screen an__law_screen cd__law_screen ct__law_screen), sl__law_screen⟩)
    (c__law_screen_ : PySem.W.codeIn K cd__law_screen "_law_screen" = true)
    (k__law_screen : PySem.W.keepIn K (.ref f__law_screen) = true)
    (a__law_runs : PySem.W.nsIn K mainGlobals "_law_runs" = some (some (.ref f__law_runs)))
    (l__law_runs : K.lookup f__law_runs = some ⟨oc__law_runs, od__law_runs, .func (PySem.W.fnOf "_law_runs" "_law_runs" (defArgs s__law_runs) (defBody s__law_runs) (defScope s__law_runs) .none kV__law_runs dc__law_runs pm__law_runs an__law_runs cd__law_runs ct__law_runs), sl__law_runs⟩)
    (c__law_runs_ : PySem.W.codeIn K cd__law_runs "_law_runs" = true)
    (k__law_runs : PySem.W.keepIn K (.ref f__law_runs) = true)
    (a__law_filled : PySem.W.nsIn K mainGlobals "_law_filled" = some (some (.ref f__law_filled)))
    (l__law_filled : K.lookup f__law_filled = some ⟨oc__law_filled, od__law_filled, .func (PySem.W.fnOf "_law_filled" "_law_filled" (defArgs s__law_filled) (defBody s__law_filled) (defScope s__law_filled) .none kV__law_filled dc__law_filled pm__law_filled an__law_filled cd__law_filled ct__law_filled), sl__law_filled⟩)
    (c__law_filled_ : PySem.W.codeIn K cd__law_filled "_law_filled" = true)
    (k__law_filled : PySem.W.keepIn K (.ref f__law_filled) = true)
    (a__law_due : PySem.W.nsIn K mainGlobals "_law_due" = some (some (.ref f__law_due)))
    (l__law_due : K.lookup f__law_due = some ⟨oc__law_due, od__law_due, .func (PySem.W.fnOf "_law_due" "_law_due" (defArgs s__law_due) (defBody s__law_due) (defScope s__law_due) .none kV__law_due dc__law_due pm__law_due an__law_due cd__law_due ct__law_due), sl__law_due⟩)
    (c__law_due_ : PySem.W.codeIn K cd__law_due "_law_due" = true)
    (k__law_due : PySem.W.keepIn K (.ref f__law_due) = true)
    (a__law_drawn_row : PySem.W.nsIn K mainGlobals "_law_drawn_row" = some (some (.ref f__law_drawn_row)))
    (l__law_drawn_row : K.lookup f__law_drawn_row = some ⟨oc__law_drawn_row, od__law_drawn_row, .func (PySem.W.fnOf "_law_drawn_row" "_law_drawn_row" (defArgs s__law_drawn_row) (defBody s__law_drawn_row) (defScope s__law_drawn_row) .none kV__law_drawn_row dc__law_drawn_row pm__law_drawn_row an__law_drawn_row cd__law_drawn_row ct__law_drawn_row), sl__law_drawn_row⟩)
    (c__law_drawn_row_ : PySem.W.codeIn K cd__law_drawn_row "_law_drawn_row" = true)
    (k__law_drawn_row : PySem.W.keepIn K (.ref f__law_drawn_row) = true)
    (a__law_numbers : PySem.W.nsIn K mainGlobals "_law_numbers" = some (some (.ref f__law_numbers)))
    (l__law_numbers : K.lookup f__law_numbers = some ⟨oc__law_numbers, od__law_numbers, .func (PySem.W.fnOf "_law_numbers" "_law_numbers" (defArgs s__law_numbers) (defBody s__law_numbers) (defScope s__law_numbers) .none kV__law_numbers dc__law_numbers pm__law_numbers an__law_numbers cd__law_numbers ct__law_numbers), sl__law_numbers⟩)
    (c__law_numbers_ : PySem.W.codeIn K cd__law_numbers "_law_numbers" = true)
    (k__law_numbers : PySem.W.keepIn K (.ref f__law_numbers) = true)
    (a__law_refusal : PySem.W.nsIn K mainGlobals "_law_refusal" = some (some (.ref f__law_refusal)))
    (l__law_refusal : K.lookup f__law_refusal = some ⟨oc__law_refusal, od__law_refusal, .func (PySem.W.fnOf "_law_refusal" "_law_refusal" (defArgs s__law_refusal) (defBody s__law_refusal) (defScope s__law_refusal) .none kV__law_refusal dc__law_refusal pm__law_refusal an__law_refusal cd__law_refusal ct__law_refusal), sl__law_refusal⟩)
    (c__law_refusal_ : PySem.W.codeIn K cd__law_refusal "_law_refusal" = true)
    (k__law_refusal : PySem.W.keepIn K (.ref f__law_refusal) = true)
    (a__law_good_number : PySem.W.nsIn K mainGlobals "_law_good_number" = some (some (.ref f__law_good_number)))
    (l__law_good_number : K.lookup f__law_good_number = some ⟨oc__law_good_number, od__law_good_number, .func (PySem.W.fnOf "_law_good_number" "_law_good_number" (defArgs s__law_good_number) (defBody s__law_good_number) (defScope s__law_good_number) .none kV__law_good_number dc__law_good_number pm__law_good_number an__law_good_number cd__law_good_number ct__law_good_number), sl__law_good_number⟩)
    (c__law_good_number_ : PySem.W.codeIn K cd__law_good_number "_law_good_number" = true)
    (k__law_good_number : PySem.W.keepIn K (.ref f__law_good_number) = true)
    (a__law_books_right : PySem.W.nsIn K mainGlobals "_law_books_right" = some (some (.ref f__law_books_right)))
    (l__law_books_right : K.lookup f__law_books_right = some ⟨oc__law_books_right, od__law_books_right, .func (PySem.W.fnOf "_law_books_right" "_law_books_right" (defArgs s__law_books_right) (defBody s__law_books_right) (defScope s__law_books_right) .none kV__law_books_right dc__law_books_right pm__law_books_right an__law_books_right (.ref cB) ct__law_books_right), sl__law_books_right⟩)
    (c__law_books_right_ : PySem.W.codeIn K (.ref cB) "_law_books_right" = true)
    (k__law_books_right : PySem.W.keepIn K (.ref f__law_books_right) = true)
    (a_law : PySem.W.nsIn K mainGlobals "law" = some (some (.ref f_law)))
    (l_law : K.lookup f_law = some ⟨oc_law, od_law, .func (PySem.W.fnOf "law" "law" (defArgs s_law) (defBody s_law) (defScope s_law) .none kV_law dc_law pm_law an_law (.ref cL) ct_law), sl_law⟩)
    (c_law_ : PySem.W.codeIn K (.ref cL) "law" = true)
    (k_law : PySem.W.keepIn K (.ref f_law) = true)
    (lCo : K.lookup cL = some oCo)
    (dCo : oCo = ⟨clCo, odCo, .fields vsCo, slCo⟩)
    (pCo : (vsCo[11]? : Option Value) = some (.ref P0))
    (nP0 : K.lookup P0 = none)
    (lCb : K.lookup cB = some oCb)
    (dCb : oCb = ⟨clCb, odCb, .fields vsCb, slCb⟩)
    (pCb : (vsCb[11]? : Option Value) = some (.ref PB))
    (nPb : K.lookup PB = none)
    (aCE : PySem.W.nsIn K mainGlobals "CaptionError" = some (some (.ref CE)))
    (aLn : PySem.W.nsIn K mainGlobals "BadLength" = some (some (.ref CLn)))
    (xLn_ : K.lookup CLn = some (excClassObj nmLn qLn CLn NLn bsLn [.ref CE, .type "ValueError", .type "Exception", .type "BaseException", .type "object"] true snLn subLn abLn colLn ddLn m0Ln m1Ln m2Ln m3Ln m5Ln "ValueError.__new__"))
    (saLn : PySem.W.findIn K (.ref CLn) "__setattr__" = some (some (.builtin "object.__setattr__")))
    (eLn : PySem.W.subIn K (.ref CLn) (.type "BaseException") = some true)
    (tLn : PySem.W.typeIn K (.ref CLn) = some (.type "type"))
    (kpLn : PySem.W.keepIn K (.ref CLn) = true)
    (inLn : PySem.W.findIn K (.ref CLn) "__init__" = some (some (.ref f_iLn)))
    (tILn : PySem.W.typeIn K (.ref f_iLn) = some (.type "function"))
    (noLn : PySem.W.findIn K (.ref CLn) "length" = some none)
    (iLn : PySem.W.isClsIn K CLn = true)
    (gaLn : PySem.W.findIn K (.ref CLn) "__getattribute__" = some (some (.builtin "BaseException.__getattribute__")))
    (ggLn : PySem.W.findIn K (.ref CLn) "__getattr__" = some none)
    (klLn : PySem.W.findIn K (.ref CLn) "__class__" = some (some (.builtin "object.__class__")))
    (mrLn : PySem.W.mroIn K CLn (.type "object") = some true)
    (hdLn : PySem.W.hasDictIn K CLn = true)
    (l_iLn : K.lookup f_iLn = some ⟨oc_iLn, od_iLn, .func (PySem.W.fnOf "__init__" "BadLength.__init__" (defArgs s_BadLength___init__) (defBody s_BadLength___init__) (defScope s_BadLength___init__) .none kV_iLn dc_iLn pm_iLn an_iLn cd_iLn ct_iLn), sl_iLn⟩)
    (c_iLn_ : PySem.W.codeIn K cd_iLn "BadLength.__init__" = true)
    (k_iLn : PySem.W.keepIn K (.ref f_iLn) = true)
    (aU : PySem.W.nsIn K mainGlobals "BadCue" = some (some (.ref CU)))
    (xU_ : K.lookup CU = some (excClassObj nmU qU CU NU bsU [.ref CE, .type "ValueError", .type "Exception", .type "BaseException", .type "object"] true snU subU abU colU ddU m0U m1U m2U m3U m5U "ValueError.__new__"))
    (saU : PySem.W.findIn K (.ref CU) "__setattr__" = some (some (.builtin "object.__setattr__")))
    (eU : PySem.W.subIn K (.ref CU) (.type "BaseException") = some true)
    (tU : PySem.W.typeIn K (.ref CU) = some (.type "type"))
    (kpU : PySem.W.keepIn K (.ref CU) = true)
    (inU : PySem.W.findIn K (.ref CU) "__init__" = some (some (.ref f_iU)))
    (tIU : PySem.W.typeIn K (.ref f_iU) = some (.type "function"))
    (noU : PySem.W.findIn K (.ref CU) "number" = some none)
    (iU : PySem.W.isClsIn K CU = true)
    (gaU : PySem.W.findIn K (.ref CU) "__getattribute__" = some (some (.builtin "BaseException.__getattribute__")))
    (ggU : PySem.W.findIn K (.ref CU) "__getattr__" = some none)
    (klU : PySem.W.findIn K (.ref CU) "__class__" = some (some (.builtin "object.__class__")))
    (mrU : PySem.W.mroIn K CU (.type "object") = some true)
    (hdU : PySem.W.hasDictIn K CU = true)
    (l_iU : K.lookup f_iU = some ⟨oc_iU, od_iU, .func (PySem.W.fnOf "__init__" "BadCue.__init__" (defArgs s_BadCue___init__) (defBody s_BadCue___init__) (defScope s_BadCue___init__) .none kV_iU dc_iU pm_iU an_iU cd_iU ct_iU), sl_iU⟩)
    (c_iU_ : PySem.W.codeIn K cd_iU "BadCue.__init__" = true)
    (k_iU : PySem.W.keepIn K (.ref f_iU) = true)
    (aM : PySem.W.nsIn K mainGlobals "TooMany" = some (some (.ref CM)))
    (xM_ : K.lookup CM = some (excClassObj nmM qM CM NM bsM [.ref CE, .type "ValueError", .type "Exception", .type "BaseException", .type "object"] true snM subM abM colM ddM m0M m1M m2M m3M m5M "ValueError.__new__"))
    (saM : PySem.W.findIn K (.ref CM) "__setattr__" = some (some (.builtin "object.__setattr__")))
    (eM : PySem.W.subIn K (.ref CM) (.type "BaseException") = some true)
    (tM : PySem.W.typeIn K (.ref CM) = some (.type "type"))
    (kpM : PySem.W.keepIn K (.ref CM) = true)
    (inM : PySem.W.findIn K (.ref CM) "__init__" = some (some (.ref f_iM)))
    (tIM : PySem.W.typeIn K (.ref f_iM) = some (.type "function"))
    (noM : PySem.W.findIn K (.ref CM) "word" = some none)
    (iM : PySem.W.isClsIn K CM = true)
    (gaM : PySem.W.findIn K (.ref CM) "__getattribute__" = some (some (.builtin "BaseException.__getattribute__")))
    (ggM : PySem.W.findIn K (.ref CM) "__getattr__" = some none)
    (klM : PySem.W.findIn K (.ref CM) "__class__" = some (some (.builtin "object.__class__")))
    (mrM : PySem.W.mroIn K CM (.type "object") = some true)
    (hdM : PySem.W.hasDictIn K CM = true)
    (l_iM : K.lookup f_iM = some ⟨oc_iM, od_iM, .func (PySem.W.fnOf "__init__" "TooMany.__init__" (defArgs s_TooMany___init__) (defBody s_TooMany___init__) (defScope s_TooMany___init__) .none kV_iM dc_iM pm_iM an_iM cd_iM ct_iM), sl_iM⟩)
    (c_iM_ : PySem.W.codeIn K cd_iM "TooMany.__init__" = true)
    (k_iM : PySem.W.keepIn K (.ref f_iM) = true)
    (aB : PySem.W.nsIn K mainGlobals "BadRow" = some (some (.ref CB)))
    (xB_ : K.lookup CB = some (excClassObj nmB qB CB NB bsB [.ref CE, .type "ValueError", .type "Exception", .type "BaseException", .type "object"] true snB subB abB colB ddB m0B m1B m2B m3B m5B "ValueError.__new__"))
    (saB : PySem.W.findIn K (.ref CB) "__setattr__" = some (some (.builtin "object.__setattr__")))
    (eB : PySem.W.subIn K (.ref CB) (.type "BaseException") = some true)
    (tB : PySem.W.typeIn K (.ref CB) = some (.type "type"))
    (kpB : PySem.W.keepIn K (.ref CB) = true)
    (inB : PySem.W.findIn K (.ref CB) "__init__" = some (some (.ref f_iB)))
    (tIB : PySem.W.typeIn K (.ref f_iB) = some (.type "function"))
    (noB : PySem.W.findIn K (.ref CB) "number" = some none)
    (iB : PySem.W.isClsIn K CB = true)
    (gaB : PySem.W.findIn K (.ref CB) "__getattribute__" = some (some (.builtin "BaseException.__getattribute__")))
    (ggB : PySem.W.findIn K (.ref CB) "__getattr__" = some none)
    (klB : PySem.W.findIn K (.ref CB) "__class__" = some (some (.builtin "object.__class__")))
    (mrB : PySem.W.mroIn K CB (.type "object") = some true)
    (hdB : PySem.W.hasDictIn K CB = true)
    (l_iB : K.lookup f_iB = some ⟨oc_iB, od_iB, .func (PySem.W.fnOf "__init__" "BadRow.__init__" (defArgs s_BadRow___init__) (defBody s_BadRow___init__) (defScope s_BadRow___init__) .none kV_iB dc_iB pm_iB an_iB cd_iB ct_iB), sl_iB⟩)
    (c_iB_ : PySem.W.codeIn K cd_iB "BadRow.__init__" = true)
    (k_iB : PySem.W.keepIn K (.ref f_iB) = true)
    (aN : PySem.W.nsIn K mainGlobals "BadNumber" = some (some (.ref CN)))
    (xN_ : K.lookup CN = some (excClassObj nmN qN CN NN bsN [.ref CE, .type "ValueError", .type "Exception", .type "BaseException", .type "object"] true snN subN abN colN ddN m0N m1N m2N m3N m5N "ValueError.__new__"))
    (saN : PySem.W.findIn K (.ref CN) "__setattr__" = some (some (.builtin "object.__setattr__")))
    (eN : PySem.W.subIn K (.ref CN) (.type "BaseException") = some true)
    (tN : PySem.W.typeIn K (.ref CN) = some (.type "type"))
    (kpN : PySem.W.keepIn K (.ref CN) = true)
    (inN : PySem.W.findIn K (.ref CN) "__init__" = some (some (.ref f_iN)))
    (tIN : PySem.W.typeIn K (.ref f_iN) = some (.type "function"))
    (noN : PySem.W.findIn K (.ref CN) "word" = some none)
    (iN : PySem.W.isClsIn K CN = true)
    (gaN : PySem.W.findIn K (.ref CN) "__getattribute__" = some (some (.builtin "BaseException.__getattribute__")))
    (ggN : PySem.W.findIn K (.ref CN) "__getattr__" = some none)
    (klN : PySem.W.findIn K (.ref CN) "__class__" = some (some (.builtin "object.__class__")))
    (mrN : PySem.W.mroIn K CN (.type "object") = some true)
    (hdN : PySem.W.hasDictIn K CN = true)
    (l_iN : K.lookup f_iN = some ⟨oc_iN, od_iN, .func (PySem.W.fnOf "__init__" "BadNumber.__init__" (defArgs s_BadNumber___init__) (defBody s_BadNumber___init__) (defScope s_BadNumber___init__) .none kV_iN dc_iN pm_iN an_iN cd_iN ct_iN), sl_iN⟩)
    (c_iN_ : PySem.W.codeIn K cd_iN "BadNumber.__init__" = true)
    (k_iN : PySem.W.keepIn K (.ref f_iN) = true)
    (gt : PySem.W.specialIn K (.builtin "object.__class__") "__get__" = some (some (.builtin "getset_descriptor.__get__")))
    (tk : PySem.W.takesIn K (.builtin "object.__class__") = some true)
    (sBB : PySem.W.subIn K (.ref CB) (.ref CB) = some true)
    (sBN : PySem.W.subIn K (.ref CB) (.ref CN) = some false)
    (sBM : PySem.W.subIn K (.ref CB) (.ref CM) = some false)
    (sNN : PySem.W.subIn K (.ref CN) (.ref CN) = some true)
    (sNB : PySem.W.subIn K (.ref CN) (.ref CB) = some false)
    (sNM : PySem.W.subIn K (.ref CN) (.ref CM) = some false)
    (aCR : PySem.W.nsIn K mainGlobals "Reel" = some (some (.ref CR)))
    (pgCR : PySem.W.plainGet K CR Str.empty = true)
    (hdCR : PySem.W.hasDictIn K CR = true)
    (poCR : PySem.W.plainOver K CR = true)
    (saCR : PySem.W.findIn K (.ref CR) "__setattr__" = some (some (.builtin "object.__setattr__")))
    (mkCR : PySem.W.makesIn K CR = true)
    (inCR : PySem.W.findIn K (.ref CR) "__init__" = some (some (.ref f_iR)))
    (fnCR : PySem.W.isFn K (.ref f_iR) = true)
    (kpCR : PySem.W.keepIn K (.ref CR) = true)
    (nCR_length : PySem.W.findIn K (.ref CR) "length" = some none)
    (nCR_cues : PySem.W.findIn K (.ref CR) "cues" = some none)
    (nCR__speakers : PySem.W.findIn K (.ref CR) "_speakers" = some none)
    (nCR__naming : PySem.W.findIn K (.ref CR) "_naming" = some none)
    (l_iR : K.lookup f_iR = some ⟨oc_iR, od_iR, .func (PySem.W.fnOf "__init__" "Reel.__init__" (defArgs s_Reel___init__) (defBody s_Reel___init__) (defScope s_Reel___init__) (.ref TD) kV_iR dc_iR pm_iR an_iR cd_iR ct_iR), sl_iR⟩)
    (c_iR_ : PySem.W.codeIn K cd_iR "Reel.__init__" = true)
    (k_iR : PySem.W.keepIn K (.ref f_iR) = true)
    (aCP : PySem.W.nsIn K mainGlobals "Plan" = some (some (.ref CP)))
    (pgCP : PySem.W.plainGet K CP Str.empty = true)
    (hdCP : PySem.W.hasDictIn K CP = true)
    (poCP : PySem.W.plainOver K CP = true)
    (saCP : PySem.W.findIn K (.ref CP) "__setattr__" = some (some (.builtin "object.__setattr__")))
    (mkCP : PySem.W.makesIn K CP = true)
    (inCP : PySem.W.findIn K (.ref CP) "__init__" = some (some (.ref f_iP)))
    (fnCP : PySem.W.isFn K (.ref f_iP) = true)
    (kpCP : PySem.W.keepIn K (.ref CP) = true)
    (nCP_reel : PySem.W.findIn K (.ref CP) "reel" = some none)
    (nCP_pieces : PySem.W.findIn K (.ref CP) "pieces" = some none)
    (nCP__names : PySem.W.findIn K (.ref CP) "_names" = some none)
    (nCP_arrows : PySem.W.findIn K (.ref CP) "arrows" = some none)
    (nCP_starts : PySem.W.findIn K (.ref CP) "starts" = some none)
    (nCP_ends : PySem.W.findIn K (.ref CP) "ends" = some none)
    (nCP__grain : PySem.W.findIn K (.ref CP) "_grain" = some none)
    (nCP__pieces : PySem.W.findIn K (.ref CP) "_pieces" = some none)
    (nCP__sends : PySem.W.findIn K (.ref CP) "_sends" = some none)
    (nCP__factors : PySem.W.findIn K (.ref CP) "_factors" = some none)
    (nCP__shown : PySem.W.findIn K (.ref CP) "_shown" = some none)
    (nCP__behind : PySem.W.findIn K (.ref CP) "_behind" = some none)
    (nCP__strips : PySem.W.findIn K (.ref CP) "_strips" = some none)
    (l_iP : K.lookup f_iP = some ⟨oc_iP, od_iP, .func (PySem.W.fnOf "__init__" "Plan.__init__" (defArgs s_Plan___init__) (defBody s_Plan___init__) (defScope s_Plan___init__) .none kV_iP dc_iP pm_iP an_iP cd_iP ct_iP), sl_iP⟩)
    (c_iP_ : PySem.W.codeIn K cd_iP "Plan.__init__" = true)
    (k_iP : PySem.W.keepIn K (.ref f_iP) = true)
    (aCK : PySem.W.nsIn K mainGlobals "Book" = some (some (.ref CK)))
    (pgCK : PySem.W.plainGet K CK Str.empty = true)
    (hdCK : PySem.W.hasDictIn K CK = true)
    (poCK : PySem.W.plainOver K CK = true)
    (saCK : PySem.W.findIn K (.ref CK) "__setattr__" = some (some (.builtin "object.__setattr__")))
    (mkCK : PySem.W.makesIn K CK = true)
    (inCK : PySem.W.findIn K (.ref CK) "__init__" = some (some (.ref f_iK)))
    (fnCK : PySem.W.isFn K (.ref f_iK) = true)
    (kpCK : PySem.W.keepIn K (.ref CK) = true)
    (nCK_least : PySem.W.findIn K (.ref CK) "least" = some none)
    (nCK_close : PySem.W.findIn K (.ref CK) "close" = some none)
    (l_iK : K.lookup f_iK = some ⟨oc_iK, od_iK, .func (PySem.W.fnOf "__init__" "Book.__init__" (defArgs s_Book___init__) (defBody s_Book___init__) (defScope s_Book___init__) .none kV_iK dc_iK pm_iK an_iK cd_iK ct_iK), sl_iK⟩)
    (c_iK_ : PySem.W.codeIn K cd_iK "Book.__init__" = true)
    (k_iK : PySem.W.keepIn K (.ref f_iK) = true)
    (klCR : PySem.W.findIn K (.ref CR) "__class__" = some (some (.builtin "object.__class__")))
    (mrCR : PySem.W.mroIn K CR (.type "object") = some true)
    (klCK : PySem.W.findIn K (.ref CK) "__class__" = some (some (.builtin "object.__class__")))
    (mrCK : PySem.W.mroIn K CK (.type "object") = some true)
    (iCK : PySem.W.isClsIn K CK = true)
    (tCK : PySem.W.typeIn K (.ref CK) = some (.type "type"))
    (sTK : PySem.W.subIn K (.type "tuple") (.ref CK) = some false)
    (lTD : K.lookup TD = some oTD)
    (dTD : oTD.data = .seq #[d0] nTD)
    (rdCP : PySem.W.readsIn K CP (.type "type") = true)
    (gaCP : PySem.W.specialIn K (.ref CP) "__getattribute__" = some (some (.builtin "type.__getattribute__")))
    (fWA : PySem.W.findCls K (.ref CP) (.type "type") "WAYS" = some (.val (.ref aW)))
    (lWA : K.lookup aW = some oWA)
    (clWA : oWA.cls = .type "tuple")
    (dWA : oWA.data = .seq #[.str (Str.ofString "on") tW1, .str (Str.ofString "back") tW2] nWA)
    (a_shown_of : PySem.W.findIn K (.ref CP) "shown_of" = some (some (.ref f_shown_of)))
    (i_shown_of : PySem.W.isFn K (.ref f_shown_of) = true)
    (l_shown_of : K.lookup f_shown_of = some ⟨oc_shown_of, od_shown_of, .func (PySem.W.fnOf "shown_of" "Plan.shown_of" (defArgs s_Plan_shown_of) (defBody s_Plan_shown_of) (defScope s_Plan_shown_of) .none kV_shown_of dc_shown_of pm_shown_of an_shown_of cd_shown_of ct_shown_of), sl_shown_of⟩)
    (c_shown_of_ : PySem.W.codeIn K cd_shown_of "Plan.shown_of" = true)
    (k_shown_of : PySem.W.keepIn K (.ref f_shown_of) = true)
    (a_strip_of : PySem.W.findIn K (.ref CP) "strip_of" = some (some (.ref f_strip_of)))
    (i_strip_of : PySem.W.isFn K (.ref f_strip_of) = true)
    (l_strip_of : K.lookup f_strip_of = some ⟨oc_strip_of, od_strip_of, .func (PySem.W.fnOf "strip_of" "Plan.strip_of" (defArgs s_Plan_strip_of) (defBody s_Plan_strip_of) (defScope s_Plan_strip_of) .none kV_strip_of dc_strip_of pm_strip_of an_strip_of cd_strip_of ct_strip_of), sl_strip_of⟩)
    (c_strip_of_ : PySem.W.codeIn K cd_strip_of "Plan.strip_of" = true)
    (k_strip_of : PySem.W.keepIn K (.ref f_strip_of) = true)
    (a_has : PySem.W.findIn K (.ref CP) "__contains__" = some (some (.ref f_has)))
    (i_has : PySem.W.isFn K (.ref f_has) = true)
    (l_has : K.lookup f_has = some ⟨oc_has, od_has, .func (PySem.W.fnOf "__contains__" "Plan.__contains__" (defArgs s_Plan___contains__) (defBody s_Plan___contains__) (defScope s_Plan___contains__) .none kV_has dc_has pm_has an_has cd_has ct_has), sl_has⟩)
    (c_has_ : PySem.W.codeIn K cd_has "Plan.__contains__" = true)
    (k_has : PySem.W.keepIn K (.ref f_has) = true)
    (a_eqK : PySem.W.findIn K (.ref CK) "__eq__" = some (some (.ref f_eqK)))
    (i_eqK : PySem.W.isFn K (.ref f_eqK) = true)
    (l_eqK : K.lookup f_eqK = some ⟨oc_eqK, od_eqK, .func (PySem.W.fnOf "__eq__" "Book.__eq__" (defArgs s_Book___eq__) (defBody s_Book___eq__) (defScope s_Book___eq__) .none kV_eqK dc_eqK pm_eqK an_eqK cd_eqK ct_eqK), sl_eqK⟩)
    (c_eqK_ : PySem.W.codeIn K cd_eqK "Book.__eq__" = true)
    (k_eqK : PySem.W.keepIn K (.ref f_eqK) = true)
    (pGa : PySem.W.findIn K (.ref CP) "grain" = some (some (.ref pGr)))
    (pGg : PySem.W.specialIn K (.ref pGr) "__get__" = some (some (.builtin "property.__get__")))
    (pGt : PySem.W.takesIn K (.ref pGr) = some true)
    (pGc : PySem.W.recIn K pGr "property" = some (.ref f_gr :: restGr))
    (l_gr : K.lookup f_gr = some ⟨oc_gr, od_gr, .func (PySem.W.fnOf "grain" "Plan.grain" (defArgs s_Plan_grain) (defBody s_Plan_grain) (defScope s_Plan_grain) .none kV_gr dc_gr pm_gr an_gr cd_gr ct_gr), sl_gr⟩)
    (c_gr_ : PySem.W.codeIn K cd_gr "Plan.grain" = true)
    (k_gr : PySem.W.keepIn K (.ref f_gr) = true)
    (gMB : PySem.W.nsIn K mainGlobals "MOST_BOOK" = some (some (.int 100 tMB)))
    (gP : PySem.W.nsIn K mainGlobals "PERCENT" = some (some (.int 37 tP)))
    (gT : PySem.W.nsIn K mainGlobals "MOST_TICKS" = some (some (.int 2000 tT)))
    (gQ : PySem.W.nsIn K mainGlobals "MOST_CUES" = some (some (.int 40 tQ)))
    (gN : PySem.W.nsIn K mainGlobals "MOST_NAMES" = some (some (.int 400 tNm)))
    (gPi : PySem.W.nsIn K mainGlobals "MOST_PIECES" = some (some (.int 12 tPi)))
    (gRa : PySem.W.nsIn K mainGlobals "MOST_RATE" = some (some (.int 6 tRa)))
    (gOn : PySem.W.nsIn K mainGlobals "ON" = some (some (.str (Str.ofString "on") tOn)))
    (gLE : PySem.W.nsIn K mainGlobals "LETTERS" = some (some (.str LET tL)))
    (gGc : PySem.W.nsIn K mainGlobals "gcd" = some (some (.builtin "math.gcd")))
    (gLc : PySem.W.nsIn K mainGlobals "lcm" = some (some (.builtin "math.lcm")))
    (z_isinstance : PySem.W.nsIn K mainGlobals "isinstance" = some none)
    (z_int : PySem.W.nsIn K mainGlobals "int" = some none)
    (z_bool : PySem.W.nsIn K mainGlobals "bool" = some none)
    (z_str : PySem.W.nsIn K mainGlobals "str" = some none)
    (z_len : PySem.W.nsIn K mainGlobals "len" = some none)
    (z_ord : PySem.W.nsIn K mainGlobals "ord" = some none)
    (z_all : PySem.W.nsIn K mainGlobals "all" = some none)
    (z_enumerate : PySem.W.nsIn K mainGlobals "enumerate" = some none)
    (z_max : PySem.W.nsIn K mainGlobals "max" = some none)
    (z_min : PySem.W.nsIn K mainGlobals "min" = some none)
    (z_abs : PySem.W.nsIn K mainGlobals "abs" = some none)
    (z_range : PySem.W.nsIn K mainGlobals "range" = some none)
    (z_tuple : PySem.W.nsIn K mainGlobals "tuple" = some none)
    (z_list : PySem.W.nsIn K mainGlobals "list" = some none)
    (z_sorted : PySem.W.nsIn K mainGlobals "sorted" = some none)
    (z_set : PySem.W.nsIn K mainGlobals "set" = some none)
    (nPB : PB ≠ P0)
    : ∃ (fd : FuncData) (c P c2 P2 : Addr), PySem.W.tabIn K "law" = some (c, P) ∧ K.lookup P = none ∧ PySem.W.tabIn K "_law_books_right" = some (c2, P2) ∧ K.lookup P2 = none ∧ (∀ (s : Shared) (v : Value), BindsTo s fd ⟨[v], []⟩ [("_law_script", v)]) ∧ ∀ base : Heap, K.In base → base.Ns mainGlobals mg → LamX.TabB base mg c P → LamX.TabB base mg c2 P2 → FnOk l.prog w K mg base CX0 8 fa fd ["_law_script"] (spLaw12 K P P2) := by
  have e := hfa.symm.trans (PySem.W.mg_of X G a_law)
  cases e
  subst dCo
  subst dCb
  have m_isinstance := PySem.W.mg_none_of X G z_isinstance
  have m_int := PySem.W.mg_none_of X G z_int
  have m_bool := PySem.W.mg_none_of X G z_bool
  have m_str := PySem.W.mg_none_of X G z_str
  have m_len := PySem.W.mg_none_of X G z_len
  have m_ord := PySem.W.mg_none_of X G z_ord
  have m_all := PySem.W.mg_none_of X G z_all
  have m_enumerate := PySem.W.mg_none_of X G z_enumerate
  have m_max := PySem.W.mg_none_of X G z_max
  have m_min := PySem.W.mg_none_of X G z_min
  have m_abs := PySem.W.mg_none_of X G z_abs
  have m_range := PySem.W.mg_none_of X G z_range
  have m_tuple := PySem.W.mg_none_of X G z_tuple
  have m_list := PySem.W.mg_none_of X G z_list
  have m_sorted := PySem.W.mg_none_of X G z_sorted
  have m_set := PySem.W.mg_none_of X G z_set
  have g_PERCENT := PySem.W.mg_of X G gP
  have g_MOST_TICKS := PySem.W.mg_of X G gT
  have g_MOST_CUES := PySem.W.mg_of X G gQ
  have g_MOST_NAMES := PySem.W.mg_of X G gN
  have g_MOST_PIECES := PySem.W.mg_of X G gPi
  have g_MOST_RATE := PySem.W.mg_of X G gRa
  have g_ON := PySem.W.mg_of X G gOn
  have g_LETTERS := PySem.W.mg_of X G gLE
  have g_gcd := PySem.W.mg_of X G gGc
  have g_lcm := PySem.W.mg_of X G gLc
  have g_CE := PySem.W.mg_of X G aCE
  have g_TooMany := PySem.W.mg_of X G aM
  have g_MOST_BOOK := PySem.W.mg_of X G gMB
  have g_refusal := PySem.W.mg_of X G a__law_refusal
  have F_is_integer := fun_mk (st := s_is_integer) l_is_integer c_is_integer_ k_is_integer
  have b_is_integer := F_is_integer.binds (ps := ["thing"]) fun _ _ _ _ _ _ us hl => match us, hl with | [_], _ => rfl
  have F_is_within := fun_mk (st := s_is_within) l_is_within c_is_within_ k_is_within
  have b_is_within := F_is_within.binds (ps := ["thing", "low", "high"]) fun _ _ _ _ _ _ us hl => match us, hl with | [_, _, _], _ => rfl
  have F_items_of := fun_mk (st := s_items_of) l_items_of c_items_of_ k_items_of
  have b_items_of := F_items_of.binds (ps := ["thing"]) fun _ _ _ _ _ _ us hl => match us, hl with | [_], _ => rfl
  have F_parts_of := fun_mk (st := s_parts_of) l_parts_of c_parts_of_ k_parts_of
  have b_parts_of := F_parts_of.binds (ps := ["thing", "many"]) fun _ _ _ _ _ _ us hl => match us, hl with | [_, _], _ => rfl
  have F_is_name := fun_mk (st := s_is_name) l_is_name c_is_name_ k_is_name
  have b_is_name := F_is_name.binds (ps := ["thing"]) fun _ _ _ _ _ _ us hl => match us, hl with | [_], _ => rfl
  have F_has_percent := fun_mk (st := s_has_percent) l_has_percent c_has_percent_ k_has_percent
  have b_has_percent := F_has_percent.binds (ps := ["word"]) fun _ _ _ _ _ _ us hl => match us, hl with | [_], _ => rfl
  have F_is_text := fun_mk (st := s_is_text) l_is_text c_is_text_ k_is_text
  have b_is_text := F_is_text.binds (ps := ["thing"]) fun _ _ _ _ _ _ us hl => match us, hl with | [_], _ => rfl
  have F_cue_of := fun_mk (st := s_cue_of) l_cue_of c_cue_of_ k_cue_of
  have b_cue_of := F_cue_of.binds (ps := ["thing", "earliest", "length"]) fun _ _ _ _ _ _ us hl => match us, hl with | [_, _, _], _ => rfl
  have F_judged_cues := fun_mk (st := s_judged_cues) l_judged_cues c_judged_cues_ k_judged_cues
  have b_judged_cues := F_judged_cues.binds (ps := ["length", "cues"]) fun _ _ _ _ _ _ us hl => match us, hl with | [_, _], _ => rfl
  have F_piece_of_form := fun_mk (st := s_piece_of_form) l_piece_of_form c_piece_of_form_ k_piece_of_form
  have b_piece_of_form := F_piece_of_form.binds (ps := ["reel", "thing"]) fun _ _ _ _ _ _ us hl => match us, hl with | [_, _], _ => rfl
  have F_judged_pieces := fun_mk (st := s_judged_pieces) l_judged_pieces c_judged_pieces_ k_judged_pieces
  have b_judged_pieces := F_judged_pieces.binds (ps := ["reel", "pieces"]) fun _ _ _ _ _ _ us hl => match us, hl with | [_, _], _ => rfl
  have F_judged_arrows := fun_mk (st := s_judged_arrows) l_judged_arrows c_judged_arrows_ k_judged_arrows
  have b_judged_arrows := F_judged_arrows.binds (ps := ["names", "arrows"]) fun _ _ _ _ _ _ us hl => match us, hl with | [_, _], _ => rfl
  have F_wrong_name := fun_mk (st := s_wrong_name) l_wrong_name c_wrong_name_ k_wrong_name
  have b_wrong_name := F_wrong_name.binds (ps := ["names", "things"]) fun _ _ _ _ _ _ us hl => match us, hl with | [_, _], _ => rfl
  have F_judged_starts := fun_mk (st := s_judged_starts) l_judged_starts c_judged_starts_ k_judged_starts
  have b_judged_starts := F_judged_starts.binds (ps := ["names", "starts"]) fun _ _ _ _ _ _ us hl => match us, hl with | [_, _], _ => rfl
  have F_judged_ends := fun_mk (st := s_judged_ends) l_judged_ends c_judged_ends_ k_judged_ends
  have b_judged_ends := F_judged_ends.binds (ps := ["names", "ends"]) fun _ _ _ _ _ _ us hl => match us, hl with | [_, _], _ => rfl
  have F_led_to := fun_mk (st := s_led_to) l_led_to c_led_to_ k_led_to
  have b_led_to := F_led_to.binds (ps := ["names", "arrows"]) fun _ _ _ _ _ _ us hl => match us, hl with | [_, _], _ => rfl
  have F_first_unreached := fun_mk (st := s_first_unreached) l_first_unreached c_first_unreached_ k_first_unreached
  have b_first_unreached := F_first_unreached.binds (ps := ["names", "arrows", "starts", "ends"]) fun _ _ _ _ _ _ us hl => match us, hl with | [_, _, _, _], _ => rfl
  have F_strip_of_piece := fun_mk (st := s_strip_of_piece) l_strip_of_piece c_strip_of_piece_ k_strip_of_piece
  have b_strip_of_piece := F_strip_of_piece.binds (ps := ["reel", "piece", "factor"]) fun _ _ _ _ _ _ us hl => match us, hl with | [_, _, _], _ => rfl
  have F_sends_of_piece := fun_mk (st := s_sends_of_piece) l_sends_of_piece c_sends_of_piece_ k_sends_of_piece
  have b_sends_of_piece := F_sends_of_piece.binds (ps := ["reel", "piece", "strip"]) fun _ _ _ _ _ _ us hl => match us, hl with | [_, _, _], _ => rfl
  have F_row_showings := fun_mk (st := s_row_showings) l_row_showings c_row_showings_ k_row_showings
  have b_row_showings := F_row_showings.binds (ps := ["plan", "names"]) fun _ _ _ _ _ _ us hl => match us, hl with | [_, _], _ => rfl
  have F_judged_row := fun_mk (st := s_judged_row) l_judged_row c_judged_row_ k_judged_row
  have b_judged_row := F_judged_row.binds (ps := ["plan", "row"]) fun _ _ _ _ _ _ us hl => match us, hl with | [_, _], _ => rfl
  have F_row_carried := fun_mk (st := s_row_carried) l_row_carried c_row_carried_ k_row_carried
  have b_row_carried := F_row_carried.binds (ps := ["plan", "book", "names"]) fun _ _ _ _ _ _ us hl => match us, hl with | [_, _, _], _ => rfl
  have F_carried := fun_mk (st := s_carried) l_carried c_carried_ k_carried
  have b_carried := F_carried.binds (ps := ["plan", "book", "row"]) fun _ _ _ _ _ _ us hl => match us, hl with | [_, _, _], _ => rfl
  have F__law_tape := fun_mk (st := s__law_tape) l__law_tape c__law_tape_ k__law_tape
  have b__law_tape := F__law_tape.binds (ps := ["_law_script"]) fun _ _ _ _ _ _ us hl => match us, hl with | [_], _ => rfl
  have F__law_pick := fun_mk (st := s__law_pick) l__law_pick c__law_pick_ k__law_pick
  have b__law_pick := F__law_pick.binds (ps := ["_law_tape_here", "_law_many"]) fun _ _ _ _ _ _ us hl => match us, hl with | [_, _], _ => rfl
  have F__law_some := fun_mk (st := s__law_some) l__law_some c__law_some_ k__law_some
  have b__law_some := F__law_some.binds (ps := ["_law_tape_here", "_law_low", "_law_high"]) fun _ _ _ _ _ _ us hl => match us, hl with | [_, _, _], _ => rfl
  have F__law_rarely := fun_mk (st := s__law_rarely) l__law_rarely c__law_rarely_ k__law_rarely
  have b__law_rarely := F__law_rarely.binds (ps := ["_law_tape_here", "_law_many"]) fun _ _ _ _ _ _ us hl => match us, hl with | [_, _], _ => rfl
  have F__law_names := fun_mk (st := s__law_names) l__law_names c__law_names_ k__law_names
  have b__law_names := F__law_names.binds (ps := ["_law_tape_here", "_law_many"]) fun _ _ _ _ _ _ us hl => match us, hl with | [_, _], _ => rfl
  have F__law_text := fun_mk (st := s__law_text) l__law_text c__law_text_ k__law_text
  have b__law_text := F__law_text.binds (ps := ["_law_tape_here", "_law_most"]) fun _ _ _ _ _ _ us hl => match us, hl with | [_, _], _ => rfl
  have F__law_few_text := fun_mk (st := s__law_few_text) l__law_few_text c__law_few_text_ k__law_few_text
  have b__law_few_text := F__law_few_text.binds (ps := ["_law_tape_here"]) fun _ _ _ _ _ _ us hl => match us, hl with | [_], _ => rfl
  have F__law_cues := fun_mk (st := s__law_cues) l__law_cues c__law_cues_ k__law_cues
  have b__law_cues := F__law_cues.binds (ps := ["_law_tape_here", "_law_length", "_law_most", "_law_speakers", "_law_few"]) fun _ _ _ _ _ _ us hl => match us, hl with | [_, _, _, _, _], _ => rfl
  have F__law_pieces := fun_mk (st := s__law_pieces) l__law_pieces c__law_pieces_ k__law_pieces
  have b__law_pieces := F__law_pieces.binds (ps := ["_law_tape_here", "_law_length", "_law_names_here"]) fun _ _ _ _ _ _ us hl => match us, hl with | [_, _, _], _ => rfl
  have F__law_arrows := fun_mk (st := s__law_arrows) l__law_arrows c__law_arrows_ k__law_arrows
  have b__law_arrows := F__law_arrows.binds (ps := ["_law_tape_here", "_law_names_here"]) fun _ _ _ _ _ _ us hl => match us, hl with | [_, _], _ => rfl
  have F__law_others := fun_mk (st := s__law_others) l__law_others c__law_others_ k__law_others
  have b__law_others := F__law_others.binds (ps := ["_law_tape_here", "_law_names_here", "_law_chosen"]) fun _ _ _ _ _ _ us hl => match us, hl with | [_, _, _], _ => rfl
  have F__law_turned := fun_mk (st := s__law_turned) l__law_turned c__law_turned_ k__law_turned
  have b__law_turned := F__law_turned.binds (ps := ["_law_tape_here", "_law_things"]) fun _ _ _ _ _ _ us hl => match us, hl with | [_, _], _ => rfl
  have F__law_world := fun_mk (st := s__law_world) l__law_world c__law_world_ k__law_world
  have b__law_world := F__law_world.binds (ps := ["_law_tape_here", "_law_most_cues", "_law_most_pieces", "_law_few"]) fun _ _ _ _ _ _ us hl => match us, hl with | [_, _, _, _], _ => rfl
  have F__law_gcd := fun_mk (st := s__law_gcd) l__law_gcd c__law_gcd_ k__law_gcd
  have b__law_gcd := F__law_gcd.binds (ps := ["_law_one", "_law_other"]) fun _ _ _ _ _ _ us hl => match us, hl with | [_, _], _ => rfl
  have F__law_strip := fun_mk (st := s__law_strip) l__law_strip c__law_strip_ k__law_strip
  have b__law_strip := F__law_strip.binds (ps := ["_law_cues_here", "_law_piece", "_law_factor"]) fun _ _ _ _ _ _ us hl => match us, hl with | [_, _, _], _ => rfl
  have F__law_model := fun_mk (st := s__law_model) l__law_model c__law_model_ k__law_model
  have b__law_model := F__law_model.binds (ps := ["_law_world_here"]) fun _ _ _ _ _ _ us hl => match us, hl with | [_], _ => rfl
  have F__law_showings := fun_mk (st := s__law_showings) l__law_showings c__law_showings_ k__law_showings
  have b__law_showings := F__law_showings.binds (ps := ["_law_model_here", "_law_row"]) fun _ _ _ _ _ _ us hl => match us, hl with | [_, _], _ => rfl
  have F__law_carried := fun_mk (st := s__law_carried) l__law_carried c__law_carried_ k__law_carried
  have b__law_carried := F__law_carried.binds (ps := ["_law_model_here", "_law_least", "_law_close", "_law_row"]) fun _ _ _ _ _ _ us hl => match us, hl with | [_, _, _, _], _ => rfl
  have F__law_drawn_way := fun_mk (st := s__law_drawn_way) l__law_drawn_way c__law_drawn_way_ k__law_drawn_way
  have b__law_drawn_way := F__law_drawn_way.binds (ps := ["_law_tape_here", "_law_world_here", "_law_model_here", "_law_most"]) fun _ _ _ _ _ _ us hl => match us, hl with | [_, _, _, _], _ => rfl
  have F__law_same := fun_mk (st := s__law_same) l__law_same c__law_same_ k__law_same
  have b__law_same := F__law_same.binds (ps := ["_law_told", "_law_due_here"]) fun _ _ _ _ _ _ us hl => match us, hl with | [_, _], _ => rfl
  have F__law_book := fun_mk (st := s__law_book) l__law_book c__law_book_ k__law_book
  have b__law_book := F__law_book.binds (ps := ["_law_tape_here"]) fun _ _ _ _ _ _ us hl => match us, hl with | [_], _ => rfl
  have F__law_screen := fun_mk (st := s__law_screen) l__law_screen c__law_screen_ k__law_screen
  have b__law_screen := F__law_screen.binds (ps := ["_law_world_here", "_law_grain", "_law_name"]) fun _ _ _ _ _ _ us hl => match us, hl with | [_, _, _], _ => rfl
  have F__law_runs := fun_mk (st := s__law_runs) l__law_runs c__law_runs_ k__law_runs
  have b__law_runs := F__law_runs.binds (ps := ["_law_screen_here"]) fun _ _ _ _ _ _ us hl => match us, hl with | [_], _ => rfl
  have F__law_filled := fun_mk (st := s__law_filled) l__law_filled c__law_filled_ k__law_filled
  have b__law_filled := F__law_filled.binds (ps := ["_law_screen_here", "_law_shorter", "_law_near"]) fun _ _ _ _ _ _ us hl => match us, hl with | [_, _, _], _ => rfl
  have F__law_due := fun_mk (st := s__law_due) l__law_due c__law_due_ k__law_due
  have b__law_due := F__law_due.binds (ps := ["_law_world_here", "_law_grain", "_law_numbers_here", "_law_row"]) fun _ _ _ _ _ _ us hl => match us, hl with | [_, _, _, _], _ => rfl
  have F__law_drawn_row := fun_mk (st := s__law_drawn_row) l__law_drawn_row c__law_drawn_row_ k__law_drawn_row
  have b__law_drawn_row := F__law_drawn_row.binds (ps := ["_law_tape_here", "_law_world_here", "_law_model_here", "_law_names_here"]) fun _ _ _ _ _ _ us hl => match us, hl with | [_, _, _, _], _ => rfl
  have F__law_numbers := fun_mk (st := s__law_numbers) l__law_numbers c__law_numbers_ k__law_numbers
  have b__law_numbers := F__law_numbers.binds (ps := ["_law_tape_here"]) fun _ _ _ _ _ _ us hl => match us, hl with | [_], _ => rfl
  have F__law_refusal := fun_mk (st := s__law_refusal) l__law_refusal c__law_refusal_ k__law_refusal
  have b__law_refusal := F__law_refusal.binds (ps := ["_law_call"]) fun _ _ _ _ _ _ us hl => match us, hl with | [_], _ => rfl
  have F__law_good_number := fun_mk (st := s__law_good_number) l__law_good_number c__law_good_number_ k__law_good_number
  have b__law_good_number := F__law_good_number.binds (ps := ["_law_thing"]) fun _ _ _ _ _ _ us hl => match us, hl with | [_], _ => rfl
  have F__law_books_right : FunT K "_law_books_right" "_law_books_right" s__law_books_right f__law_books_right _ cB := ⟨⟨_, _, _, _, _, _, _, _, rfl, l__law_books_right, c__law_books_right_⟩, k__law_books_right⟩
  have b__law_books_right := F__law_books_right.to.binds (ps := ["_law_tape_here"]) fun _ _ _ _ _ _ us hl => match us, hl with | [_], _ => rfl
  have F_law : FunT K "law" "law" s_law fa _ cL := ⟨⟨_, _, _, _, _, _, _, _, rfl, l_law, c_law_⟩, k_law⟩
  have F_iLn := fun_mk (st := s_BadLength___init__) l_iLn c_iLn_ k_iLn
  have b_iLn := F_iLn.binds (ps := ["self", "length"]) fun _ _ _ _ _ _ us hl => match us, hl with | [_, _], _ => rfl
  have XLn : XC K mg "BadLength" "length" CLn f_iLn := ⟨PySem.W.mg_of X G aLn, ⟨⟨_, _, _, _, _, _, _, _, _, _, _, _, _, _, _, xLn_, rfl⟩, saLn, eLn, tLn, kpLn⟩, inLn, tILn, noLn, ⟨iLn, gaLn, ggLn, eLn, klLn, gt, tk, mrLn⟩, hdLn⟩
  have F_iU := fun_mk (st := s_BadCue___init__) l_iU c_iU_ k_iU
  have b_iU := F_iU.binds (ps := ["self", "number"]) fun _ _ _ _ _ _ us hl => match us, hl with | [_, _], _ => rfl
  have XU : XC K mg "BadCue" "number" CU f_iU := ⟨PySem.W.mg_of X G aU, ⟨⟨_, _, _, _, _, _, _, _, _, _, _, _, _, _, _, xU_, rfl⟩, saU, eU, tU, kpU⟩, inU, tIU, noU, ⟨iU, gaU, ggU, eU, klU, gt, tk, mrU⟩, hdU⟩
  have F_iM := fun_mk (st := s_TooMany___init__) l_iM c_iM_ k_iM
  have b_iM := F_iM.binds (ps := ["self", "word"]) fun _ _ _ _ _ _ us hl => match us, hl with | [_, _], _ => rfl
  have XM : XC K mg "TooMany" "word" CM f_iM := ⟨PySem.W.mg_of X G aM, ⟨⟨_, _, _, _, _, _, _, _, _, _, _, _, _, _, _, xM_, rfl⟩, saM, eM, tM, kpM⟩, inM, tIM, noM, ⟨iM, gaM, ggM, eM, klM, gt, tk, mrM⟩, hdM⟩
  have F_iB := fun_mk (st := s_BadRow___init__) l_iB c_iB_ k_iB
  have b_iB := F_iB.binds (ps := ["self", "number"]) fun _ _ _ _ _ _ us hl => match us, hl with | [_, _], _ => rfl
  have XB : XC K mg "BadRow" "number" CB f_iB := ⟨PySem.W.mg_of X G aB, ⟨⟨_, _, _, _, _, _, _, _, _, _, _, _, _, _, _, xB_, rfl⟩, saB, eB, tB, kpB⟩, inB, tIB, noB, ⟨iB, gaB, ggB, eB, klB, gt, tk, mrB⟩, hdB⟩
  have F_iN := fun_mk (st := s_BadNumber___init__) l_iN c_iN_ k_iN
  have b_iN := F_iN.binds (ps := ["self", "word"]) fun _ _ _ _ _ _ us hl => match us, hl with | [_, _], _ => rfl
  have XN : XC K mg "BadNumber" "word" CN f_iN := ⟨PySem.W.mg_of X G aN, ⟨⟨_, _, _, _, _, _, _, _, _, _, _, _, _, _, _, xN_, rfl⟩, saN, eN, tN, kpN⟩, inN, tIN, noN, ⟨iN, gaN, ggN, eN, klN, gt, tk, mrN⟩, hdN⟩
  have x3 : EX12 K CN CB CM := ⟨exm_mk eN iN tN sNN, exm_mk eN iN tN sBN, exm_mk eB iB tB sBB, kit_two (kit_no sNN iB tB sNB) (kit_no sNN iM tM sNM), kit_two (kit_no sBB iN tN sBN) (kit_no sBB iM tM sBM)⟩
  have TK : BkC K mg CK f_iK := ⟨⟨pgCK, hdCK, poCK, saCK⟩, ⟨mkCK, inCK, fnCK, kpCK⟩, PySem.W.mg_of X G aCK, nCK_least, nCK_close, klCK, gt, tk, mrCK⟩
  have F_iK := fun_mk (st := s_Book___init__) l_iK c_iK_ k_iK
  have b_iK := F_iK.binds (ps := ["self", "least", "close"]) fun _ _ _ _ _ _ us hl => match us, hl with | [_, _, _], _ => rfl
  have F_eqK := fun_mk (st := s_Book___eq__) l_eqK c_eqK_ k_eqK
  have b_eqK := F_eqK.binds (ps := ["self", "other"]) fun _ _ _ _ _ _ us hl => match us, hl with | [_, _], _ => rfl
  have F_gr := fun_mk (st := s_Plan_grain) l_gr c_gr_ k_gr
  have b_gr := F_gr.binds (ps := ["self"]) fun _ _ _ _ _ _ us hl => match us, hl with | [_], _ => rfl
  have TR : RC K mg CR f_iR := ⟨⟨pgCR, hdCR, poCR, saCR⟩, ⟨mkCR, inCR, fnCR, kpCR⟩, PySem.W.mg_of X G aCR, nCR_length, nCR_cues, nCR__speakers, nCR__naming, klCR, gt, tk, mrCR⟩
  have TP : PlC K mg CP f_iP := ⟨⟨pgCP, hdCP, poCP, saCP⟩, ⟨mkCP, inCP, fnCP, kpCP⟩, PySem.W.mg_of X G aCP, nCP_reel, nCP_pieces, nCP__names, nCP_arrows, nCP_starts, nCP_ends, nCP__grain, nCP__pieces, nCP__sends, nCP__factors, nCP__shown, nCP__behind, nCP__strips, nCP__sends, ⟨.type "type", aW, .ref aW, ⟨rdCP, gaCP⟩, ⟨fWA, rfl⟩, fun H => .inr ⟨oWA, _, nWA, lWA, clWA, dWA, (by show 2 ≤ sizeLine; decide), .cons ⟨_, rfl⟩ (.cons ⟨_, rfl⟩ .nil)⟩⟩⟩
  have F_iR : FunV K "__init__" "Reel.__init__" s_Reel___init__ f_iR _ := ⟨⟨_, _, TD, _, _, _, _, _, _, _, oTD, d0, nTD, rfl, l_iR, c_iR_, lTD, dTD⟩⟩
  have b_iR := reel_binds F_iR
  have F_iP := fun_mk (st := s_Plan___init__) l_iP c_iP_ k_iP
  have b_iP := F_iP.binds (ps := ["self", "reel", "pieces", "arrows", "starts", "ends"]) fun _ _ _ _ _ _ us hl => match us, hl with | [_, _, _, _, _, _], _ => rfl
  have F_shown_of := fun_mk (st := s_Plan_shown_of) l_shown_of c_shown_of_ k_shown_of
  have b_shown_of := F_shown_of.binds (ps := ["self", "name"]) fun _ _ _ _ _ _ us hl => match us, hl with | [_, _], _ => rfl
  have F_strip_of := fun_mk (st := s_Plan_strip_of) l_strip_of c_strip_of_ k_strip_of
  have b_strip_of := F_strip_of.binds (ps := ["self", "name"]) fun _ _ _ _ _ _ us hl => match us, hl with | [_, _], _ => rfl
  have F_has := fun_mk (st := s_Plan___contains__) l_has c_has_ k_has
  have b_has := F_has.binds (ps := ["self", "x"]) fun _ _ _ _ _ _ us hl => match us, hl with | [_, _], _ => rfl
  refine ⟨PySem.W.fnOf "law" "law" (defArgs s_law) (defBody s_law) (defScope s_law) .none kV_law dc_law pm_law an_law (.ref cL) ct_law, cL, P0, cB, PB, tab_mk a_law l_law rfl lCo pCo, nP0, tab_mk a__law_books_right l__law_books_right rfl lCb pCb, nPb, fun s v => .of_eq rfl, fun base _ _ TB TB2 => ?_⟩
  have xLn : XI l.prog w K mg base "BadLength" "length" CLn := ⟨f_iLn, _, XLn, ok_iLn F_iLn, b_iLn⟩
  have xU : XI l.prog w K mg base "BadCue" "number" CU := ⟨f_iU, _, XU, ok_iU F_iU, b_iU⟩
  have xM : XI l.prog w K mg base "TooMany" "word" CM := ⟨f_iM, _, XM, ok_iM F_iM, b_iM⟩
  have xB : XI l.prog w K mg base "BadRow" "number" CB := ⟨f_iB, _, XB, ok_iB F_iB, b_iB⟩
  have xN : XI l.prog w K mg base "BadNumber" "word" CN := ⟨f_iN, _, XN, ok_iN F_iN, b_iN⟩
  have c_is_integer : Cal l.prog w K mg base 1 "is_integer" spIsIntA := ⟨f_is_integer, _, _, ok_is_integerA F_is_integer m_isinstance m_int m_bool, PySem.W.mg_of X G a_is_integer, k_is_integer, b_is_integer⟩
  have c_is_within : Cal l.prog w K mg base 2 "is_within" spWithinA := ⟨f_is_within, _, _, ok_is_withinA F_is_within c_is_integer, PySem.W.mg_of X G a_is_within, k_is_within, b_is_within⟩
  have c_items_of : Cal l.prog w K mg base 1 "items_of" (spItemsA K) := ⟨f_items_of, _, _, ok_items_ofA F_items_of m_isinstance m_tuple m_list, PySem.W.mg_of X G a_items_of, k_items_of, b_items_of⟩
  have c_parts_of : Cal l.prog w K mg base 2 "parts_of" spPartsA := ⟨f_parts_of, _, _, ok_parts_ofA F_parts_of m_len c_items_of, PySem.W.mg_of X G a_parts_of, k_parts_of, b_parts_of⟩
  have c_is_name : Cal l.prog w K mg base 1 "is_name" spNameA := ⟨f_is_name, _, _, ok_is_nameA F_is_name m_isinstance m_str m_len m_all g_LETTERS, PySem.W.mg_of X G a_is_name, k_is_name, b_is_name⟩
  have c_has_percent : Cal l.prog w K mg base 1 "has_percent" spPercent := ⟨f_has_percent, _, _, ok_has_percent F_has_percent g_PERCENT m_ord, PySem.W.mg_of X G a_has_percent, k_has_percent, b_has_percent⟩
  have c_is_text : Cal l.prog w K mg base 2 "is_text" spIsText := ⟨f_is_text, _, _, ok_is_text F_is_text m_isinstance m_str m_len m_all c_has_percent, PySem.W.mg_of X G a_is_text, k_is_text, b_is_text⟩
  have c_cue_of : Cal l.prog w K mg base 3 "cue_of" spCueA := ⟨f_cue_of, _, _, ok_cue_ofA F_cue_of c_parts_of c_is_integer c_is_name c_is_text, PySem.W.mg_of X G a_cue_of, k_cue_of, b_cue_of⟩
  have c_judged_cues : CalX l.prog w K mg base 4 "judged_cues" (spJudgedA K CU CM) := ⟨f_judged_cues, _, _, ok_judged_cuesA F_judged_cues m_enumerate m_len m_tuple g_MOST_CUES xU xM c_items_of c_cue_of, PySem.W.mg_of X G a_judged_cues, k_judged_cues, b_judged_cues⟩
  have c_piece_of_form : Cal l.prog w K mg base 3 "piece_of_form" (spForm CR) := ⟨f_piece_of_form, _, _, ok_piece_form F_piece_of_form m_isinstance m_str g_gcd g_MOST_RATE TR TP c_parts_of c_is_name c_is_integer c_is_within, PySem.W.mg_of X G a_piece_of_form, k_piece_of_form, b_piece_of_form⟩
  have c_judged_pieces : Cal l.prog w K mg base 4 "judged_pieces" (spPieces CR) := ⟨f_judged_pieces, _, _, ok_pieces F_judged_pieces m_enumerate m_len m_tuple g_MOST_PIECES c_items_of c_piece_of_form, PySem.W.mg_of X G a_judged_pieces, k_judged_pieces, b_judged_pieces⟩
  have c_judged_arrows : Cal l.prog w K mg base 3 "judged_arrows" spArrowsJ := ⟨f_judged_arrows, _, _, ok_arrowsJ F_judged_arrows m_enumerate m_tuple c_items_of c_parts_of, PySem.W.mg_of X G a_judged_arrows, k_judged_arrows, b_judged_arrows⟩
  have c_wrong_name : Cal l.prog w K mg base 2 "wrong_name" spWrong := ⟨f_wrong_name, _, _, ok_wrong F_wrong_name m_enumerate c_items_of, PySem.W.mg_of X G a_wrong_name, k_wrong_name, b_wrong_name⟩
  have c_judged_starts : Cal l.prog w K mg base 3 "judged_starts" spChosen := ⟨f_judged_starts, _, _, ok_startsJ F_judged_starts c_items_of c_wrong_name, PySem.W.mg_of X G a_judged_starts, k_judged_starts, b_judged_starts⟩
  have c_judged_ends : Cal l.prog w K mg base 3 "judged_ends" spChosen := ⟨f_judged_ends, _, _, ok_endsJ F_judged_ends c_items_of c_wrong_name, PySem.W.mg_of X G a_judged_ends, k_judged_ends, b_judged_ends⟩
  have c_led_to : Cal l.prog w K mg base 1 "led_to" spLed := ⟨f_led_to, _, _, ok_led_to F_led_to m_list m_len, PySem.W.mg_of X G a_led_to, k_led_to, b_led_to⟩
  have c_first_unreached : Cal l.prog w K mg base 2 "first_unreached" spUnreach := ⟨f_first_unreached, _, _, ok_unreach F_first_unreached c_led_to, PySem.W.mg_of X G a_first_unreached, k_first_unreached, b_first_unreached⟩
  have c_strip_of_piece : Cal l.prog w K mg base 1 "strip_of_piece" (spStrip CR) := ⟨f_strip_of_piece, _, _, ok_strip F_strip_of_piece TR m_enumerate m_max m_min m_tuple g_ON, PySem.W.mg_of X G a_strip_of_piece, k_strip_of_piece, b_strip_of_piece⟩
  have c_sends_of_piece : Cal l.prog w K mg base 1 "sends_of_piece" (spSends CR) := ⟨f_sends_of_piece, _, _, ok_sends F_sends_of_piece TR m_tuple g_ON, PySem.W.mg_of X G a_sends_of_piece, k_sends_of_piece, b_sends_of_piece⟩
  have D_iR := ok_reelA (P := l.prog) (w := w) (base := base) F_iR m_enumerate m_tuple m_sorted m_set g_MOST_TICKS TR xLn c_is_within c_judged_cues
  have D_iP := ok_plan (P := l.prog) (w := w) (base := base) F_iP TP m_tuple m_sorted g_lcm c_judged_pieces c_judged_arrows c_judged_starts c_judged_ends c_first_unreached c_strip_of_piece c_sends_of_piece
  have oC : OwnC l.prog w K mg base CP CR := ⟨f_has, _, ok_has F_has TP m_isinstance m_str, a_has, i_has, b_has⟩
  have M_shown_of : MCal l.prog w K mg base 2 CP "shown_of" (spShown CP CR) := ⟨f_shown_of, _, _, ok_shown F_shown_of TP oC, ⟨a_shown_of, i_shown_of, k_shown_of⟩, b_shown_of⟩
  have M_strip_of : MCal l.prog w K mg base 2 CP "strip_of" (spStripOf CP CR) := ⟨f_strip_of, _, _, ok_strip_of F_strip_of TP oC, ⟨a_strip_of, i_strip_of, k_strip_of⟩, b_strip_of⟩
  have pG : OwnP l.prog w K mg base 1 CP "grain" (spGrain CP CR) := ⟨pGr, f_gr, _, ⟨pGa, pGg, pGt, _, pGc⟩, ok_grain F_gr TP, b_gr⟩
  have D_iK := ok_book (P := l.prog) (w := w) (base := base) F_iK TK g_MOST_BOOK xN c_is_within
  have FQ := ok_book_eq (P := l.prog) (w := w) (base := base) F_eqK TK m_isinstance
  have FT := ok_book_eqT (P := l.prog) (w := w) (base := base) F_eqK TK m_isinstance (kit_noT iCK tCK sTK)
  have c_row_showings : Cal l.prog w K mg base 3 "row_showings" (spRowShow CP CR) := ⟨f_row_showings, _, _, ok_row_showings F_row_showings TP m_len m_tuple M_strip_of M_shown_of, PySem.W.mg_of X G a_row_showings, k_row_showings, b_row_showings⟩
  have c_judged_row : CalX l.prog w K mg base 3 "judged_row" (spRowJ CP CR CB) := ⟨f_judged_row, _, _, ok_judged_row F_judged_row m_enumerate m_len g_MOST_NAMES xB c_items_of oC, PySem.W.mg_of X G a_judged_row, k_judged_row, b_judged_row⟩
  have c_row_carried : Cal l.prog w K mg base 4 "row_carried" (spCarr CP CR CK) := ⟨f_row_carried, _, _, ok_row_carried F_row_carried TP TK m_len m_tuple pG c_row_showings, PySem.W.mg_of X G a_row_carried, k_row_carried, b_row_carried⟩
  have c_carried : CalX l.prog w K mg base 5 "carried" (spCarried CP CR CK CB) := ⟨f_carried, _, _, ok_carried F_carried c_judged_row c_row_carried, PySem.W.mg_of X G a_carried, k_carried, b_carried⟩
  have c__law_tape : Cal l.prog w K mg base 1 "_law_tape" (spTape K) := ⟨f__law_tape, _, _, ok_tape F__law_tape m_abs m_int, PySem.W.mg_of X G a__law_tape, k__law_tape, b__law_tape⟩
  have c__law_pick : Cal l.prog w K mg base 1 "_law_pick" spPick := ⟨f__law_pick, _, _, ok_pick F__law_pick m_len m_int, PySem.W.mg_of X G a__law_pick, k__law_pick, b__law_pick⟩
  have c__law_some : Cal l.prog w K mg base 2 "_law_some" spSome := ⟨f__law_some, _, _, ok_some F__law_some c__law_pick, PySem.W.mg_of X G a__law_some, k__law_some, b__law_some⟩
  have c__law_rarely : Cal l.prog w K mg base 2 "_law_rarely" spRarely := ⟨f__law_rarely, _, _, ok_rarely F__law_rarely c__law_pick, PySem.W.mg_of X G a__law_rarely, k__law_rarely, b__law_rarely⟩
  have c__law_names : Cal l.prog w K mg base 2 "_law_names" spNamesN := ⟨f__law_names, _, _, ok_namesN F__law_names m_range m_len c__law_pick, PySem.W.mg_of X G a__law_names, k__law_names, b__law_names⟩
  have c__law_text : Cal l.prog w K mg base 3 "_law_text" spText := ⟨f__law_text, _, _, ok_text F__law_text m_range m_len c__law_pick c__law_some, PySem.W.mg_of X G a__law_text, k__law_text, b__law_text⟩
  have c__law_few_text : Cal l.prog w K mg base 2 "_law_few_text" spFewIn := ⟨f__law_few_text, _, _, ok_few_in F__law_few_text m_len c__law_pick, PySem.W.mg_of X G a__law_few_text, k__law_few_text, b__law_few_text⟩
  have c__law_cues : Cal l.prog w K mg base 4 "_law_cues" spCues := ⟨f__law_cues, _, _, ok_cues F__law_cues m_range m_max m_len c__law_pick c__law_some c__law_few_text c__law_text, PySem.W.mg_of X G a__law_cues, k__law_cues, b__law_cues⟩
  have c__law_pieces : Cal l.prog w K mg base 3 "_law_pieces" spPiecesL := ⟨f__law_pieces, _, _, ok_piecesL F__law_pieces m_min c__law_pick c__law_some c__law_rarely, PySem.W.mg_of X G a__law_pieces, k__law_pieces, b__law_pieces⟩
  have c__law_arrows : Cal l.prog w K mg base 2 "_law_arrows" spArrowsL := ⟨f__law_arrows, _, _, ok_arrowsL F__law_arrows m_range m_len c__law_pick, PySem.W.mg_of X G a__law_arrows, k__law_arrows, b__law_arrows⟩
  have c__law_others : Cal l.prog w K mg base 3 "_law_others" spOthers := ⟨f__law_others, _, _, ok_others F__law_others c__law_rarely, PySem.W.mg_of X G a__law_others, k__law_others, b__law_others⟩
  have c__law_turned : Cal l.prog w K mg base 2 "_law_turned" spTurned := ⟨f__law_turned, _, _, ok_turned F__law_turned m_len c__law_pick, PySem.W.mg_of X G a__law_turned, k__law_turned, b__law_turned⟩
  have c__law_world : Cal l.prog w K mg base 5 "_law_world" spWorld := ⟨f__law_world, _, _, ok_world F__law_world m_int m_max c__law_pick c__law_some c__law_rarely c__law_names c__law_cues c__law_pieces c__law_arrows c__law_others c__law_turned, PySem.W.mg_of X G a__law_world, k__law_world, b__law_world⟩
  have c__law_gcd : Cal l.prog w K mg base 1 "_law_gcd" spGcd := ⟨f__law_gcd, _, _, ok_gcd F__law_gcd, PySem.W.mg_of X G a__law_gcd, k__law_gcd, b__law_gcd⟩
  have c__law_strip : Cal l.prog w K mg base 1 "_law_strip" spStripL := ⟨f__law_strip, _, _, ok_stripL F__law_strip m_range m_len m_max m_min, PySem.W.mg_of X G a__law_strip, k__law_strip, b__law_strip⟩
  have c__law_model : Cal l.prog w K mg base 2 "_law_model" spModel := ⟨f__law_model, _, _, ok_model F__law_model m_sorted c__law_gcd c__law_strip, PySem.W.mg_of X G a__law_model, k__law_model, b__law_model⟩
  have c__law_showings : Cal l.prog w K mg base 1 "_law_showings" spShowL := ⟨f__law_showings, _, _, ok_showL F__law_showings, PySem.W.mg_of X G a__law_showings, k__law_showings, b__law_showings⟩
  have c__law_carried : Cal l.prog w K mg base 2 "_law_carried" spCarL := ⟨f__law_carried, _, _, ok_carL F__law_carried m_len c__law_showings, PySem.W.mg_of X G a__law_carried, k__law_carried, b__law_carried⟩
  have c__law_drawn_way : Cal l.prog w K mg base 3 "_law_drawn_way" spWay := ⟨f__law_drawn_way, _, _, ok_way F__law_drawn_way m_range m_len c__law_pick c__law_some, PySem.W.mg_of X G a__law_drawn_way, k__law_drawn_way, b__law_drawn_way⟩
  have c__law_same : Cal l.prog w K mg base 3 "_law_same" (spSame 2) := ⟨f__law_same, _, _, ok_same2 F__law_same m_isinstance m_tuple m_bool m_str m_int m_len m_all m_range (PySem.W.mg_of X G a__law_same) k__law_same b__law_same, PySem.W.mg_of X G a__law_same, k__law_same, b__law_same⟩
  have c__law_book : Cal l.prog w K mg base 2 "_law_book" spNums := ⟨f__law_book, _, _, ok_bookL F__law_book c__law_pick, PySem.W.mg_of X G a__law_book, k__law_book, b__law_book⟩
  have c__law_screen : Cal l.prog w K mg base 1 "_law_screen" spScreen := ⟨f__law_screen, _, _, ok_screen F__law_screen m_range m_len, PySem.W.mg_of X G a__law_screen, k__law_screen, b__law_screen⟩
  have c__law_runs : Cal l.prog w K mg base 1 "_law_runs" spRuns := ⟨f__law_runs, _, _, ok_runs F__law_runs m_range m_len, PySem.W.mg_of X G a__law_runs, k__law_runs, b__law_runs⟩
  have c__law_filled : Cal l.prog w K mg base 2 "_law_filled" spFilled := ⟨f__law_filled, _, _, ok_filled F__law_filled m_range m_len c__law_runs, PySem.W.mg_of X G a__law_filled, k__law_filled, b__law_filled⟩
  have c__law_due : Cal l.prog w K mg base 3 "_law_due" spDue := ⟨f__law_due, _, _, ok_due F__law_due m_tuple c__law_screen c__law_runs c__law_filled, PySem.W.mg_of X G a__law_due, k__law_due, b__law_due⟩
  have c__law_drawn_row : Cal l.prog w K mg base 4 "_law_drawn_row" spRow := ⟨f__law_drawn_row, _, _, ok_row F__law_drawn_row m_range m_len c__law_pick c__law_some c__law_drawn_way, PySem.W.mg_of X G a__law_drawn_row, k__law_drawn_row, b__law_drawn_row⟩
  have c__law_numbers : Cal l.prog w K mg base 3 "_law_numbers" spNums := ⟨f__law_numbers, _, _, ok_numbers F__law_numbers c__law_pick c__law_some c__law_rarely c__law_book, PySem.W.mg_of X G a__law_numbers, k__law_numbers, b__law_numbers⟩
  have c__law_good_number : Cal l.prog w K mg base 1 "_law_good_number" spGoodN := ⟨f__law_good_number, _, _, ok_goodN F__law_good_number m_isinstance m_int m_bool, PySem.W.mg_of X G a__law_good_number, k__law_good_number, b__law_good_number⟩
  have c__law_books_right : Cal l.prog w K mg base 7 "_law_books_right" (spBooksR PB) := ⟨f__law_books_right, _, _, ok_booksR F__law_books_right TB2 TK D_iK b_iK FQ FT b_eqK a_eqK i_eqK sTK F__law_refusal g_refusal b__law_refusal m_isinstance XN XB g_TooMany g_CE x3 c__law_pick c__law_some c__law_same c__law_good_number, PySem.W.mg_of X G a__law_books_right, k__law_books_right, b__law_books_right⟩
  exact ok_law F_law TB nPB m_sorted m_tuple m_list m_len TR D_iR b_iR TP D_iP b_iP TK D_iK b_iK F__law_refusal g_refusal b__law_refusal m_isinstance XN XB g_TooMany g_CE x3 c_carried c__law_tape c__law_pick c__law_some c__law_rarely c__law_world c__law_model c__law_due c__law_carried c__law_numbers c__law_same c__law_drawn_row c__law_books_right
end Sea
section
local macro_rules | `(tactic| kernel_rfl) => `(tactic| (rename_i w; refine Eq.trans ?_ (Eq.trans (Sea.rAll w) ?_) <;> kernel_rfl!))
open PySem PySem.W PyProof.Rows
set_option maxRecDepth 100000 in
set_option maxHeartbeats 0 in
theorem PySem.Challenge.cw_seamfast_k12_carried_by_books_holds : PySem.Challenge.rw_seamfast_k12_carried_by_books.Holds := by
  w_on; o_law; k_headL; (case hw => w_witness2)
  k_fill
  refine Sea.walk_tab2 (l := PySem.Challenge.rw_seamfast_k12_carried_by_books) (n := 63) (k := 8) (x := "_law_script") (x2 := "_law_books_right") (sp := fun w P P2 => Sea.spLaw12 _ P P2) rfl (by decide) rfl ⟨rfl, by decide, by decide⟩ (fun w h Y => PySem.W.kIn_of Y) rfl rfl ?F (fun _ _ _ _ a ns hl hP hP2 hS => ⟨a, ns, rfl, hS, hl, hP, hP2, fun _ => rfl⟩)
  case F =>
    intro w mg fa h KX G hmg
    refine' Sea.all_mk KX G hmg ?a_is_integer ?l_is_integer ?c_is_integer_ ?k_is_integer ?a_is_within ?l_is_within ?c_is_within_ ?k_is_within ?a_items_of ?l_items_of ?c_items_of_ ?k_items_of ?a_parts_of ?l_parts_of ?c_parts_of_ ?k_parts_of ?a_is_name ?l_is_name ?c_is_name_ ?k_is_name ?a_has_percent ?l_has_percent ?c_has_percent_ ?k_has_percent ?a_is_text ?l_is_text ?c_is_text_ ?k_is_text ?a_cue_of ?l_cue_of ?c_cue_of_ ?k_cue_of ?a_judged_cues ?l_judged_cues ?c_judged_cues_ ?k_judged_cues ?a_piece_of_form ?l_piece_of_form ?c_piece_of_form_ ?k_piece_of_form ?a_judged_pieces ?l_judged_pieces ?c_judged_pieces_ ?k_judged_pieces ?a_judged_arrows ?l_judged_arrows ?c_judged_arrows_ ?k_judged_arrows ?a_wrong_name ?l_wrong_name ?c_wrong_name_ ?k_wrong_name ?a_judged_starts ?l_judged_starts ?c_judged_starts_ ?k_judged_starts ?a_judged_ends ?l_judged_ends ?c_judged_ends_ ?k_judged_ends ?a_led_to ?l_led_to ?c_led_to_ ?k_led_to ?a_first_unreached ?l_first_unreached ?c_first_unreached_ ?k_first_unreached ?a_strip_of_piece ?l_strip_of_piece ?c_strip_of_piece_ ?k_strip_of_piece ?a_sends_of_piece ?l_sends_of_piece ?c_sends_of_piece_ ?k_sends_of_piece ?a_row_showings ?l_row_showings ?c_row_showings_ ?k_row_showings ?a_judged_row ?l_judged_row ?c_judged_row_ ?k_judged_row ?a_row_carried ?l_row_carried ?c_row_carried_ ?k_row_carried ?a_carried ?l_carried ?c_carried_ ?k_carried ?a__law_tape ?l__law_tape ?c__law_tape_ ?k__law_tape ?a__law_pick ?l__law_pick ?c__law_pick_ ?k__law_pick ?a__law_some ?l__law_some ?c__law_some_ ?k__law_some ?a__law_rarely ?l__law_rarely ?c__law_rarely_ ?k__law_rarely ?a__law_names ?l__law_names ?c__law_names_ ?k__law_names ?a__law_text ?l__law_text ?c__law_text_ ?k__law_text ?a__law_few_text ?l__law_few_text ?c__law_few_text_ ?k__law_few_text ?a__law_cues ?l__law_cues ?c__law_cues_ ?k__law_cues ?a__law_pieces ?l__law_pieces ?c__law_pieces_ ?k__law_pieces ?a__law_arrows ?l__law_arrows ?c__law_arrows_ ?k__law_arrows ?a__law_others ?l__law_others ?c__law_others_ ?k__law_others ?a__law_turned ?l__law_turned ?c__law_turned_ ?k__law_turned ?a__law_world ?l__law_world ?c__law_world_ ?k__law_world ?a__law_gcd ?l__law_gcd ?c__law_gcd_ ?k__law_gcd ?a__law_strip ?l__law_strip ?c__law_strip_ ?k__law_strip ?a__law_model ?l__law_model ?c__law_model_ ?k__law_model ?a__law_showings ?l__law_showings ?c__law_showings_ ?k__law_showings ?a__law_carried ?l__law_carried ?c__law_carried_ ?k__law_carried ?a__law_drawn_way ?l__law_drawn_way ?c__law_drawn_way_ ?k__law_drawn_way ?a__law_same ?l__law_same ?c__law_same_ ?k__law_same ?a__law_book ?l__law_book ?c__law_book_ ?k__law_book ?a__law_screen ?l__law_screen ?c__law_screen_ ?k__law_screen ?a__law_runs ?l__law_runs ?c__law_runs_ ?k__law_runs ?a__law_filled ?l__law_filled ?c__law_filled_ ?k__law_filled ?a__law_due ?l__law_due ?c__law_due_ ?k__law_due ?a__law_drawn_row ?l__law_drawn_row ?c__law_drawn_row_ ?k__law_drawn_row ?a__law_numbers ?l__law_numbers ?c__law_numbers_ ?k__law_numbers ?a__law_refusal ?l__law_refusal ?c__law_refusal_ ?k__law_refusal ?a__law_good_number ?l__law_good_number ?c__law_good_number_ ?k__law_good_number ?a__law_books_right ?l__law_books_right ?c__law_books_right_ ?k__law_books_right ?a_law ?l_law ?c_law_ ?k_law ?lCo ?dCo ?pCo ?nP0 ?lCb ?dCb ?pCb ?nPb ?aCE ?aLn ?xLn_ ?saLn ?eLn ?tLn ?kpLn ?inLn ?tILn ?noLn ?iLn ?gaLn ?ggLn ?klLn ?mrLn ?hdLn ?l_iLn ?c_iLn_ ?k_iLn ?aU ?xU_ ?saU ?eU ?tU ?kpU ?inU ?tIU ?noU ?iU ?gaU ?ggU ?klU ?mrU ?hdU ?l_iU ?c_iU_ ?k_iU ?aM ?xM_ ?saM ?eM ?tM ?kpM ?inM ?tIM ?noM ?iM ?gaM ?ggM ?klM ?mrM ?hdM ?l_iM ?c_iM_ ?k_iM ?aB ?xB_ ?saB ?eB ?tB ?kpB ?inB ?tIB ?noB ?iB ?gaB ?ggB ?klB ?mrB ?hdB ?l_iB ?c_iB_ ?k_iB ?aN ?xN_ ?saN ?eN ?tN ?kpN ?inN ?tIN ?noN ?iN ?gaN ?ggN ?klN ?mrN ?hdN ?l_iN ?c_iN_ ?k_iN ?gt ?tk ?sBB ?sBN ?sBM ?sNN ?sNB ?sNM ?aCR ?pgCR ?hdCR ?poCR ?saCR ?mkCR ?inCR ?fnCR ?kpCR ?nCR_length ?nCR_cues ?nCR__speakers ?nCR__naming ?l_iR ?c_iR_ ?k_iR ?aCP ?pgCP ?hdCP ?poCP ?saCP ?mkCP ?inCP ?fnCP ?kpCP ?nCP_reel ?nCP_pieces ?nCP__names ?nCP_arrows ?nCP_starts ?nCP_ends ?nCP__grain ?nCP__pieces ?nCP__sends ?nCP__factors ?nCP__shown ?nCP__behind ?nCP__strips ?l_iP ?c_iP_ ?k_iP ?aCK ?pgCK ?hdCK ?poCK ?saCK ?mkCK ?inCK ?fnCK ?kpCK ?nCK_least ?nCK_close ?l_iK ?c_iK_ ?k_iK ?klCR ?mrCR ?klCK ?mrCK ?iCK ?tCK ?sTK ?lTD ?dTD ?rdCP ?gaCP ?fWA ?lWA ?clWA ?dWA ?a_shown_of ?i_shown_of ?l_shown_of ?c_shown_of_ ?k_shown_of ?a_strip_of ?i_strip_of ?l_strip_of ?c_strip_of_ ?k_strip_of ?a_has ?i_has ?l_has ?c_has_ ?k_has ?a_eqK ?i_eqK ?l_eqK ?c_eqK_ ?k_eqK ?pGa ?pGg ?pGt ?pGc ?l_gr ?c_gr_ ?k_gr ?gMB ?gP ?gT ?gQ ?gN ?gPi ?gRa ?gOn ?gLE ?gGc ?gLc ?z_isinstance ?z_int ?z_bool ?z_str ?z_len ?z_ord ?z_all ?z_enumerate ?z_max ?z_min ?z_abs ?z_range ?z_tuple ?z_list ?z_sorted ?z_set ?nPB
    (case a_is_integer => k_is)
    (case l_is_integer => k_is)
    (case c_is_integer_ => k_is)
    (case k_is_integer => k_is)
    (case a_is_within => k_is)
    (case l_is_within => k_is)
    (case c_is_within_ => k_is)
    (case k_is_within => k_is)
    (case a_items_of => k_is)
    (case l_items_of => k_is)
    (case c_items_of_ => k_is)
    (case k_items_of => k_is)
    (case a_parts_of => k_is)
    (case l_parts_of => k_is)
    (case c_parts_of_ => k_is)
    (case k_parts_of => k_is)
    (case a_is_name => k_is)
    (case l_is_name => k_is)
    (case c_is_name_ => k_is)
    (case k_is_name => k_is)
    (case a_has_percent => k_is)
    (case l_has_percent => k_is)
    (case c_has_percent_ => k_is)
    (case k_has_percent => k_is)
    (case a_is_text => k_is)
    (case l_is_text => k_is)
    (case c_is_text_ => k_is)
    (case k_is_text => k_is)
    (case a_cue_of => k_is)
    (case l_cue_of => k_is)
    (case c_cue_of_ => k_is)
    (case k_cue_of => k_is)
    (case a_judged_cues => k_is)
    (case l_judged_cues => k_is)
    (case c_judged_cues_ => k_is)
    (case k_judged_cues => k_is)
    (case a_piece_of_form => k_is)
    (case l_piece_of_form => k_is)
    (case c_piece_of_form_ => k_is)
    (case k_piece_of_form => k_is)
    (case a_judged_pieces => k_is)
    (case l_judged_pieces => k_is)
    (case c_judged_pieces_ => k_is)
    (case k_judged_pieces => k_is)
    (case a_judged_arrows => k_is)
    (case l_judged_arrows => k_is)
    (case c_judged_arrows_ => k_is)
    (case k_judged_arrows => k_is)
    (case a_wrong_name => k_is)
    (case l_wrong_name => k_is)
    (case c_wrong_name_ => k_is)
    (case k_wrong_name => k_is)
    (case a_judged_starts => k_is)
    (case l_judged_starts => k_is)
    (case c_judged_starts_ => k_is)
    (case k_judged_starts => k_is)
    (case a_judged_ends => k_is)
    (case l_judged_ends => k_is)
    (case c_judged_ends_ => k_is)
    (case k_judged_ends => k_is)
    (case a_led_to => k_is)
    (case l_led_to => k_is)
    (case c_led_to_ => k_is)
    (case k_led_to => k_is)
    (case a_first_unreached => k_is)
    (case l_first_unreached => k_is)
    (case c_first_unreached_ => k_is)
    (case k_first_unreached => k_is)
    (case a_strip_of_piece => k_is)
    (case l_strip_of_piece => k_is)
    (case c_strip_of_piece_ => k_is)
    (case k_strip_of_piece => k_is)
    (case a_sends_of_piece => k_is)
    (case l_sends_of_piece => k_is)
    (case c_sends_of_piece_ => k_is)
    (case k_sends_of_piece => k_is)
    (case a_row_showings => k_is)
    (case l_row_showings => k_is)
    (case c_row_showings_ => k_is)
    (case k_row_showings => k_is)
    (case a_judged_row => k_is)
    (case l_judged_row => k_is)
    (case c_judged_row_ => k_is)
    (case k_judged_row => k_is)
    (case a_row_carried => k_is)
    (case l_row_carried => k_is)
    (case c_row_carried_ => k_is)
    (case k_row_carried => k_is)
    (case a_carried => k_is)
    (case l_carried => k_is)
    (case c_carried_ => k_is)
    (case k_carried => k_is)
    (case a__law_tape => k_is)
    (case l__law_tape => k_is)
    (case c__law_tape_ => k_is)
    (case k__law_tape => k_is)
    (case a__law_pick => k_is)
    (case l__law_pick => k_is)
    (case c__law_pick_ => k_is)
    (case k__law_pick => k_is)
    (case a__law_some => k_is)
    (case l__law_some => k_is)
    (case c__law_some_ => k_is)
    (case k__law_some => k_is)
    (case a__law_rarely => k_is)
    (case l__law_rarely => k_is)
    (case c__law_rarely_ => k_is)
    (case k__law_rarely => k_is)
    (case a__law_names => k_is)
    (case l__law_names => k_is)
    (case c__law_names_ => k_is)
    (case k__law_names => k_is)
    (case a__law_text => k_is)
    (case l__law_text => k_is)
    (case c__law_text_ => k_is)
    (case k__law_text => k_is)
    (case a__law_few_text => k_is)
    (case l__law_few_text => k_is)
    (case c__law_few_text_ => k_is)
    (case k__law_few_text => k_is)
    (case a__law_cues => k_is)
    (case l__law_cues => k_is)
    (case c__law_cues_ => k_is)
    (case k__law_cues => k_is)
    (case a__law_pieces => k_is)
    (case l__law_pieces => k_is)
    (case c__law_pieces_ => k_is)
    (case k__law_pieces => k_is)
    (case a__law_arrows => k_is)
    (case l__law_arrows => k_is)
    (case c__law_arrows_ => k_is)
    (case k__law_arrows => k_is)
    (case a__law_others => k_is)
    (case l__law_others => k_is)
    (case c__law_others_ => k_is)
    (case k__law_others => k_is)
    (case a__law_turned => k_is)
    (case l__law_turned => k_is)
    (case c__law_turned_ => k_is)
    (case k__law_turned => k_is)
    (case a__law_world => k_is)
    (case l__law_world => k_is)
    (case c__law_world_ => k_is)
    (case k__law_world => k_is)
    (case a__law_gcd => k_is)
    (case l__law_gcd => k_is)
    (case c__law_gcd_ => k_is)
    (case k__law_gcd => k_is)
    (case a__law_strip => k_is)
    (case l__law_strip => k_is)
    (case c__law_strip_ => k_is)
    (case k__law_strip => k_is)
    (case a__law_model => k_is)
    (case l__law_model => k_is)
    (case c__law_model_ => k_is)
    (case k__law_model => k_is)
    (case a__law_showings => k_is)
    (case l__law_showings => k_is)
    (case c__law_showings_ => k_is)
    (case k__law_showings => k_is)
    (case a__law_carried => k_is)
    (case l__law_carried => k_is)
    (case c__law_carried_ => k_is)
    (case k__law_carried => k_is)
    (case a__law_drawn_way => k_is)
    (case l__law_drawn_way => k_is)
    (case c__law_drawn_way_ => k_is)
    (case k__law_drawn_way => k_is)
    (case a__law_same => k_is)
    (case l__law_same => k_is)
    (case c__law_same_ => k_is)
    (case k__law_same => k_is)
    (case a__law_book => k_is)
    (case l__law_book => k_is)
    (case c__law_book_ => k_is)
    (case k__law_book => k_is)
    (case a__law_screen => k_is)
    (case l__law_screen => k_is)
    (case c__law_screen_ => k_is)
    (case k__law_screen => k_is)
    (case a__law_runs => k_is)
    (case l__law_runs => k_is)
    (case c__law_runs_ => k_is)
    (case k__law_runs => k_is)
    (case a__law_filled => k_is)
    (case l__law_filled => k_is)
    (case c__law_filled_ => k_is)
    (case k__law_filled => k_is)
    (case a__law_due => k_is)
    (case l__law_due => k_is)
    (case c__law_due_ => k_is)
    (case k__law_due => k_is)
    (case a__law_drawn_row => k_is)
    (case l__law_drawn_row => k_is)
    (case c__law_drawn_row_ => k_is)
    (case k__law_drawn_row => k_is)
    (case a__law_numbers => k_is)
    (case l__law_numbers => k_is)
    (case c__law_numbers_ => k_is)
    (case k__law_numbers => k_is)
    (case a__law_refusal => k_is)
    (case l__law_refusal => k_is)
    (case c__law_refusal_ => k_is)
    (case k__law_refusal => k_is)
    (case a__law_good_number => k_is)
    (case l__law_good_number => k_is)
    (case c__law_good_number_ => k_is)
    (case k__law_good_number => k_is)
    (case a__law_books_right => k_is)
    (case l__law_books_right => k_is)
    (case c__law_books_right_ => k_is)
    (case k__law_books_right => k_is)
    (case a_law => k_is)
    (case l_law => k_is)
    (case c_law_ => k_is)
    (case k_law => k_is)
    (case lCo => k_is)
    (case dCo => rfl)
    (case pCo => rfl)
    (case nP0 => kernel_rfl)
    (case lCb => k_is)
    (case dCb => rfl)
    (case pCb => rfl)
    (case nPb => kernel_rfl)
    (case aCE => k_is)
    (case aLn => k_is)
    (case xLn_ => k_is)
    (case saLn => k_is)
    (case eLn => k_is)
    (case tLn => k_is)
    (case kpLn => k_is)
    (case inLn => k_is)
    (case tILn => k_is)
    (case noLn => k_is)
    (case iLn => k_is)
    (case gaLn => k_is)
    (case ggLn => k_is)
    (case klLn => k_is)
    (case mrLn => k_is)
    (case hdLn => k_is)
    (case l_iLn => k_is)
    (case c_iLn_ => k_is)
    (case k_iLn => k_is)
    (case aU => k_is)
    (case xU_ => k_is)
    (case saU => k_is)
    (case eU => k_is)
    (case tU => k_is)
    (case kpU => k_is)
    (case inU => k_is)
    (case tIU => k_is)
    (case noU => k_is)
    (case iU => k_is)
    (case gaU => k_is)
    (case ggU => k_is)
    (case klU => k_is)
    (case mrU => k_is)
    (case hdU => k_is)
    (case l_iU => k_is)
    (case c_iU_ => k_is)
    (case k_iU => k_is)
    (case aM => k_is)
    (case xM_ => k_is)
    (case saM => k_is)
    (case eM => k_is)
    (case tM => k_is)
    (case kpM => k_is)
    (case inM => k_is)
    (case tIM => k_is)
    (case noM => k_is)
    (case iM => k_is)
    (case gaM => k_is)
    (case ggM => k_is)
    (case klM => k_is)
    (case mrM => k_is)
    (case hdM => k_is)
    (case l_iM => k_is)
    (case c_iM_ => k_is)
    (case k_iM => k_is)
    (case aB => k_is)
    (case xB_ => k_is)
    (case saB => k_is)
    (case eB => k_is)
    (case tB => k_is)
    (case kpB => k_is)
    (case inB => k_is)
    (case tIB => k_is)
    (case noB => k_is)
    (case iB => k_is)
    (case gaB => k_is)
    (case ggB => k_is)
    (case klB => k_is)
    (case mrB => k_is)
    (case hdB => k_is)
    (case l_iB => k_is)
    (case c_iB_ => k_is)
    (case k_iB => k_is)
    (case aN => k_is)
    (case xN_ => k_is)
    (case saN => k_is)
    (case eN => k_is)
    (case tN => k_is)
    (case kpN => k_is)
    (case inN => k_is)
    (case tIN => k_is)
    (case noN => k_is)
    (case iN => k_is)
    (case gaN => k_is)
    (case ggN => k_is)
    (case klN => k_is)
    (case mrN => k_is)
    (case hdN => k_is)
    (case l_iN => k_is)
    (case c_iN_ => k_is)
    (case k_iN => k_is)
    (case gt => k_is)
    (case tk => k_is)
    (case sBB => k_is)
    (case sBN => k_is)
    (case sBM => k_is)
    (case sNN => k_is)
    (case sNB => k_is)
    (case sNM => k_is)
    (case aCR => k_is)
    (case pgCR => k_is)
    (case hdCR => k_is)
    (case poCR => k_is)
    (case saCR => k_is)
    (case mkCR => k_is)
    (case inCR => k_is)
    (case fnCR => k_is)
    (case kpCR => k_is)
    (case nCR_length => k_is)
    (case nCR_cues => k_is)
    (case nCR__speakers => k_is)
    (case nCR__naming => k_is)
    (case l_iR => k_is)
    (case c_iR_ => k_is)
    (case k_iR => k_is)
    (case aCP => k_is)
    (case pgCP => k_is)
    (case hdCP => k_is)
    (case poCP => k_is)
    (case saCP => k_is)
    (case mkCP => k_is)
    (case inCP => k_is)
    (case fnCP => k_is)
    (case kpCP => k_is)
    (case nCP_reel => k_is)
    (case nCP_pieces => k_is)
    (case nCP__names => k_is)
    (case nCP_arrows => k_is)
    (case nCP_starts => k_is)
    (case nCP_ends => k_is)
    (case nCP__grain => k_is)
    (case nCP__pieces => k_is)
    (case nCP__sends => k_is)
    (case nCP__factors => k_is)
    (case nCP__shown => k_is)
    (case nCP__behind => k_is)
    (case nCP__strips => k_is)
    (case l_iP => k_is)
    (case c_iP_ => k_is)
    (case k_iP => k_is)
    (case aCK => k_is)
    (case pgCK => k_is)
    (case hdCK => k_is)
    (case poCK => k_is)
    (case saCK => k_is)
    (case mkCK => k_is)
    (case inCK => k_is)
    (case fnCK => k_is)
    (case kpCK => k_is)
    (case nCK_least => k_is)
    (case nCK_close => k_is)
    (case l_iK => k_is)
    (case c_iK_ => k_is)
    (case k_iK => k_is)
    (case klCR => k_is)
    (case mrCR => k_is)
    (case klCK => k_is)
    (case mrCK => k_is)
    (case iCK => k_is)
    (case tCK => k_is)
    (case sTK => k_is)
    (case lTD => k_is)
    (case dTD => rfl)
    (case rdCP => k_is)
    (case gaCP => k_is)
    (case fWA => k_is)
    (case lWA => k_is)
    (case clWA => rfl)
    (case dWA => rfl)
    (case a_shown_of => k_is)
    (case i_shown_of => k_is)
    (case l_shown_of => k_is)
    (case c_shown_of_ => k_is)
    (case k_shown_of => k_is)
    (case a_strip_of => k_is)
    (case i_strip_of => k_is)
    (case l_strip_of => k_is)
    (case c_strip_of_ => k_is)
    (case k_strip_of => k_is)
    (case a_has => k_is)
    (case i_has => k_is)
    (case l_has => k_is)
    (case c_has_ => k_is)
    (case k_has => k_is)
    (case a_eqK => k_is)
    (case i_eqK => k_is)
    (case l_eqK => k_is)
    (case c_eqK_ => k_is)
    (case k_eqK => k_is)
    (case pGa => k_is)
    (case pGg => k_is)
    (case pGt => k_is)
    (case pGc => k_is)
    (case l_gr => k_is)
    (case c_gr_ => k_is)
    (case k_gr => k_is)
    (case gMB => k_is)
    (case gP => k_is)
    (case gT => k_is)
    (case gQ => k_is)
    (case gN => k_is)
    (case gPi => k_is)
    (case gRa => k_is)
    (case gOn => k_is)
    (case gLE => k_is)
    (case gGc => k_is)
    (case gLc => k_is)
    (case z_isinstance => k_is)
    (case z_int => k_is)
    (case z_bool => k_is)
    (case z_str => k_is)
    (case z_len => k_is)
    (case z_ord => k_is)
    (case z_all => k_is)
    (case z_enumerate => k_is)
    (case z_max => k_is)
    (case z_min => k_is)
    (case z_abs => k_is)
    (case z_range => k_is)
    (case z_tuple => k_is)
    (case z_list => k_is)
    (case z_sorted => k_is)
    (case z_set => k_is)
    (case nPB => decide)
end
